import PyProof.Rows.All
import Wide.All
import OpenK.AllK
import Wide.FinOn
import Lean
import PyProof.EqAt
import PyProof.EqKinds
import PyProof.TupleCall
import PyProof.NsDelKeeps
import PyProof.NeKinds
import PySem.Challenge.RW_packhall_k69_whole_clashes
local macro_rules | `(tactic| trivial) => `(tactic| first | with_reducible assumption | lia | omega)
set_option Elab.async false
set_option linter.all false
set_option maxRecDepth 100000
namespace L2
open PySem PySem.Spec PyProof.Rows
noncomputable abbrev Key := Sum Int Str
noncomputable def keyIs : Key → Value → Bool
  | .inl k, v => Value.isInt k v
  | .inr x, v => Value.isStrOf x v
noncomputable def keyH (w : World) : Key → Int
  | .inl k => hashInt k
  | .inr x => hashStr w x
theorem keyIs_shape : ∀ {k : Key} {v : Value}, keyIs k v = true → (∃ i t, k = Sum.inl i ∧ v = Value.int i t) ∨ (∃ x t, k = Sum.inr x ∧ v = Value.str x t)
  | .inl i, v, h => by
    obtain ⟨t, e⟩ := Value.isInt_shape (k := i) (v := v) h
    exact .inl ⟨i, t, rfl, e⟩
  | .inr x, v, h => by
    obtain ⟨t, e⟩ := Value.isStrOf_shape (x := x) (v := v) h
    exact .inr ⟨x, t, rfl, e⟩
theorem key_ll (a b : Int) : decide ((Sum.inl a : Key) = Sum.inl b) = (a == b) := by
  by_cases e : a = b
  · subst e; simp
  · have h : ¬ (Sum.inl a : Key) = Sum.inl b := fun q => e (Sum.inl.inj q)
    rw [decide_eq_false h]
    exact (beq_eq_false_iff_ne.mpr e).symm
theorem key_rr (a b : Str) : decide ((Sum.inr a : Key) = Sum.inr b) = decide (a = b) := by
  by_cases e : a = b
  · subst e; simp
  · have h : ¬ (Sum.inr a : Key) = Sum.inr b := fun q => e (Sum.inr.inj q)
    rw [decide_eq_false h, decide_eq_false e]
theorem key_lr (a : Int) (b : Str) : decide ((Sum.inl a : Key) = Sum.inr b) = false := decide_eq_false (fun q => nomatch q)
theorem key_rl (a : Str) (b : Int) : decide ((Sum.inr a : Key) = Sum.inl b) = false := decide_eq_false (fun q => nomatch q)
noncomputable def mixKind (prog : Program) (w : World) : PySem.KeyKind prog w Key where
  is := keyIs
  hash := keyH w
  inj := fun v a b ha hb => by
    rcases keyIs_shape ha with ⟨i, t, rfl, rfl⟩ | ⟨x, t, rfl, rfl⟩
    · rcases keyIs_shape hb with ⟨j, u, rfl, e⟩ | ⟨y, u, rfl, e⟩
      · injection e with e1 _; rw [e1]
      · exact nomatch e
    · rcases keyIs_shape hb with ⟨j, u, rfl, e⟩ | ⟨y, u, rfl, e⟩
      · exact nomatch e
      · injection e with e1 _; rw [e1]
  byValue := fun k v h => by
    rcases keyIs_shape h with ⟨i, t, rfl, rfl⟩ | ⟨x, t, rfl, rfl⟩ <;> rfl
  pyHash := fun hv h => by
    rcases keyIs_shape hv with ⟨i, t, rfl, rfl⟩ | ⟨x, t, rfl, rfl⟩
    · exact wpAny_pyHash_int h
    · exact wpAny_pyHash_str h
  eqBool := fun hu hv h => by
    rcases keyIs_shape hu with ⟨i, t, rfl, rfl⟩ | ⟨x, t, rfl, rfl⟩
    · rcases keyIs_shape hv with ⟨j, u, rfl, rfl⟩ | ⟨y, u, rfl, rfl⟩
      · rw [key_ll] at h; exact wpAny_eqBool_int h
      · rw [key_lr] at h; exact SeqAt.EqAt.int_str i t y u _ _ _ _ h
    · rcases keyIs_shape hv with ⟨j, u, rfl, rfl⟩ | ⟨y, u, rfl, rfl⟩
      · rw [key_rl] at h; exact SeqAt.EqAt.str_int x t j u _ _ _ _ h
      · rw [key_rr] at h; exact wpAny_eqBool_str h
  «strs» := fun k x t v h => by
    rcases keyIs_shape h with ⟨i, u, rfl, e⟩ | ⟨y, u, rfl, e⟩
    · exact nomatch e
    · injection e with e1 _
      subst e1
      cases v <;> rfl
end L2
namespace L2
open PySem PySem.Spec PyProof.Rows
inductive V where
  | non | bl (b : Bool) | int (i : Int) | str (x : Str) | byt (b : Array UInt8) | flt (b : UInt64) | ref (a : Addr) | ty (n : String)
  deriving DecidableEq
noncomputable def RelV : V → Value → Prop
  | .non, u => u = Value.none
  | .bl b, u => u = Value.bool b
  | .int i, u => ∃ t, u = Value.int i t
  | .str x, u => ∃ t, u = Value.str x t
  | .byt b, u => ∃ t, u = Value.bytes b t
  | .flt b, u => ∃ t, u = Value.float b t
  | .ref a, u => u = Value.ref a
  | .ty n, u => u = Value.type n
noncomputable abbrev Vals : List V → List Value → Prop := Paired RelV
theorem Vals.length {xs : List V} {us : List Value} (r : Vals xs us) : xs.length = us.length := Paired.length r
theorem Vals.get : ∀ {xs : List V} {us : List Value} {i : Nat} {x : V}, Vals xs us → xs[i]? = some x → ∃ u, us[i]? = some u ∧ RelV x u
  | _, _, _, _, .nil, e => by simp at e
  | _, _, 0, _, .cons r _, e => by simp at e; subst e; exact ⟨_, rfl, r⟩
  | _, _, i + 1, x, .cons _ t, e => by
    obtain ⟨u, h1, h2⟩ := Vals.get (i := i) (x := x) t (by simpa using e)
    exact ⟨u, by simpa using h1, h2⟩
theorem Vals.set {x : V} {u : Value} (r : RelV x u) : ∀ {xs : List V} {us : List Value} (i : Nat), Vals xs us → Vals (xs.set i x) (us.set i u)
  | _, _, _, .nil => .nil
  | _, _, 0, .cons _ t => .cons r t
  | _, _, i + 1, .cons q t => .cons q (Vals.set r i t)
theorem Vals.append : ∀ {xs ys : List V} {us ws : List Value}, Vals xs us → Vals ys ws → Vals (xs ++ ys) (us ++ ws)
  | _, _, _, _, .nil, s => s
  | _, _, _, _, .cons r t, s => .cons r (Vals.append t s)
theorem Vals.take : ∀ {xs : List V} {us : List Value} (n : Nat), Vals xs us → Vals (xs.take n) (us.take n)
  | _, _, 0, _ => .nil
  | _, _, _ + 1, .nil => .nil
  | _, _, n + 1, .cons r t => .cons r (Vals.take n t)
theorem Vals.drop : ∀ {xs : List V} {us : List Value} (n : Nat), Vals xs us → Vals (xs.drop n) (us.drop n)
  | _, _, 0, r => r
  | _, _, _ + 1, .nil => .nil
  | _, _, n + 1, .cons _ t => Vals.drop n t
noncomputable def RelO : Option V → Option Value → Prop
  | some v, some u => RelV v u
  | none, none => True
  | _, _ => False
noncomputable def KV {κ : Type} : List (κ × V) → List (κ × Value) → Prop := Paired fun (p : κ × V) (q : κ × Value) => p.1 = q.1 ∧ RelV p.2 q.2
noncomputable def kV : Key → V
  | .inl i => .int i
  | .inr x => .str x
inductive HO where
  /-- a list -/
  | lst (xs : List V)
  /-- a tuple (never changes) -/
  | tup (xs : List V)
  /-- a dict whose keys are ints and texts; one whose keys are tuples of ints and texts (the empty one is both) -/
  | dK (kvs : List (Key × V)) | dT (kvs : List (List Key × V))
  /-- a set of ints: its members, its size -/
  | set (S : Int → Bool) (n : Nat)
  /-- an instance of the class at C, its dict at dx, its attributes -/
  | ins (C dx : Addr) (fs : List (Str × V))
  /-- the dict of the instance at x -/
  | own (x : Addr)
  /-- the dict of an exception -/
  | xd (fs : List (Str × V))
  /-- a bound method, f of x -/
  | met (f x : Addr)
  /-- a range object lo, lo + 1, .. below hi -/
  | rng (lo hi : Int)
  /-- a thing that is known to the object (the script; a dict while a loop walks it): read, never written while it is so -/
  | frz (o : Obj) (u : HO)
  /-- a code object's table -/
  | tbl (ps : Array Value)
  /-- any other thing, by what is true of its one object (a def of one's own: SetO a S n := HO.ext fun h => ..) -/
  | ext (φ : Heap → Prop)
noncomputable abbrev Hp := Addr → Option HO
noncomputable def upd (H : Hp) (a : Addr) (o : HO) : Hp := fun b => if b = a then some o else H b
theorem upd_same {H : Hp} {a : Addr} {o : HO} : upd H a o a = some o := by unfold upd; rw [if_pos rfl]
theorem upd_ne {H : Hp} {a b : Addr} {o : HO} (h : b ≠ a) : upd H a o b = H b := by unfold upd; rw [if_neg h]
theorem ne_of_none {H : Hp} {a b : Addr} {o : HO} (h : H a = some o) (h' : H b = none) : a ≠ b := by
  intro e; subst e; rw [h] at h'; cases h'
section
variable (P : Program) (w : World)
noncomputable def ObjOk (H : Hp) (h : Heap) (a : Addr) : HO → Prop
  | .lst xs => xs.length ≤ sizeLine ∧ ∃ (its : List Value) (n : Nat), Vals xs its ∧ h.get? a = some { cls := .type "list", data := .seq its.toArray n }
  | .tup xs => xs.length ≤ sizeLine ∧ ∃ its : List Value, Vals xs its ∧ IsTup h a its.toArray
  | .dK kvs => kvs.length ≤ sizeLine ∧ (a == sysModules) = false ∧ ∃ vs, KV kvs vs ∧ h.DictOf (mixKind P w) a vs
  | .dT kvs => kvs.length ≤ sizeLine ∧ (a == sysModules) = false ∧ ∃ xs : List (List Key × Addr × Value),
      Paired (fun (p : List Key × V) (q : List Key × Addr × Value) => p.1 = q.1 ∧ H q.2.1 = some (.tup (p.1.map kV)) ∧ RelV p.2 q.2.2) kvs xs ∧
      ∃ o es ep, h.get? a = some o ∧ o.ExactDict ∧ o.data = .dict es ep ∧ es.toList = xs.map (entryOfKey (tupleKind (mixKind P w))) ∧ (xs.map (·.1)).Nodup
  | .set S n => h.SetOf (intKind P w) a S n
  | .ins C dx fs => H dx = some (.own a) ∧ fs.length ≤ 1000 ∧ dx ≠ a ∧ h.get? a = some (PySem.W.instObj C dx) ∧
      ∃ mA, h.Ns1 dx mA ∧ (∀ f, RelO (fs.lookup f) (mA f)) ∧ PySem.Within mA (fs.map (·.1))
  | .own _ => ∃ o, h.get? a = some o
  | .xd fs => ∃ mA, h.Ns1 a mA ∧ ∀ f, RelO (fs.lookup f) (mA f)
  | .rng lo hi => ∃ t u v, h.get? a = some { cls := .type "range", data := .fields #[.int lo t, .int hi u, .int 1 v] }
  | .frz o u => h.get? a = some o ∧ ObjOk H h a u
  | .tbl ps => h.get? a = some { cls := .none, data := .fields ps }
  | .met f x => h.get? a = some (PySem.W.methodObj (.ref f) (.ref x))
  | .ext φ => φ h ∧ (∃ o, h.get? a = some o) ∧ ∀ h1 h2 : Heap, φ h1 → (∀ o, h1.get? a = some o → h2.get? a = some o) → φ h2
noncomputable def HOk (H : Hp) (h : Heap) : Prop := ∀ a o, H a = some o → ObjOk P w H h a o
end
section
variable {P : Program} {w : World} {H H' : Hp} {h h' : Heap} {a : Addr} {o : HO}
theorem ObjOk.lt (x : ObjOk P w H h a o) : a < h.objs.size := by
  cases o with
  | lst xs => obtain ⟨_, _, _, _, e⟩ := x; exact Heap.lt_size e
  | tup xs => obtain ⟨_, _, _, p⟩ := x; exact p.lt
  | dK kvs => obtain ⟨_, _, _, _, o, _, _, e, _⟩ := x; exact Heap.lt_size e
  | dT kvs => obtain ⟨_, _, _, _, o, _, _, e, _⟩ := x; exact Heap.lt_size e
  | set S n => obtain ⟨o, _, _, _, e, _⟩ := x; exact Heap.lt_size e
  | ins C dx fs => obtain ⟨_, _, _, e, _⟩ := x; exact Heap.lt_size e
  | own y => obtain ⟨_, e⟩ := x; exact Heap.lt_size e
  | xd fs => obtain ⟨_, ⟨_, _, _, e, _⟩, _⟩ := x; exact Heap.lt_size e
  | rng lo hi => obtain ⟨_, _, _, e⟩ := x; exact Heap.lt_size e
  | frz ob u => obtain ⟨e, _⟩ := x; exact Heap.lt_size e
  | tbl ps => exact Heap.lt_size (show h.get? a = some _ from x)
  | met f y => exact Heap.lt_size (show h.get? a = some _ from x)
  | ext φ => obtain ⟨_, ⟨_, e⟩, _⟩ := x; exact Heap.lt_size e
theorem Paired.mapP {α β : Type} {F G : α → β → Prop} : ∀ {l₁ : List α} {l₂ : List β}, Paired F l₁ l₂ → (∀ a b, F a b → G a b) → Paired G l₁ l₂
  | _, _, .nil, _ => .nil
  | _, _, .cons r t, f => .cons (f _ _ r) (Paired.mapP t f)
theorem ObjOk.stay (x : ObjOk P w H h a o) (k : ∀ b u, (b = a ∨ H b = some (.own a)) → h.get? b = some u → h'.get? b = some u)
    (ho : ∀ b, H b = some (.own a) → H' b = some (.own a)) (ht : ∀ b xs, H b = some (.tup xs) → H' b = some (.tup xs)) : ObjOk P w H' h' a o := by
  induction o with
  | lst xs => obtain ⟨z, its, n, r, e⟩ := x; exact ⟨z, its, n, r, k _ _ (.inl rfl) e⟩
  | tup xs => obtain ⟨z, its, r, ob, e, c⟩ := x; exact ⟨z, its, r, ob, k _ _ (.inl rfl) e, c⟩
  | dK kvs => obtain ⟨z, y, vs, r, ob, es, ep, e, c⟩ := x; exact ⟨z, y, vs, r, ob, es, ep, k _ _ (.inl rfl) e, c⟩
  | dT kvs =>
    obtain ⟨z, y, xs, r, ob, es, ep, e, c⟩ := x
    exact ⟨z, y, xs, Paired.mapP r fun p q z => ⟨z.1, ht _ _ z.2.1, z.2.2⟩, ob, es, ep, k _ _ (.inl rfl) e, c⟩
  | set S n => obtain ⟨ob, es, ep, t, e, c⟩ := x; exact ⟨ob, es, ep, t, k _ _ (.inl rfl) e, c⟩
  | ins C dx fs =>
    obtain ⟨d, z, ne, e, mA, ⟨od, es, ep, e2, c⟩, r⟩ := x
    exact ⟨ho _ d, z, ne, k _ _ (.inl rfl) e, mA, ⟨od, es, ep, k _ _ (.inr d) e2, c⟩, r⟩
  | own y => obtain ⟨ob, e⟩ := x; exact ⟨ob, k _ _ (.inl rfl) e⟩
  | xd fs => obtain ⟨mA, ⟨od, es, ep, e, c⟩, r⟩ := x; exact ⟨mA, ⟨od, es, ep, k _ _ (.inl rfl) e, c⟩, r⟩
  | rng lo hi => obtain ⟨t, u, v, e⟩ := x; exact ⟨t, u, v, k _ _ (.inl rfl) e⟩
  | frz ob u ih => obtain ⟨e, q⟩ := x; exact ⟨k _ _ (.inl rfl) e, ih q⟩
  | tbl ps =>
    have e : h.get? a = some { cls := .none, data := .fields ps } := x
    show h'.get? a = some { cls := .none, data := .fields ps }
    exact k a _ (.inl rfl) e
  | met f y =>
    have e : h.get? a = some (PySem.W.methodObj (.ref f) (.ref y)) := x
    show h'.get? a = some (PySem.W.methodObj (.ref f) (.ref y))
    exact k a _ (.inl rfl) e
  | ext φ => obtain ⟨p, ⟨o, e⟩, st⟩ := x; exact ⟨st _ _ p fun o q => k _ _ (.inl rfl) q, ⟨o, k _ _ (.inl rfl) e⟩, st⟩
theorem HOk.lt (x : HOk P w H h) (e : H a = some o) : a < h.objs.size := (x a o e).lt
theorem HOk.fresh (x : HOk P w H h) (e : h.objs.size ≤ a) : H a = none := by
  cases q : H a with
  | none => rfl
  | some u => exact absurd (Nat.lt_of_lt_of_le (x.lt q) e) (Nat.lt_irrefl _)
theorem HOk.kept (x : HOk P w H h) (k : ∀ b u, h.get? b = some u → h'.get? b = some u) : HOk P w H h' := fun a o e =>
  (x a o e).stay (fun b u _ q => k b u q) (fun _ q => q) fun _ _ q => q
theorem HOk.laid (x : HOk P w H h) (k : ∀ b u, h.get? b = some u → h'.get? b = some u) (hp : h.objs.size ≤ a) (new : ObjOk P w (upd H a o) h' a o) : HOk P w (upd H a o) h' := fun b u e => by
  have hn := x.fresh hp
  by_cases hb : b = a
  · subst hb; rw [upd_same] at e; cases e; exact new
  · rw [upd_ne hb] at e
    exact (x b u e).stay (fun c v _ q => k c v q) (fun c q => by rw [upd_ne (ne_of_none q hn)]; exact q) fun c xs q => by rw [upd_ne (ne_of_none q hn)]; exact q
end
noncomputable def Rd (H : Hp) (a : Addr) (u : HO) : Prop := H a = some u ∨ ∃ o, H a = some (.frz o u)
theorem Rd.ok {P : Program} {w : World} {H : Hp} {h : Heap} {a : Addr} {u : HO} (r : Rd H a u) (x : HOk P w H h) : ObjOk P w H h a u := by
  rcases r with r | ⟨o, r⟩
  · exact x a u r
  · obtain ⟨_, q⟩ := x a _ r
    exact q
noncomputable def Mut : Option HO → Prop
  | some (.lst _) => True
  | some (.dK _) => True
  | some (.dT _) => True
  | some (.set _ _) => True
  | some (.ins _ _ _) => True
  | some (.ext _) => True
  | _ => False
section
variable {P : Program} {w : World} {H : Hp} {h h' : Heap} {x e : Addr} {o' : HO}
theorem HOk.write (ok : HOk P w H h) (mu : Mut (H x)) (he : e = x ∨ H e = some (.own x)) (k : ∀ b u, b ≠ e → h.get? b = some u → h'.get? b = some u) (heo : ∃ u, h'.get? e = some u)
    (new : ObjOk P w (upd H x o') h' x o') : HOk P w (upd H x o') h' := fun b u q => by
  have nown : ∀ c y, H c = some (.own y) → c ≠ x := fun c y r z => by subst z; rw [r] at mu; exact mu
  have ntup : ∀ c xs, H c = some (.tup xs) → c ≠ x := fun c xs r z => by subst z; rw [r] at mu; exact mu
  by_cases hb : b = x
  · subst hb; rw [upd_same] at q; cases q; exact new
  · rw [upd_ne hb] at q
    by_cases hbe : b = e
    · have q' : H b = some (.own x) := by
        rcases he with z | z
        · exact absurd (hbe.trans z) hb
        · rw [hbe]; exact z
      rw [q] at q'; cases q'
      obtain ⟨v, hv⟩ := heo
      exact ⟨v, by rw [hbe]; exact hv⟩
    · refine (ok b u q).stay (fun c v hc r => k c v ?_ r) (fun c r => by rw [upd_ne (nown c b r)]; exact r) fun c xs r => by rw [upd_ne (ntup c xs r)]; exact r
      rcases hc with rfl | hc
      · exact hbe
      · rintro rfl
        rcases he with z | z
        · exact nown c b hc z
        · rw [hc] at z; cases z; exact hb rfl
end
structure Un (fs ex : List Addr) (H H' : Hp) (h h' : Heap) : Prop where
  keep : ∀ b o, h.get? b = some o → H b = none → b ∉ fs → b ∉ ex → h'.get? b = some o
  slot : ∀ b o, h.get? b = some o → H b = none → b ∈ fs → b ∉ ex → ∃ sl, h'.get? b = some { o with slots := sl }
  free : ∀ b o, h.get? b = some o → H b = none → b ∉ ex → H' b = none
  there : ∀ b o, h.get? b = some o → b ∉ ex → ∃ o', h'.get? b = some o'
  tups : ∀ b xs, H b = some (.tup xs) → H' b = some (.tup xs)
  frzs : ∀ b o u, H b = some (.frz o u) → H' b = some (.frz o u)
  tbls : ∀ b ps, H b = some (.tbl ps) → ∃ more, H' b = some (.tbl (ps ++ more))
section
variable {fs fs' ex ex' : List Addr} {H H1 H2 : Hp} {h h1 h2 h' : Heap} {a x e : Addr} {o : HO}
theorem Un.any (u : Un fs ex H H1 h h1) {b : Addr} {ob : Obj} (q : h.get? b = some ob) (n : H b = none) (hx : b ∉ ex) : ∃ sl, h1.get? b = some { ob with slots := sl } := by
  by_cases hb : b ∈ fs
  · exact u.slot b ob q n hb hx
  · exact ⟨ob.slots, u.keep b ob q n hb hx⟩
theorem Un.kept (k : ∀ b u, h.get? b = some u → h'.get? b = some u) : Un fs ex H H h h' :=
  ⟨fun b ob q _ _ _ => k b ob q, fun b ob q _ _ _ => ⟨ob.slots, k b ob q⟩, fun _ _ _ n _ => n, fun b ob q _ => ⟨ob, k b ob q⟩, fun _ _ q => q, fun _ _ _ q => q, fun _ ps q => ⟨#[], by rw [q]; simp⟩⟩
theorem Un.refl : Un fs ex H H h h := Un.kept fun _ _ q => q
theorem Un.laid (k : ∀ b u, h.get? b = some u → h'.get? b = some u) (hp : h.objs.size ≤ a) (hn : H a = none) : Un fs ex H (upd H a o) h h' where
  keep := fun b u q _ _ _ => k b u q
  slot := fun b u q _ _ _ => ⟨u.slots, k b u q⟩
  free := fun b u q n _ => by rw [upd_ne (Nat.ne_of_lt (Nat.lt_of_lt_of_le (Heap.lt_size q) hp))]; exact n
  there := fun b u q _ => ⟨u, k b u q⟩
  tups := fun b xs q => by rw [upd_ne (ne_of_none q hn)]; exact q
  frzs := fun b u xs q => by rw [upd_ne (ne_of_none q hn)]; exact q
  tbls := fun b ps q => ⟨#[], by rw [upd_ne (ne_of_none q hn), q]; simp⟩
theorem Un.write (mu : Mut (H x)) (he : e = x ∨ H e = some (.own x)) (k : ∀ b u, b ≠ e → h.get? b = some u → h'.get? b = some u) (heo : ∃ u, h'.get? e = some u) : Un fs ex H (upd H x o) h h' := by
  have hx : ∀ b, H b = none → b ≠ x := fun b n z => by subst z; rw [n] at mu; exact mu
  have hb : ∀ b, H b = none → b ≠ e := fun b n z => by
    subst z
    rcases he with r | r
    · exact hx b n r
    · rw [n] at r; cases r
  have hm : ∀ b u, H b = some u → ¬ Mut (some u) → b ≠ x := fun b u q nm z => by subst z; rw [q] at mu; exact nm mu
  refine ⟨fun b u q n _ _ => k b u (hb b n) q, fun b u q n _ _ => ⟨u.slots, k b u (hb b n) q⟩, fun b u q n _ => by rw [upd_ne (hx b n)]; exact n, fun b u q _ => ?_,
    fun b xs q => by rw [upd_ne (hm b _ q fun z => z)]; exact q, fun b u xs q => by rw [upd_ne (hm b _ q fun z => z)]; exact q, fun b ps q => ⟨#[], by rw [upd_ne (hm b _ q fun z => z), q]; simp⟩⟩
  by_cases hbe : b = e
  · subst hbe; exact heo
  · exact ⟨u, k b u hbe q⟩
end
noncomputable def trk (h : Heap) (H : Hp) : List Addr := (List.range h.objs.size).filter fun a => (H a).isSome
noncomputable def hidT (h : Heap) (H : Hp) : Heap := PySem.W.hideAll h (trk h H)
theorem hidT_size (h : Heap) (H : Hp) : (hidT h H).objs.size = h.objs.size := PySem.W.hideAll_size _ _
theorem hidT_get {h : Heap} {H : Hp} {b : Addr} {o : Obj} (e : h.get? b = some o) (n : H b = none) : (hidT h H).get? b = some o :=
  PySem.W.hideAll_get _ e fun hm => by
    have q : (H b).isSome = true := (List.mem_filter.mp hm).2
    rw [n] at q; simp at q
theorem of_hidT {h : Heap} {H : Hp} {b : Addr} {o : Obj} (e : (hidT h H).get? b = some o) : h.get? b = some o ∧ H b = none := by
  have e' : h.get? b = some o := PySem.W.of_hideAll (trk h H) e
  refine ⟨e', ?_⟩
  cases q : H b with
  | none => rfl
  | some x =>
    have hm : b ∈ trk h H := List.mem_filter.mpr ⟨List.mem_range.mpr (Heap.lt_size e'), by simp [q]⟩
    have z : (hidT h H).get? b = none := PySem.W.hideAll_none (trk h H) hm
    rw [z] at e; cases e
end L2
namespace L2
open PySem PySem.Spec PyProof.Rows
structure Mod (K : PySem.W.Frag) (mg : Str → Option Value) (base : Heap) : Prop where
  kin : K.In base
  glob : base.Ns mainGlobals mg
  blt : ∃ mb, base.Ns builtinsNs mb ∧ ∀ x : Str, x ≠ "__name__" → mb x = bootBuiltins x
  nolimit : base.NoLimit
structure Cx where
  prog : Program
  w : World
  K : PySem.W.Frag
  mg : Str → Option Value
  base : Heap
  A : Around
  N : List Str
  s₀ : Shared
  H₀ : Hp
  env : Env
  outer : List Env
  stack : List Env
  ex : List Addr
  fn : Str → Bool
  calm : Bool
  pn : List (Addr × Obj)
  xe : Value → Shared → Prop
noncomputable def frs (l : List Env) : List Addr := l.filterMap (·.frame)
noncomputable abbrev Cx.fs (X : Cx) : List Addr := frs X.outer
noncomputable def Vis (sc : Scope) (x : Str) : Prop := sc.names.lookup x = some .local ∨ sc.names.lookup x = some .cell ∨ sc.names.lookup x = some .free
noncomputable def Loc (sc : Scope) (x : Str) : Prop := sc.names.lookup x = some .local ∨ sc.names.lookup x = some .cell
noncomputable def Look (env : Env) (h : Heap) (m : Str → Option Value) (x : Str) (u : Value) : Prop :=
  (env.kindOf x = some .local ∧ m x = some u) ∨ ((env.kindOf x = some .cell ∨ env.kindOf x = some .free) ∧ ∃ c, env.cells.lookup x = some c ∧ h.IsCell c (some u))
structure Cx.Ok (X : Cx) : Prop where
  mod : Mod X.K X.mg X.base
  kind : X.env.scope.kind = .function
  glob : X.env.globals = mainGlobals
  blt : X.env.builtins = builtinsNs
  above : X.s₀.heap.objs.size ≤ X.env.locals
  inj : ∀ x y c, X.env.cells.lookup x = some c → X.env.cells.lookup y = some c → x = y
  has : ∀ x, (X.env.kindOf x = some .cell ∨ X.env.kindOf x = some .free) → ∃ c, X.env.cells.lookup x = some c
  cab : ∀ x c, X.fn x = true → X.env.cells.lookup x = some c → X.s₀.heap.objs.size ≤ c
  hd : X.calm = true → X.A.handled = none
  frames : X.A.frames = some X.stack
  stk : X.stack = X.outer ∨ (X.stack = X.env :: X.outer ∧ X.env.frame = some X.env.locals)
  exf : ∀ b ∈ X.ex, b ≠ X.env.locals ∧ ∀ x c, X.env.cells.lookup x = some c → c ≠ b
  bs : ∀ b o, X.base.get? b = some o → X.s₀.heap.get? b = some o ∧ X.H₀ b = none
  bsz : X.base.objs.size ≤ X.s₀.heap.objs.size
  noex : ∀ b o, X.base.get? b = some o → b ∉ X.ex
  exfs : ∀ b ∈ X.ex, b ∉ X.fs
  funs : X.s₀.heap.FunFrames X.base X.outer
  frf : ∀ b ∈ X.fs, X.H₀ b = none
structure Inv (X : Cx) (pins : List (Addr × Obj)) (σ : List (Option V)) (H : Hp) (s : Shared) : Prop where
  ok : X.Ok
  os : s.os = X.s₀.os
  bare : AllBare s.gens
  base : Un X.fs X.ex X.H₀ H X.s₀.heap s.heap
  loc : ∃ m, s.heap.Ns X.env.locals m ∧ ∀ (i : Nat) (x : Str) (v : V), X.N[i]? = some x → σ[i]? = some (some v) → Vis X.env.scope x → ∃ u, RelV v u ∧ Look X.env s.heap m x u
  cell : ∀ x c, X.env.cells.lookup x = some c → ∃ v, s.heap.IsCell c v
  free : H X.env.locals = none
  freeC : ∀ x c, X.env.cells.lookup x = some c → H c = none
  pin : ∀ p ∈ X.pn ++ pins, s.heap.get? p.1 = some p.2 ∧ H p.1 = none ∧ p.1 ≠ X.env.locals ∧ p.1 ∉ X.fs ∧ ∀ v, p.2.data ≠ .cell v
  hok : HOk X.prog X.w H s.heap
  len : σ.length = X.N.length
section
variable {X : Cx} {pins : List (Addr × Obj)} {σ : List (Option V)} {H H' : Hp} {s : Shared} {h' : Heap}
theorem Cx.Ok.nofr (ok : X.Ok) {b : Addr} {o : Obj} (e : X.base.get? b = some o) : b ∉ X.fs := fun hb => by
  have := (ok.funs.mem hb).1
  rw [e] at this; cases this
theorem Inv.bs (I : Inv X pins σ H s) : ∀ b o, X.base.get? b = some o → s.heap.get? b = some o ∧ H b = none := fun b o e =>
  ⟨I.base.keep b o (I.ok.bs b o e).1 (I.ok.bs b o e).2 (I.ok.nofr e) (I.ok.noex b o e), I.base.free b o (I.ok.bs b o e).1 (I.ok.bs b o e).2 (I.ok.noex b o e)⟩
theorem Inv.bk (I : Inv X pins σ H s) : ∀ b o, X.base.get? b = some o → s.heap.get? b = some o := fun b o e => (I.bs b o e).1
theorem Inv.mod (I : Inv X pins σ H s) : Mod X.K X.mg X.base := I.ok.mod
theorem Inv.kIn (I : Inv X pins σ H s) : X.K.In s.heap := I.ok.mod.kin.keeps I.bk
theorem Inv.lt (I : Inv X pins σ H s) : X.env.locals < s.heap.objs.size := let ⟨_, hn, _⟩ := I.loc; hn.lt
theorem Inv.sz (I : Inv X pins σ H s) : X.s₀.heap.objs.size ≤ s.heap.objs.size := Nat.le_trans I.ok.above (Nat.le_of_lt I.lt)
theorem Inv.nofs (I : Inv X pins σ H s) {a : Addr} (h : s.heap.objs.size ≤ a) : a ∉ X.fs := fun hb => by
  obtain ⟨_, o, ho, _⟩ := I.ok.funs.mem hb
  exact absurd (Nat.lt_of_lt_of_le (Heap.lt_size ho) (Nat.le_trans I.sz h)) (Nat.lt_irrefl _)
theorem Inv.cne (I : Inv X pins σ H s) : ∀ x c, X.env.cells.lookup x = some c → c ≠ X.env.locals := fun x c e z => by
  obtain ⟨v, o, ho, hd⟩ := I.cell x c e
  obtain ⟨m, ⟨o', es, ep, ho', hd', _⟩, _⟩ := I.loc
  rw [z, ho'] at ho; cases ho; rw [hd'] at hd; cases hd
theorem Inv.funs (I : Inv X pins σ H s) : s.heap.FunFrames X.base X.outer := by
  have all : ∀ (l : List Env), (∀ b ∈ frs l, b ∈ X.fs) → X.s₀.heap.FunFrames X.base l → s.heap.FunFrames X.base l := by
    intro l
    induction l with
    | nil => intro _ _; trivial
    | cons env r ih =>
      intro hs hl
      obtain ⟨hk, ⟨L, o, hf, hn, ho, hd⟩, hr⟩ := hl
      have hL : L ∈ X.fs := hs L (by unfold frs; rw [List.filterMap_cons, hf]; exact List.mem_cons_self)
      obtain ⟨sl, e⟩ := I.base.slot L o ho (I.ok.frf L hL) hL fun z => I.ok.exfs L z hL
      exact ⟨hk, ⟨L, _, hf, hn, e, hd⟩, ih (fun b hb => hs b (by unfold frs; rw [List.filterMap_cons, hf]; exact List.mem_cons_of_mem _ hb)) hr⟩
  exact all X.outer (fun _ hb => hb) I.ok.funs
theorem Inv.stack (I : Inv X pins σ H s) : s.heap.FunFrames X.base X.stack := by
  rcases I.ok.stk with e | ⟨e, hf⟩
  · rw [e]; exact I.funs
  · rw [e]
    obtain ⟨m, hn, _⟩ := I.loc
    refine .cons (by rw [I.ok.kind]; decide) hf hn ?_ I.funs
    exact Heap.get?_none_of_le (Nat.le_trans I.ok.bsz I.ok.above)
theorem Inv.stkSub (I : Inv X pins σ H s) : ∀ b ∈ frs X.stack, b ∈ X.env.locals :: X.fs := fun b hb => by
  rcases I.ok.stk with e | ⟨e, hf⟩
  · rw [e] at hb; exact List.mem_cons_of_mem _ hb
  · rw [e] at hb
    unfold frs at hb
    rw [List.filterMap_cons, hf] at hb
    exact hb
theorem Inv.stkFree (I : Inv X pins σ H s) : ∀ b ∈ frs X.stack, H b = none := fun b hb => by
  rcases List.mem_cons.mp (I.stkSub b hb) with e | hb
  · rw [e]; exact I.free
  · obtain ⟨_, o, ho, _⟩ := I.ok.funs.mem hb
    exact I.base.free b o ho (I.ok.frf b hb) fun z => I.ok.exfs b z hb
theorem Inv.step {g' : Array GenState} {t' : Nat} {d' : Drawn} {ch : List Addr} (I : Inv X pins σ H s)
    (hch : ∀ b ∈ ch, (b ∈ X.ex ∨ X.s₀.heap.objs.size ≤ b) ∧ b ≠ X.env.locals ∧ (∀ x c, X.env.cells.lookup x = some c → c ≠ b) ∧ ∀ p ∈ X.pn ++ pins, p.1 ≠ b)
    (keep : ∀ b o, b ≠ X.env.locals → b ∉ X.fs → b ∉ ch → s.heap.get? b = some o → H b = none → h'.get? b = some o)
    (slot : ∀ b o, b ≠ X.env.locals → b ∈ X.fs → b ∉ ch → s.heap.get? b = some o → H b = none → ∃ sl, h'.get? b = some { o with slots := sl }) (free : ∀ b o, b ∉ ch → s.heap.get? b = some o → H b = none → H' b = none)
    (there : ∀ b o, b ∉ ch → s.heap.get? b = some o → ∃ o', h'.get? b = some o')
    (tups : ∀ b xs, H b = some (.tup xs) → H' b = some (.tup xs)) (frzs : ∀ b o u, H b = some (.frz o u) → H' b = some (.frz o u)) (tbls : ∀ b ps, H b = some (.tbl ps) → ∃ more, H' b = some (.tbl (ps ++ more)))
    (ns : ∀ m, s.heap.Ns X.env.locals m → h'.Ns X.env.locals m) (hok : HOk X.prog X.w H' h') (hg : AllBare g') :
    Inv X pins σ H' { s with heap := h', gens := g', drawn := d', toks := t' } := by
  have neL : ∀ b o, X.s₀.heap.get? b = some o → b ≠ X.env.locals := fun b o e => Nat.ne_of_lt (Nat.lt_of_lt_of_le (Heap.lt_size e) I.ok.above)
  have neC : ∀ b o, X.s₀.heap.get? b = some o → b ∉ X.ex → b ∉ ch := fun b o e hx hb => by
    rcases (hch b hb).1 with z | z
    · exact hx z
    · exact absurd (Nat.lt_of_lt_of_le (Heap.lt_size e) z) (Nat.lt_irrefl _)
  have cellK : ∀ x c, X.env.cells.lookup x = some c → ∀ v, s.heap.IsCell c v → h'.IsCell c v := fun x c e v ⟨o, ho, hd⟩ => by
    have nch : c ∉ ch := fun z => (hch c z).2.2.1 x c e rfl
    by_cases hc : c ∈ X.fs
    · obtain ⟨sl, q⟩ := slot c o (I.cne x c e) hc nch ho (I.freeC x c e)
      exact ⟨_, q, hd⟩
    · exact ⟨o, keep c o (I.cne x c e) hc nch ho (I.freeC x c e), hd⟩
  refine ⟨I.ok, I.os, hg, ⟨fun b o e n hb hx => ?_, fun b o e n hb hx => ?_, fun b o e n hx => ?_, fun b o e hx => ?_, fun b xs e => tups b xs (I.base.tups b xs e), fun b o xs e => frzs b o xs (I.base.frzs b o xs e), fun b ps e => ?_⟩, ?_, fun x c e => ?_, ?_, fun x c e => ?_, fun p hp => ?_, hok, I.len⟩
  · exact keep b o (neL b o e) hb (neC b o e hx) (I.base.keep b o e n hb hx) (I.base.free b o e n hx)
  · obtain ⟨sl, e1⟩ := I.base.slot b o e n hb hx
    obtain ⟨sl', e2⟩ := slot b _ (neL b o e) hb (neC b o e hx) e1 (I.base.free b o e n hx)
    exact ⟨sl', e2⟩
  · obtain ⟨o', e1⟩ := I.base.there b o e hx
    exact free b o' (neC b o e hx) e1 (I.base.free b o e n hx)
  · obtain ⟨o', e1⟩ := I.base.there b o e hx
    exact there b o' (neC b o e hx) e1
  · obtain ⟨m1, e1⟩ := I.base.tbls b ps e
    obtain ⟨m2, e2⟩ := tbls b _ e1
    exact ⟨m1 ++ m2, by rw [e2, Array.append_assoc]⟩
  · obtain ⟨m, hn, hl⟩ := I.loc
    refine ⟨m, ns m hn, fun i x v e1 e2 e3 => ?_⟩
    obtain ⟨u, r, l⟩ := hl i x v e1 e2 e3
    refine ⟨u, r, ?_⟩
    rcases l with l | ⟨k, c, e, z⟩
    · exact .inl l
    · exact .inr ⟨k, c, e, cellK x c e _ z⟩
  · obtain ⟨v, z⟩ := I.cell x c e
    exact ⟨v, cellK x c e v z⟩
  · obtain ⟨m, ⟨o, _, _, ho, _⟩, _⟩ := I.loc
    exact free _ o (fun z => (hch _ z).2.1 rfl) ho I.free
  · obtain ⟨v, o, ho, hd⟩ := I.cell x c e
    exact free c o (fun z => (hch c z).2.2.1 x c e rfl) ho (I.freeC x c e)
  · obtain ⟨e, n, ne, nf, d⟩ := I.pin p hp
    have nch : p.1 ∉ ch := fun z => (hch p.1 z).2.2.2 p hp rfl
    exact ⟨keep p.1 p.2 ne nf nch e n, free p.1 p.2 nch e n, ne, nf, d⟩
theorem Inv.un {t' : Nat} (I : Inv X pins σ H s) (u : Un X.fs [] H H' s.heap h') (hok : HOk X.prog X.w H' h') : Inv X pins σ H' { s with heap := h', toks := t' } := by
  obtain ⟨m, ⟨o, es, ep, ho, r⟩, _⟩ := id I.loc
  obtain ⟨sl, hL⟩ := u.any ho I.free (by simp)
  exact I.step (g' := s.gens) (d' := s.drawn) (ch := []) (fun _ z => nomatch z) (fun b o _ hb _ e n => u.keep b o e n hb (by simp)) (fun b o _ hb _ e n => u.slot b o e n hb (by simp)) (fun b o _ e n => u.free b o e n (by simp)) (fun b o _ e => u.there b o e (by simp)) u.tups u.frzs u.tbls (fun m' hm => by
    obtain ⟨o', es', ep', ho', r'⟩ := hm
    rw [ho] at ho'; cases ho'
    exact ⟨_, es', ep', hL, r'⟩) hok I.bare
theorem Inv.call {g' : Array GenState} {t' : Nat} {d' : Drawn} {ch : List Addr} (I : Inv X pins σ H s) (u : Un (frs X.stack) ch H H' s.heap h') (hok : HOk X.prog X.w H' h') (hg : AllBare g')
    (hch : ∀ b ∈ ch, (b ∈ X.ex ∨ X.s₀.heap.objs.size ≤ b) ∧ b ≠ X.env.locals ∧ (∀ x c, X.env.cells.lookup x = some c → c ≠ b) ∧ ∀ p ∈ X.pn ++ pins, p.1 ≠ b) :
    Inv X pins σ H' { s with heap := h', gens := g', drawn := d', toks := t' } := by
  obtain ⟨m, ⟨o, es, ep, ho, r⟩, _⟩ := id I.loc
  obtain ⟨sl, hL⟩ := u.any ho I.free fun z => (hch _ z).2.1 rfl
  exact I.step (ch := ch) hch (fun b o hL hb hc e n => u.keep b o e n (fun z => (List.mem_cons.mp (I.stkSub b z)).elim hL hb) hc) (fun b o _ _ hc e n => u.any e n hc) (fun b o hc e n => u.free b o e n hc) (fun b o hc e => u.there b o e hc) u.tups u.frzs u.tbls (fun m' hm => by
    obtain ⟨o', es', ep', ho', r'⟩ := hm
    rw [ho] at ho'; cases ho'
    exact ⟨_, es', ep', hL, r'⟩) hok hg
theorem Inv.turned {t' : Nat} {it : Addr} (I : Inv X pins σ H s) (k : ∀ b o, b ≠ it → s.heap.get? b = some o → h'.get? b = some o) (hn : H it = none) (hL : it ≠ X.env.locals)
    (h1 : it ∈ X.ex ∨ X.s₀.heap.objs.size ≤ it) (h2 : ∀ x c, X.env.cells.lookup x = some c → c ≠ it) (h3 : ∀ p ∈ X.pn ++ pins, p.1 ≠ it) : Inv X pins σ H { s with heap := h', toks := t' } := by
  have nit : ∀ b u, H b = some u → b ≠ it := fun b u e z => by rw [z, hn] at e; cases e
  refine I.step (g' := s.gens) (d' := s.drawn) (ch := [it]) (fun b hb => ?_) (fun b o _ _ hc e _ => k b o (fun z => hc (by simp [z])) e) (fun b o _ _ hc e _ => ⟨o.slots, k b o (fun z => hc (by simp [z])) e⟩) (fun _ _ _ _ n => n)
    (fun b o hc e => ⟨o, k b o (fun z => hc (by simp [z])) e⟩) (fun _ _ e => e) (fun _ _ _ e => e) (fun b ps e => ⟨#[], by rw [e]; simp⟩) (fun m hm => ?_) (fun b u e => ?_) I.bare
  · have e : b = it := by simpa using hb
    subst e
    exact ⟨h1, hL, h2, h3⟩
  · obtain ⟨o, es, ep, ho, r⟩ := hm
    exact ⟨o, es, ep, k _ o (Ne.symm hL) ho, r⟩
  · refine (I.hok b u e).stay (fun c v hc q => k c v ?_ q) (fun _ q => q) fun _ _ q => q
    rcases hc with z | z
    · rw [z]; exact nit b u e
    · exact nit c _ z
theorem Inv.tok (I : Inv X pins σ H s) (t : Nat) : Inv X pins σ H { s with toks := t } := I.un (h' := s.heap) (t' := t) Un.refl I.hok
theorem Inv.kept {t' : Nat} (I : Inv X pins σ H s) (k : ∀ b u, s.heap.get? b = some u → h'.get? b = some u) : Inv X pins σ H { s with heap := h', toks := t' } := I.un (Un.kept k) (I.hok.kept k)
theorem Inv.laid {a : Addr} {o : HO} {t' : Nat} (I : Inv X pins σ H s) (k : ∀ b u, s.heap.get? b = some u → h'.get? b = some u) (hp : s.heap.objs.size ≤ a) (new : ObjOk X.prog X.w (upd H a o) h' a o) :
    Inv X pins σ (upd H a o) { s with heap := h', toks := t' } := I.un (Un.laid k hp (I.hok.fresh hp)) (I.hok.laid k hp new)
theorem Inv.write {x e : Addr} {o : HO} {t' : Nat} (I : Inv X pins σ H s) (mu : Mut (H x)) (he : e = x ∨ H e = some (.own x)) (k : ∀ b u, b ≠ e → s.heap.get? b = some u → h'.get? b = some u) (heo : ∃ u, h'.get? e = some u)
    (new : ObjOk X.prog X.w (upd H x o) h' x o) : Inv X pins σ (upd H x o) { s with heap := h', toks := t' } := I.un (Un.write mu he k heo) (I.hok.write mu he k heo new)
theorem Inv.pins_of {pins' : List (Addr × Obj)} (I : Inv X pins σ H s) (h : ∀ p ∈ pins', s.heap.get? p.1 = some p.2 ∧ H p.1 = none ∧ p.1 ≠ X.env.locals ∧ p.1 ∉ X.fs ∧ ∀ v, p.2.data ≠ .cell v) : Inv X pins' σ H s :=
  ⟨I.ok, I.os, I.bare, I.base, I.loc, I.cell, I.free, I.freeC, fun p hp => (List.mem_append.mp hp).elim (fun z => I.pin p (List.mem_append_left _ z)) (h p), I.hok, I.len⟩
theorem nodup_ix {N : List Str} (hN : N.Nodup) {i j : Nat} {x : Str} (a : N[i]? = some x) (b : N[j]? = some x) : i = j := by
  obtain ⟨h1, e1⟩ := List.getElem?_eq_some_iff.mp a
  obtain ⟨h2, e2⟩ := List.getElem?_eq_some_iff.mp b
  exact (List.getElem_inj hN).mp (e1.trans e2.symm)
theorem store_ok2 {M : Model} {A : Around} {E : Value → Shared → Prop} {i : Nat} {x : Str} {v : V} {u : Value} {Q : Unit → Shared → Prop} (I : Inv X pins σ H s) (hN : X.N.Nodup) (hi : X.N[i]? = some x) (hx : Loc X.env.scope x) (r : RelV v u)
    (h : ∀ s', Inv X pins (σ.set i (some v)) H s' → (∃ a, Heap.SameBut a s.heap s'.heap ∧ (a = X.env.locals ∨ X.env.cells.lookup x = some a)) → Q () s') (hf : X.fn x = true ∨ X.env.scope.names.lookup x = some .local := by first | exact .inl rfl | exact .inr rfl | assumption) : wpAny M A (storeName X.env x u) Q E s := by
  obtain ⟨m, hn, hl⟩ := id I.loc
  have hcls : (X.env.scope.kind == .class || (X.env.scope.kind == .module && X.env.locals != X.env.globals)) = false := by rw [I.ok.kind]; rfl
  have hiσ : i < σ.length := by rw [I.len]; exact (List.getElem?_eq_some_iff.mp hi).1
  have cne := I.cne
  have tracked : ∀ {a : Addr} {h' : Heap}, (∃ o, s.heap.get? a = some o ∧ H a = none) → Heap.SameBut a s.heap h' → HOk X.prog X.w H h' := fun {a h'} ha hs b ob e => by
    obtain ⟨_, _, hfree⟩ := ha
    refine (I.hok b ob e).stay (fun c w' hc q => (hs.2 c ?_).trans q) (fun _ q => q) fun _ _ q => q
    rintro rfl
    rcases hc with rfl | hc
    · rw [hfree] at e; cases e
    · rw [hfree] at hc; cases hc
  rcases hx with hk | hk
  · refine wpAny_storeName_local hk hn (fun h' hn' hs => ?_) hcls
    obtain ⟨oL, _, _, hoL, _⟩ := id hn
    refine h _ ⟨I.ok, I.os, I.bare, ⟨fun b o e n hb hx => ?_, fun b o e n hb hx => ?_, I.base.free, fun b o e hx => ?_, I.base.tups, I.base.frzs, I.base.tbls⟩, ⟨_, hn', fun j y v' e1 e2 e3 => ?_⟩, fun y c e => ?_, I.free, I.freeC, fun p hp => ?_, tracked ⟨oL, hoL, I.free⟩ hs, by simpa using I.len⟩ ⟨_, hs, .inl rfl⟩
    · exact (hs.2 b (Nat.ne_of_lt (Nat.lt_of_lt_of_le (Heap.lt_size e) I.ok.above))).trans (I.base.keep b o e n hb hx)
    · obtain ⟨sl, e1⟩ := I.base.slot b o e n hb hx
      exact ⟨sl, (hs.2 b (Nat.ne_of_lt (Nat.lt_of_lt_of_le (Heap.lt_size e) I.ok.above))).trans e1⟩
    · obtain ⟨o', e1⟩ := I.base.there b o e hx
      exact ⟨o', (hs.2 b (Nat.ne_of_lt (Nat.lt_of_lt_of_le (Heap.lt_size e) I.ok.above))).trans e1⟩
    · by_cases hj : j = i
      · subst hj
        rw [hi] at e1; cases e1
        rw [List.getElem?_set_self hiσ] at e2
        cases e2
        exact ⟨u, r, .inl ⟨hk, by simp⟩⟩
      · rw [List.getElem?_set_ne (Ne.symm hj)] at e2
        obtain ⟨u', r', q⟩ := hl j y v' e1 e2 e3
        refine ⟨u', r', ?_⟩
        rcases q with ⟨k, e⟩ | ⟨k, c, e, z⟩
        · refine .inl ⟨k, ?_⟩
          have : y ≠ x := fun e => hj (nodup_ix hN e1 (e ▸ hi))
          simp [this, e]
        · exact .inr ⟨k, c, e, z.sameBut hs (cne y c e)⟩
    · obtain ⟨w', z⟩ := I.cell y c e
      exact ⟨w', z.sameBut hs (cne y c e)⟩
    · obtain ⟨e, n, ne, nf, d⟩ := I.pin p hp
      exact ⟨(hs.2 p.1 ne).trans e, n, ne, nf, d⟩
  · have hfn : X.fn x = true := by
      rcases hf with z | z
      · exact z
      · rw [z] at hk; cases hk
    obtain ⟨c, hc⟩ := I.ok.has x (.inl hk)
    obtain ⟨w', z⟩ := I.cell x c hc
    refine wpAny_storeName_cell I.ok.kind hk hc z (fun h' hc' hs => ?_)
    obtain ⟨oc, hoc, hocd⟩ := id z
    refine h { s with heap := h' } ⟨I.ok, I.os, I.bare, ⟨fun b o e n hb hx => ?_, fun b o e n hb hx => ?_, I.base.free, fun b o e hx => ?_, I.base.tups, I.base.frzs, I.base.tbls⟩, ⟨m, hn.sameBut hs (Ne.symm (cne x c hc)), fun j y v' e1 e2 e3 => ?_⟩, fun y c' e => ?_, I.free, I.freeC, fun p hp => ?_, tracked ⟨oc, hoc, I.freeC x c hc⟩ hs, by simpa using I.len⟩ ⟨c, hs, .inr hc⟩
    · exact (hs.2 b (Nat.ne_of_lt (Nat.lt_of_lt_of_le (Heap.lt_size e) (I.ok.cab x c hfn hc)))).trans (I.base.keep b o e n hb hx)
    · obtain ⟨sl, e1⟩ := I.base.slot b o e n hb hx
      exact ⟨sl, (hs.2 b (Nat.ne_of_lt (Nat.lt_of_lt_of_le (Heap.lt_size e) (I.ok.cab x c hfn hc)))).trans e1⟩
    · obtain ⟨o', e1⟩ := I.base.there b o e hx
      exact ⟨o', (hs.2 b (Nat.ne_of_lt (Nat.lt_of_lt_of_le (Heap.lt_size e) (I.ok.cab x c hfn hc)))).trans e1⟩
    · by_cases hj : j = i
      · subst hj
        rw [hi] at e1; cases e1
        rw [List.getElem?_set_self hiσ] at e2
        cases e2
        exact ⟨u, r, .inr ⟨.inl hk, c, hc, hc'⟩⟩
      · rw [List.getElem?_set_ne (Ne.symm hj)] at e2
        obtain ⟨u', r', q⟩ := hl j y v' e1 e2 e3
        refine ⟨u', r', ?_⟩
        rcases q with q | ⟨k, c', e, z'⟩
        · exact .inl q
        · refine .inr ⟨k, c', e, z'.sameBut hs ?_⟩
          rintro rfl
          exact hj (nodup_ix hN e1 (I.ok.inj _ _ _ e hc ▸ hi))
    · by_cases hcc : c' = c
      · subst hcc; exact ⟨_, hc'⟩
      · obtain ⟨w2, z2⟩ := I.cell y c' e
        exact ⟨w2, z2.sameBut hs hcc⟩
    · obtain ⟨e, n, ne, nf, d⟩ := I.pin p hp
      refine ⟨(hs.2 p.1 ?_).trans e, n, ne, nf, d⟩
      intro q
      rw [q, hoc] at e
      have q' : oc = p.2 := Option.some.inj e
      exact d w' (by rw [← q']; exact hocd)
theorem store_ok {M : Model} {A : Around} {E : Value → Shared → Prop} {i : Nat} {x : Str} {v : V} {u : Value} {Q : Unit → Shared → Prop} (I : Inv X pins σ H s) (hN : X.N.Nodup) (hi : X.N[i]? = some x) (hx : Loc X.env.scope x) (r : RelV v u)
    (h : ∀ s', Inv X pins (σ.set i (some v)) H s' → Q () s') (hf : X.fn x = true ∨ X.env.scope.names.lookup x = some .local := by first | exact .inl rfl | exact .inr rfl | assumption) : wpAny M A (storeName X.env x u) Q E s :=
  store_ok2 I hN hi hx r (fun s' I' _ => h s' I') hf
end
noncomputable abbrev XK := Value → Option Addr → Hp → Prop
noncomputable abbrev St := List (Option V)
noncomputable abbrev VK := V → Hp → Prop
noncomputable abbrev TE := St → Hp → VK → Prop
noncomputable abbrev TT := St → Hp → (Bool → Hp → Prop) → Prop
noncomputable abbrev TA := St → Hp → (List V → Hp → Prop) → Prop
structure Ends where
  nx : St → Hp → Prop
  rt : VK
  bk : St → Hp → Prop := fun _ _ => False
  ct : St → Hp → Prop := fun _ _ => False
noncomputable abbrev TS := Ends → St → Hp → Prop
noncomputable def EP (X : Cx) (pins : List (Addr × Obj)) (σ : St) (Q : VK) (u : Value) (s' : Shared) : Prop := ∃ v H', Inv X pins σ H' s' ∧ RelV v u ∧ Q v H'
noncomputable def TP (X : Cx) (pins : List (Addr × Obj)) (σ : St) (Q : Bool → Hp → Prop) (b : Bool) (s' : Shared) : Prop := ∃ H', Inv X pins σ H' s' ∧ Q b H'
noncomputable def AP (X : Cx) (pins : List (Addr × Obj)) (σ : St) (Q : List V → Hp → Prop) (us : List Value) (s' : Shared) : Prop := ∃ vs H', Inv X pins σ H' s' ∧ Vals vs us ∧ Q vs H'
noncomputable def SP (X : Cx) (pins : List (Addr × Obj)) (D : Ends) (f : Flow) (s' : Shared) : Prop :=
  match f with
  | .next => ∃ σ' H', Inv X pins σ' H' s' ∧ D.nx σ' H'
  | .brk => ∃ σ' H', Inv X pins σ' H' s' ∧ D.bk σ' H'
  | .cont => ∃ σ' H', Inv X pins σ' H' s' ∧ D.ct σ' H'
  | .ret u => ∃ v σ' H', Inv X pins σ' H' s' ∧ RelV v u ∧ D.rt v H'
noncomputable def PE (X : Cx) (e : Expr) (t : TE) : Prop :=
  ∀ (pins : List (Addr × Obj)) (s : Shared) (σ : St) (H : Hp) (Q : VK), Inv X pins σ H s → t σ H Q → wpAny (model X.prog X.w) X.A (eval e X.env) (EP X pins σ Q) X.xe s
noncomputable def PT (X : Cx) (e : Expr) (t : TT) : Prop :=
  ∀ (pins : List (Addr × Obj)) (s : Shared) (σ : St) (H : Hp) (Q : Bool → Hp → Prop), Inv X pins σ H s → t σ H Q → wpAny (model X.prog X.w) X.A (isTrue e X.env (eval e X.env)) (TP X pins σ Q) X.xe s
noncomputable def PW (X : Cx) (e : Expr) (t : TT) : Prop :=
  ∀ (whole : Sem Value) (pins : List (Addr × Obj)) (s : Shared) (σ : St) (H : Hp) (Q : Bool → Hp → Prop), Inv X pins σ H s → t σ H Q → wpAny (model X.prog X.w) X.A (isTrue e X.env whole) (TP X pins σ Q) X.xe s
theorem PW.pt {X : Cx} {e : Expr} {t : TT} (h : PW X e t) : PT X e t := h _
noncomputable def PA (X : Cx) (es : List Expr) (t : TA) : Prop :=
  ∀ (pos : Pos) (pins : List (Addr × Obj)) (s : Shared) (σ : St) (H : Hp) (Q : List V → Hp → Prop), Inv X pins σ H s → t σ H Q → wpAny (model X.prog X.w) X.A (spliced (backTo pos (starEach es X.env))) (AP X pins σ Q) X.xe s
noncomputable def PS (X : Cx) (st : Stmt) (t : TS) : Prop :=
  ∀ (pins : List (Addr × Obj)) (s : Shared) (σ : St) (H : Hp) (D : Ends), Inv X pins σ H s → t D σ H → wpAny (model X.prog X.w) X.A (exec st X.env) (SP X pins D) X.xe s
noncomputable def PSs (X : Cx) (st : List Stmt) (t : TS) : Prop :=
  ∀ (pins : List (Addr × Obj)) (s : Shared) (σ : St) (H : Hp) (D : Ends), Inv X pins σ H s → t D σ H → wpAny (model X.prog X.w) X.A (execs st X.env) (SP X pins D) X.xe s
theorem thn {α : Type} {t : Sem α} {Q Q' : α → Shared → Prop} {M : Model} {A : Around} {E : Value → Shared → Prop} {s : Shared} (h : wpAny M A t Q E s) (hQ : ∀ a s, Q a s → Q' a s) : wpAny M A t Q' E s := wpAny_mono h hQ fun _ _ x => x
end L2
namespace L2
open PySem PySem.Spec PyProof.Rows
section
variable {X : Cx}
theorem bin {a b : Expr} {ta tb : TE} (ha : PE X a ta) (hb : PE X b tb) {pins : List (Addr × Obj)} {s : Shared} {σ : St} {H : Hp} {R : V → V → Hp → Prop} (I : Inv X pins σ H s) (h : ta σ H fun x H1 => tb σ H1 fun y H2 => R x y H2)
    {α : Type} {Q : α → Shared → Prop} {f : Value → Value → Sem α}
    (hf : ∀ v u s2 x y H2, Inv X pins σ H2 s2 → RelV x v → RelV y u → R x y H2 → wpAny (model X.prog X.w) X.A (f v u) Q X.xe s2) :
    wpAny (model X.prog X.w) X.A (eval a X.env) (fun v s₁ => wpAny (model X.prog X.w) X.A (eval b X.env) (fun u s₂ => wpAny (model X.prog X.w) X.A (f v u) Q X.xe s₂) X.xe s₁) X.xe s := by
  refine thn (ha pins s σ H _ I h) fun v s1 ⟨x, H1, I1, r1, q1⟩ => ?_
  refine thn (hb pins s1 σ H1 _ I1 q1) fun u s2 ⟨y, H2, I2, r2, q2⟩ => ?_
  exact hf v u s2 x y H2 I2 r1 r2 q2
noncomputable def tVar (i : Nat) : TE := fun σ H Q => ∃ v, σ[i]? = some (some v) ∧ Q v H
noncomputable def tC (v : V) : TE := fun _ H Q => Q v H
theorem pe_var {i : Nat} {x : Str} {pos : Pos} (hN : X.N[i]? = some x) (hv : Vis X.env.scope x) (hd : (x == ("__debug__" : Str)) = false := by decide) (hcd : (x == ("__classdict__" : Str)) = false := by decide) : PE X (.Name x pos) (tVar i) := by
  intro pins s σ H Q I h
  obtain ⟨v, e, h⟩ := h
  obtain ⟨m, hn, hl⟩ := I.loc
  obtain ⟨u, r, l⟩ := hl i x v hN e hv
  have fin : EP X pins σ Q u s := ⟨v, H, I, r, h⟩
  rcases l with ⟨hk, hm⟩ | ⟨hk, c, hc, hcell⟩
  · exact wpAny_Name (wpAny_loadName_local I.ok.kind hk hn hm fin) hd
  · rcases hk with hk | hk
    · exact wpAny_Name (wpAny_loadName_cell I.ok.kind hk hc hcell fin) hd
    · exact wpAny_Name (wpAny_loadName_free I.ok.kind hk hc hcell fin hcd) hd
theorem pe_int {i j pos} : PE X (.Constant (.int i) j pos) (tC (.int i)) := fun _ _ _ H _ I h => wpAny_Constant_int ⟨.int i, H, I.tok _, ⟨_, rfl⟩, h⟩
theorem pe_bl {b j pos} : PE X (.Constant (.bool b) j pos) (tC (.bl b)) := fun _ _ _ H _ I h => Constant_bool ⟨.bl b, H, I, rfl, h⟩
theorem pe_non {j pos} : PE X (.Constant .none j pos) (tC .non) := fun _ _ _ H _ I h => Constant_none ⟨.non, H, I, rfl, h⟩
theorem pe_str {x j pos} : PE X (.Constant (.str x) j pos) (tC (.str x)) := fun _ _ _ H _ I h => Calls.Constant_str ⟨.str x, H, I.tok _, ⟨_, rfl⟩, h⟩
noncomputable def Gl (X : Cx) (x : Str) : Prop := X.env.kindOf x = some .globalImplicit
theorem ld_glob {E : Value → Shared → Prop} {pins : List (Addr × Obj)} {s : Shared} {σ : St} {H : Hp} {x : Str} {u : Value} {pos : Pos} {Q : Value → Shared → Prop} (I : Inv X pins σ H s) (hg : Gl X x) (hm : X.mg x = some u) (h : Q u s)
    (hd : (x == ("__debug__" : Str)) = false := by decide) : wpAny (model X.prog X.w) X.A (eval (.Name x pos) X.env) Q E s :=
  Calls.Name_function_global I.ok.kind hg (Calls.loadGlobal_global (by rw [I.ok.glob]; exact I.mod.glob.keeps I.bk) hm h) hd
theorem ld_blt {E : Value → Shared → Prop} {pins : List (Addr × Obj)} {s : Shared} {σ : St} {H : Hp} {x : Str} {u : Value} {pos : Pos} {Q : Value → Shared → Prop} (I : Inv X pins σ H s) (hg : Gl X x) (hm : X.mg x = none) (hv : bootBuiltins x = some u) (h : Q u s)
    (hn : x ≠ "__name__" := by decide) (hd : (x == ("__debug__" : Str)) = false := by decide) : wpAny (model X.prog X.w) X.A (eval (.Name x pos) X.env) Q E s := by
  obtain ⟨mb, h1, h2⟩ := I.mod.blt
  exact Calls.Name_function_global I.ok.kind hg (Calls.loadGlobal_builtin (by rw [I.ok.glob]; exact I.mod.glob.keeps I.bk) hm (by rw [I.ok.blt]; exact h1.keeps I.bk) ((h2 x hn).trans hv) h) hd
theorem pe_glob {x : Str} {v : V} {u : Value} {pos : Pos} (hg : Gl X x) (hm : X.mg x = some u) (r : RelV v u) (hd : (x == ("__debug__" : Str)) = false := by decide) : PE X (.Name x pos) (tC v) :=
  fun _ _ _ H _ I h => ld_glob I hg hm ⟨v, H, I, r, h⟩ hd
theorem pe_bltn {x : Str} {v : V} {u : Value} {pos : Pos} (hg : Gl X x) (hm : X.mg x = none) (hv : bootBuiltins x = some u) (r : RelV v u) (hn : x ≠ "__name__" := by decide) (hd : (x == ("__debug__" : Str)) = false := by decide) : PE X (.Name x pos) (tC v) :=
  fun _ _ _ H _ I h => ld_blt I hg hm hv ⟨v, H, I, r, h⟩ hn hd
variable {a b : Expr} {ta tb : TE} {pos : Pos}
noncomputable def PC (X : Cx) (op : CmpOp) (a b : Expr) (t : TE) : Prop :=
  ∀ (pins : List (Addr × Obj)) (s : Shared) (σ : St) (H : Hp) (Q : VK), Inv X pins σ H s → t σ H Q →
    wpAny (model X.prog X.w) X.A (eval a X.env) (fun v s₁ => wpAny (model X.prog X.w) X.A (eval b X.env) (fun u s₂ => wpAny (model X.prog X.w) X.A (compareOp op v u) (EP X pins σ Q) X.xe s₂) X.xe s₁) X.xe s
theorem nobehind (b : Expr) {op : CmpOp} (h : op ≠ .In) (h2 : op ≠ .NotIn) : behindInMarks op b = false := by
  have e1 : (op == CmpOp.In) = false := by cases op <;> first | rfl | exact absurd rfl h
  have e2 : (op == CmpOp.NotIn) = false := by cases op <;> first | rfl | exact absurd rfl h2
  cases b <;> simp [behindInMarks, e1, e2]
noncomputable def tIsN (ta : TE) : TE := fun σ H Q => ta σ H fun x H1 => Q (.bl (decide (x = .non))) H1
noncomputable def tNotN (ta : TE) : TE := fun σ H Q => ta σ H fun x H1 => Q (.bl (!decide (x = .non))) H1
theorem RelV.none_iff {x : V} {v : Value} (r : RelV x v) : (v == Value.none) = decide (x = .non) := by
  cases x with
  | non => cases r; rfl
  | bl _ => cases r; rfl
  | int _ => obtain ⟨t, rfl⟩ := r; rfl
  | str _ => obtain ⟨t, rfl⟩ := r; rfl
  | byt _ => obtain ⟨t, rfl⟩ := r; rfl
  | flt _ => obtain ⟨t, rfl⟩ := r; rfl
  | ref _ => cases r; rfl
  | ty _ => cases r; rfl
theorem pc_isN {j pos'} (ha : PE X a ta) : PC X .Is a (.Constant .none j pos') (tIsN ta) := by
  intro pins s σ H Q I h
  refine thn (ha pins s σ H _ I h) fun v s1 ⟨x, H1, I1, r1, q1⟩ => ?_
  exact Constant_none (is_none_gen ⟨.bl _, H1, I1, by rw [r1.none_iff]; rfl, q1⟩)
theorem pc_notN {j pos'} (ha : PE X a ta) : PC X .IsNot a (.Constant .none j pos') (tNotN ta) := by
  intro pins s σ H Q I h
  refine thn (ha pins s σ H _ I h) fun v s1 ⟨x, H1, I1, r1, q1⟩ => ?_
  exact Constant_none (isnot_none_gen ⟨.bl _, H1, I1, by rw [r1.none_iff]; rfl, q1⟩)
noncomputable def tB (t : TE) : TT := fun σ H Q => t σ H fun x H1 => ∃ c, x = .bl c ∧ Q c H1
theorem pe_cmp {op : CmpOp} {t : TE} (h : PC X op a b t) (h1 : behindInMarks op b = false := by first | exact nobehind _ (by decide) (by decide) | rfl) : PE X (.Compare a [op] [b] pos) t := fun pins s σ H Q I hw => wpAny_Compare1 (h pins s σ H Q I hw) h1
theorem pt_cmp {op : CmpOp} {t : TE} (h : PC X op a b t) (h1 : behindInMarks op b = false := by first | exact nobehind _ (by decide) (by decide) | rfl) : PT X (.Compare a [op] [b] pos) (tB t) := by
  intro pins s σ H Q I hw
  refine wpAny_isTrue_Compare1 (thn (h pins s σ H _ I hw) fun v s1 h1 => thn h1 fun u s2 h2 => thn h2 fun c s3 ⟨x, H1, I1, r1, q1⟩ => ?_) h1
  obtain ⟨d, rfl, q⟩ := q1
  cases r1
  exact wpAny_truthy_bool ⟨H1, I1, q⟩
theorem pt_val {e : Expr} {t : TE} (h : PE X e t) (he : ∀ whole, isTrue e X.env whole = (do let v ← whole; standAt e.pos; holding [v] (truthy v)) := by intro _; rfl) : PT X e (tB t) := by
  intro pins s σ H Q I hw
  refine isTrue_plain (thn (h pins s σ H _ I hw) fun v s1 ⟨x, H1, I1, r1, q1⟩ => ?_) (he _)
  obtain ⟨d, rfl, q⟩ := q1
  cases r1
  exact wpAny_truthy_bool ⟨H1, I1, q⟩
variable {tA tB' : TT} {rest : List Expr}
noncomputable def tAnd (t u : TT) : TT := fun σ H Q => t σ H fun c H1 => if c = true then u σ H1 Q else Q false H1
noncomputable def tOr (t u : TT) : TT := fun σ H Q => t σ H fun c H1 => if c = true then Q true H1 else u σ H1 Q
noncomputable def tNot (t : TT) : TT := fun σ H Q => t σ H fun c H1 => Q (!c) H1
theorem pw_and1 (ha : PT X a tA) : PW X (.BoolOp .And [a] pos) tA := by
  intro wh pins s σ H Q I h
  refine isTrue_and (thn (ha pins s σ H Q I h) fun c s1 e => ?_)
  cases c with
  | true => exact isTrue_and_nil e
  | false => exact e
theorem pw_or1 (ha : PT X a tA) : PW X (.BoolOp .Or [a] pos) tA := by
  intro wh pins s σ H Q I h
  refine isTrue_or (thn (ha pins s σ H Q I h) fun c s1 e => ?_)
  cases c with
  | false => exact isTrue_or_nil e
  | true => exact e
theorem pw_and (ha : PT X a tA) (hb : PW X (.BoolOp .And (b :: rest) pos) tB') : PW X (.BoolOp .And (a :: b :: rest) pos) (tAnd tA tB') := by
  intro wh pins s σ H Q I h
  refine isTrue_and (thn (ha pins s σ H _ I h) fun c s1 ⟨H1, I1, q1⟩ => ?_)
  cases c with
  | true => exact hb wh pins s1 σ H1 Q I1 q1
  | false => exact ⟨H1, I1, q1⟩
theorem pw_or (ha : PT X a tA) (hb : PW X (.BoolOp .Or (b :: rest) pos) tB') : PW X (.BoolOp .Or (a :: b :: rest) pos) (tOr tA tB') := by
  intro wh pins s σ H Q I h
  refine isTrue_or (thn (ha pins s σ H _ I h) fun c s1 ⟨H1, I1, q1⟩ => ?_)
  cases c with
  | true => exact ⟨H1, I1, q1⟩
  | false => exact hb wh pins s1 σ H1 Q I1 q1
theorem pt_not (ha : PT X a tA) : PT X (.UnaryOp .Not a pos) (tNot tA) := by
  intro pins s σ H Q I h
  exact isTrue_not (ha pins s σ H (fun c H1 => Q (!c) H1) I h)
noncomputable def tAndV (ta tb : TE) : TE := fun σ H Q => ta σ H fun x H1 => ∃ c, x = .bl c ∧ if c = true then tb σ H1 Q else Q (.bl false) H1
noncomputable def tNotV (ta : TE) : TE := fun σ H Q => ta σ H fun x H1 => ∃ c, x = .bl c ∧ Q (.bl (!c)) H1
theorem pe_one {op} {t : TE} (h : PE X a t) : PE X (.BoolOp op [a] pos) t := fun pins s σ H Q I hw => BoolOp_one (h pins s σ H Q I hw)
theorem pe_and (ha : PE X a ta) (hb : PE X (.BoolOp .And (b :: rest) pos) tb) : PE X (.BoolOp .And (a :: b :: rest) pos) (tAndV ta tb) := by
  intro pins s σ H Q I h
  refine BoolOp_and (thn (ha pins s σ H _ I h) fun v s1 ⟨x, H1, I1, r1, q1⟩ => ?_)
  obtain ⟨c, rfl, q1⟩ := q1
  cases r1
  refine wpAny_truthy_bool ?_
  cases c with
  | true => exact hb pins s1 σ H1 Q I1 q1
  | false => exact ⟨.bl false, H1, I1, rfl, q1⟩
theorem pe_not (ha : PE X a ta) : PE X (.UnaryOp .Not a pos) (tNotV ta) := by
  intro pins s σ H Q I h
  refine UnaryOp_ (thn (ha pins s σ H _ I h) fun v s1 ⟨x, H1, I1, r1, q1⟩ => ?_)
  obtain ⟨c, rfl, q1⟩ := q1
  cases r1
  exact not_of (wpAny_truthy_bool ⟨.bl (!c), H1, I1, rfl, q1⟩)
noncomputable def tIf (t : TT) (ta tb : TE) : TE := fun σ H Q => t σ H fun c H1 => if c = true then ta σ H1 Q else tb σ H1 Q
theorem pe_ifExp {c : Expr} (hc : PT X c tA) (ha : PE X a ta) (hb : PE X b tb) : PE X (.IfExp c a b pos) (tIf tA ta tb) := by
  intro pins s σ H Q I h
  refine wpAny_IfExp (thn (hc pins s σ H _ I h) fun d s1 ⟨H1, I1, q1⟩ => ?_)
  cases d with
  | true => exact ha pins s1 σ H1 Q I1 q1
  | false => exact hb pins s1 σ H1 Q I1 q1
end
end L2
namespace L2
open PySem PySem.Spec PyProof.Rows
noncomputable def SqL (K : PySem.W.Frag) (H : Hp) (a : Addr) (xs : List V) : Prop :=
  Rd H a (.lst xs) ∨
    ∃ (o : Obj) (its : Array Value) (n : Nat), K.lookup a = some o ∧ o.cls = .type "list" ∧ o.dict = none ∧ o.data = .seq its n ∧ its.size ≤ sizeLine ∧ Vals xs its.toList
noncomputable def SqT (K : PySem.W.Frag) (H : Hp) (a : Addr) (xs : List V) : Prop :=
  Rd H a (.tup xs) ∨
    ∃ (o : Obj) (its : Array Value) (n : Nat), K.lookup a = some o ∧ o.cls = .type "tuple" ∧ o.data = .seq its n ∧ its.size ≤ sizeLine ∧ Vals xs its.toList
noncomputable def absV : Value → Option V
  | .none => some .non
  | .bool b => some (.bl b)
  | .int i _ => some (.int i)
  | .str x _ => some (.str x)
  | .bytes b _ => some (.byt b)
  | .float b _ => some (.flt b)
  | .ref a => some (.ref a)
  | .type n => some (.ty n)
  | _ => none
theorem RelV.abs {x : V} {u : Value} (r : RelV x u) : absV u = some x := by
  cases x with
  | non => cases r; rfl
  | bl _ => cases r; rfl
  | int _ => obtain ⟨t, rfl⟩ := r; rfl
  | str _ => obtain ⟨t, rfl⟩ := r; rfl
  | byt _ => obtain ⟨t, rfl⟩ := r; rfl
  | flt _ => obtain ⟨t, rfl⟩ := r; rfl
  | ref _ => cases r; rfl
  | ty _ => cases r; rfl
theorem RelV.inj {x y : V} {u : Value} (r : RelV x u) (q : RelV y u) : x = y := Option.some.inj (r.abs.symm.trans q.abs)
theorem Vals.inj : ∀ {xs ys : List V} {us : List Value}, Vals xs us → Vals ys us → xs = ys
  | _, _, _, .nil, .nil => rfl
  | _, _, _, .cons r t, .cons r' t' => by rw [r.inj r', Vals.inj t t']
section
variable {X : Cx} {pins : List (Addr × Obj)} {σ : St} {H : Hp} {s : Shared} {a : Addr} {xs ys : List V}
theorem SqL.of {K : PySem.W.Frag} (h : H a = some (.lst xs)) : SqL K H a xs := .inl (.inl h)
theorem SqT.of {K : PySem.W.Frag} (h : H a = some (.tup xs)) : SqT K H a xs := .inl (.inl h)
theorem Inv.list (I : Inv X pins σ H s) (h : SqL X.K H a xs) : ∃ its : List Value, Vals xs its ∧ PlainL s.heap a its.toArray ∧ xs.length ≤ sizeLine := by
  rcases h with h | ⟨o, its, n, hk, hc, hd, hs, hz, r⟩
  · obtain ⟨z, its, n, r, e⟩ := h.ok I.hok
    exact ⟨its, r, ⟨_, n, e, rfl, rfl, rfl⟩, z⟩
  · refine ⟨its.toList, r, ⟨o, n, I.kIn a o hk, hc, hd, by simpa using hs⟩, ?_⟩
    have e := r.length
    simp only [Array.length_toList] at e
    trivial
theorem Inv.tuple (I : Inv X pins σ H s) (h : SqT X.K H a xs) : ∃ its : List Value, Vals xs its ∧ IsTup s.heap a its.toArray ∧ xs.length ≤ sizeLine := by
  rcases h with h | ⟨o, its, n, hk, hc, hs, hz, r⟩
  · obtain ⟨z, its, r, p⟩ := h.ok I.hok
    exact ⟨its, r, p, z⟩
  · refine ⟨its.toList, r, ⟨o, I.kIn a o hk, hc, n, by simpa using hs⟩, ?_⟩
    have e := r.length
    simp only [Array.length_toList] at e
    trivial
theorem Inv.list_inj (I : Inv X pins σ H s) (h : SqL X.K H a xs) (h' : SqL X.K H a ys) : xs = ys := by
  obtain ⟨its, r, ⟨o, n, e, _, _, d⟩, _⟩ := I.list h
  obtain ⟨its', r', ⟨o', n', e', _, _, d'⟩, _⟩ := I.list h'
  rw [e] at e'; cases e'
  rw [d] at d'
  injection d' with d1 _
  have : its = its' := by simpa using congrArg Array.toList d1
  subst this
  exact r.inj r'
theorem Inv.tuple_inj (I : Inv X pins σ H s) (h : SqT X.K H a xs) (h' : SqT X.K H a ys) : xs = ys := by
  obtain ⟨its, r, ⟨o, e, _, n, d⟩, _⟩ := I.tuple h
  obtain ⟨its', r', ⟨o', e', _, n', d'⟩, _⟩ := I.tuple h'
  rw [e] at e'; cases e'
  rw [d] at d'
  injection d' with d1 _
  have : its = its' := by simpa using congrArg Array.toList d1
  subst this
  exact r.inj r'
end
noncomputable abbrev Cx.wish (X : Cx) (E : Value → Shared → Prop) : Cx := { X with xe := E }
noncomputable abbrev Cx.nox (X : Cx) : Cx := X.wish fun _ _ => False
theorem Cx.Ok.wish {X : Cx} (ok : X.Ok) (E : Value → Shared → Prop) : (X.wish E).Ok :=
  ⟨ok.mod, ok.kind, ok.glob, ok.blt, ok.above, ok.inj, ok.has, ok.cab, ok.hd, ok.frames, ok.stk, ok.exf, ok.bs, ok.bsz, ok.noex, ok.exfs, ok.funs, ok.frf⟩
theorem Cx.Ok.unwish {X : Cx} {E : Value → Shared → Prop} (ok : (X.wish E).Ok) : X.Ok :=
  ⟨ok.mod, ok.kind, ok.glob, ok.blt, ok.above, ok.inj, ok.has, ok.cab, ok.hd, ok.frames, ok.stk, ok.exf, ok.bs, ok.bsz, ok.noex, ok.exfs, ok.funs, ok.frf⟩
section
variable {X : Cx} {pins : List (Addr × Obj)} {σ : St} {H : Hp} {s : Shared} {E : Value → Shared → Prop}
theorem Inv.wish (I : Inv X pins σ H s) (E : Value → Shared → Prop) : Inv (X.wish E) pins σ H s := ⟨I.ok.wish E, I.os, I.bare, I.base, I.loc, I.cell, I.free, I.freeC, I.pin, I.hok, I.len⟩
theorem Inv.unwish (I : Inv (X.wish E) pins σ H s) : Inv X pins σ H s := ⟨I.ok.unwish, I.os, I.bare, I.base, I.loc, I.cell, I.free, I.freeC, I.pin, I.hok, I.len⟩
theorem SP.unwish {D : Ends} {f : Flow} {s' : Shared} (h : SP (X.wish E) pins D f s') : SP X pins D f s' := by
  cases f with
  | next => obtain ⟨σ', H', I, q⟩ := h; exact ⟨σ', H', I.unwish, q⟩
  | brk => obtain ⟨σ', H', I, q⟩ := h; exact ⟨σ', H', I.unwish, q⟩
  | cont => obtain ⟨σ', H', I, q⟩ := h; exact ⟨σ', H', I.unwish, q⟩
  | ret u => obtain ⟨v, σ', H', I, r, q⟩ := h; exact ⟨v, σ', H', I.unwish, r, q⟩
theorem PSs.nox {st : List Stmt} {t : TS} (h : PSs X.nox st t) : PSs X st t := fun pins s σ H D I hw =>
  wpAny_mono (h pins s σ H D (I.wish _) hw) (fun _ _ q => q.unwish) fun _ _ z => False.elim z
end
section
variable {X : Cx} {st : Stmt} {rest : List Stmt} {t u : TS} {e : Expr} {te : TE} {pos : Pos}
noncomputable def tNext : TS := fun D σ H => D.nx σ H
noncomputable def tSeq (t u : TS) : TS := fun D σ H => t { D with nx := u D } σ H
theorem pss_nil : PSs X [] tNext := fun _ _ σ H _ I h => wpAny_execs_nil ⟨σ, H, I, h⟩
theorem pss_cons (h1 : PS X st t) (h2 : PSs X rest u) : PSs X (st :: rest) (tSeq t u) := by
  intro pins s σ H D I h
  refine wpAny_execs_cons (thn (h1 pins s σ H { D with nx := u D } I h) fun f s1 q => ?_)
  cases f with
  | next =>
    obtain ⟨σ', H', I', q⟩ := q
    exact h2 pins s1 σ' H' D I' q
  | ret v => exact q
  | brk => exact q
  | cont => exact q
theorem pss_one (h1 : PS X st t) : PSs X [st] t := by
  intro pins s σ H D I h
  refine wpAny_execs_cons (thn (h1 pins s σ H D I h) fun f s1 q => ?_)
  cases f with
  | next => exact wpAny_execs_nil q
  | ret v => exact q
  | brk => exact q
  | cont => exact q
theorem Inv.quiet {pins : List (Addr × Obj)} {σ : St} {H : Hp} {s : Shared} (I : Inv X pins σ H s) : interactive X.env = false := by simp [interactive, I.ok.kind]
noncomputable def tDrop (te : TE) : TS := fun D σ H => te σ H fun _ H1 => D.nx σ H1
theorem ps_expr (he : PE X e te) (hs : swapsWith e none pos.line X.env = pure false := by rfl) : PS X (.Expr e pos) (tDrop te) := by
  intro pins s σ H D I h
  exact wpAny_Expr_any (thn (he pins s σ H _ I h) fun v s1 ⟨x, H1, I1, r1, q1⟩ => ⟨σ, H1, I1, q1⟩) I.quiet hs
noncomputable def tRet (te : TE) : TS := fun D σ H => te σ H D.rt
theorem ps_ret (he : PE X e te) : PS X (.Return (some e) pos) (tRet te) := by
  intro pins s σ H D I h
  exact wpAny_Return_some (thn (he pins s σ H _ I h) fun v s1 ⟨x, H1, I1, r1, q1⟩ => ⟨x, σ, H1, I1, r1, q1⟩)
noncomputable def tIfS (c : TT) (t u : TS) : TS := fun D σ H => c σ H fun b H1 => if b = true then t D σ H1 else u D σ H1
theorem ps_if {c : Expr} {a b : List Stmt} {tc : TT} (hc : PT X c tc) (ha : PSs X a t) (hb : PSs X b u) : PS X (.If c a b pos) (tIfS tc t u) := by
  intro pins s σ H D I h
  refine wpAny_If (thn (hc pins s σ H _ I h) fun d s1 ⟨H1, I1, q1⟩ => ?_)
  cases d with
  | true => exact ha pins s1 σ H1 D I1 q1
  | false => exact hb pins s1 σ H1 D I1 q1
end
noncomputable abbrev TG := V → St → Hp → (St → Hp → Prop) → Prop
noncomputable abbrev TGs := List V → St → Hp → (St → Hp → Prop) → Prop
noncomputable def PG (X : Cx) (target : Expr) (t : TG) : Prop :=
  ∀ (pins : List (Addr × Obj)) (s : Shared) (σ : St) (H : Hp) (v : V) (u : Value) (Q : St → Hp → Prop), Inv X pins σ H s → RelV v u → t v σ H Q →
    wpAny (model X.prog X.w) X.A (assign target X.env u) (fun _ s' => ∃ σ' H', Inv X pins σ' H' s' ∧ Q σ' H') X.xe s
noncomputable def PGs (X : Cx) (ts : List Expr) (t : TGs) : Prop :=
  ∀ (pins : List (Addr × Obj)) (s : Shared) (σ : St) (H : Hp) (vs : List V) (us : List Value) (Q : St → Hp → Prop), Inv X pins σ H s → Vals vs us → t vs σ H Q →
    wpAny (model X.prog X.w) X.A (assignInOrder ((assignEach ts X.env).map (·.2)) us) (fun _ s' => ∃ σ' H', Inv X pins σ' H' s' ∧ Q σ' H') X.xe s
noncomputable abbrev TSet := V → V → V → Hp → (Hp → Prop) → Prop
noncomputable def PSet (X : Cx) (t : TSet) : Prop :=
  ∀ (pins : List (Addr × Obj)) (s : Shared) (σ : St) (H : Hp) (o i v : V) (ov iv u : Value) (Q : Hp → Prop), Inv X pins σ H s → RelV o ov → RelV i iv → RelV v u → t o i v H Q →
    wpAny (model X.prog X.w) X.A (setItem ov iv u) (fun _ s' => ∃ H', Inv X pins σ H' s' ∧ Q H') X.xe s
section
variable {X : Cx} {pos : Pos}
noncomputable def gName (i : Nat) : TG := fun v σ H Q => Q (σ.set i (some v)) H
theorem pg_name {i : Nat} {x : Str} (hN : X.N.Nodup) (hi : X.N[i]? = some x) (hx : Loc X.env.scope x) (hf : X.fn x = true ∨ X.env.scope.names.lookup x = some .local := by first | exact .inl rfl | exact .inr rfl | assumption) : PG X (.Name x pos) (gName i) := by
  intro pins s σ H v u Q I r h
  exact wpAny_assign_Name (store_ok I hN hi hx r (fun s' I' => ⟨_, H, I', h⟩) hf)
noncomputable def gNil : TGs := fun vs σ H Q => vs = [] ∧ Q σ H
noncomputable def gCons (t : TG) (u : TGs) : TGs := fun vs σ H Q => ∃ v r, vs = v :: r ∧ t v σ H fun σ' H' => u r σ' H' Q
theorem pgs_nil : PGs X [] gNil := by
  intro pins s σ H vs us Q I r h
  obtain ⟨e, h⟩ := h
  subst e
  cases r
  exact assignInOrder_nil ⟨σ, H, I, h⟩
theorem pgs_cons {e : Expr} {es : List Expr} {t : TG} {u : TGs} (h1 : PG X e t) (h2 : PGs X es u)
    (hs : (assignEach (e :: es) X.env).map (·.2) = assign e X.env :: (assignEach es X.env).map (·.2) := by rfl) : PGs X (e :: es) (gCons t u) := by
  intro pins s σ H vs us Q I r h
  obtain ⟨v, vr, e1, h⟩ := h
  subst e1
  cases r with
  | cons r rr =>
    rw [hs]
    refine assignInOrder_cons (thn (h1 pins s σ H _ _ _ I r h) fun _ s1 ⟨σ1, H1, I1, q1⟩ => ?_)
    exact h2 pins s1 σ1 H1 _ _ Q I1 rr q1
noncomputable def gTup (K : PySem.W.Frag) (n : Nat) (t : TGs) : TG := fun v σ H Q => ∃ a xs, v = .ref a ∧ SqT K H a xs ∧ xs.length = n ∧ t xs σ H Q
theorem pg_tup {es : List Expr} {k : Nat} {t : TGs} {n : Nat} (hc : X.calm = true) (h : PGs X es t)
    (hn : (assignEach es X.env).length = n := by rfl) (hst : (assignEach es X.env).findIdx? (·.1) = none := by rfl) : PG X (.Tuple es k pos) (gTup X.K n t) := by
  intro pins s σ H v u Q I r hw
  obtain ⟨a, xs, e1, hq, hl, hw⟩ := hw
  subst e1
  cases r
  obtain ⟨its, rv, ht, hz⟩ := I.tuple hq
  refine assign_Tuple_tuple (I.ok.hd hc) ht (by simp [hn, ← hl, rv.length]) hst fun h' hx => ?_
  have I1 : Inv X pins σ H { s with heap := h' } := I.kept (t' := s.toks) fun b o e => hx b o (Nat.ne_of_lt (Heap.lt_size e)) e
  exact h pins _ σ H xs _ Q I1 (by simpa using rv) hw
noncomputable def gSub (to ti : TE) (t : TSet) : TG := fun v σ H Q => to σ H fun o H1 => ti σ H1 fun i H2 => t o i v H2 fun H3 => Q σ H3
theorem pg_sub {o i : Expr} {to ti : TE} {t : TSet} (ho : PE X o to) (hi : PE X i ti) (hs : PSet X t)
    (ha : ∀ v, assign (.Subscript o i pos) X.env v = (do
      let ov ← holding [v] (eval o X.env)
      let iv ← holding [v, ov] (eval i X.env)
      standAt pos
      holding [v, ov, iv] (setItem ov iv v)
      release [v, ov, iv] []) := by intro _; rfl) : PG X (.Subscript o i pos) (gSub to ti t) := by
  intro pins s σ H v u Q I r h
  rw [ha]
  refine wpAny_bind (wpAny_holding (thn (ho pins s σ H _ I h) fun ov s1 ⟨x, H1, I1, r1, q1⟩ => ?_))
  refine wpAny_bind (wpAny_holding (thn (hi pins s1 σ H1 _ I1 q1) fun iv s2 ⟨y, H2, I2, r2, q2⟩ => ?_))
  refine wpAny_bind (wpAny_standAt (wpAny_bind (wpAny_holding (thn (hs pins s2 σ H2 x y v ov iv u _ I2 r1 r2 r q2) fun _ s3 ⟨H3, I3, q3⟩ => ?_))))
  exact wpAny_release ⟨σ, H3, I3, q3⟩
noncomputable def tAsg (te : TE) (g : TG) : TS := fun D σ H => te σ H fun x H1 => g x σ H1 D.nx
theorem ps_asg {tg e : Expr} {te : TE} {g : TG} (he : PE X e te) (hg : PG X tg g) (hs : swapsWithSole [tg] e pos.line X.env = pure false := by rfl) (hw : swappedStores [tg] e X.env = pure none := by rfl)
    (h1 : (assignEach [tg] X.env).map (·.2) = [assign tg X.env] := by rfl) : PS X (.Assign [tg] e pos) (tAsg te g) := by
  intro pins s σ H D I h
  refine wpAny_Assign_stores (thn (he pins s σ H _ I h) fun v s1 ⟨x, H1, I1, r1, q1⟩ => ?_) hs hw
  rw [h1]
  exact thn (hg pins s1 σ H1 x v _ I1 r1 q1) fun _ s2 q => q
theorem ps_set {i : Nat} {x : Str} {e : Expr} {te : TE} {pos' : Pos} (hN : X.N.Nodup) (hi : X.N[i]? = some x) (hx : Loc X.env.scope x) (he : PE X e te) (hs : swapsWith e (some (.Name x pos')) pos.line X.env = pure false := by rfl) (hf : X.fn x = true ∨ X.env.scope.names.lookup x = some .local := by first | exact .inl rfl | exact .inr rfl | assumption) :
    PS X (.Assign [.Name x pos'] e pos) (tAsg te (gName i)) := by
  intro pins s σ H D I h
  refine wpAny_Assign_Name (thn (he pins s σ H _ I h) fun v s1 ⟨y, H1, I1, r1, q1⟩ => ?_) hs
  exact store_ok I1 hN hi hx r1 (fun s2 I2 => ⟨_, H1, I2, q1⟩) hf
end
section
variable {X : Cx} {pos : Pos}
noncomputable def tWhile (c : TT) (tb : TS) : TS := fun D σ H => ∃ W : Nat → St → Hp → Prop, (∃ m, W m σ H) ∧ ∀ m σ H, W m σ H →
  c σ H fun b H1 => if b = true then ∃ N : St → Hp → Prop, (∀ σ' H', N σ' H' → ∃ m', m' < m ∧ W m' σ' H') ∧ tb { D with nx := N, ct := N, bk := D.nx } σ H1 else D.nx σ H1
theorem ps_while {c : Expr} {body : List Stmt} {tc : TT} {tb : TS} (hp : PassesOwn (model X.prog X.w) X.A X.env X.xe) (hc : PT X c tc) (hb : PSs X body tb) : PS X (.While c body [] pos) (tWhile tc tb) := by
  intro pins s σ H D I h
  obtain ⟨W, ⟨m0, w0⟩, turn⟩ := h
  refine wpAny_While (codeAny_whileLoop (fun n s' => ∃ σ' H', Inv X pins σ' H' s' ∧ W n σ' H') ?_ m0 ⟨σ, H, I, w0⟩)
  rintro n s1 ⟨σ1, H1, I1, w1⟩
  refine wpAny_passesOwn hp (thn (hc pins s1 σ1 H1 _ I1 (turn n σ1 H1 w1)) fun b s2 ⟨H2, I2, q2⟩ => ?_)
  cases b with
  | true =>
    obtain ⟨N, hN, q2⟩ := q2
    rw [if_pos rfl]
    refine wpAny_passesOwn hp (thn (hb pins s2 σ1 H2 _ I2 q2) fun f s3 q3 => ?_)
    cases f with
    | next =>
      obtain ⟨σ3, H3, I3, n3⟩ := q3
      obtain ⟨m', hm, w3⟩ := hN σ3 H3 n3
      exact ⟨m', hm, σ3, H3, I3, w3⟩
    | cont =>
      obtain ⟨σ3, H3, I3, n3⟩ := q3
      obtain ⟨m', hm, w3⟩ := hN σ3 H3 n3
      exact ⟨m', hm, σ3, H3, I3, w3⟩
    | brk => exact q3
    | ret v => exact q3
  | false =>
    rw [if_neg Bool.false_ne_true]
    exact wpAny_execs_nil ⟨σ1, H2, I2, q2⟩
end
structure It where
  go : Nat → Hp → Prop
  yld : Nat → Hp → V → Hp → Prop
  stop : Nat → Hp → Prop
noncomputable def FpOk (X : Cx) (pins : List (Addr × Obj)) (H : Hp) (b : Addr) : Prop :=
  H b = none ∧ b ≠ X.env.locals ∧ b ∉ X.fs ∧ (b ∈ X.ex ∨ X.s₀.heap.objs.size ≤ b) ∧ (∀ x c, X.env.cells.lookup x = some c → c ≠ b) ∧ ∀ p ∈ X.pn ++ pins, p.1 ≠ b
theorem Inv.fpOk {X : Cx} {pins : List (Addr × Obj)} {σ : St} {H H' : Hp} {s : Shared} {b : Addr} (I : Inv X pins σ H s) (hb : s.heap.objs.size ≤ b) (hn : H' b = none) : FpOk X pins H' b := by
  refine ⟨hn, Nat.ne_of_gt (Nat.lt_of_lt_of_le I.lt hb), I.nofs hb, .inr (Nat.le_trans I.sz hb), fun x c e z => ?_, fun p hp z => ?_⟩
  · obtain ⟨v, q⟩ := I.cell x c e
    exact absurd (Nat.lt_of_lt_of_le q.lt (by rw [z]; exact hb)) (Nat.lt_irrefl _)
  · exact absurd (Nat.lt_of_lt_of_le (Heap.lt_size (I.pin p hp).1) (by rw [z]; exact hb)) (Nat.lt_irrefl _)
structure Turn (P : Program) (w : World) (K : PySem.W.Frag) (tg : Expr) (J : It) (fp : List Addr) (it : Addr) (tn : Nat → Heap → Prop) : Prop where
  mem : it ∈ fp
  obj : ∀ i h, tn i h → ∀ b ∈ fp, ∃ o, h.get? b = some o ∧ ∀ v, o.data ≠ .cell v
  keep : ∀ i h h', tn i h → (∀ b ∈ fp, ∀ o, h.get? b = some o → h'.get? b = some o) → tn i h'
  item : ∀ (X : Cx), X.prog = P → X.w = w → X.K = K → X.calm = true → ∀ (i : Nat) (pins : List (Addr × Obj)) (s : Shared) (σ : St) (H : Hp) (E : Value → Shared → Prop), Inv X pins σ H s → (∀ b ∈ fp, FpOk X pins H b) → tn i s.heap → J.go i H →
    wpAny (model P w) X.A (pyNext (.ref it)) (fun r s1 => ∃ u, r = some u ∧
      wpAny (model P w) X.A (letOwnedTupleGo tg (.ref it) u) (fun _ s2 => ∃ x H', Inv X pins σ H' s2 ∧ RelV x u ∧ J.yld i H x H' ∧ tn (i + 1) s2.heap ∧ ∀ b ∈ fp, H' b = none) E s1) E s
  done : ∀ (X : Cx), X.prog = P → X.w = w → X.K = K → X.calm = true → ∀ (i : Nat) (pins : List (Addr × Obj)) (s : Shared) (σ : St) (H : Hp) (E : Value → Shared → Prop), Inv X pins σ H s → (∀ b ∈ fp, FpOk X pins H b) → tn i s.heap → J.stop i H →
    wpAny (model P w) X.A (pyNext (.ref it)) (fun r s1 => r = none ∧ Inv X pins σ H s1) E s
  self : ∀ (A : Around) (i : Nat) (s : Shared) (Q : Value → Shared → Prop) (E : Value → Shared → Prop), tn i s.heap → Q (.ref it) s → wpAny (model P w) A (pyIter (.ref it)) Q E s
noncomputable abbrev TI := St → Hp → (It → Hp → Prop) → Prop
noncomputable def PIE (X : Cx) (pins : List (Addr × Obj)) (σ : St) (tg : Expr) (R : It → Hp → Prop) (itv : Value) (s2 : Shared) : Prop :=
  ∃ (it : Addr) (fp : List Addr) (tn : Nat → Heap → Prop) (J : It) (H' : Hp), itv = .ref it ∧ Inv X pins σ H' s2 ∧ Turn X.prog X.w X.K tg J fp it tn ∧ tn 0 s2.heap ∧ (∀ b ∈ fp, FpOk X pins H' b) ∧ R J H'
noncomputable def PI (X : Cx) (tg iter : Expr) (wi : TI) : Prop :=
  ∀ (pins : List (Addr × Obj)) (s : Shared) (σ : St) (H : Hp) (R : It → Hp → Prop), Inv X pins σ H s → wi σ H R →
    wpAny (model X.prog X.w) X.A (eval iter X.env) (fun v s1 => wpAny (model X.prog X.w) X.A (pyIter v) (PIE X pins σ tg R) X.xe s1) X.xe s
theorem go_of {M : Model} {A : Around} {E : Value → Shared → Prop} {s : Shared} {tg : Expr} {it : Addr} {u : Value} {o : Obj} {n : String} {vs : Array Value} {Q : Unit → Shared → Prop} (ho : s.heap.get? it = some o) (hc : o.cls = .type n) (hd : o.data = .fields vs)
    (hn : ["enumerate", "zip", "dict_itemiterator", "dict_reverseitemiterator", "odict_iterator", "itertools.zip_longest", "itertools.pairwise"].contains n = false) (hQ : Q () s) : wpAny M A (letOwnedTupleGo tg (.ref it) u) Q E s := by
  unfold letOwnedTupleGo
  cases tg <;> first
    | exact wpAny_pure hQ
    | (cases u <;> first
        | exact wpAny_pure hQ
        | (refine wpAny_bind (wpAny_load ho ?_)
           rw [hc, hd]
           show wpAny M A (if (["enumerate", "zip", "dict_itemiterator", "dict_reverseitemiterator", "odict_iterator", "itertools.zip_longest", "itertools.pairwise"].contains n && vs[0]? == some (rawInt _)) = true then _ else _) Q E s
           rw [if_neg (by intro h; rw [hn, Bool.false_and] at h; cases h)]
           exact wpAny_pure hQ))
noncomputable def Itl (K : PySem.W.Frag) (a : Addr) : It :=
  ⟨fun i H => ∃ xs x, SqL K H a xs ∧ xs[i]? = some x, fun i H x H' => H' = H ∧ ∀ xs, SqL K H a xs → xs[i]? = some x, fun i H => ∃ xs, SqL K H a xs ∧ xs.length ≤ i⟩
noncomputable def Itt (K : PySem.W.Frag) (a : Addr) : It :=
  ⟨fun i H => ∃ xs x, SqT K H a xs ∧ xs[i]? = some x, fun i H x H' => H' = H ∧ ∀ xs, SqT K H a xs → xs[i]? = some x, fun i H => ∃ xs, SqT K H a xs ∧ xs.length ≤ i⟩
noncomputable def Itr (lo : Int) (n : Nat) : It := ⟨fun i _ => i < n, fun i H x H' => H' = H ∧ x = .int (lo + i), fun i _ => n ≤ i⟩
theorem turn_list {P : Program} {w : World} {K : PySem.W.Frag} {tg : Expr} (a it : Addr) : Turn P w K tg (Itl K a) [it] it (fun i h => h.IsListIter it a i) where
  mem := by simp
  obj := fun i h st b hb => by
    have e : b = it := by simpa using hb
    subst e
    obtain ⟨o, e, c, d⟩ := st
    exact ⟨o, e, fun v z => by rw [d] at z; cases z⟩
  keep := fun i h h' st k => st.at fun o e => k it (by simp) o e
  item := by
    intro X hP hw hK hc i pins s σ H E I hf st hg
    subst hP hw hK
    obtain ⟨xs, x, hq, hx⟩ := hg
    obtain ⟨its, rv, p, hz⟩ := I.list hq
    obtain ⟨u, hu, ru⟩ := rv.get hx
    obtain ⟨f0, f1, f2, f3, f4, f5⟩ := hf it (by simp)
    refine wpAny_pyNext_list_item st p.isList (x := u) (by simpa using hu) fun h' st' sb => ?_
    have I1 : Inv X pins σ H { s with heap := h' } := I.turned (t' := s.toks) (fun b o hb e => (sb.2 b hb).trans e) f0 f1 f3 f4 f5
    obtain ⟨o, e, c, d⟩ := id st'
    exact ⟨u, rfl, go_of (s := { s with heap := h' }) e c d (by decide) ⟨x, H, I1, ru, ⟨rfl, fun ys hy => by rw [I.list_inj hy hq]; exact hx⟩, st', fun b hb => (hf b hb).1⟩⟩
  done := by
    intro X hP hw hK hc i pins s σ H E I hf st hg
    subst hP hw hK
    obtain ⟨xs, hq, hx⟩ := hg
    obtain ⟨its, rv, p, hz⟩ := I.list hq
    obtain ⟨f0, f1, f2, f3, f4, f5⟩ := hf it (by simp)
    have hl := rv.length
    exact wpAny_pyNext_list_end (I.ok.hd hc) st p.isList (by simp; trivial) fun h' eb => ⟨rfl, I.turned (t' := s.toks) (fun b o hb e => eb b o hb e) f0 f1 f3 f4 f5⟩
  self := fun _ _ _ _ _ st h => wpAny_pyIter_listiter st h
theorem turn_tuple {P : Program} {w : World} {K : PySem.W.Frag} {tg : Expr} (a it : Addr) : Turn P w K tg (Itt K a) [it] it (fun i h => h.IsTupleIter it a i) where
  mem := by simp
  obj := fun i h st b hb => by
    have e : b = it := by simpa using hb
    subst e
    obtain ⟨o, e, c, d⟩ := st
    exact ⟨o, e, fun v z => by rw [d] at z; cases z⟩
  keep := fun i h h' st k => st.at fun o e => k it (by simp) o e
  item := by
    intro X hP hw hK hc i pins s σ H E I hf st hg
    subst hP hw hK
    obtain ⟨xs, x, hq, hx⟩ := hg
    obtain ⟨its, rv, p, hz⟩ := I.tuple hq
    obtain ⟨u, hu, ru⟩ := rv.get hx
    obtain ⟨f0, f1, f2, f3, f4, f5⟩ := hf it (by simp)
    refine wpAny_pyNext_tuple_item st (show s.heap.IsTuple a its.toArray from p) (x := u) (by simpa using hu) fun h' st' sb => ?_
    have I1 : Inv X pins σ H { s with heap := h' } := I.turned (t' := s.toks) (fun b o hb e => (sb.2 b hb).trans e) f0 f1 f3 f4 f5
    obtain ⟨o, e, c, d⟩ := id st'
    exact ⟨u, rfl, go_of (s := { s with heap := h' }) e c d (by decide) ⟨x, H, I1, ru, ⟨rfl, fun ys hy => by rw [I.tuple_inj hy hq]; exact hx⟩, st', fun b hb => (hf b hb).1⟩⟩
  done := by
    intro X hP hw hK hc i pins s σ H E I hf st hg
    subst hP hw hK
    obtain ⟨xs, hq, hx⟩ := hg
    obtain ⟨its, rv, p, hz⟩ := I.tuple hq
    obtain ⟨f0, f1, f2, f3, f4, f5⟩ := hf it (by simp)
    have hl := rv.length
    exact wpAny_pyNext_tuple_end (I.ok.hd hc) st (show s.heap.IsTuple a its.toArray from p) (by simp; trivial) fun h' eb => ⟨rfl, I.turned (t' := s.toks) (fun b o hb e => eb b o hb e) f0 f1 f3 f4 f5⟩
  self := fun _ _ _ _ _ st h => wpAny_pyIter_tupleiter st h
theorem turn_range {P : Program} {w : World} {K : PySem.W.Frag} {tg : Expr} (it : Addr) (lo : Int) (n : Nat) : Turn P w K tg (Itr lo n) [it] it (fun i h => IsRangeIter h it (lo + (i : Nat) * 1) ((n : Int) - (i : Nat)) 1) where
  mem := by simp
  obj := fun i h st b hb => by
    have e : b = it := by simpa using hb
    subst e
    exact ⟨_, st, fun v z => by
      have z' : Data.fields _ = Data.cell v := z
      cases z'⟩
  keep := fun i h h' st k => k it (by simp) _ st
  item := by
    intro X hP hw hK hc i pins s σ H E I hf st hg
    subst hP hw hK
    obtain ⟨f0, f1, f2, f3, f4, f5⟩ := hf it (by simp)
    have W := Walks.range (prog := X.prog) (w := X.w) (I.ok.hd hc) it lo 1 n
    refine W.item i s _ _ hg st fun v h' tk hv st' kk => ?_
    obtain ⟨t, rfl⟩ := hv
    have I1 : Inv X pins σ H { s with heap := h', toks := tk } := I.turned (fun b o hb e => kk b o (by simpa using hb) e) f0 f1 f3 f4 f5
    refine ⟨_, rfl, go_of (s := { s with heap := h', toks := tk }) (n := "range_iterator") st' rfl rfl (by decide) ⟨.int (lo + i), H, I1, ⟨t, ?_⟩, ⟨rfl, rfl⟩, st', fun b hb => (hf b hb).1⟩⟩
    rw [Int.mul_one]
  done := by
    intro X hP hw hK hc i pins s σ H E I hf st hg
    subst hP hw hK
    obtain ⟨f0, f1, f2, f3, f4, f5⟩ := hf it (by simp)
    exact wpAny_pyNext_range_end (I.ok.hd hc) st (by have : n ≤ i := hg; trivial) fun h' eb => ⟨rfl, I.turned (t' := s.toks) (fun b o hb e => eb b o hb e) f0 f1 f3 f4 f5⟩
  self := fun _ _ _ _ _ st h => wpAny_pyIter_rangeiter st h
end L2
namespace L2
open PySem PySem.Spec PyProof.Rows
section
variable {X : Cx} {tg : Expr}
noncomputable def iList (K : PySem.W.Frag) (tl : TE) : TI := fun σ H R => tl σ H fun x H1 => ∃ a, x = .ref a ∧ (∃ xs, SqL K H1 a xs) ∧ R (Itl K a) H1
noncomputable def iTup (K : PySem.W.Frag) (tl : TE) : TI := fun σ H R => tl σ H fun x H1 => ∃ a, x = .ref a ∧ (∃ xs, SqT K H1 a xs) ∧ R (Itt K a) H1
theorem pi_list {l : Expr} {tl : TE} (hl : PE X l tl) : PI X tg l (iList X.K tl) := by
  intro pins s σ H R I h
  refine thn (hl pins s σ H _ I h) fun v s1 ⟨x, H1, I1, r1, q1⟩ => ?_
  obtain ⟨a, e, ⟨xs, hq⟩, q⟩ := q1
  subst e
  cases r1
  obtain ⟨its, rv, p, hz⟩ := I1.list hq
  refine wpAny_pyIter_list p.isList ?_
  refine ⟨s1.heap.objs.size, [s1.heap.objs.size], _, _, H1, rfl, I1.kept (t' := s1.toks) fun b o e => Heap.get?_push_of_some _ e, turn_list a _, ⟨_, Heap.get?_push_size _ rfl, rfl, rfl⟩, fun b hb => ?_, q⟩
  have e : b = s1.heap.objs.size := by simpa using hb
  subst e
  exact I1.fpOk (Nat.le_refl _) (I1.hok.fresh (Nat.le_refl _))
theorem pi_tup {l : Expr} {tl : TE} (hl : PE X l tl) : PI X tg l (iTup X.K tl) := by
  intro pins s σ H R I h
  refine thn (hl pins s σ H _ I h) fun v s1 ⟨x, H1, I1, r1, q1⟩ => ?_
  obtain ⟨a, e, ⟨xs, hq⟩, q⟩ := q1
  subst e
  cases r1
  obtain ⟨its, rv, p, hz⟩ := I1.tuple hq
  refine wpAny_pyIter_tuple (show s1.heap.IsTuple a its.toArray from p) ?_
  refine ⟨s1.heap.objs.size, [s1.heap.objs.size], _, _, H1, rfl, I1.kept (t' := s1.toks) fun b o e => Heap.get?_push_of_some _ e, turn_tuple a _, ⟨_, Heap.get?_push_size _ rfl, rfl, rfl⟩, fun b hb => ?_, q⟩
  have e : b = s1.heap.objs.size := by simpa using hb
  subst e
  exact I1.fpOk (Nat.le_refl _) (I1.hok.fresh (Nat.le_refl _))
theorem range_it {pins : List (Addr × Obj)} {σ : St} {H : Hp} {s : Shared} {R : It → Hp → Prop} {E : Value → Shared → Prop} {lo hi : Int} {t u v : Tok} {tk : Nat} (I : Inv X pins σ H s) (h1 : -(2 ^ 62) ≤ lo) (h2 : lo < 2 ^ 62) (h3 : -(2 ^ 62) ≤ hi) (h4 : hi < 2 ^ 62)
    (q : R (Itr lo (hi - lo).toNat) H) : wpAny (model X.prog X.w) X.A (pyIter (.ref s.heap.objs.size)) (PIE X pins σ tg R) E { s with heap := s.heap.push { cls := .type "range", data := .fields #[.int lo t, .int hi u, .int 1 v] }, toks := tk } := by
  refine wpAny_pyIter_range (IsRange.new ..) (small_one h1 h2 h3 h4) ?_
  have I1 : Inv X pins σ H { s with heap := s.heap.push { cls := .type "range", data := .fields #[.int lo t, .int hi u, .int 1 v] }, toks := tk } := I.kept fun b o e => Heap.get?_push_of_some _ e
  refine ⟨(s.heap.push { cls := .type "range", data := .fields #[.int lo t, .int hi u, .int 1 v] }).objs.size, [(s.heap.push { cls := .type "range", data := .fields #[.int lo t, .int hi u, .int 1 v] }).objs.size], _, _, H, rfl,
    I1.kept (t' := tk) fun b o e => Heap.get?_push_of_some _ e, turn_range _ lo (hi - lo).toNat, ?_, fun b hb => ?_, q⟩
  · have e1 : lo + ((0 : Nat) : Int) * 1 = lo := by simp
    have e2 : (((hi - lo).toNat : Nat) : Int) - ((0 : Nat) : Int) = Builtin.Range.rangeSize lo hi 1 := by rw [rangeSize_one]; split <;> trivial
    show IsRangeIter _ _ (lo + ((0 : Nat) : Int) * 1) ((((hi - lo).toNat : Nat) : Int) - ((0 : Nat) : Int)) 1
    rw [e1, e2]
    exact Heap.get?_push_size _ rfl
  · have e : b = (s.heap.push { cls := .type "range", data := .fields #[.int lo t, .int hi u, .int 1 v] }).objs.size := by simpa using hb
    subst e
    exact I1.fpOk (Nat.le_refl _) (I1.hok.fresh (Nat.le_refl _))
noncomputable def iRng2 (ta : TA) : TI := fun σ H R => ta σ H fun vs H1 => ∃ i j : Int, vs = [.int i, .int j] ∧ (-(2 ^ 62) ≤ i ∧ i < 2 ^ 62 ∧ -(2 ^ 62) ≤ j ∧ j < 2 ^ 62) ∧ R (Itr i (j - i).toNat) H1
theorem pi_range2 {a b : Expr} {ta : TA} {p pos : Pos} (hg : Gl X "range") (hm : X.mg "range" = none) (ha : PA X [a, b] ta) (hs : starEach [a, b] X.env = [(false, eval a X.env), (false, eval b X.env)] := by rfl) (hs2 : starEach [b] X.env = [(false, eval b X.env)] := by rfl) :
    PI X tg (.Call (.Name "range" p) [a, b] [] pos) (iRng2 ta) := by
  intro pins s σ H R I h
  refine Call_ (ld_blt I hg hm boot_range (PyProof.Rows.callWith_type1 (thn (ha pos pins s σ H _ I h) fun us s1 ⟨vs, H1, I1, r1, q1⟩ => ?_) (by rw [hs, hs2]) (by rw [hs2]; rfl)))
  obtain ⟨i, j, e, ⟨q1, q2, q3, q4⟩, q⟩ := q1
  subst e
  cases r1 with
  | cons r rr =>
    cases rr with
    | cons r' rr =>
      cases rr
      obtain ⟨t, rfl⟩ := r
      obtain ⟨t', rfl⟩ := r'
      exact call_range_2 (range_it I1 q1 q2 q3 q4 q)
noncomputable def tFor (wi : TI) (g : TG) (tb : TS) : TS := fun D σ H => wi σ H fun J H1 => ∃ W : Nat → Nat → St → Hp → Prop, (∃ m, W 0 m σ H1) ∧ ∀ i m σ H, W i m σ H →
  (J.stop i H ∧ D.nx σ H) ∨ (J.go i H ∧ ∃ N : St → Hp → Prop, (∀ σ' H', N σ' H' → ∃ m', m' < m ∧ W (i + 1) m' σ' H') ∧ ∀ x H', J.yld i H x H' → g x σ H' fun σ2 H2 => tb { D with nx := N, ct := N, bk := D.nx } σ2 H2)
noncomputable def pinsAt (fp : List Addr) (h : Heap) : List (Addr × Obj) := fp.filterMap fun b => (h.get? b).map fun o => (b, o)
theorem mem_pinsAt {fp : List Addr} {h : Heap} {b : Addr} {o : Obj} (hb : b ∈ fp) (e : h.get? b = some o) : (b, o) ∈ pinsAt fp h := List.mem_filterMap.mpr ⟨b, hb, by rw [e]; rfl⟩
theorem of_pinsAt {fp : List Addr} {h : Heap} {p : Addr × Obj} (hp : p ∈ pinsAt fp h) : p.1 ∈ fp ∧ h.get? p.1 = some p.2 := by
  obtain ⟨b, hb, e⟩ := List.mem_filterMap.mp hp
  cases q : h.get? b with
  | none => rw [q] at e; cases e
  | some o =>
    rw [q] at e
    have e' : (b, o) = p := Option.some.inj e
    subst e'
    exact ⟨hb, q⟩
theorem Inv.pinned {pins : List (Addr × Obj)} {σ : St} {H : Hp} {s : Shared} {fp : List Addr} (I : Inv X pins σ H s) (hf : ∀ b ∈ fp, FpOk X pins H b) (ho : ∀ b ∈ fp, ∃ o, s.heap.get? b = some o ∧ ∀ v, o.data ≠ .cell v) : Inv X (pins ++ pinsAt fp s.heap) σ H s :=
  I.pins_of fun p hp => (List.mem_append.mp hp).elim (fun z => I.pin p (List.mem_append_right _ z)) fun z => by
    obtain ⟨hb, e⟩ := of_pinsAt z
    obtain ⟨f0, f1, f2, _⟩ := hf p.1 hb
    obtain ⟨o, e', d⟩ := ho p.1 hb
    rw [e] at e'; cases e'
    exact ⟨e, f0, f1, f2, d⟩
theorem Inv.unpinned {pins pl : List (Addr × Obj)} {σ : St} {H : Hp} {s : Shared} (I : Inv X (pins ++ pl) σ H s) : Inv X pins σ H s := I.pins_of fun p hp => I.pin p (List.mem_append_right _ (List.mem_append_left _ hp))
theorem ps_for {iter : Expr} {body : List Stmt} {wi : TI} {g : TG} {tb : TS} {pos : Pos} (hp : PassesOwn (model X.prog X.w) X.A X.env X.xe) (hc : X.calm = true) (hi : PI X tg iter wi) (hg : PG X tg g) (hb : PSs X body tb)
    (hs : ∀ x, foldedSetIterable iter X.env x = pure x := by intro _; rfl) : PS X (.For tg iter body [] pos) (tFor wi g tb) := by
  intro pins s σ H D I h
  refine wpAny_For (thn (hi pins s σ H _ I h) fun v s1 h1 => thn h1 fun itv s2 h2 => ?_) hs
  obtain ⟨it, fp, tn, J, H2, e, I2, T, st2, f2, W, ⟨m0, w0⟩, turn⟩ := h2
  subst e
  -- what stays true of the iterator's objects through the loop
  have stat : ∀ {H' : Hp}, (∀ b ∈ fp, H' b = none) → ∀ b ∈ fp, FpOk X pins H' b := fun hn b hb => ⟨hn b hb, (f2 b hb).2⟩
  refine codeAny_forLoop_any (fun n s' => ∃ i σ' H', Inv X pins σ' H' s' ∧ tn i s'.heap ∧ (∀ b ∈ fp, H' b = none) ∧ W i n σ' H') ?_ m0 ⟨0, σ, H2, I2, st2, fun b hb => (f2 b hb).1, w0⟩
  rintro n s3 ⟨i, σ3, H3, I3, st3, fr3, w3⟩
  rcases turn i n σ3 H3 w3 with ⟨stop, qn⟩ | ⟨go, N, hN, step⟩
  · refine wpAny_passesOwn hp (thn (T.done X rfl rfl rfl hc i pins s3 σ3 H3 X.xe I3 (stat fr3) st3 stop) fun r s4 ⟨hr, I4⟩ => ?_)
    subst hr
    exact wpAny_execs_nil ⟨σ3, H3, I4, qn⟩
  · refine wpAny_passesOwn hp (thn (T.item X rfl rfl rfl hc i pins s3 σ3 H3 X.xe I3 (stat fr3) st3 go) fun r s4 ⟨u, hr, h4⟩ => ?_)
    subst hr
    refine wpAny_passesOwn hp (thn h4 fun _ s5 ⟨x, H5, I5, r5, y5, st5, fr5⟩ => ?_)
    have I5' := I5.pinned (stat fr5) (T.obj _ _ st5)
    refine wpAny_passesOwn hp (thn (hg _ s5 σ3 H5 x u _ I5' r5 (step x H5 y5)) fun _ s6 ⟨σ6, H6, I6, q6⟩ => ?_)
    refine wpAny_passesOwn hp (thn (hb _ s6 σ6 H6 _ I6 q6) fun f s7 q7 => ?_)
    have again : ∀ {σ7 : St} {H7 : Hp}, Inv X (pins ++ pinsAt fp s5.heap) σ7 H7 s7 → N σ7 H7 → ∃ m, m < n ∧ ∃ i σ' H', Inv X pins σ' H' s7 ∧ tn i s7.heap ∧ (∀ b ∈ fp, H' b = none) ∧ W i m σ' H' := fun {σ7 H7} I7 n7 => by
      obtain ⟨m', hm, w7⟩ := hN σ7 H7 n7
      refine ⟨m', hm, i + 1, σ7, H7, I7.unpinned, T.keep _ _ _ st5 fun b hb o e => (I7.pin (b, o) (List.mem_append_right _ (List.mem_append_right _ (mem_pinsAt hb e)))).1, fun b hb => ?_, w7⟩
      obtain ⟨o, e, d⟩ := T.obj _ _ st5 b hb
      exact (I7.pin (b, o) (List.mem_append_right _ (List.mem_append_right _ (mem_pinsAt hb e)))).2.1
    cases f with
    | next => obtain ⟨σ7, H7, I7, n7⟩ := q7; exact again I7 n7
    | cont => obtain ⟨σ7, H7, I7, n7⟩ := q7; exact again I7 n7
    | brk => obtain ⟨σ7, H7, I7, q7⟩ := q7; exact ⟨σ7, H7, I7.unpinned, q7⟩
    | ret v => obtain ⟨x7, σ7, H7, I7, r7, q7⟩ := q7; exact ⟨x7, σ7, H7, I7.unpinned, r7, q7⟩
end
theorem for_list {K : PySem.W.Frag} {a : Addr} {xs : List V} {g : TG} {tb : TS} {D : Ends} {σ : St} {H : Hp} (Pv : Nat → St → Hp → Prop) (h0 : Pv 0 σ H) (hl : ∀ i σ H, i ≤ xs.length → Pv i σ H → SqL K H a xs)
    (hs : ∀ i x σ H, xs[i]? = some x → Pv i σ H → g x σ H fun σ2 H2 => tb { D with nx := Pv (i + 1), ct := Pv (i + 1), bk := D.nx } σ2 H2) (hd : ∀ σ H, Pv xs.length σ H → D.nx σ H) :
    ∃ W : Nat → Nat → St → Hp → Prop, (∃ m, W 0 m σ H) ∧ ∀ i m σ H, W i m σ H →
      ((Itl K a).stop i H ∧ D.nx σ H) ∨ ((Itl K a).go i H ∧ ∃ N : St → Hp → Prop, (∀ σ' H', N σ' H' → ∃ m', m' < m ∧ W (i + 1) m' σ' H') ∧ ∀ x H', (Itl K a).yld i H x H' → g x σ H' fun σ2 H2 => tb { D with nx := N, ct := N, bk := D.nx } σ2 H2) := by
  refine ⟨fun i m σ H => m = xs.length - i ∧ i ≤ xs.length ∧ Pv i σ H, ⟨xs.length, by simp, Nat.zero_le _, h0⟩, ?_⟩
  rintro i m σ H ⟨rfl, hi, p⟩
  have q := hl i σ H hi p
  by_cases hlt : i < xs.length
  · refine .inr ⟨⟨xs, xs[i], q, by simp [hlt]⟩, Pv (i + 1), fun σ' H' p' => ⟨xs.length - (i + 1), by trivial, rfl, hlt, p'⟩, fun x H' y => ?_⟩
    obtain ⟨e, y⟩ := y
    subst e
    exact hs i x σ _ (y xs q) p
  · have e : i = xs.length := by trivial
    subst e
    exact .inl ⟨⟨xs, q, Nat.le_refl _⟩, hd σ H p⟩
theorem for_tup {K : PySem.W.Frag} {a : Addr} {xs : List V} {g : TG} {tb : TS} {D : Ends} {σ : St} {H : Hp} (Pv : Nat → St → Hp → Prop) (h0 : Pv 0 σ H) (hl : ∀ i σ H, i ≤ xs.length → Pv i σ H → SqT K H a xs)
    (hs : ∀ i x σ H, xs[i]? = some x → Pv i σ H → g x σ H fun σ2 H2 => tb { D with nx := Pv (i + 1), ct := Pv (i + 1), bk := D.nx } σ2 H2) (hd : ∀ σ H, Pv xs.length σ H → D.nx σ H) :
    ∃ W : Nat → Nat → St → Hp → Prop, (∃ m, W 0 m σ H) ∧ ∀ i m σ H, W i m σ H →
      ((Itt K a).stop i H ∧ D.nx σ H) ∨ ((Itt K a).go i H ∧ ∃ N : St → Hp → Prop, (∀ σ' H', N σ' H' → ∃ m', m' < m ∧ W (i + 1) m' σ' H') ∧ ∀ x H', (Itt K a).yld i H x H' → g x σ H' fun σ2 H2 => tb { D with nx := N, ct := N, bk := D.nx } σ2 H2) := by
  refine ⟨fun i m σ H => m = xs.length - i ∧ i ≤ xs.length ∧ Pv i σ H, ⟨xs.length, by simp, Nat.zero_le _, h0⟩, ?_⟩
  rintro i m σ H ⟨rfl, hi, p⟩
  have q := hl i σ H hi p
  by_cases hlt : i < xs.length
  · refine .inr ⟨⟨xs, xs[i], q, by simp [hlt]⟩, Pv (i + 1), fun σ' H' p' => ⟨xs.length - (i + 1), by trivial, rfl, hlt, p'⟩, fun x H' y => ?_⟩
    obtain ⟨e, y⟩ := y
    subst e
    exact hs i x σ _ (y xs q) p
  · have e : i = xs.length := by trivial
    subst e
    exact .inl ⟨⟨xs, q, Nat.le_refl _⟩, hd σ H p⟩
end L2
namespace L2
open PySem PySem.Spec PyProof.Rows
noncomputable abbrev R2 := V → V → Hp → VK → Prop
noncomputable def OpR (X : Cx) (f : Value → Value → Sem Value) (r : R2) : Prop :=
  ∀ (pins : List (Addr × Obj)) (s : Shared) (σ : St) (H : Hp) (x y : V) (v u : Value) (Q : VK), Inv X pins σ H s → RelV x v → RelV y u → r x y H Q →
    wpAny (model X.prog X.w) X.A (f v u) (EP X pins σ Q) X.xe s
noncomputable def UnR (X : Cx) (f : Value → Sem Value) (r : V → Hp → VK → Prop) : Prop :=
  ∀ (pins : List (Addr × Obj)) (s : Shared) (σ : St) (H : Hp) (x : V) (v : Value) (Q : VK), Inv X pins σ H s → RelV x v → r x H Q →
    wpAny (model X.prog X.w) X.A (f v) (EP X pins σ Q) X.xe s
noncomputable def CallR (X : Cx) (f : Value) (r : List V → Hp → VK → Prop) : Prop :=
  ∀ (pins : List (Addr × Obj)) (s : Shared) (σ : St) (H : Hp) (xs : List V) (us : List Value) (Q : VK), Inv X pins σ H s → Vals xs us → r xs H Q →
    wpAny (model X.prog X.w) X.A (call f us) (EP X pins σ Q) X.xe s
noncomputable def tOp (r : R2) (ta tb : TE) : TE := fun σ H Q => ta σ H fun x H1 => tb σ H1 fun y H2 => r x y H2 Q
noncomputable def tUn (r : V → Hp → VK → Prop) (ta : TE) : TE := fun σ H Q => ta σ H fun x H1 => r x H1 Q
noncomputable def rI (C : Int → Int → Prop) (g : Int → Int → V) : R2 := fun x y H Q => ∃ i j, x = .int i ∧ y = .int j ∧ C i j ∧ Q (g i j) H
noncomputable def rI0 (g : Int → Int → V) : R2 := fun x y H Q => ∃ i j, x = .int i ∧ y = .int j ∧ Q (g i j) H
noncomputable def rU (g : Int → V) : V → Hp → VK → Prop := fun x H Q => ∃ i, x = .int i ∧ Q (g i) H
section
variable {X : Cx} {a b c : Expr} {ta tb tc : TE} {pos : Pos}
theorem binT (ha : PE X a ta) (hb : PE X b tb) {pins : List (Addr × Obj)} {s : Shared} {σ : St} {H : Hp} {R : V → V → Hp → Prop} (I : Inv X pins σ H s)
    (h : ta σ H fun x H1 => tb σ H1 fun y H2 => R x y H2) {Q : Value → Shared → Prop} {f : Value → Value → Sem Value}
    (hf : ∀ v u s2 x y H2, Inv X pins σ H2 s2 → RelV x v → RelV y u → R x y H2 → wpAny (model X.prog X.w) X.A (f v u) Q X.xe s2) :
    wpAny (model X.prog X.w) X.A (eval a X.env) (fun v s₁ => wpAny (model X.prog X.w) X.A (eval b X.env) (fun u s₂ => wpAny (model X.prog X.w) X.A (f v u) Q X.xe s₂) X.xe s₁) X.xe s := by
  refine thn (ha pins s σ H _ I h) fun v s1 ⟨x, H1, I1, r1, q1⟩ => ?_
  refine thn (hb pins s1 σ H1 _ I1 q1) fun u s2 ⟨y, H2, I2, r2, q2⟩ => ?_
  exact hf v u s2 x y H2 I2 r1 r2 q2
theorem pe_op {op : Operator} {r : R2} (ho : OpR X (binaryOp op) r) (ha : PE X a ta) (hb : PE X b tb) : PE X (.BinOp a op b pos) (tOp r ta tb) := by
  intro pins s σ H Q I h
  exact wpAny_BinOp (binT ha hb I h fun v u s2 x y H2 I2 rx ry q => ho pins s2 σ H2 x y v u Q I2 rx ry q)
theorem pe_un {op : UnaryOp} {r : V → Hp → VK → Prop} (ho : UnR X (unaryOp op) r) (ha : PE X a ta) : PE X (.UnaryOp op a pos) (tUn r ta) := by
  intro pins s σ H Q I h
  exact UnaryOp_ (thn (ha pins s σ H _ I h) fun v s1 ⟨x, H1, I1, r1, q1⟩ => ho pins s1 σ H1 x v Q I1 r1 q1)
theorem opI {f : Value → Value → Sem Value} {C : Int → Int → Prop} {g : Int → Int → Int}
    (rule : ∀ (i j : Int) (t u : Tok) (s : Shared) (Q : Value → Shared → Prop) (E : Value → Shared → Prop), C i j → Q (.int (g i j) s.toks) { s with toks := s.toks + 1 } → wpAny (model X.prog X.w) X.A (f (.int i t) (.int j u)) Q E s) :
    OpR X f (rI C fun i j => .int (g i j)) := by
  intro pins s σ H x y v u Q I rx ry h
  obtain ⟨i, j, rfl, rfl, hc, q⟩ := h
  obtain ⟨t, rfl⟩ := rx
  obtain ⟨t', rfl⟩ := ry
  exact rule i j t t' s _ _ hc ⟨.int (g i j), H, I.tok _, ⟨_, rfl⟩, q⟩
theorem opI0 {f : Value → Value → Sem Value} {g : Int → Int → Int}
    (rule : ∀ (i j : Int) (t u : Tok) (s : Shared) (Q : Value → Shared → Prop) (E : Value → Shared → Prop), Q (.int (g i j) s.toks) { s with toks := s.toks + 1 } → wpAny (model X.prog X.w) X.A (f (.int i t) (.int j u)) Q E s) :
    OpR X f (rI0 fun i j => .int (g i j)) := by
  intro pins s σ H x y v u Q I rx ry h
  obtain ⟨i, j, rfl, rfl, q⟩ := h
  obtain ⟨t, rfl⟩ := rx
  obtain ⟨t', rfl⟩ := ry
  exact rule i j t t' s _ _ ⟨.int (g i j), H, I.tok _, ⟨_, rfl⟩, q⟩
theorem opB0 {f : Value → Value → Sem Value} {g : Int → Int → Bool}
    (rule : ∀ (i j : Int) (t u : Tok) (s : Shared) (Q : Value → Shared → Prop) (E : Value → Shared → Prop), Q (.bool (g i j)) s → wpAny (model X.prog X.w) X.A (f (.int i t) (.int j u)) Q E s) :
    OpR X f (rI0 fun i j => .bl (g i j)) := by
  intro pins s σ H x y v u Q I rx ry h
  obtain ⟨i, j, rfl, rfl, q⟩ := h
  obtain ⟨t, rfl⟩ := rx
  obtain ⟨t', rfl⟩ := ry
  exact rule i j t t' s _ _ ⟨.bl (g i j), H, I, rfl, q⟩
noncomputable def CDiv (i j : Int) : Prop := 0 < j ∧ j < 1073741824
noncomputable def CPow (i j : Int) : Prop := 0 ≤ j ∧ j ≤ 1000000 ∧ i.natAbs < 2 ^ 64
noncomputable def CMul (i j : Int) : Prop := (-(2 ^ 64) < i ∧ i < 2 ^ 64) ∨ (-(2 ^ 64) < j ∧ j < 2 ^ 64)
theorem CMul.ok {i j : Int} (h : CMul i j) : IntMulOk i j := by
  rcases h with ⟨h1, h2⟩ | ⟨h1, h2⟩
  · exact .of_left (intBits_le_64 h1 h2)
  · exact .of_right (intBits_le_64 h1 h2)
theorem op_add : OpR X (binaryOp .Add) (rI0 fun i j => .int (i + j)) := opI0 fun _ _ _ _ _ _ _ q => add_int q
theorem op_sub : OpR X (binaryOp .Sub) (rI0 fun i j => .int (i - j)) := opI0 fun _ _ _ _ _ _ _ q => sub_int q
theorem op_mul : OpR X (binaryOp .Mult) (rI CMul fun i j => .int (i * j)) := opI fun _ _ _ _ _ _ _ hc q => mul_int q hc.ok
theorem op_fdiv : OpR X (binaryOp .FloorDiv) (rI CDiv fun i j => .int (i / j)) := opI fun i j _ _ _ _ _ hc q => by
  have h1 : (0 : Int) < j := hc.1
  have h2 : j < 1073741824 := hc.2
  exact floordiv_int (by trivial) (by rw [Int.fdiv_eq_ediv_of_nonneg i (by trivial)]; exact q) (.inl (PyProof.noPylong_small (by trivial)))
theorem op_mod : OpR X (binaryOp .Mod) (rI (fun _ j => 0 < j) fun i j => .int (i % j)) := opI fun i j _ _ _ _ _ hc q => by
  have h1 : (0 : Int) < j := hc
  exact mod_int' (by trivial) (by rw [Int.fmod_eq_emod_of_nonneg i (by trivial)]; exact q)
theorem op_pow : OpR X (binaryOp .Pow) (rI CPow fun i j => .int (i ^ j.toNat)) := opI fun _ _ _ _ _ _ _ hc q => pow_int_small hc.1 hc.2.1 hc.2.2 q
theorem unI {f : Value → Sem Value} {g : Int → Int}
    (rule : ∀ (i : Int) (t : Tok) (s : Shared) (Q : Value → Shared → Prop) (E : Value → Shared → Prop), Q (.int (g i) s.toks) { s with toks := s.toks + 1 } → wpAny (model X.prog X.w) X.A (f (.int i t)) Q E s) :
    UnR X f (rU fun i => .int (g i)) := by
  intro pins s σ H x v Q I rx h
  obtain ⟨i, rfl, q⟩ := h
  obtain ⟨t, rfl⟩ := rx
  exact rule i t s _ _ ⟨.int (g i), H, I.tok _, ⟨_, rfl⟩, q⟩
theorem un_neg : UnR X (unaryOp .USub) (rU fun i => .int (-i)) := unI fun _ _ _ _ _ q => neg_int q
end
noncomputable def scal : V → V → Bool
  | .non, .non => true | .non, .int _ => true | .int _, .non => true | .non, .bl _ => true | .bl _, .non => true | .non, .str _ => true | .str _, .non => true
  | .int _, .int _ => true | .bl _, .bl _ => true | .str _, .str _ => true | .byt _, .byt _ => true
  | .int _, .str _ => true | .str _, .int _ => true | .bl _, .str _ => true | .str _, .bl _ => true
  | _, _ => false
noncomputable def rEq : R2 := fun x y H Q => scal x y = true ∧ Q (.bl (decide (x = y))) H
noncomputable def rNe : R2 := fun x y H Q => scal x y = true ∧ Q (.bl (!decide (x = y))) H
theorem dec_int {i j : Int} : decide (V.int i = V.int j) = (i == j) := by
  rw [Bool.eq_iff_iff]
  simp
theorem dec_bl {i j : Bool} : decide (V.bl i = V.bl j) = (i == j) := by
  rw [Bool.eq_iff_iff]
  simp
theorem dec_str {i j : Str} : decide (V.str i = V.str j) = (i == j) := by
  rw [Bool.eq_iff_iff]
  simp
theorem dec_byt {i j : Array UInt8} : decide (V.byt i = V.byt j) = (i.toList == j.toList) := by
  rw [Bool.eq_iff_iff]
  cases i
  cases j
  simp
section
variable {X : Cx} {a b c : Expr} {ta tb tc : TE} {pos : Pos}
theorem fin_bl {pins : List (Addr × Obj)} {σ : St} {H : Hp} {s : Shared} {Q : VK} {k k' : Bool} (I : Inv X pins σ H s) (q : Q (.bl k) H) (e : k = k') : EP X pins σ Q (.bool k') s := by
  subst e
  exact ⟨.bl k, H, I, rfl, q⟩
theorem op_eq : OpR X (compareOp .Eq) rEq := by
  intro pins s σ H x y v u Q I rx ry h
  obtain ⟨hs, q⟩ := h
  cases x with
  | non =>
    cases rx
    cases y with
    | non => cases ry; exact PySem.EqNone.eq_none_none (fin_bl I q (by simp))
    | bl j => cases ry; exact PySem.EqNone.eq_none_bool (fin_bl I q (by simp))
    | int j => obtain ⟨t', rfl⟩ := ry; exact PySem.EqNone.eq_none_int (fin_bl I q (by simp))
    | str j => obtain ⟨t', rfl⟩ := ry; exact PySem.EqNone.eq_none_str (fin_bl I q (by simp))
    | _ => exact absurd (show false = true from hs) Bool.false_ne_true
  | bl i =>
    cases rx
    cases y with
    | non => cases ry; exact PySem.EqNone.eq_bool_none (fin_bl I q (by simp))
    | bl j => cases ry; exact eq_bool (fin_bl I q dec_bl)
    | str j => obtain ⟨t', rfl⟩ := ry; exact PySem.EqMixed.eq_bool_str (fin_bl I q (by simp))
    | _ => exact absurd (show false = true from hs) Bool.false_ne_true
  | int i =>
    obtain ⟨t, rfl⟩ := rx
    cases y with
    | non => cases ry; exact PySem.EqNone.eq_int_none (fin_bl I q (by simp))
    | int j => obtain ⟨t', rfl⟩ := ry; exact eq_int (fin_bl I q dec_int)
    | str j => obtain ⟨t', rfl⟩ := ry; exact PySem.EqMixed.eq_int_str (fin_bl I q (by simp))
    | _ => exact absurd (show false = true from hs) Bool.false_ne_true
  | str i =>
    obtain ⟨t, rfl⟩ := rx
    cases y with
    | non => cases ry; exact PySem.EqNone.eq_str_none (fin_bl I q (by simp))
    | bl j => cases ry; exact PySem.EqMixed.eq_str_bool (fin_bl I q (by simp))
    | int j => obtain ⟨t', rfl⟩ := ry; exact PySem.EqMixed.eq_str_int (fin_bl I q (by simp))
    | str j => obtain ⟨t', rfl⟩ := ry; exact eq_str (fin_bl I q dec_str)
    | _ => exact absurd (show false = true from hs) Bool.false_ne_true
  | byt i =>
    obtain ⟨t, rfl⟩ := rx
    cases y with
    | byt j => obtain ⟨t', rfl⟩ := ry; exact PySem.W.eq_bytes (fin_bl I q dec_byt)
    | _ => exact absurd (show false = true from hs) Bool.false_ne_true
  | _ => cases y <;> exact absurd (show false = true from hs) Bool.false_ne_true
theorem op_ne : OpR X (compareOp .NotEq) rNe := by
  intro pins s σ H x y v u Q I rx ry h
  obtain ⟨hs, q⟩ := h
  cases x with
  | non =>
    cases rx
    cases y with
    | non => cases ry; exact PySem.EqNone.ne_none_none (fin_bl I q (by simp))
    | bl j => cases ry; exact PySem.EqNone.ne_none_bool (fin_bl I q (by simp))
    | int j => obtain ⟨t', rfl⟩ := ry; exact PySem.EqNone.ne_none_int (fin_bl I q (by simp))
    | str j => obtain ⟨t', rfl⟩ := ry; exact PySem.EqNone.ne_none_str (fin_bl I q (by simp))
    | _ => exact absurd (show false = true from hs) Bool.false_ne_true
  | bl i =>
    cases rx
    cases y with
    | non => cases ry; exact PySem.EqNone.ne_bool_none (fin_bl I q (by simp))
    | bl j => cases ry; exact ne_bool (fin_bl I q (congrArg not dec_bl))
    | str j => obtain ⟨t', rfl⟩ := ry; exact PySem.EqMixed.ne_bool_str (fin_bl I q (by simp))
    | _ => exact absurd (show false = true from hs) Bool.false_ne_true
  | int i =>
    obtain ⟨t, rfl⟩ := rx
    cases y with
    | non => cases ry; exact PySem.EqNone.ne_int_none (fin_bl I q (by simp))
    | int j => obtain ⟨t', rfl⟩ := ry; exact ne_int (fin_bl I q (congrArg not dec_int))
    | str j => obtain ⟨t', rfl⟩ := ry; exact PySem.EqMixed.ne_int_str (fin_bl I q (by simp))
    | _ => exact absurd (show false = true from hs) Bool.false_ne_true
  | str i =>
    obtain ⟨t, rfl⟩ := rx
    cases y with
    | non => cases ry; exact PySem.EqNone.ne_str_none (fin_bl I q (by simp))
    | bl j => cases ry; exact PySem.EqMixed.ne_str_bool (fin_bl I q (by simp))
    | int j => obtain ⟨t', rfl⟩ := ry; exact PySem.EqMixed.ne_str_int (fin_bl I q (by simp))
    | str j => obtain ⟨t', rfl⟩ := ry; exact ne_str (fin_bl I q (congrArg not dec_str))
    | _ => exact absurd (show false = true from hs) Bool.false_ne_true
  | byt i =>
    obtain ⟨t, rfl⟩ := rx
    cases y with
    | byt j => obtain ⟨t', rfl⟩ := ry; exact PySem.W.ne_bytes (fin_bl I q (congrArg not dec_byt))
    | _ => exact absurd (show false = true from hs) Bool.false_ne_true
  | _ => cases y <;> exact absurd (show false = true from hs) Bool.false_ne_true
theorem op_lt : OpR X (compareOp .Lt) (rI0 fun i j => .bl (decide (i < j))) := opB0 fun _ _ _ _ _ _ _ q => lt_int q
theorem op_le : OpR X (compareOp .LtE) (rI0 fun i j => .bl (decide (i ≤ j))) := opB0 fun _ _ _ _ _ _ _ q => le_int q
theorem op_gt : OpR X (compareOp .Gt) (rI0 fun i j => .bl (decide (j < i))) := opB0 fun _ _ _ _ _ _ _ q => gt_int q
theorem op_ge : OpR X (compareOp .GtE) (rI0 fun i j => .bl (decide (j ≤ i))) := opB0 fun _ _ _ _ _ _ _ q => ge_int q
theorem nomark (b : Expr) {op : CmpOp} (h : op ≠ .In := by decide) (h2 : op ≠ .NotIn := by decide) : behindInMarks op b = false := by
  have e1 : (op == CmpOp.In) = false := by cases op <;> first | rfl | exact absurd rfl h
  have e2 : (op == CmpOp.NotIn) = false := by cases op <;> first | rfl | exact absurd rfl h2
  cases b <;> simp [behindInMarks, e1, e2]
theorem pe_cmpR {op : CmpOp} {r : R2} (ho : OpR X (compareOp op) r) (ha : PE X a ta) (hb : PE X b tb) (hm : behindInMarks op b = false) : PE X (.Compare a [op] [b] pos) (tOp r ta tb) := by
  intro pins s σ H Q I h
  exact wpAny_Compare1 (binT ha hb I h fun v u s2 x y H2 I2 rx ry q => ho pins s2 σ H2 x y v u Q I2 rx ry q) hm
noncomputable def tTest (t : TE) : TT := fun σ H Q => t σ H fun x H' => ∃ k, x = .bl k ∧ Q k H'
theorem pt_cmpR {op : CmpOp} {r : R2} (ho : OpR X (compareOp op) r) (ha : PE X a ta) (hb : PE X b tb) (hm : behindInMarks op b = false) : PT X (.Compare a [op] [b] pos) (tTest (tOp r ta tb)) := by
  intro pins s σ H Q I h
  refine wpAny_isTrue_Compare1 (thn (ha pins s σ H _ I h) fun v s1 ⟨x, H1, I1, r1, q1⟩ => thn (hb pins s1 σ H1 _ I1 q1) fun u s2 ⟨y, H2, I2, r2, q2⟩ =>
    thn (ho pins s2 σ H2 x y v u _ I2 r1 r2 q2) fun c s3 ⟨z, H3, I3, r3, k, e, q3⟩ => ?_) hm
  subst e
  cases r3
  exact wpAny_truthy_bool ⟨H3, I3, q3⟩
noncomputable def tChain (r r' : R2) (ta tb tc : TE) : TE := fun σ H Q => ta σ H fun x H1 => tb σ H1 fun y H2 => r x y H2 fun z H3 => ∃ k, z = .bl k ∧
  (if k = true then tc σ H3 fun w' H4 => r' y w' H4 Q else Q (.bl false) H3)
theorem pe_chain {op op' : CmpOp} {r r' : R2} (ho : OpR X (compareOp op) r) (ho' : OpR X (compareOp op') r') (ha : PE X a ta) (hb : PE X b tb) (hc : PE X c tc)
    (hm : lastMarks [op, op'] [b, c] = false := by with_unfolding_all rfl) : PE X (.Compare a [op, op'] [b, c] pos) (tChain r r' ta tb tc) := by
  intro pins s σ H Q I h
  refine Compare_chain (thn (ha pins s σ H _ I h) fun v s1 ⟨x, H1, I1, r1, q1⟩ => chain_link (thn (hb pins s1 σ H1 _ I1 q1) fun u s2 ⟨y, H2, I2, r2, q2⟩ =>
    thn (ho pins s2 σ H2 x y v u _ I2 r1 r2 q2) fun d s3 ⟨z, H3, I3, r3, k, e, q3⟩ => ?_)) hm
  subst e
  cases r3
  refine wpAny_truthy_bool ?_
  cases k with
  | false => exact ite_ff ⟨.bl false, H3, I3, rfl, q3⟩
  | true => exact ite_tt (chain_last (thn (hc pins s3 σ H3 _ I3 q3) fun w' s4 ⟨z', H4, I4, r4, q4⟩ => ho' pins s4 σ H4 y z' u w' Q I4 r2 r4 q4))
theorem line63 : (sizeLine : Nat) < 2 ^ 63 := by rw [sizeLine_eq]; decide
theorem vals1 {x : V} {us : List Value} (r : Vals [x] us) : ∃ u, us = [u] ∧ RelV x u := by
  cases r with
  | cons r1 r2 => cases r2; exact ⟨_, rfl, r1⟩
theorem vals2 {x y : V} {us : List Value} (r : Vals [x, y] us) : ∃ u w', us = [u, w'] ∧ RelV x u ∧ RelV y w' := by
  cases r with
  | cons r1 r2 =>
    cases r2 with
    | cons r3 r4 => cases r4; exact ⟨_, _, rfl, r1, r3⟩
theorem call_min2 (hc : X.calm = true) : CallR X (.builtin "min") (fun xs H Q => ∃ i j, xs = [.int i, .int j] ∧ Q (.int (if j < i then j else i)) H) := by
  intro pins s σ H xs us Q I r h
  obtain ⟨i, j, rfl, q⟩ := h
  obtain ⟨u, w', rfl, ⟨t, rfl⟩, ⟨t', rfl⟩⟩ := vals2 r
  refine min_two_ints (I.ok.hd hc) fun h' tk k => ⟨_, H, I.kept k, ?_, q⟩
  by_cases hj : j < i
  · rw [if_pos hj, if_pos hj]; exact ⟨_, rfl⟩
  · rw [if_neg hj, if_neg hj]; exact ⟨_, rfl⟩
theorem call_int1 : CallR X (.type "int") (fun xs H Q => (∃ i, xs = [.int i] ∧ Q (.int i) H) ∨ ∃ k, xs = [.bl k] ∧ Q (.int (if k then 1 else 0)) H) := by
  intro pins s σ H xs us Q I r h
  rcases h with ⟨i, rfl, q⟩ | ⟨k, rfl, q⟩
  · obtain ⟨u, rfl, t, rfl⟩ := vals1 r
    exact call_int_int ⟨.int i, H, I, ⟨_, rfl⟩, q⟩
  · obtain ⟨u, rfl, r1⟩ := vals1 r
    cases r1
    exact call_int_bool ⟨.int (if k then 1 else 0), H, I.tok _, ⟨_, rfl⟩, q⟩
end
end L2
namespace L2
open PySem PySem.Spec PyProof.Rows
structure ObjM (h : Heap) (x dx C : Addr) (mA : Str → Option Value) : Prop where
  obj : h.get? x = some (PySem.W.instObj C dx)
  ns : h.Ns1 dx mA
  ne : dx ≠ x
theorem lookIn_ns {h : Heap} {dx : Addr} {mA : Str → Option Value} (n : h.Ns1 dx mA) : ∃ od, h.get? dx = some od ∧ ∀ name, PySem.W.lookIn name od = some (mA name) := by
  obtain ⟨o, es, ep, ho, hd, hk, _, hm⟩ := n
  refine ⟨o, ho, fun name => ?_⟩
  have e := hm name
  unfold nsFind findBy at e
  rw [← Array.find?_toList] at e
  unfold PySem.W.lookIn
  rw [hd]
  dsimp only
  split
  · rename_i y q
    rw [q] at e
    exact congrArg some e
  · rename_i q
    rw [q] at e
    have a : es.toList.any (·.refKey) = false := by
      rw [List.any_eq_false]
      intro y hy
      obtain ⟨z, t, hkey⟩ := hk y (Array.mem_toList_iff.mp hy)
      simp [DictEntry.refKey, hkey]
    have a' : ¬ es.toList.any (·.refKey) = true := by rw [a]; exact Bool.false_ne_true
    rw [if_neg a']
    exact congrArg some e
theorem ObjM.look {h : Heap} {x dx C : Addr} {mA : Str → Option Value} (I : ObjM h x dx C mA) : ∃ od, PySem.W.InstAt h x (PySem.W.instObj C dx) C (some od) ∧ ∀ name, PySem.W.lookIn name od = some (mA name) :=
  let ⟨od, ho, hl⟩ := lookIn_ns I.ns
  ⟨od, ⟨I.obj, rfl, rfl, ho⟩, hl⟩
section
variable {prog : Program} {w : World} {A : Around} {E : Value → Shared → Prop} {s : Shared} {K : PySem.W.Frag} {x dx C f : Addr} {mA : Str → Option Value} {name : Str} {v : Value}
end
section
variable {P : Program} {w : World} {H H' : Hp} {h h' : Heap} {a C dx : Addr} {fs fs' : List (Str × V)}
theorem ins_get (hok : HOk P w H h) (e : H a = some (.ins C dx fs)) : ∃ mA, ObjM h a dx C mA ∧ (∀ f, RelO (fs.lookup f) (mA f)) ∧ PySem.Within mA (fs.map (·.1)) ∧ fs.length ≤ 1000 ∧ H dx = some (.own a) := by
  obtain ⟨d, z, ne, ob, mA, n, r, q⟩ := (show ObjOk P w H h a (.ins C dx fs) from hok a _ e)
  exact ⟨mA, ⟨ob, n, ne⟩, r, q, z, d⟩
end
structure Cls (K : PySem.W.Frag) (C : Addr) : Prop where
  pg : PySem.W.plainGet K C Str.empty = true
  hd : PySem.W.hasDictIn K C = true
  po : PySem.W.plainOver K C = true
  sa : PySem.W.findIn K (.ref C) "__setattr__" = some (some (.builtin "object.__setattr__"))
theorem Cls.get {K : PySem.W.Frag} {C : Addr} (c : Cls K C) (f : Str) : PySem.W.plainGet K C f = true := c.pg
structure Con (K : PySem.W.Frag) (C : Addr) (f : Str) (v : V) (u : Value) : Prop where
  at_ : PySem.W.findIn K (.ref C) f = some (some u)
  rel : RelV v u
  get : PySem.W.specialIn K u "__get__" = some none
  cp : PySem.W.copiedNames.contains f = false
structure Meth (K : PySem.W.Frag) (C : Addr) (m : Str) (f : Addr) : Prop where
  at_ : PySem.W.findIn K (.ref C) m = some (some (.ref f))
  fn : PySem.W.isFn K (.ref f) = true
  kp : PySem.W.keepIn K (.ref f) = true
section
variable {X : Cx} {pins : List (Addr × Obj)} {σ : St} {H : Hp} {s : Shared} {a C dx : Addr} {fs : List (Str × V)} {f : Str} {v : V} {A : Around} {E : Value → Shared → Prop}
end
section
variable {X : Cx} {o e value : Expr} {f : Str} {pos pos' tpos : Pos} {ta tv : TE}
end
section
variable {X : Cx} {pins : List (Addr × Obj)} {σ : St} {H : Hp} {s : Shared} {A : Around} {E : Value → Shared → Prop} {Q : Value → Shared → Prop} {c : Value} {b : Bool}
inductive TyOf (K : PySem.W.Frag) (H : Hp) : V → Value → Prop where
  | non : TyOf K H .non (.type "NoneType")
  | bl (x : Bool) : TyOf K H (.bl x) (.type "bool")
  | int (i : Int) : TyOf K H (.int i) (.type "int")
  | str (x : Str) : TyOf K H (.str x) (.type "str")
  | flt (x : UInt64) : TyOf K H (.flt x) (.type "float")
  | lst {a : Addr} {xs : List V} (e : H a = some (.lst xs)) : TyOf K H (.ref a) (.type "list")
  | frz {a : Addr} {o : Obj} {xs : List V} (e : H a = some (.frz o (.lst xs))) : TyOf K H (.ref a) (.type "list")
  | tup {a : Addr} {xs : List V} (e : H a = some (.tup xs)) : TyOf K H (.ref a) (.type "tuple")
  | dK {a : Addr} {kvs : List (Key × V)} (e : H a = some (.dK kvs)) : TyOf K H (.ref a) (.type "dict")
  | dT {a : Addr} {kvs : List (List Key × V)} (e : H a = some (.dT kvs)) : TyOf K H (.ref a) (.type "dict")
  | ins {a C dx : Addr} {fs : List (Str × V)} (e : H a = some (.ins C dx fs)) (cl : Cls K C) (ha : PySem.W.findIn K (.ref C) "__class__" = some (some (.builtin "object.__class__")))
      (hn : PySem.W.specialIn K (.builtin "object.__class__") "__get__" = some (some (.builtin "getset_descriptor.__get__"))) (htk : PySem.W.takesIn K (.builtin "object.__class__") = some true)
      (hm : PySem.W.mroIn K C (.type "object") = some true) : TyOf K H (.ref a) (.ref C)
theorem isinst_ok {x : V} {u t : Value} (I : Inv X pins σ H s) (rx : RelV x u) (ty : TyOf X.K H x t) (e : PySem.W.kitOne X.K t c = some b) (h : ∀ tk, Q (.bool b) { s with toks := tk }) :
    wpAny (model X.prog X.w) A (call (.builtin "isinstance") [u, c]) Q E s := by
  cases ty with
  | non => cases (show u = Value.none from rx); exact PySem.W.kia_one PySem.W.kitx_none I.kIn True.intro e (fun z => nomatch z) h
  | bl y => cases (show u = Value.bool y from rx); exact PySem.W.kia_one PySem.W.kitx_bool I.kIn True.intro e (fun z => nomatch z) h
  | int i => obtain ⟨t, q⟩ := (show ∃ t, u = Value.int i t from rx); cases q; exact PySem.W.kia_one PySem.W.kitx_int I.kIn True.intro e (fun z => nomatch z) h
  | str y => obtain ⟨t, q⟩ := (show ∃ t, u = Value.str y t from rx); cases q; exact PySem.W.kia_one PySem.W.kitx_str I.kIn True.intro e (fun z => nomatch z) h
  | flt y => obtain ⟨t, q⟩ := (show ∃ t, u = Value.float y t from rx); cases q; exact PySem.W.kia_one PySem.W.kitx_float I.kIn True.intro e (fun z => nomatch z) h
  | @lst a xs ea =>
    cases (show u = Value.ref a from rx)
    obtain ⟨_, _, n, _, h1⟩ := (show ObjOk X.prog X.w H s.heap a (.lst xs) from I.hok a _ ea)
    exact PySem.W.kia_one PySem.W.kitx_list I.kIn ⟨_, h1, rfl⟩ e (fun z => nomatch z) h
  | @frz a ob xs ea =>
    cases (show u = Value.ref a from rx)
    obtain ⟨_, _, _, n, _, h1⟩ := (show ObjOk X.prog X.w H s.heap a (.frz ob (.lst xs)) from I.hok a _ ea)
    exact PySem.W.kia_one PySem.W.kitx_list I.kIn ⟨_, h1, rfl⟩ e (fun z => nomatch z) h
  | @tup a xs ea =>
    cases (show u = Value.ref a from rx)
    obtain ⟨_, _, _, p⟩ := (show ObjOk X.prog X.w H s.heap a (.tup xs) from I.hok a _ ea)
    obtain ⟨o, h1, h2, _⟩ := p
    exact PySem.W.kia_one PySem.W.kitx_tuple I.kIn ⟨o, h1, h2⟩ e (fun z => nomatch z) h
  | @dK a kvs ea =>
    cases (show u = Value.ref a from rx)
    obtain ⟨_, _, vs, _, p⟩ := (show ObjOk X.prog X.w H s.heap a (.dK kvs) from I.hok a _ ea)
    obtain ⟨o, es, ep, h1, h2, _⟩ := p
    exact PySem.W.kia_one PySem.W.kitx_dict I.kIn ⟨o, h1, h2.1⟩ e (fun z => nomatch z) h
  | @dT a kvs ea =>
    cases (show u = Value.ref a from rx)
    obtain ⟨_, _, xs, _, o, es, ep, h1, h2, _⟩ := (show ObjOk X.prog X.w H s.heap a (.dT kvs) from I.hok a _ ea)
    exact PySem.W.kia_one PySem.W.kitx_dict I.kIn ⟨o, h1, h2.1⟩ e (fun z => nomatch z) h
  | @ins a C dx fs ea cl ha hn htk hm =>
    cases (show u = Value.ref a from rx)
    obtain ⟨mA, O, _⟩ := ins_get I.hok ea
    obtain ⟨od, J, _⟩ := O.look
    exact PySem.W.kia_one (PySem.W.kitx_own (cl.get _) cl.hd ha hn htk hm) I.kIn J e (fun z => nomatch z) h
end
end L2
namespace L2
open PySem PySem.Spec PyProof.Rows
structure Room (k : Nat) (A : Around) : Prop where
  hd : A.handled = none
  dp : A.depth + 3 * k + 5 < recursionLimit
  un : A.units + 16 * k + 200 < cLine
theorem Room.mono {j k : Nat} {A : Around} (r : Room k A) (h : j ≤ k) : Room j A := ⟨r.hd, by have := r.dp; trivial, by have := r.un; trivial⟩
theorem Room.deeper {k : Nat} {A : Around} (r : Room (k + 1) A) (env : Env) : Room k (A.deeper env) :=
  ⟨r.hd, by have := r.dp; show A.depth + 1 + 3 * k + 5 < _; trivial, by have := r.un; show A.units + 3 + 16 * k + 200 < _; trivial⟩
theorem Room.depth {k : Nat} {A : Around} (r : Room k A) : A.depth < recursionLimit := by have := r.dp; trivial
noncomputable def tNil : TA := fun _ H Q => Q [] H
noncomputable def tCons (ta : TE) (tr : TA) : TA := fun σ H Q => ta σ H fun x H1 => tr σ H1 fun xs H2 => Q (x :: xs) H2
section
variable {X : Cx} {e : Expr} {es : List Expr} {te : TE} {t : TA} {pos : Pos}
theorem pa_nil : PA X [] tNil := fun _ _ _ _ H Q I h => Calls.spliced_nil ⟨[], H, I, .nil, h⟩
theorem pa_cons (ha : PE X e te) (hr : PA X es t) (hs : starEach (e :: es) X.env = (false, eval e X.env) :: starEach es X.env := by rfl) : PA X (e :: es) (tCons te t) := by
  intro pos pins s σ H Q I h
  rw [hs]
  show wpAny _ _ (spliced ((false, eval e X.env) :: backTo pos (starEach es X.env))) _ _ s
  refine Calls.spliced_cons (thn (ha pins s σ H _ I h) fun u s1 ⟨x, H1, I1, r1, q1⟩ => ?_)
  exact thn (hr pos pins s1 σ H1 _ I1 q1) fun us s2 ⟨xs, H2, I2, r2, q2⟩ => ⟨x :: xs, H2, I2, .cons r1 r2, q2⟩
noncomputable def tTup (t : TA) : TE := fun σ H Q => t σ H fun xs H1 => xs.length ≤ sizeLine ∧ ∀ p, H1 p = none → Q (.ref p) (upd H1 p (.tup xs))
noncomputable def tLst (t : TA) : TE := fun σ H Q => t σ H fun xs H1 => xs.length ≤ sizeLine ∧ ∀ p, H1 p = none → Q (.ref p) (upd H1 p (.lst xs))
theorem pe_tup {x1} (h : PA X es t) : PE X (.Tuple es x1 pos) (tTup t) := by
  intro pins s σ H Q I hq
  refine wpAny_Tuple_spliced (thn (h pos pins s σ H _ I hq) fun us s1 ⟨xs, H1, I1, r, z, q⟩ => ⟨by rw [← r.length]; exact z, ?_⟩)
  have hf : H1 s1.heap.objs.size = none := I1.hok.fresh (Nat.le_refl _)
  refine ⟨.ref s1.heap.objs.size, upd H1 s1.heap.objs.size (.tup xs), I1.laid (t' := s1.toks) (fun b u e => Heap.get?_push_of_some _ e) (Nat.le_refl _) ?_, rfl, q _ hf⟩
  exact ⟨z, us, r, ⟨_, Heap.get?_push_size _ rfl, rfl, _, rfl⟩⟩
theorem pe_lst (h : PA X es t) : PE X (.List es pos) (tLst t) := by
  intro pins s σ H Q I hq
  refine wpAny_List_spliced (thn (h pos pins s σ H _ I hq) fun us s1 ⟨xs, H1, I1, r, z, q⟩ => ⟨by rw [← r.length]; exact z, ?_⟩)
  have hf : H1 s1.heap.objs.size = none := I1.hok.fresh (Nat.le_refl _)
  refine ⟨.ref s1.heap.objs.size, upd H1 s1.heap.objs.size (.lst xs), I1.laid (t' := s1.toks) (fun b u e => Heap.get?_push_of_some _ e) (Nat.le_refl _) ?_, rfl, q _ hf⟩
  exact ⟨z, us, 0, r, Heap.get?_push_size _ rfl⟩
end
noncomputable abbrev Sp := List V → Hp → VK → XK → Prop
noncomputable abbrev CXT := List Env → Hp → Shared → XK → Value → Shared → Prop
structure Env0 (P : Program) (w : World) (K : PySem.W.Frag) (mg : Str → Option Value) (base : Heap) (A : Around) (outer : List Env) (s : Shared) (H : Hp) : Prop where
  frames : A.frames = some outer
  mod : Mod K mg base
  bs : ∀ b o, base.get? b = some o → s.heap.get? b = some o ∧ H b = none
  bsz : base.objs.size ≤ s.heap.objs.size
  funs : s.heap.FunFrames base outer
  frf : ∀ b ∈ frs outer, H b = none
  hok : HOk P w H s.heap
  bare : AllBare s.gens
noncomputable def CE (outer : List Env) (P : Program) (w : World) (H : Hp) (s : Shared) (Q : VK) (u : Value) (s' : Shared) : Prop :=
  ∃ v H', s'.os = s.os ∧ AllBare s'.gens ∧ Un (frs outer) [] H H' s.heap s'.heap ∧ HOk P w H' s'.heap ∧ RelV v u ∧ Q v H'
noncomputable def CR (CX : CXT) (outer : List Env) (P : Program) (w : World) (H : Hp) (s : Shared) (Q : VK) (E : XK) (r : Result) (s' : Shared) : Prop :=
  match r with
  | .ok (.ret u) => CE outer P w H s Q u s'
  | .ok _ => False
  | .error e => CX outer H s E e s'
structure FnOk (P : Program) (w : World) (K : PySem.W.Frag) (mg : Str → Option Value) (base : Heap) (CX : CXT) (k : Nat) (f : Addr) (fd : FuncData) (ps : List Str) (sp : Sp) : Prop where
  len : ∀ vs H Q E, sp vs H Q E → vs.length = ps.length
  run : ∀ (A : Around) (outer : List Env) (s : Shared) (H : Hp) (args : Args) (us : List Value) (vs : List V) (Q : VK) (E : XK), Room k A → Env0 P w K mg base A outer s H → BindsTo s fd args (ps.zip us) → Vals vs us → sp vs H Q E →
    codeAny (model P w) A (.call (.ref f) args) (CR CX outer P w H s Q E) s
section
variable {X : Cx} {pins : List (Addr × Obj)} {σ : St} {H : Hp} {s s' : Shared}
theorem Inv.env0 (I : Inv X pins σ H s) : Env0 X.prog X.w X.K X.mg X.base X.A X.stack s H :=
  ⟨I.ok.frames, I.ok.mod, I.bs, Nat.le_trans I.ok.bsz I.sz, I.stack, I.stkFree, I.hok, I.bare⟩
theorem Inv.after {Q : VK} {u : Value} (I : Inv X pins σ H s) (h : CE X.stack X.prog X.w H s Q u s') : EP X pins σ Q u s' := by
  obtain ⟨v, H', os, bare, un, hok, r, q⟩ := h
  obtain ⟨hh, g, d, t, os'⟩ := s'
  obtain rfl : os' = s.os := os
  exact ⟨v, H', I.call (h' := hh) (g' := g) (d' := d) (t' := t) (ch := []) un hok bare (fun b z => absurd z (by simp)), r, q⟩
end
noncomputable def tCall (sp : Sp) (dvs : List V) (E : XK) (t : TA) : TE := fun σ H Q => t σ H fun vs H1 => sp (vs ++ dvs) H1 Q E
noncomputable def Binds (K : PySem.W.Frag) (fd : FuncData) (ps : List Str) (ds : List Value) : Prop :=
  ∀ (s : Shared) (us : List Value), K.In s.heap → (us ++ ds).length = ps.length → BindsTo s fd ⟨us, []⟩ (ps.zip (us ++ ds))
theorem Binds.all {K : PySem.W.Frag} {fd : FuncData} {ps : List Str} (h : ∀ us : List Value, us.length = ps.length → bindArgs fd ⟨us, []⟩ = pure (ps.zip us)) : Binds K fd ps [] := fun s us _ hl => by
  rw [List.append_nil] at hl ⊢
  exact .of_eq (h us hl)
noncomputable def Passes (CX : CXT) (X : Cx) (E : XK) : Prop := ∀ (pins : List (Addr × Obj)) (σ : St) (H : Hp) (s : Shared) (e : Value) (s' : Shared), Inv X pins σ H s → CX X.stack H s E e s' → X.xe e s'
section
variable {X : Cx} {CX : CXT} {k : Nat} {f C : Addr} {fd : FuncData} {ps : List Str} {sp : Sp} {dvs : List V} {ds : List Value} {E : XK} {x m : Str} {p pos apos : Pos} {e o : Expr} {es : List Expr} {ta : TE} {t : TA}
theorem run_fn {pins : List (Addr × Obj)} {σ : St} {H : Hp} {s : Shared} {Q : VK} {us : List Value} {vs : List V} (F : FnOk X.prog X.w X.K X.mg X.base CX k f fd ps sp) (hr : Room k X.A) (hb : Binds X.K fd ps ds) (hd : Vals dvs ds) (hx : Passes CX X E)
    (I : Inv X pins σ H s) (r : Vals vs us) (h : sp (vs ++ dvs) H Q E) : wpAny (model X.prog X.w) X.A (call (.ref f) us) (EP X pins σ Q) X.xe s := by
  have r2 : Vals (vs ++ dvs) (us ++ ds) := r.append hd
  have hl : (us ++ ds).length = ps.length := by rw [← r2.length]; exact F.len _ _ _ _ h
  refine wpAny_call (codeAny_mono (F.run X.A X.stack s H ⟨us, []⟩ (us ++ ds) (vs ++ dvs) Q E hr I.env0 (hb s us I.kIn hl) r2 h) fun r s' hq => ?_)
  cases r with
  | error e => exact hx pins σ H s e s' I hq
  | ok fl =>
    cases fl with
    | ret u => exact I.after hq
    | next => exact False.elim hq
    | brk => exact False.elim hq
    | cont => exact False.elim hq
theorem pe_call (F : FnOk X.prog X.w X.K X.mg X.base CX k f fd ps sp) (hr : Room k X.A) (hg : Gl X x) (hm : X.mg x = some (.ref f)) (hk : PySem.W.keepIn X.K (.ref f) = true) (hb : Binds X.K fd ps ds) (hd : Vals dvs ds) (hx : Passes CX X E)
    (ha : PA X (e :: es) t) (hdb : (x == ("__debug__" : Str)) = false := by decide) (he : starEach (e :: es) X.env = (false, eval e X.env) :: starEach es X.env := by rfl) (hpl : (backTo pos (starEach es X.env)).any (·.1) = false := by rfl) :
    PE X (.Call (.Name x p) (e :: es) [] pos) (tCall sp dvs E t) := by
  intro pins s σ H Q I h
  refine wpAny_Call_Name_kw (ld_glob I hg hm ?_ hdb)
  refine PySem.W.callWith_K (h₀ := X.base) I.ok.mod.kin hk (thn (ha pos pins s σ H _ I h) fun us s1 ⟨vs, H1, I1, r, q⟩ => ⟨I1.kIn, ?_⟩) he hpl
  exact run_fn F hr hb hd hx I1 r q
structure Mk (K : PySem.W.Frag) (C f : Addr) : Prop where
  makes : PySem.W.makesIn K C = true
  init : PySem.W.findIn K (.ref C) "__init__" = some (some (.ref f))
  fn : PySem.W.isFn K (.ref f) = true
  kp : PySem.W.keepIn K (.ref C) = true
end
section
variable {X : Cx} {CX : CXT} {k : Nat} {f C : Addr} {fd : FuncData} {ps ks : List Str} {sp : Sp} {E : XK} {x m : Str} {p pos apos kpos : Pos} {e o : Expr} {es : List Expr} {kws : List Keyword} {te ta : TE} {t tk : TA} {nm : Option Str}
structure KBinds (K : PySem.W.Frag) (fd : FuncData) (ps ks : List Str) (g : List Value → List Value → List Value) (gV : List V → List V → List V) : Prop where
  to : ∀ (s : Shared) (us ws : List Value), K.In s.heap → (g us ws).length = ps.length → BindsTo s fd ⟨us, ks.zip ws⟩ (ps.zip (g us ws))
  rel : ∀ {vs : List V} {us : List Value} {zs : List V} {ws : List Value}, Vals vs us → Vals zs ws → Vals (gV vs zs) (g us ws)
variable {g : List Value → List Value → List Value} {gV : List V → List V → List V}
end
structure FnScope (N P : List Str) (sc : Scope) : Prop where
  kind : sc.kind = .function
  co : sc.isCoroutine = false
  gen : sc.isGenerator = false
  nd : N.Nodup
  pre : N.take P.length = P
  par : ∀ x ∈ P, sc.names.lookup x = some .local ∨ sc.names.lookup x = some .cell
  nofree : ∀ y ∈ sc.names, y.2 ≠ .free
theorem bindL_out {kindOf : Str → Option NameKind} {x : Str} : ∀ {binds : List (Str × Value)} {m : Str → Option Value}, (∀ v, (x, v) ∉ binds) → bindL kindOf binds m x = m x
  | [], _, _ => rfl
  | (n, v) :: r, m, h => by
    unfold bindL
    rw [bindL_out fun w hw => h w (List.mem_cons_of_mem _ hw)]
    split
    · have : x ≠ n := by rintro rfl; exact h v List.mem_cons_self
      simp [this]
    · rfl
theorem bindC_out {kindOf : Str → Option NameKind} {x : Str} : ∀ {binds : List (Str × Value)} {m : Str → Option Value}, (∀ v, (x, v) ∉ binds) → bindC kindOf binds m x = m x
  | [], _, _ => rfl
  | (n, v) :: r, m, h => by
    unfold bindC
    rw [bindC_out fun w hw => h w (List.mem_cons_of_mem _ hw)]
    split
    · rfl
    · have : x ≠ n := by rintro rfl; exact h v List.mem_cons_self
      simp [this]
theorem bindL_get {kindOf : Str → Option NameKind} {x : Str} {v : Value} : ∀ {P : List Str} {vs : List Value} {i : Nat} {m : Str → Option Value}, P.Nodup → P[i]? = some x → vs[i]? = some v → kindOf x = some .local →
    bindL kindOf (P.zip vs) m x = some v
  | [], _, _, _, _, h, _, _ => by simp at h
  | _ :: _, [], _, _, _, _, h, _ => by simp at h
  | p :: P, w :: vs, 0, m, nd, h1, h2, hk => by
    simp at h1 h2; subst h1; subst h2
    show bindL kindOf ((p, w) :: P.zip vs) m p = _
    unfold bindL
    rw [bindL_out fun v hv => (List.nodup_cons.mp nd).1 (List.of_mem_zip hv).1, if_pos hk]
    simp
  | p :: P, w :: vs, i + 1, m, nd, h1, h2, hk => by
    show bindL kindOf ((p, w) :: P.zip vs) m x = _
    unfold bindL
    exact bindL_get (i := i) (List.nodup_cons.mp nd).2 (by simpa using h1) (by simpa using h2) hk
theorem bindC_get {kindOf : Str → Option NameKind} {x : Str} {v : Value} : ∀ {P : List Str} {vs : List Value} {i : Nat} {m : Str → Option Value}, P.Nodup → P[i]? = some x → vs[i]? = some v → kindOf x ≠ some .local →
    bindC kindOf (P.zip vs) m x = some v
  | [], _, _, _, _, h, _, _ => by simp at h
  | _ :: _, [], _, _, _, _, h, _ => by simp at h
  | p :: P, w :: vs, 0, m, nd, h1, h2, hk => by
    simp at h1 h2; subst h1; subst h2
    show bindC kindOf ((p, w) :: P.zip vs) m p = _
    unfold bindC
    rw [bindC_out fun v hv => (List.nodup_cons.mp nd).1 (List.of_mem_zip hv).1, if_neg hk]
    simp
  | p :: P, w :: vs, i + 1, m, nd, h1, h2, hk => by
    show bindC kindOf ((p, w) :: P.zip vs) m x = _
    unfold bindC
    exact bindC_get (i := i) (List.nodup_cons.mp nd).2 (by simpa using h1) (by simpa using h2) hk
noncomputable def start (N : List Str) (vs : List V) : St := vs.map some ++ List.replicate (N.length - vs.length) none
noncomputable def cxOf (CX : CXT) (P : Program) (w : World) (K : PySem.W.Frag) (mg : Str → Option Value) (base : Heap) (N : List Str) (qual : Str) (scope : Scope) (f : Addr) (cd : Value) (A : Around) (outer : List Env) (s : Shared) (H : Hp) (E : XK) : Cx where
  prog := P
  w := w
  K := K
  mg := mg
  base := base
  A := A.deeper (envOfC qual scope s.heap.objs.size f cd)
  N := N
  s₀ := s
  H₀ := H
  env := envOfC qual scope s.heap.objs.size f cd
  outer := outer
  stack := envOfC qual scope s.heap.objs.size f cd :: outer
  ex := []
  calm := true
  fn := fun _ => true
  pn := []
  xe := fun e s' => wpAny (model P w) (A.deeper (envOfC qual scope s.heap.objs.size f cd)) (leaving (envOfC qual scope s.heap.objs.size f cd) e) (fun _ s'' => CX outer H s E e s'') (fun e' s'' => CX outer H s E e' s'') s'
theorem cell_has {sc : Scope} {n : Nat} {x : Str} (h : sc.names.lookup x = some .cell) : ∃ c, (cellsFrom n sc.names []).lookup x = some c := by
  have q := PySem.W.cellsFrom_some sc.names n [] (.inl h)
  exact Option.isSome_iff_exists.mp q
theorem inv_start {CX : CXT} {P : Program} {w : World} {K : PySem.W.Frag} {mg : Str → Option Value} {base : Heap} {N ps : List Str} {qual : Str} {scope : Scope} {f : Addr} {cd : Value} {A : Around} {outer : List Env} {s s1 : Shared} {H : Hp} {E : XK} {us : List Value} {vs : List V}
    (S : FnScope N ps scope) (hd : A.handled = none) (e0 : Env0 P w K mg base A outer s H) (hl : vs.length = ps.length) (r : Vals vs us)
    (x : InCallC s s.heap.objs.size (bindL (envOfC qual scope s.heap.objs.size f cd).kindOf (ps.zip us) fun _ => none) (cellsFrom (s.heap.objs.size + 1) scope.names []) (bindC (envOfC qual scope s.heap.objs.size f cd).kindOf (ps.zip us) fun _ => none) s1) :
    Inv (cxOf CX P w K mg base N qual scope f cd A outer s H E) [] (start N vs) H s1 := by
  have hpl : ps.length ≤ N.length := by have := congrArg List.length S.pre; rw [List.length_take] at this; trivial
  obtain ⟨h1, tk, rfl, hk⟩ := x.done
  have noA : ∀ b : Addr, b ∉ (cxOf CX P w K mg base N qual scope f cd A outer s H E).ex := fun b z => absurd (show b ∈ ([] : List Addr) from z) (by simp)
  refine ⟨⟨e0.mod, S.kind, rfl, rfl, Nat.le_refl _, fun y z c h1 h2 => ?_, fun y hy => ?_, fun y c _ h => ?_, fun _ => hd, Around.frames_deeper e0.frames, .inr ⟨rfl, rfl⟩, fun b z => absurd z (noA b), e0.bs, e0.bsz, fun b _ _ => noA b, fun b z => absurd z (noA b), e0.funs, e0.frf⟩,
    rfl, e0.bare, Un.kept hk, ⟨_, x.toInCall.ns, fun i y v h1 h2 h3 => ?_⟩, fun y c h => ⟨_, x.cell y c h⟩, e0.hok.fresh (Nat.le_refl _), fun y c h => ?_, fun p hp => absurd (show p ∈ ([] : List (Addr × Obj)) from hp) (by simp), e0.hok.kept hk, ?_⟩
  · exact name_of_addr x.apart (PySem.mem_of_lookup h1) (PySem.mem_of_lookup h2)
  · have hy : scope.names.lookup y = some .cell ∨ scope.names.lookup y = some .free := hy
    rcases hy with hy | hy
    · exact cell_has hy
    · exact absurd rfl (S.nofree _ (PySem.mem_of_lookup hy))
  · exact Nat.le_of_lt (x.above y c (PySem.mem_of_lookup h))
  · have hi : i < vs.length := by
      unfold start at h2
      by_cases hi : i < vs.length
      · exact hi
      · rw [List.getElem?_append_right (by simpa using hi)] at h2
        rw [List.getElem?_replicate] at h2
        split at h2 <;> cases h2
    have ha : vs[i]? = some v := by
      unfold start at h2
      rw [List.getElem?_append_left (by simpa using hi), List.getElem?_map] at h2
      cases e : vs[i]? with
      | none => rw [e] at h2; cases h2
      | some a => rw [e] at h2; cases h2; rfl
    obtain ⟨u, hu, rv⟩ := r.get ha
    have hp : ps[i]? = some y := by
      rw [← S.pre, List.getElem?_take_of_lt (by trivial)]; exact h1
    have ndP : ps.Nodup := by rw [← S.pre]; exact S.nd.sublist (List.take_sublist _ _)
    refine ⟨u, rv, ?_⟩
    rcases S.par y (List.mem_of_getElem? hp) with k | k
    · exact .inl ⟨k, bindL_get ndP hp hu k⟩
    · obtain ⟨c, e⟩ := cell_has (n := s.heap.objs.size + 1) k
      refine .inr ⟨.inl k, c, e, ?_⟩
      have q := x.cell y c e
      rw [bindC_get ndP hp hu (by show scope.names.lookup y ≠ _; rw [k]; decide)] at q
      exact q
  · exact e0.hok.fresh (Nat.le_of_lt (x.above y c (PySem.mem_of_lookup h)))
  · unfold start
    show _ = N.length
    rw [List.length_append, List.length_map, List.length_replicate]
    trivial
theorem fn_of {CX : CXT} {P : Program} {w : World} {K : PySem.W.Frag} {mg : Str → Option Value} {base : Heap} {k : Nat} {f : Addr} {name qual : Str} {params : Arguments} {body : List Stmt} {scope : Scope} {dV kV doc pm cdv ct oc : Value} {an od : Option Addr}
    {osl : Array (Option Value)} {N ps : List Str} {sp : Sp} (lk : K.lookup f = some ⟨oc, od, .func (PySem.W.fnOf name qual params body scope dV kV doc pm an cdv ct), osl⟩) (hcd : PySem.W.codeIn K cdv qual = true) (S : FnScope N ps scope)
    (len : ∀ vs H Q E, sp vs H Q E → vs.length = ps.length)
    (hbody : ∀ (A : Around) (outer : List Env) (s : Shared) (H : Hp) (vs : List V) (Q : VK) (E : XK), Room k (A.deeper (envOfC qual scope s.heap.objs.size f cdv)) → sp vs H Q E →
      ∃ t, PSs (cxOf CX P w K mg base N qual scope f cdv A outer s H E) body t ∧ t { nx := fun _ H' => Q .non H', rt := Q } (start N vs) H) :
    FnOk P w K mg base CX (k + 1) f (PySem.W.fnOf name qual params body scope dV kV doc pm an cdv ct) ps sp := by
  refine ⟨len, fun A outer s H args us vs Q E hr e0 hb r hsp => ?_⟩
  have hl := len _ _ _ _ hsp
  have KX : K.In s.heap := e0.mod.kin.keeps fun b o e => (e0.bs b o e).1
  have lim : s.heap.NoLimit := e0.mod.nolimit.keeps fun b o e => (e0.bs b o e).1
  have hkind : ∀ y ∈ ps.zip us, scope.names.lookup y.1 = some .local ∨ (scope.names.lookup y.1 = some .cell ∧ ((cellsFrom (s.heap.objs.size + 1) scope.names []).lookup y.1).isSome = true) := fun ⟨n, v⟩ hy => by
    rcases S.par n (List.of_mem_zip hy).1 with q | q
    · exact .inl q
    · exact .inr ⟨q, PySem.W.cellsFrom_some _ _ _ (.inl q)⟩
  refine codeAny_call_function hr.depth (KX _ _ lk) rfl S.co S.gen rfl (PySem.W.codeRec_of KX hcd) (hb _ _ _ _ ?_)
  refine wpAny_newFunctionEnv_cells S.kind hkind fun env he s1 x => ?_
  subst he
  refine ⟨lim.keeps x.toInCall.keep, codeAny_func ?_⟩
  obtain ⟨t, ht, hq⟩ := hbody A outer s H vs Q E (hr.deeper _) hsp
  have I : Inv (cxOf CX P w K mg base N qual scope f cdv A outer s H E) [] (start N vs) H s1 := inv_start S hr.hd e0 hl r x
  refine wpAny_mono (ht [] s1 (start N vs) H _ I hq) (fun fl s' hs => ?_) fun e s' hs => hs
  have fin : ∀ {σ' : St} {H' : Hp} {v : V} {u : Value}, Inv (cxOf CX P w K mg base N qual scope f cdv A outer s H E) [] σ' H' s' → RelV v u → Q v H' → CE outer P w H s Q u s' :=
    fun {σ' H' v u} J rv q => ⟨v, H', J.os, J.bare, J.base, J.hok, rv, q⟩
  cases fl with
  | ret u =>
    obtain ⟨v, σ', H', J, rv, q⟩ := hs
    exact fin J rv q
  | next =>
    obtain ⟨σ', H', J, q⟩ := hs
    exact fin (v := V.non) (u := Value.none) J rfl q
  | brk =>
    obtain ⟨_, _, _, q⟩ := hs
    exact False.elim q
  | cont =>
    obtain ⟨_, _, _, q⟩ := hs
    exact False.elim q
end L2
namespace L2
open PySem PySem.Spec PyProof.Rows
section
variable {X : Cx} {x : Str} {p pos : Pos} {e : Expr} {es : List Expr} {t : TA} {id T : String} {r : List V → Hp → VK → Prop}
noncomputable def tCB (r : List V → Hp → VK → Prop) (t : TA) : TE := fun σ H Q => t σ H fun vs H1 => r vs H1 Q
theorem pe_callB (hc : CallR X (.builtin id) r) (hg : Gl X x) (hm : X.mg x = none) (hv : bootBuiltins x = some (.builtin id)) (ha : PA X (e :: es) t) (hn : x ≠ "__name__" := by decide) (hdb : (x == ("__debug__" : Str)) = false := by decide)
    (he : starEach (e :: es) X.env = (false, eval e X.env) :: starEach es X.env := by rfl) (hpl : (backTo pos (starEach es X.env)).any (·.1) = false := by rfl) : PE X (.Call (.Name x p) (e :: es) [] pos) (tCB r t) := by
  intro pins s σ H Q I h
  refine wpAny_Call_Name_kw (ld_blt I hg hm hv ?_ hn hdb)
  exact PyProof.Rows.callWith_builtin1 (thn (ha pos pins s σ H _ I h) fun us s1 ⟨vs, H1, I1, r1, q1⟩ => hc pins s1 σ H1 vs us Q I1 r1 q1) he hpl
theorem pe_callTy (hc : CallR X (.type T) r) (hg : Gl X x) (hm : X.mg x = none) (hv : bootBuiltins x = some (.type T)) (ha : PA X (e :: es) t) (hn : x ≠ "__name__" := by decide) (hdb : (x == ("__debug__" : Str)) = false := by decide)
    (he : starEach (e :: es) X.env = (false, eval e X.env) :: starEach es X.env := by rfl) (hpl : (backTo pos (starEach es X.env)).any (·.1) = false := by rfl) : PE X (.Call (.Name x p) (e :: es) [] pos) (tCB r t) := by
  intro pins s σ H Q I h
  refine wpAny_Call_Name_kw (ld_blt I hg hm hv ?_ hn hdb)
  exact PyProof.Rows.callWith_type1 (thn (ha pos pins s σ H _ I h) fun us s1 ⟨vs, H1, I1, r1, q1⟩ => hc pins s1 σ H1 vs us Q I1 r1 q1) he hpl
end
end L2
namespace HT
open PySem PyProof.Rows
section
open PySem.SeqAt
open PySem.AutoSeq1 (wpAny_loadPart')
open PySem.MeetsSeq PySem.MeetsSeq2 PySem.MeetsSeq3
end
section
variable {prog : Program} {w : World} {A : Around} {E : Value → Shared → Prop} {s : Shared}
noncomputable def sIx (n d : Nat) : Option Int → Nat
  | none => d
  | some v => if v < 0 then (v + (n : Int)).toNat else min v.toNat n
theorem sIx_none (n d : Nat) : sIx n d none = d := rfl
theorem sIx_nat (n d k : Nat) : sIx n d (some (k : Int)) = min k n := by
  show (if (k : Int) < 0 then ((k : Int) + (n : Int)).toNat else min (k : Int).toNat n) = min k n
  rw [if_neg (by trivial), Int.toNat_natCast]
end
end HT
namespace L2
open PySem PySem.Spec PyProof.Rows
noncomputable abbrev TO := St → Hp → (Option Int → Hp → Prop) → Prop
noncomputable def PO (X : Cx) (e : Option Expr) (t : TO) : Prop :=
  ∀ (pins : List (Addr × Obj)) (s : Shared) (σ : St) (H : Hp) (Q : Option Int → Hp → Prop), Inv X pins σ H s → t σ H Q →
    wpAny (model X.prog X.w) X.A (evalPart e X.env) (fun u s' => ∃ o H', Inv X pins σ H' s' ∧ IsPart u o ∧ Q o H') X.xe s
noncomputable def tNoPart : TO := fun _ H Q => Q none H
noncomputable def tPart (t : TE) : TO := fun σ H Q => t σ H fun x H1 => ∃ i, x = .int i ∧ Q (some i) H1
section
variable {X : Cx} {e : Expr} {te : TE} {lo hi : Option Expr} {tl th : TO} {pos p2 : Pos}
theorem po_none : PO X none tNoPart := by
  intro pins s σ H Q I h
  rw [evalPart_none]
  exact wpAny_pure ⟨none, H, I, .none, h⟩
theorem po_some (h : PE X e te) : PO X (some e) (tPart te) := by
  intro pins s σ H Q I hw
  rw [evalPart_some]
  refine thn (h pins s σ H _ I hw) fun u s1 ⟨x, H1, I1, r1, q1⟩ => ?_
  obtain ⟨i, rfl, q⟩ := q1
  obtain ⟨t, rfl⟩ := r1
  exact ⟨some i, H1, I1, .int i t, q⟩
noncomputable def SlR (X : Cx) (r : V → Option Int → Option Int → Hp → VK → Prop) : Prop :=
  ∀ (pins : List (Addr × Obj)) (s : Shared) (σ : St) (H : Hp) (x : V) (v vl vu : Value) (lo hi : Option Int) (sl : Addr) (Q : VK), Inv X pins σ H s → RelV x v → s.heap.IsSliceOf sl vl vu .none → IsPart vl lo → IsPart vu hi → r x lo hi H Q →
    ∃ T id, typeLookup (.type T) "__getitem__" = pure (some (.builtin id)) ∧ s.TypeIs v T ∧ wpAny (model X.prog X.w) X.A (getItem v (.ref sl)) (EP X pins σ Q) X.xe s
noncomputable def tSl (r : V → Option Int → Option Int → Hp → VK → Prop) (te : TE) (tl th : TO) : TE := fun σ H Q => te σ H fun x H1 => tl σ H1 fun l H2 => th σ H2 fun u H3 => r x l u H3 Q
theorem pe_slice {r : V → Option Int → Option Int → Hp → VK → Prop} (hr : SlR X r) (he : PE X e te) (hl : PO X lo tl) (hu : PO X hi th) : PE X (.Subscript e (.Slice lo hi none p2) pos) (tSl r te tl th) := by
  intro pins s σ H Q I h
  refine Subscript_ (thn (he pins s σ H _ I h) fun v s1 ⟨x, H1, I1, r1, q1⟩ => ?_)
  refine wpAny_Slice (thn (hl pins s1 σ H1 _ I1 q1) fun vl s2 ⟨l, H2, I2, pl, q2⟩ => thn (hu pins s2 σ H2 _ I2 q2) fun vu s3 ⟨u, H3, I3, pu, q3⟩ => ?_)
  rw [evalPart_none]
  refine wpAny_pure ?_
  have I4 : Inv X pins σ H3 { s3 with heap := s3.heap.push { cls := .type "slice", data := .fields #[vl, vu, .none] } } := I3.kept (t' := s3.toks) fun b ob q => Heap.get?_push_of_some _ q
  obtain ⟨T, id, hT, ht, hg⟩ := hr pins { s3 with heap := s3.heap.push { cls := .type "slice", data := .fields #[vl, vu, .none] } } σ H3 x v vl vu l u s3.heap.objs.size Q I4 r1 (Heap.IsSliceOf.new ..) pl pu q3
  show wpAny (model X.prog X.w) X.A (subscriptTail e (.Slice lo hi none p2) v (.ref s3.heap.objs.size)) (EP X pins σ Q) X.xe { s3 with heap := s3.heap.push { cls := .type "slice", data := .fields #[vl, vu, .none] } }
  exact tail_any (ops := [.ref s3.heap.objs.size, v]) ht hT hg (by with_unfolding_all rfl)
noncomputable def cutV (xs : List V) (lo hi : Option Int) : List V := (xs.drop (HT.sIx xs.length 0 lo)).take (HT.sIx xs.length xs.length hi - HT.sIx xs.length 0 lo)
theorem cutV_length (xs : List V) (lo hi : Option Int) : (cutV xs lo hi).length ≤ xs.length := by
  unfold cutV
  rw [List.length_take, List.length_drop]
  trivial
end
end L2
namespace L2
open PySem PySem.Spec PyProof.Rows
noncomputable def ixN (n : Nat) (i : Int) : Option Nat := if 0 ≤ i then (if i < n then some i.toNat else none) else if -(n : Int) ≤ i then some (i + n).toNat else none
noncomputable def atI {α : Type} (xs : List α) (i : Int) : Option α := (ixN xs.length i).bind fun j => xs[j]?
theorem ixN_seq {n : Nat} {i : Int} {j : Nat} (h : ixN n i = some j) : seqIndex? i n = some j ∧ j < n ∧ -(n : Int) ≤ i ∧ i < n := by
  unfold ixN at h
  by_cases h0 : 0 ≤ i
  · rw [if_pos h0] at h
    by_cases h1 : i < n
    · rw [if_pos h1] at h
      have e : i.toNat = j := Option.some.inj h
      exact ⟨by rw [seqIndex_of h0 h1, e], by trivial, by trivial, h1⟩
    · rw [if_neg h1] at h; cases h
  · rw [if_neg h0] at h
    by_cases h1 : -(n : Int) ≤ i
    · rw [if_pos h1] at h
      have e : (i + n).toNat = j := Option.some.inj h
      exact ⟨by rw [seqIndex_neg (by trivial) h1, e], by trivial, h1, by trivial⟩
    · rw [if_neg h1] at h; cases h
theorem atI_get {α : Type} {xs : List α} {i : Int} {v : α} (h : atI xs i = some v) : ∃ j, seqIndex? i xs.length = some j ∧ xs[j]? = some v ∧ j < xs.length ∧ -(xs.length : Int) ≤ i ∧ i < xs.length := by
  unfold atI at h
  cases e : ixN xs.length i with
  | none => rw [e] at h; cases h
  | some j =>
    rw [e] at h
    obtain ⟨h1, h2, h3, h4⟩ := ixN_seq e
    exact ⟨j, h1, h, h2, h3, h4⟩
theorem atI_nat {α : Type} {xs : List α} {j : Nat} {v : α} (h : xs[j]? = some v) : atI xs (j : Int) = some v := by
  have hj : j < xs.length := (List.getElem?_eq_some_iff.mp h).1
  have e : ixN xs.length (j : Int) = some j := by
    unfold ixN
    rw [if_pos (by trivial), if_pos (by trivial)]; simp
  unfold atI; rw [e]; exact h
noncomputable def PlainIx (b : Expr) : Prop := ∀ o i, subscripted b false o i = operate [o, i] (getItem o i)
noncomputable def IxR (X : Cx) (r : R2) : Prop :=
  ∀ (value slice : Expr) (pins : List (Addr × Obj)) (s : Shared) (σ : St) (H : Hp) (x y : V) (v u : Value) (Q : VK), Inv X pins σ H s → RelV x v → RelV y u → r x y H Q →
    subscripted slice false v u = operate [v, u] (getItem v u) → wpAny (model X.prog X.w) X.A (subscriptTail value slice v u) (EP X pins σ Q) X.xe s
noncomputable def MtR (X : Cx) (id : String) (r : V → List V → Hp → VK → Prop) : Prop :=
  ∀ (pins : List (Addr × Obj)) (s : Shared) (σ : St) (H : Hp) (x : V) (xs : List V) (v : Value) (us : List Value) (Q : VK), Inv X pins σ H s → RelV x v → Vals xs us → r x xs H Q →
    wpAny (model X.prog X.w) X.A (call (.builtin id) (v :: us)) (EP X pins σ Q) X.xe s
section
variable {X : Cx} {a b : Expr} {ta tb : TE} {pos : Pos}
theorem pe_ix {r : R2} (hr : IxR X r) (ha : PE X a ta) (hb : PE X b tb) (hs : PlainIx b) : PE X (.Subscript a b pos) (tOp r ta tb) := by
  intro pins s σ H Q I h
  exact Subscript_ (binT ha hb I h fun v u s2 x y H2 I2 rx ry q => hr a b pins s2 σ H2 x y v u Q I2 rx ry q (hs _ _))
noncomputable def rIxL (K : PySem.W.Frag) : R2 := fun x y H Q => ∃ p xs i v, x = .ref p ∧ y = .int i ∧ SqL K H p xs ∧ atI xs i = some v ∧ Q v H
noncomputable def rIxT (K : PySem.W.Frag) : R2 := fun x y H Q => ∃ p xs i v, x = .ref p ∧ y = .int i ∧ SqT K H p xs ∧ atI xs i = some v ∧ Q v H
theorem ix_list : IxR X (rIxL X.K) := by
  intro value slice pins s σ H x y v u Q I rx ry h hs
  obtain ⟨p, xs, i, z, rfl, rfl, hq, he, q⟩ := h
  cases rx
  obtain ⟨t, rfl⟩ := ry
  obtain ⟨its, r, pl, hz⟩ := I.list hq
  obtain ⟨j, h1, h2, h3, h4, h5⟩ := atI_get he
  obtain ⟨w, ew, rw'⟩ := r.get h2
  have hl := r.length
  have hn := line63
  have fin : EP X pins σ Q w s := ⟨z, H, I, rw', q⟩
  by_cases h0 : 0 ≤ i
  · have hj : i.toNat = j := by
      rw [seqIndex_of h0 h5] at h1
      exact Option.some.inj h1
    exact item_listR pl.isList h0 (by trivial) (by rw [hj]; simpa using ew) fin hs
  · have hj : (i + (its.toArray.size : Int)).toNat = j := by
      rw [seqIndex_neg (by trivial) h4] at h1
      rw [List.size_toArray, ← hl]
      exact Option.some.inj h1
    exact subscriptTail_builtinR (x := w) pl.isList.typeIs slot_list_getitem.lookup
      (wpAny_getItem_list_neg (Q := fun r s' => r = w ∧ EP X pins σ Q r s') pl.isList (by trivial) (by rw [List.size_toArray] <;> trivial) (by trivial) (by rw [hj]; simpa using ew) ⟨rfl, fin⟩) hs
theorem ix_tup : IxR X (rIxT X.K) := by
  intro value slice pins s σ H x y v u Q I rx ry h hs
  obtain ⟨p, xs, i, z, rfl, rfl, hq, he, q⟩ := h
  cases rx
  obtain ⟨t, rfl⟩ := ry
  obtain ⟨its, r, pl, hz⟩ := I.tuple hq
  obtain ⟨j, h1, h2, h3, h4, h5⟩ := atI_get he
  obtain ⟨w, ew, rw'⟩ := r.get h2
  have hl := r.length
  have hn := line63
  have fin : EP X pins σ Q w s := ⟨z, H, I, rw', q⟩
  exact subscriptTail_builtinR (x := w) pl.typeIs slot_tuple_getitem.lookup
    (getItem_tuple (j := j) (Q := fun r s' => r = w ∧ EP X pins σ Q r s') pl (by trivial) (by trivial) (by rw [List.size_toArray, ← hl]; exact h1) (by simpa using ew) ⟨rfl, fin⟩) hs
theorem mapSeq_set (its : List Value) (n j : Nat) (u : Value) : Obj.mapSeq (·.setIfInBounds j u) { cls := .type "list", data := .seq its.toArray n } = { cls := .type "list", data := .seq (its.set j u).toArray n } := by
  simp [Obj.mapSeq]
theorem Inv.lst {pins : List (Addr × Obj)} {σ : St} {H : Hp} {s : Shared} {p : Addr} {xs : List V} (I : Inv X pins σ H s) (h : H p = some (.lst xs)) :
    ∃ (its : List Value) (n : Nat), Vals xs its ∧ s.heap.get? p = some { cls := .type "list", data := .seq its.toArray n } ∧ xs.length ≤ sizeLine := by
  obtain ⟨z, its, n, r, e⟩ := I.hok p _ h
  exact ⟨its, n, r, e, z⟩
theorem Inv.lstUpd {pins : List (Addr × Obj)} {σ : St} {H : Hp} {s : Shared} {p : Addr} {xs ys : List V} {its its' : List Value} {n n' : Nat} {f : Obj → Obj} (I : Inv X pins σ H s) (h : H p = some (.lst xs))
    (ho : s.heap.get? p = some { cls := .type "list", data := .seq its.toArray n }) (hf : f { cls := .type "list", data := .seq its.toArray n } = { cls := .type "list", data := .seq its'.toArray n' }) (r : Vals ys its') (hz : ys.length ≤ sizeLine) (t : Nat) :
    Inv X pins σ (upd H p (.lst ys)) { s with heap := s.heap.update p f, toks := t } := by
  have e : (s.heap.update p f).get? p = some { cls := .type "list", data := .seq its'.toArray n' } := by
    rw [Heap.get?_update_self f ho (by rw [hf] <;> rfl), hf]
  refine I.write (x := p) (e := p) (by rw [h]; trivial) (.inl rfl) (fun b u hb q => (Heap.get?_update_other _ _ (Ne.symm hb)).trans q) ⟨_, e⟩ ?_
  exact ⟨hz, its', n', r, e⟩
noncomputable def rSetL : V → V → V → Hp → (Hp → Prop) → Prop := fun o i v H Q => ∃ p xs k j, o = .ref p ∧ i = .int k ∧ H p = some (.lst xs) ∧ ixN xs.length k = some j ∧ Q (upd H p (.lst (xs.set j v)))
theorem set_list : PSet X rSetL := by
  intro pins s σ H o i v ov iv u Q I ro ri rv h
  obtain ⟨p, xs, k, j, rfl, rfl, hp, hj, q⟩ := h
  cases ro
  obtain ⟨t, rfl⟩ := ri
  obtain ⟨its, n, r, ho, hz⟩ := I.lst hp
  obtain ⟨h1, h2, h3, h4⟩ := ixN_seq hj
  have hl := r.length
  have hn := line63
  have I' : Inv X pins σ (upd H p (.lst (xs.set j v))) { s with heap := s.heap.update p (Obj.mapSeq (·.setIfInBounds j u)) } :=
    I.lstUpd hp ho (mapSeq_set its n j u) (r.set rv j) (by rw [List.length_set]; exact hz) s.toks
  by_cases h0 : 0 ≤ k
  · have hk : k.toNat = j := by
      rw [seqIndex_of h0 h4] at h1
      exact Option.some.inj h1
    exact PySem.W.ki_setAt ho h0 (by trivial) (by rw [List.size_toArray, ← hl]; exact h4) (by rw [hk]; exact ⟨_, I', q⟩)
  · have hk : (k + (its.toArray.size : Int)).toNat = j := by
      rw [seqIndex_neg (by trivial) h3] at h1
      rw [List.size_toArray, ← hl]
      exact Option.some.inj h1
    exact PySem.W.ki_setBack ho (by trivial) (by rw [List.size_toArray, ← hl]; exact h3) (by trivial) (by rw [hk]; exact ⟨_, I', q⟩)
theorem slice_bounds (lo hi : Option Int) (n : Nat) : (sliceBounds lo hi none n).1 = ((HT.sIx n 0 lo : Nat) : Int) ∧ (sliceBounds lo hi none n).2.1 = ((HT.sIx n n hi : Nat) : Int) ∧ (sliceBounds lo hi none n).2.2 = 1 := by
  refine ⟨?_, ?_, rfl⟩
  · cases lo with
    | none => simp [sliceBounds, HT.sIx]
    | some i =>
      simp only [sliceBounds, HT.sIx, Option.getD_none, show (1 : Int) > 0 by decide, if_true]
      by_cases h : i < 0
      · simp only [h, if_true] <;> trivial
      · simp only [h, if_false] <;> trivial
  · cases hi with
    | none => simp [sliceBounds, HT.sIx]
    | some i =>
      simp only [sliceBounds, HT.sIx, Option.getD_none, show (1 : Int) > 0 by decide, if_true]
      by_cases h : i < 0
      · simp only [h, if_true] <;> trivial
      · simp only [h, if_false] <;> trivial
theorem slicePick_cut (its : List Value) (lo hi : Option Int) : slicePick its.toArray lo hi none = ((its.drop (HT.sIx its.length 0 lo)).take (HT.sIx its.length its.length hi - HT.sIx its.length 0 lo)).toArray := by
  obtain ⟨h1, h2, h3⟩ := slice_bounds lo hi its.toArray.size
  unfold slicePick
  rw [h1, h2, h3]
  simp only [sliceRange_one, pick_run, List.size_toArray] <;> rfl
noncomputable def rSlL (K : PySem.W.Frag) : V → Option Int → Option Int → Hp → VK → Prop := fun x lo hi H Q => ∃ a xs, x = .ref a ∧ SqL K H a xs ∧ ∀ p, H p = none → Q (.ref p) (upd H p (.lst (cutV xs lo hi)))
theorem sl_list : SlR X (rSlL X.K) := by
  intro pins s σ H x v vl vu lo hi sl Q I rx hs pl pu h
  obtain ⟨a, xs, rfl, hx, q⟩ := h
  cases rx
  obtain ⟨its, r, ht, hz⟩ := I.list hx
  have hlen := r.length
  refine ⟨"list", _, slot_list_getitem.lookup, ht.isList.typeIs, ?_⟩
  refine wpAny_getItem_list_slice ht.isList hs pl pu .none (by simp) ?_ (by rw [List.size_toArray] <;> trivial)
  rw [slicePick_cut, ← hlen]
  refine ⟨.ref s.heap.objs.size, _, I.laid (t' := s.toks) (o := .lst (cutV xs lo hi)) (fun b ob q => Heap.get?_push_of_some _ q) (Nat.le_refl _) ?_, rfl, q _ (I.hok.fresh (Nat.le_refl _))⟩
  exact ⟨Nat.le_trans (cutV_length xs lo hi) hz, _, 0, (r.drop (HT.sIx xs.length 0 lo)).take (HT.sIx xs.length xs.length hi - HT.sIx xs.length 0 lo), Heap.get?_push_size _ rfl⟩
theorem call_len_seq : CallR X (.builtin "len") (fun xs H Q => ∃ p ys, xs = [.ref p] ∧ (SqL X.K H p ys ∨ SqT X.K H p ys) ∧ Q (.int ys.length) H) := by
  intro pins s σ H xs us Q I r h
  obtain ⟨p, ys, rfl, hq, q⟩ := h
  obtain ⟨u, rfl, rx⟩ := vals1 r
  cases rx
  have hn := line63
  rcases hq with hq | hq
  · obtain ⟨its, r', pl, hz⟩ := I.list hq
    have hlen := r'.length
    exact Calls.call_len_list pl.isList (by simp only [List.size_toArray] <;> trivial) ⟨.int ys.length, H, I.tok _, ⟨s.toks + 1, by rw [List.size_toArray, hlen]⟩, q⟩
  · obtain ⟨its, r', pl, hz⟩ := I.tuple hq
    have hlen := r'.length
    exact len_tuple pl (by simp only [List.size_toArray] <;> trivial) ⟨.int ys.length, H, I.tok _, ⟨s.toks + 1, by rw [List.size_toArray, hlen]⟩, q⟩
theorem call_list_of : CallR X (.type "list") (fun xs H Q => ∃ p ys, xs = [.ref p] ∧ (SqL X.K H p ys ∨ SqT X.K H p ys) ∧ ∀ l, H l = none → Q (.ref l) (upd H l (.lst ys))) := by
  intro pins s σ H xs us Q I r h
  obtain ⟨p, ys, rfl, hq, q⟩ := h
  obtain ⟨u, rfl, rx⟩ := vals1 r
  cases rx
  have fin : ∀ (its : List Value), Vals ys its → ys.length ≤ sizeLine → ∀ (h' : Heap) (c' : Nat), (∀ b o', s.heap.get? b = some o' → h'.get? b = some o') →
      h'.get? s.heap.objs.size = some { cls := .type "list", dict := none, data := .seq its.toArray c', slots := #[] } → EP X pins σ Q (.ref s.heap.objs.size) { s with heap := h' } := fun its r' hz h' c' kp e =>
    ⟨.ref s.heap.objs.size, _, I.laid (t' := s.toks) kp (Nat.le_refl _) (show ObjOk X.prog X.w _ h' _ (.lst ys) from ⟨hz, its, c', r', e⟩), rfl, q _ (I.hok.fresh (Nat.le_refl _))⟩
  rcases hq with hq | hq
  · obtain ⟨its, r', pl, hz⟩ := I.list hq
    have hlen := r'.length
    obtain ⟨o, ho, hc, n, hd⟩ := pl.isList
    exact call_list_seq p (.inl rfl) ho hc hd (fun h' c' kp e => fin its r' hz h' c' kp e) (by simp only [List.size_toArray] <;> trivial)
  · obtain ⟨its, r', pl, hz⟩ := I.tuple hq
    have hlen := r'.length
    obtain ⟨o, ho, hc, n, hd⟩ := pl
    exact call_list_seq p (.inr rfl) ho hc hd (fun h' c' kp e => fin its r' hz h' c' kp e) (by simp only [List.size_toArray] <;> trivial)
noncomputable def tyV (K : PySem.W.Frag) (T : String) (x : V) (H : Hp) : Prop := match x with
  | .str _ => T = "str"
  | .int _ => T = "int"
  | .ref p => (T = "list" ∧ ∃ xs, SqL K H p xs) ∨ (T = "tuple" ∧ ∃ o, K.lookup p = some o ∧ o.cls = .type "tuple" ∧ o.dict = none) ∨
      (T = "dict" ∧ ((∃ kvs, H p = some (.dK kvs)) ∨ ∃ kvs, H p = some (.dT kvs))) ∨ (T = "set" ∧ ∃ S n, H p = some (.set S n))
  | _ => False
theorem tyV_is {pins : List (Addr × Obj)} {σ : St} {H : Hp} {s : Shared} {T : String} {x : V} {v : Value} (I : Inv X pins σ H s) (r : RelV x v) (ty : tyV X.K T x H) :
    s.TypeIs v T ∧ ∀ a, v = .ref a → ∃ ob, s.heap.get? a = some ob ∧ ob.dict = none := by
  cases x with
  | str z =>
    obtain ⟨t, rfl⟩ := r
    cases (show T = "str" from ty)
    exact ⟨typeIs_str s z t, fun _ e => nomatch e⟩
  | int i =>
    obtain ⟨t, rfl⟩ := r
    cases (show T = "int" from ty)
    exact ⟨typeIs_int s i t, fun _ e => nomatch e⟩
  | ref p =>
    cases r
    rcases ty with ⟨rfl, xs, hq⟩ | ⟨rfl, o, hk, hc, hd⟩ | ⟨rfl, hk⟩ | ⟨rfl, S, n, hk⟩
    · obtain ⟨its, _, pl, _⟩ := I.list hq
      refine ⟨pl.isList.typeIs, fun a e => ?_⟩
      cases e
      obtain ⟨o, n, e, c, hd, _⟩ := pl
      exact ⟨o, e, hd⟩
    · refine ⟨⟨o, I.kIn p o hk, hc⟩, fun a e => ?_⟩
      cases e
      exact ⟨o, I.kIn _ o hk, hd⟩
    · have z : ∃ o, s.heap.get? p = some o ∧ o.ExactDict := by
        rcases hk with ⟨kvs, hk⟩ | ⟨kvs, hk⟩
        · obtain ⟨_, _, _, _, o, _, _, e, ex, _⟩ := I.hok p _ hk
          exact ⟨o, e, ex⟩
        · obtain ⟨_, _, _, _, o, _, _, e, ex, _⟩ := I.hok p _ hk
          exact ⟨o, e, ex⟩
      obtain ⟨o, e, ex⟩ := z
      refine ⟨⟨o, e, ex.1⟩, fun a e2 => ?_⟩
      cases e2
      exact ⟨o, e, ex.2.1⟩
    · obtain ⟨o, _, _, _, e, ex, _⟩ := I.hok p _ hk
      refine ⟨⟨o, e, ex.1⟩, fun a e2 => ?_⟩
      cases e2
      exact ⟨o, e, ex.2.1⟩
  | _ => exact False.elim ty
noncomputable def tBM0 (K : PySem.W.Frag) (T : String) (r : V → List V → Hp → VK → Prop) (to : TE) : TE := fun σ H Q => to σ H fun x H1 => tyV K T x H1 ∧ r x [] H1 Q
noncomputable def tBM (K : PySem.W.Frag) (T : String) (r : V → List V → Hp → VK → Prop) (to : TE) (t : TA) : TE := fun σ H Q => to σ H fun x H1 => tyV K T x H1 ∧ t σ H1 fun xs H2 => r x xs H2 Q
variable {o e : Expr} {es : List Expr} {to : TE} {t : TA} {name : Str} {apos cpos : Pos} {T id : String} {r : V → List V → Hp → VK → Prop}
theorem pe_bm0 (pa : PlainAttrs T) (slot : Slot T name id) (hty : typeOf (.builtin id) = pure (.type "method_descriptor")) (hm : MtR X id r) (ho : PE X o to)
    (hbase : attributeBase o name X.env (eval o X.env) = eval o X.env := by rfl) (hline : (apos.endLine == cpos.line) = true := by rfl) : PE X (.Call (.Attribute o name apos) [] [] cpos) (tBM0 X.K T r to) := by
  intro pins s σ H Q I h
  refine wpAny_Call_method0_late hbase hline (thn (ho pins s σ H _ I h) fun v s1 ⟨x, H1, I1, r1, ty, q1⟩ => ?_)
  obtain ⟨h1, h2⟩ := tyV_is I1 r1 ty
  exact ⟨T, id, pa, slot, hty, h1, h2, Calls.callWith_builtin rfl (PySem.evalArgs_none (hm pins s1 σ H1 x [] v [] Q I1 r1 .nil q1))⟩
theorem pe_bm (pa : PlainAttrs T) (slot : Slot T name id) (hty : typeOf (.builtin id) = pure (.type "method_descriptor")) (hm : MtR X id r) (ho : PE X o to) (ha : PA X (e :: es) t)
    (hbase : attributeBase o name X.env (eval o X.env) = eval o X.env := by rfl)
    (hfew : ((backTo cpos (starEach (e :: es) X.env)).all (fun x => !x.1) && (backToKw cpos (keywordEach [] X.env)).all (fun x => x.1.isSome)
      && decide ((e :: es).length + ([] : List Keyword).length + (if ([] : List Keyword).isEmpty then 0 else 1) < 30)) = true := by rfl)
    (hline : (apos.endLine == cpos.line) = true := by rfl) (hs : starEach (e :: es) X.env = (false, eval e X.env) :: starEach es X.env := by rfl) (hplain : (backTo cpos (starEach es X.env)).any (·.1) = false := by rfl) :
    PE X (.Call (.Attribute o name apos) (e :: es) [] cpos) (tBM X.K T r to t) := by
  intro pins s σ H Q I h
  refine wpAny_Call_method_late hbase hfew hline rfl (thn (ho pins s σ H _ I h) fun v s1 ⟨x, H1, I1, r1, ty, q1⟩ => ?_)
  obtain ⟨h1, h2⟩ := tyV_is I1 r1 ty
  refine ⟨T, id, pa, slot, hty, h1, h2, ?_⟩
  have hA := ha cpos pins s1 σ H1 _ I1 q1
  rw [hs] at hA ⊢
  refine Calls.callWith_builtin (by show (false || (backTo cpos (starEach es X.env)).any (·.1)) = false; rw [hplain] <;> rfl) (Calls.evalArgs_plain ?_)
  exact thn hA fun us s2 ⟨vs, H2, I2, r2, q2⟩ => hm pins s2 σ H2 x vs v us Q I2 r1 r2 q2
/- xs.append(e), list.index on a module's tuple .. are MtR facts of 06m -/
end
end L2
namespace L2
open PySem PySem.Spec PyProof.Rows
noncomputable def MtM (X : Cx) (id : String) (r : V → List V → Hp → VK → Prop) : Prop :=
  ∀ (pins : List (Addr × Obj)) (s : Shared) (σ : St) (H : Hp) (x : V) (xs : List V) (v : Value) (us : List Value) (Q : VK), Inv X pins σ H s → RelV x v → Vals xs us → r x xs H Q →
    wpAny (model X.prog X.w) X.A (call (.builtin id) (v :: us)) (EP X pins σ Q) X.xe s
theorem Vals.one : ∀ {x : V} {us : List Value}, Vals [x] us → ∃ u, us = [u] ∧ RelV x u
  | _, _, .cons r .nil => ⟨_, rfl, r⟩
theorem Vals.two : ∀ {x y : V} {us : List Value}, Vals [x, y] us → ∃ u v, us = [u, v] ∧ RelV x u ∧ RelV y v
  | _, _, _, .cons r (.cons q .nil) => ⟨_, _, rfl, r, q⟩
theorem Vals.zero : ∀ {us : List Value}, Vals [] us → us = []
  | _, .nil => rfl
theorem Vals.dropLast {xs : List V} {us : List Value} (h : Vals xs us) : Vals xs.dropLast us.dropLast := by
  induction h with
  | nil => exact .nil
  | cons r t ih =>
    cases t with
    | nil => exact .nil
    | cons q t' => exact .cons r ih
theorem Vals.eraseIdx : ∀ {xs : List V} {us : List Value} (i : Nat), Vals xs us → Vals (xs.eraseIdx i) (us.eraseIdx i)
  | _, _, _, .nil => .nil
  | _, _, 0, .cons _ t => t
  | _, _, i + 1, .cons r t => .cons r (Vals.eraseIdx i t)
theorem erase_last {α : Type} (l : List α) : l.eraseIdx (l.length - 1) = l.dropLast := by
  induction l with
  | nil => rfl
  | cons a r ih =>
    cases r with
    | nil => rfl
    | cons b r =>
      have e : (a :: b :: r).length - 1 = ((b :: r).length - 1) + 1 := by
        have h1 : (a :: b :: r).length = r.length + 2 := rfl
        have h2 : (b :: r).length = r.length + 1 := rfl
        trivial
      rw [e, List.eraseIdx_cons_succ, ih]
      all_goals rfl
theorem len_erase {α : Type} : ∀ (l : List α) (i : Nat), (l.eraseIdx i).length ≤ l.length
  | [], _ => Nat.le_refl _
  | _ :: _, 0 => Nat.le_succ _
  | _ :: r, i + 1 => Nat.succ_le_succ (len_erase r i)
section
variable {X : Cx} {pins : List (Addr × Obj)} {σ : St} {H : Hp} {s : Shared} {l b : Addr} {xs ys zs : List V}
theorem Inv.lset {its its' : List Value} {n : Nat} {f : Array Value → Array Value} {t' : Nat} (I : Inv X pins σ H s) (hH : H l = some (.lst xs))
    (e : s.heap.get? l = some { cls := .type "list", data := .seq its.toArray n }) (hf : f its.toArray = its'.toArray) (hv : Vals ys its') (hz : ys.length ≤ sizeLine) :
    Inv X pins σ (upd H l (.lst ys)) { s with heap := s.heap.update l (Obj.mapSeq f), toks := t' } := by
  have q := PySem.IsL.update e f
  rw [hf] at q
  refine I.write (x := l) (e := l) (by rw [hH]; exact trivial) (.inl rfl) (fun b' u hb hu => (Heap.get?_update_other s.heap (Obj.mapSeq f) (Ne.symm hb)).trans hu) ⟨_, q⟩ ?_
  exact ⟨hz, its', _, hv, q⟩
theorem Inv.lnew {its : List Value} {t' : Nat} (I : Inv X pins σ H s) (hv : Vals ys its) (hz : ys.length ≤ sizeLine) :
    Inv X pins σ (upd H s.heap.objs.size (.lst ys)) { s with heap := s.heap.push { cls := .type "list", data := .seq its.toArray }, toks := t' } :=
  I.laid (fun _ _ q => Heap.get?_push_of_some _ q) (Nat.le_refl _) ⟨hz, its, 0, hv, Heap.get?_push_size _ rfl⟩
theorem Inv.fresh (I : Inv X pins σ H s) : H s.heap.objs.size = none := I.hok.fresh (Nat.le_refl _)
theorem Inv.lstM (I : Inv X pins σ H s) (hH : H l = some (.lst xs)) : xs.length ≤ sizeLine ∧ ∃ (its : List Value) (n : Nat), Vals xs its ∧ xs.length = its.length ∧ s.heap.get? l = some { cls := .type "list", data := .seq its.toArray n } := by
  obtain ⟨z, its, n, r, e⟩ := I.hok l _ hH
  exact ⟨z, its, n, r, r.length, e⟩
theorem notLongL {n : Nat} (h : n ≤ sizeLine) : Builtin.List.listTooLong n = false := by
  unfold Builtin.List.listTooLong
  exact decide_eq_false (by trivial)
end
section
variable {X : Cx}
noncomputable def rAppend : V → List V → Hp → VK → Prop := fun x vs H Q => ∃ l xs y, x = .ref l ∧ vs = [y] ∧ H l = some (.lst xs) ∧ xs.length < sizeLine ∧ Q .non (upd H l (.lst (xs ++ [y])))
theorem mt_append : MtM X "list.append" rAppend := by
  intro pins s σ H x vs v us Q I rx rv h
  obtain ⟨l, xs, y, rfl, rfl, hH, hz, q⟩ := h
  cases rx
  obtain ⟨u, rfl, ru⟩ := rv.one
  obtain ⟨z, its, n, r, hl, e⟩ := I.lstM hH
  refine call_meets F.slot_list_append ⟨_, e, rfl⟩ F.entry_list_append (F.args_list_append_2 _ _) (PySem.list_append l its.toArray n u (by rw [List.size_toArray]; trivial)) ⟨e, ?_⟩
  refine ⟨.non, _, I.lset (its' := its ++ [u]) hH e (by simp) (r.append (.cons ru .nil)) ?_, rfl, q⟩
  rw [List.length_append, List.length_singleton]
  trivial
noncomputable def rExtend : V → List V → Hp → VK → Prop := fun x vs H Q => ∃ l b xs zs, x = .ref l ∧ vs = [.ref b] ∧ H l = some (.lst xs) ∧ H b = some (.lst zs) ∧ xs.length + zs.length ≤ sizeLine ∧ Q .non (upd H l (.lst (xs ++ zs)))
theorem mt_extend : MtM X "list.extend" rExtend := by
  intro pins s σ H x vs v us Q I rx rv h
  obtain ⟨l, b, xs, zs, rfl, rfl, hH, hB, hz, q⟩ := h
  cases rx
  obtain ⟨u, rfl, ru⟩ := rv.one
  cases ru
  obtain ⟨z, its, n, r, hl, e⟩ := I.lstM hH
  obtain ⟨z2, its2, n2, r2, hl2, e2⟩ := I.lstM hB
  have hsz : its.toArray.size + its2.toArray.size ≤ sizeLine := by rw [List.size_toArray, List.size_toArray]; trivial
  have hlong : ¬ (!its.toArray.isEmpty && Builtin.List.listTooLong (its.toArray.size + its2.toArray.size)) = true := by
    rw [notLongL hsz, Bool.and_false]
    exact Bool.false_ne_true
  refine call_meets F.slot_list_extend ⟨_, e, rfl⟩ F.entry_list_extend (F.args_list_extend_2 _ _)
    (AutoSeq1.list_extend_list_list_0 l its.toArray n b its2.toArray n2 hlong (by rw [List.size_toArray]; trivial) (by trivial)) ⟨e, e2, ?_⟩
  refine ⟨.non, _, I.lset (its' := its ++ its2) hH e (by simp) (r.append r2) ?_, rfl, q⟩
  rw [List.length_append]
  trivial
noncomputable def rPop : V → List V → Hp → VK → Prop := fun x vs H Q => ∃ l xs y, x = .ref l ∧ vs = [] ∧ H l = some (.lst xs) ∧ xs[xs.length - 1]? = some y ∧ Q y (upd H l (.lst xs.dropLast))
theorem mt_pop : MtM X "list.pop" rPop := by
  intro pins s σ H x vs v us Q I rx rv h
  obtain ⟨l, xs, y, rfl, rfl, hH, hy, q⟩ := h
  cases rx
  have hus := rv.zero
  subst hus
  obtain ⟨z, its, n, r, hl, e⟩ := I.lstM hH
  obtain ⟨u, hu, ru⟩ := r.get hy
  have hy' : its.toArray[its.toArray.size - 1]? = some u := by
    show its.toArray[its.length - 1]? = some u
    rw [← Array.getElem?_toList, ← hl]
    exact hu
  refine call_meets F.slot_list_pop ⟨_, e, rfl⟩ F.entry_list_pop (F.args_list_pop_1 _) (MeetsSeq.list_pop_last l its.toArray n u hy' (by rw [List.size_toArray]; trivial)) ⟨e, ?_⟩
  refine ⟨y, _, I.lset (its' := its.dropLast) hH e ?_ r.dropLast ?_, ru, q⟩
  · show its.toArray.eraseIdxIfInBounds (its.toArray.size - 1) = its.dropLast.toArray
    rw [List.size_toArray, List.eraseIdxIfInBounds_toArray, erase_last]
  · rw [List.length_dropLast]
    trivial
noncomputable def rPopAt : V → List V → Hp → VK → Prop := fun x vs H Q => ∃ l xs i k y, x = .ref l ∧ vs = [.int i] ∧ H l = some (.lst xs) ∧ -(2 ^ 63) ≤ i ∧ i < 2 ^ 63 ∧ seqIndex? i xs.length = some k ∧ xs[k]? = some y ∧ Q y (upd H l (.lst (xs.eraseIdx k)))
theorem mt_popAt : MtM X "list.pop" rPopAt := by
  intro pins s σ H x vs v us Q I rx rv h
  obtain ⟨l, xs, i, k, y, rfl, rfl, hH, h1, h2, hk, hy, q⟩ := h
  cases rx
  obtain ⟨u, rfl, ru⟩ := rv.one
  obtain ⟨t, rfl⟩ := ru
  obtain ⟨z, its, n, r, hl, e⟩ := I.lstM hH
  obtain ⟨w, hw, rw'⟩ := r.get hy
  refine call_meets F.slot_list_pop ⟨_, e, rfl⟩ F.entry_list_pop (F.args_list_pop_2 _ _)
    (MeetsSeq.list_pop_at l its.toArray n i t k w (fitsIndex_both h1 h2) (by rw [List.size_toArray, ← hl]; exact hk) (by rw [← Array.getElem?_toList]; exact hw) (by rw [List.size_toArray]; trivial)) ⟨e, ?_⟩
  refine ⟨y, _, I.lset (its' := its.eraseIdx k) hH e ?_ (r.eraseIdx k) ?_, rw', q⟩
  · show its.toArray.eraseIdxIfInBounds k = (its.eraseIdx k).toArray
    rw [List.eraseIdxIfInBounds_toArray]
  · have := len_erase xs k
    trivial
noncomputable def rClear : V → List V → Hp → VK → Prop := fun x vs H Q => ∃ l xs, x = .ref l ∧ vs = [] ∧ H l = some (.lst xs) ∧ Q .non (upd H l (.lst []))
theorem mt_clear : MtM X "list.clear" rClear := by
  intro pins s σ H x vs v us Q I rx rv h
  obtain ⟨l, xs, rfl, rfl, hH, q⟩ := h
  cases rx
  have hus := rv.zero
  subst hus
  obtain ⟨z, its, n, r, hl, e⟩ := I.lstM hH
  refine call_meets F.slot_list_clear ⟨_, e, rfl⟩ F.entry_list_clear (F.args_list_clear_1 _) (AutoSeq1.list_clear_list_0 l its.toArray n (by rw [List.size_toArray]; trivial)) ⟨e, ?_⟩
  exact ⟨.non, _, I.lset (its' := []) (ys := []) hH e rfl .nil (Nat.zero_le _), rfl, q⟩
noncomputable def rCat : R2 := fun x y H Q => ∃ l b xs zs, x = .ref l ∧ y = .ref b ∧ H l = some (.lst xs) ∧ H b = some (.lst zs) ∧ xs.length + zs.length ≤ sizeLine ∧ ∀ p, H p = none → Q (.ref p) (upd H p (.lst (xs ++ zs)))
theorem op_cat : OpR X (binaryOp .Add) rCat := by
  intro pins s σ H x y v u Q I rx ry h
  obtain ⟨l, b, xs, zs, rfl, rfl, hH, hB, hz, q⟩ := h
  cases rx
  cases ry
  obtain ⟨z, its, n, r, hl, e⟩ := I.lstM hH
  obtain ⟨z2, its2, n2, r2, hl2, e2⟩ := I.lstM hB
  refine PySem.P.add_list e e2 ?_ (by rw [List.size_toArray, List.size_toArray]; trivial)
  have ea : its.toArray ++ its2.toArray = (its ++ its2).toArray := by simp
  rw [ea]
  exact ⟨.ref _, _, I.lnew (t' := s.toks) (r.append r2) (by rw [List.length_append]; trivial), rfl, q _ I.fresh⟩
end
section
variable {prog : Program} {w : World} {A : Around} {E : Value → Shared → Prop} {s : Shared}
theorem bounds_run {a c n : Nat} (hac : a ≤ c) (hc : c ≤ n) : sliceBounds (some (a : Int)) (some (c : Int)) none n = ((a : Int), (c : Int), 1) := by
  simp only [sliceBounds, Option.getD_none]
  have h1 : ¬ ((a : Int) < 0) := by trivial
  have h2 : ¬ ((c : Int) < 0) := by trivial
  simp only [h1, h2, if_false, show (1 : Int) > 0 by decide, if_true]
  congr 1
  · trivial
  · congr 1; trivial
set_option maxRecDepth 100000 in
theorem setItem_slice {l b sl : Addr} {items new : Array Value} {n n2 : Nat} {vl vu : Value} {a c : Nat} {Q : Unit → Shared → Prop}
    (e : s.heap.get? l = some { cls := .type "list", data := .seq items n }) (e2 : s.heap.get? b = some { cls := .type "list", data := .seq new n2 }) (hne : l ≠ b)
    (hs : s.heap.IsSliceOf sl vl vu .none) (pl : IsPart vl (some (a : Int))) (pu : IsPart vu (some (c : Int))) (hac : a ≤ c) (hc : c ≤ items.size)
    (hsz : items.size + new.size ≤ sizeLine) (h : Q () { s with heap := s.heap.update l (Obj.mapSeq fun xs => xs.extract 0 a ++ new ++ xs.extract c xs.size) }) :
    wpAny (model prog w) A (setItem (.ref l) (.ref sl) (.ref b)) Q E s := by
  have hl : s.heap.IsList l items := PySem.IsL.isList e
  have hb : s.heap.IsList b new := PySem.IsL.isList e2
  obtain ⟨os, hos, hcs, hds⟩ := id hs
  have hTs : s.TypeIs (.ref sl) "slice" := ⟨os, hos, hcs⟩
  have hstep : ¬ ((rawPart none == rawInt 0) = true) := Bool.false_ne_true
  have hsame : Builtin.List.listSameRef (.ref l) (.ref b) = false := by
    unfold Builtin.List.listSameRef
    exact beq_eq_false_iff_ne.mpr hne
  have hmax : (max (a : Int) (c : Int)).toNat = c := by trivial
  have hz' : ((fun xs : Array Value => xs.extract 0 a ++ new ++ xs.extract c xs.size) items).size ≤ sizeLine + 1 := by
    simp only [Array.size_append, Array.size_extract]
    trivial
  unfold setItem
  try with_reducible refine wpAny_holding ?_
  first | refine wpAny_bind (wpAny_pure ?_) | skip
  refine wpAny_bind (wpAny_sequenceKey hl.typeIs (by decide) ?_)
  refine wpAny_bind (wpAny_callSpecial?_slot (name := Str.ofString "__setitem__") hl.typeIs slot_list_setitem
    (wpAny_call_entry slot_list_setitem hl.typeIs entry_list_setitem ?_ (args_list_setitem _ _ _)))
  show wpAny _ _ (Builtin.List.listSubscript? (.ref sl) >>= _) _ _ s
  refine wpAny_bind ?_
  unfold Builtin.List.listSubscript?
  refine wpAny_bind (wpAny_specialOf hTs slice_no_index ?_)
  simp only [Option.isNone_none, if_true]
  refine wpAny_pure ?_
  show wpAny _ _ (typeOf (.ref sl) >>= _) _ _ s
  refine wpAny_bind (wpAny_typeOf hTs ?_)
  first
    | rw [if_neg (by decide)]
    | refine PySem.W.KFB.if_not (by decide) ?_
  rw [listSliceParts_eq]
  refine wpAny_bind (wpAny_bind (wpAny_field hos hds (x := .none) rfl (wpAny_bind (wpAny_listPart .none ?_))))
  rw [if_neg hstep]
  refine wpAny_bind (wpAny_field hos hds (x := vl) rfl (wpAny_bind (wpAny_listPart pl ?_)))
  refine wpAny_bind (wpAny_field hos hds (x := vu) rfl (wpAny_bind (wpAny_listPart pu (wpAny_pure ?_))))
  first
    | simp only [hsame, Bool.false_eq_true, if_false]
    | refine PySem.W.KFB.if_not hsame ?_
    | (dsimp only
       rw [if_neg (by rw [hsame]; exact Bool.false_ne_true)])
  refine wpAny_bind (m := Builtin.List.listAllItems (.ref b) "must assign iterable to extended slice") ?_
  unfold Builtin.List.listAllItems
  refine wpAny_bind (wpAny_typeOf hb.typeIs ?_)
  first
    | refine PySem.W.KFB.if_so (by decide) ?_
    | rw [if_pos (by decide)]
    | simp only [beq_self_eq_true, Bool.true_or, if_true]
  unfold Builtin.List.listItems
  refine wpAny_bind (wpAny_seqItems e2 rfl (wpAny_pure ?_))
  refine wpAny_bind (wpAny_bind (wpAny_seqItems e rfl (wpAny_pure ?_)))
  refine wpAny_bind (wpAny_of_eq ((sliceIndices_raw (some (a : Int)) (some (c : Int)) none items.size (by simp)).trans (congrArg (pure : Int × Int × Int → Sem (Int × Int × Int)) (bounds_run hac hc))) ?_)
  show wpAny _ _ (if ((1 : Int) == 1) = true then _ else _) _ _ s
  rw [if_pos (by decide)]
  refine wpAny_bind (wpAny_rule ?_)
  first
    | simp only [notLongL hsz, Bool.false_eq_true, if_false]
    | refine PySem.W.KFB.if_not (notLongL hsz) ?_
  first | refine wpAny_bind (wpAny_pure ?_) | skip
  show wpAny _ _ (updateSeq l (fun xs => xs.extract 0 ((a : Int)).toNat ++ new ++ xs.extract (max (a : Int) (c : Int)).toNat xs.size) >>= _) _ _ s
  rw [hmax, Int.toNat_natCast]
  refine wpAny_bind (wpAny_updateSeq (hz := Nat.le_trans (Nat.le_add_right _ _) hsz) (_hz' := hz') e rfl ?_)
  refine wpAny_bind (wpAny_letGo ?_)
  first
    | exact wpAny_bind (wpAny_pure (wpAny_pure ⟨.none, rfl, wpAny_pure h⟩))
    | exact wpAny_pure ⟨.none, rfl, wpAny_pure h⟩
end
section
variable {X : Cx}
end
end L2
namespace Att
open PySem PySem.W PySem.Calls PyProof.Rows
theorem ints_of_wellAll {P : Params} {h : Heap} : ∀ (ns : List Int) (vs : List Value), WellAll P h vs (ns.map WData.int) → IntsAre vs ns := by
  intro ns
  induction ns with
  | nil =>
    intro vs w
    rw [List.map_nil] at w
    cases w
    exact .nil
  | cons n ns ih =>
    intro vs w
    rw [List.map_cons] at w
    cases w with
    | cons a b =>
      cases a
      exact .cons _ _ (ih _ b)
theorem script_of {l : OpenLaw} {n : Nat} (hn : l.most = some n) {P : Params} {h : Heap} {args : List WData} {vals : List Value}
    (hpre : l.row.toRowW.claim.pre args = true) (hwl : WellAll P h vals args) :
    ∃ a vs ns, vals = [Value.ref a] ∧ args = [WData.list (ns.map WData.int)] ∧ h.get? a = some { cls := .type "list", data := .seq vs.toArray } ∧ IntsAre vs ns ∧ ns.length ≤ n := by
  have hsh : WShape.hasAll [] args [.list .int] = true := (pre_splitW hpre).1
  have hc : l.pre.holds [] { args := args } = true := (pre_splitW hpre).2
  obtain ⟨d, r, rfl, h1, h2⟩ := hasAllW_cons hsh
  obtain rfl := hasAllW_nil h2
  obtain ⟨xs, rfl, h3⟩ := hasW_list h1
  obtain ⟨ns, rfl⟩ := items_int h3
  have hlen : ns.length ≤ n := by
    unfold OpenLaw.pre at hc
    have h4 : (WTm.not (.lt (.lit (.int (n : Int))) (.len (.arg 0)))).holds [] { args := [.list (ns.map .int)] } = true := by
      have h4 := (holds_andW hc).1
      rw [hn] at h4
      exact h4
    have h5 := condW_of h4 (w_not (w_lt w_lit (w_len_list (w_arg rfl))))
    rw [List.length_map] at h5
    refine Nat.le_of_not_lt fun q => ?_
    have q' : (n : Int) < ((ns.length : Nat) : Int) := by trivial
    first
      | (rw [decide_eq_true q'] at h5; exact absurd h5 (by decide))
      | (simp at h5; trivial)
  cases hwl with
  | cons w1 w2 =>
    cases w2
    cases w1 with
    | list ho hall => exact ⟨_, _, ns, rfl, rfl, ho, ints_of_wellAll ns _ hall, hlen⟩
theorem post_true (l : OpenLaw) (args : List WData) : l.row.toRowW.claim.post args (.bool true) args = true :=
  postW_of (r := l.row.toRowW) (X := (true == true))
    (show WShape.has [] (.bool true) .bool = true by first | rfl | decide | simp [WShape.has, WShape.arms, WShape.armsAll])
    (show (WTm.eq .res (.lit (.bool true))).value [] { args := args, res := some (.bool true), after := args } = some (.bool (true == true)) from w_eq_bool (w_res rfl) w_lit) rfl
theorem attach_call {l : OpenLaw} {n : Nat} {q : Program} {loose : List Str} {XP : (Str → Option Value) → Heap → Prop} {YP : World → Heap → Prop} {d : DefRec}
    (hn : l.most = some n) (hdf : d.params.defaults = [])
    (call : ∀ (w : World) (s₀ s₁ : Shared) (mg mb : Str → Option Value) (fa : Addr) (o : Obj) (pm cd doc : Value) (a : Addr) (vs : List Value) (ns : List Int),
      Ground q loose [] XP w s₀ mg mb s₁.heap → YP w s₁.heap →
      s₁.heap.get? fa = some o → o.data = .func (docDef d.name d.params d.body d.scope pm cd doc) → s₁.heap.CodeRec cd d.name → mg d.name = some (.ref fa) →
      s₁.heap.get? a = some { cls := .type "list", data := .seq vs.toArray } → IntsAre vs ns → ns.length ≤ n → s₁.gens = #[] →
      codeAny (model l.prog w) callerA (.call (.ref fa) ⟨[.ref a], []⟩) (fun r s' => r = .ok (.ret (.bool true)) ∧ OldK s₁.heap s'.heap ∧ s'.os = s₁.os ∧ AllBare s'.gens) s₁) :
    WalkO q loose XP YP l.row.toRowW d [] (fun f vs => PySem.call f vs) := by
  intro w s₀ s₁ mg mb G Y fa o pm cd doc dV kV ho hd hcd hD hmg hg args vals as hpre hlay hrd hwl hlo
  obtain rfl : dV = .none := Dflts.none hD hdf
  obtain rfl : kV = .none := Dflts.noKw hD
  obtain ⟨a, vs, ns, rfl, rfl, hobj, hints, hlen⟩ := script_of hn hpre hwl
  refine enter_call (codeAny_mono (call w s₀ s₁ mg mb fa o pm cd doc a vs ns G Y ho (fd_plain hd) hcd hmg hobj hints hlen hg) fun r s' hq => ?_)
  obtain ⟨rfl, h2, h3, h4⟩ := hq
  exact ⟨.inl ⟨.bool true, .bool true, [], rfl, fun _ => rfl, .bool true, post_true l _, fun _ => ⟨List.Pairwise.nil, fun _ hm => (nomatch hm)⟩⟩, h2, h3, h4⟩
section
variable {prog : Program} {w : World} {A : Around} {E : Value → Shared → Prop} {s : Shared} {K : Frag}
end
end Att
namespace L2
open PySem PySem.Spec PyProof.Rows
theorem vals_ints : ∀ {vs : List Value} {ns : List Int}, IntsAre vs ns → Vals (ns.map V.int) vs
  | _, _, .nil => .nil
  | _, _, .cons n t h => .cons ⟨t, rfl⟩ (vals_ints h)
noncomputable def Only (H : Hp) : Prop := ∀ b, H b = none ∨ ∃ o xs, H b = some (.frz o (.lst xs))
theorem law_call {P : Program} {w : World} {K : PySem.W.Frag} {mg mb : Str → Option Value} {CX : CXT} {k : Nat} {fa a : Addr} {fd : FuncData} {x : Str} {sp : Sp} {s₁ : Shared} {vs : List Value} {ns : List Int}
    (KX : K.In s₁.heap) (hns : s₁.heap.Ns mainGlobals mg) (hb : s₁.heap.Ns builtinsNs mb) (hbb : ∀ x : Str, x ≠ "__name__" → mb x = bootBuiltins x) (hlim : s₁.heap.NoLimit) (hg : s₁.gens = #[])
    (ha : s₁.heap.get? a = some { cls := .type "list", data := .seq vs.toArray }) (hi : IntsAre vs ns) (hl : ns.length ≤ sizeLine) (hr : Room k callerA)
    (F : ∀ base : Heap, K.In base → base.Ns mainGlobals mg → FnOk P w K mg base CX k fa fd [x] sp) (hbind : ∀ (s : Shared) (u : Value), BindsTo s fd ⟨[u], []⟩ [(x, u)])
    (hsp : ∀ H : Hp, Only H → SqL K H a (ns.map V.int) → sp [.ref a] H (fun v _ => v = .bl true) fun _ _ _ => False)
    (hCX : ∀ H e s', CX [] H s₁ (fun _ _ _ => False) e s' → False) :
    codeAny (model P w) callerA (.call (.ref fa) ⟨[.ref a], []⟩) (fun r s' => r = .ok (.ret (.bool true)) ∧ OldK s₁.heap s'.heap ∧ s'.os = s₁.os ∧ AllBare s'.gens) s₁ := by
  have rv := vals_ints hi
  have lenV := hi.length
  -- from an abstract heap in which nothing but the script may be tracked
  have core : ∀ H : Hp, Only H → SqL K H a (ns.map V.int) → HOk P w H s₁.heap → (∀ b, H b ≠ none → b = a) → (H a ≠ none → K.lookup a = none) →
      codeAny (model P w) callerA (.call (.ref fa) ⟨[.ref a], []⟩) (fun r s' => r = .ok (.ret (.bool true)) ∧ OldK s₁.heap s'.heap ∧ s'.os = s₁.os ∧ AllBare s'.gens) s₁ := by
    intro H hO hS hok hA hK
    have base_of : ∀ {b : Addr} {o : Obj}, s₁.heap.get? b = some o → H b = none → (hidT s₁.heap H).get? b = some o := fun e n => hidT_get e n
    have noA : ∀ {b : Addr} {o : Obj} {es : Array DictEntry} {ep : Nat}, s₁.heap.get? b = some o → o.data = .dict es ep → H b = none := fun {b o es ep} e d => by
      cases q : H b with
      | none => rfl
      | some u =>
        have e' : b = a := hA b (by rw [q]; simp)
        subst e'
        rw [ha] at e; cases e
        have d' : Data.seq vs.toArray _ = Data.dict es ep := d
        cases d'
    have nsK : ∀ {b : Addr} {m : Str → Option Value}, s₁.heap.Ns b m → (hidT s₁.heap H).Ns b m := fun {b m} ⟨o, es, ep, e, d, r⟩ => ⟨o, es, ep, base_of e (noA e d), d, r⟩
    have hKb : K.In (hidT s₁.heap H) := fun b o e => base_of (KX b o e) (by
      cases q : H b with
      | none => rfl
      | some u =>
        have e' : b = a := hA b (by rw [q]; simp)
        subst e'
        rw [hK (by rw [q]; simp)] at e; cases e)
    have hM : Mod K mg (hidT s₁.heap H) := ⟨hKb, nsK hns, ⟨mb, nsK hb, hbb⟩, let ⟨mc, h1, h2⟩ := hlim; ⟨mc, nsK h1, h2⟩⟩
    have e0 : Env0 P w K mg (hidT s₁.heap H) callerA [] s₁ H := ⟨rfl, hM, fun b o e => of_hidT e, Nat.le_of_eq (hidT_size _ _), trivial, fun b hb => absurd (show b ∈ ([] : List Addr) from hb) (by simp), hok, .of_eq hg⟩
    refine codeAny_mono ((F _ hKb (nsK hns)).run callerA [] s₁ H ⟨[.ref a], []⟩ [.ref a] [.ref a] _ _ hr e0 (hbind s₁ (.ref a)) (.cons rfl .nil) (hsp H hO hS)) fun r s' h => ?_
    cases r with
    | error e => exact (hCX H e s' h).elim
    | ok fl =>
      cases fl with
      | next => exact False.elim h
      | brk => exact False.elim h
      | cont => exact False.elim h
      | ret u =>
        obtain ⟨v, H', os, bare, un, hok', r', q⟩ := h
        have q' : v = .bl true := q
        subst q'
        obtain rfl : u = Value.bool true := r'
        refine ⟨rfl, OldK.of_keep fun b o e => ?_, os, bare⟩
        cases q : H b with
        | none => exact un.keep b o e q (by intro z; exact absurd (show b ∈ ([] : List Addr) from z) (by simp)) (by simp)
        | some u =>
          rcases hO b with z | ⟨ob, xs, z⟩
          · rw [q] at z; cases z
          · have z2 := un.frzs b ob _ z
            obtain ⟨e1, _⟩ := hok b _ z
            obtain ⟨e2, _⟩ := hok' b _ z2
            rw [e] at e1; cases e1
            exact e2
  cases hk : K.lookup a with
  | some o =>
    -- the script is one of the module's own objects
    have e := KX a o hk
    rw [ha] at e
    cases e
    refine core (fun _ => none) (fun _ => .inl rfl) (.inr ⟨_, vs.toArray, _, hk, rfl, rfl, rfl, by rw [List.size_toArray, lenV]; exact hl, by simpa using rv⟩) (fun b u z => by have z' : (none : Option HO) = some u := z; cases z') (fun b z => absurd rfl z) fun z => absurd rfl z
  | none =>
    refine core (fun b => if b = a then some (.frz { cls := .type "list", data := .seq vs.toArray } (.lst (ns.map V.int))) else none) (fun b => ?_) (.inl (.inr ⟨{ cls := .type "list", data := .seq vs.toArray }, if_pos rfl⟩)) (fun b u z => ?_) (fun b z => ?_) fun _ => hk
    · by_cases hb : b = a
      · exact .inr ⟨_, _, if_pos hb⟩
      · exact .inl (if_neg hb)
    · by_cases hb : b = a
      · have z' := (if_pos hb).symm.trans z
        cases z'
        subst hb
        exact ⟨ha, by rw [List.length_map]; exact hl, vs, _, rv, ha⟩
      · have z' := (if_neg hb).symm.trans z
        cases z'
    · by_cases hb : b = a
      · exact hb
      · exact absurd (if_neg hb) z
end L2
namespace L2
open PySem PySem.Spec PyProof.Rows
noncomputable abbrev KOf {K : PySem.W.Frag} {h : Heap} (_ : K.In h) : PySem.W.Frag := K
theorem walk_of {l : PySem.W.OpenLaw} {n k : Nat} {q : Program} {loose : List Str} {XP : (Str → Option Value) → Heap → Prop} {YP : World → Heap → Prop} {d : DefRec} {K : Params → PySem.W.Frag} {CX : World → CXT} {sp : World → Sp} {x : Str}
    (hn : l.most = some n) (hn2 : n ≤ sizeLine) (hdf : d.params.defaults = []) (hr : Room k callerA)
    (hY : ∀ (w : World) (h : Heap), YP w h → (K w.params).In h)
    (F : ∀ (w : World) (mg : Str → Option Value) (fa : Addr) (h : Heap), (K w.params).In h → h.Ns mainGlobals mg → mg d.name = some (.ref fa) →
      ∃ fd : FuncData, (∀ (s : Shared) (u : Value), BindsTo s fd ⟨[u], []⟩ [(x, u)]) ∧
        ∀ base : Heap, (K w.params).In base → base.Ns mainGlobals mg → FnOk l.prog w (K w.params) mg base (CX w) k fa fd [x] (sp w))
    (hsp : ∀ (w : World) (H : Hp) (a : Addr) (ns : List Int), ns.length ≤ n → Only H → SqL (K w.params) H a (ns.map V.int) → sp w [.ref a] H (fun v _ => v = .bl true) fun _ _ _ => False)
    (hCX : ∀ (w : World) (H : Hp) (s : Shared) (e : Value) (s' : Shared), CX w [] H s (fun _ _ _ => False) e s' → False) :
    PySem.W.WalkO q loose XP YP l.row.toRowW d [] (fun f vs => PySem.call f vs) := by
  refine Att.attach_call hn hdf fun w s₀ s₁ mg mb fa o pm cd doc a vs ns G Y ho hd hcd hmg hobj hints hlen hg => ?_
  have KX := hY w _ Y
  obtain ⟨fd, hb, hF⟩ := F w mg fa _ KX G.T.g hmg
  exact law_call KX G.T.g G.T.b G.T.builtins G.T.nolimit hg hobj hints (Nat.le_trans hlen hn2) hr hF hb (fun H hO hS => hsp w H a ns hlen hO hS) fun H e s' => hCX w H s₁ e s'
end L2
/- THE LAST THEOREM (shape; LID, My.* are yours):
   My.Adr: a structure of the addresses that your layer names (classes, functions); My.Txt K t: a structure (Prop) of the equations over K;
   My.txt_mk : {K} {implicit addresses ..} (e1 : nsIn K mainGlobals "law" = some (some (.ref f))) (e2 : K.lookup f = some ⟨oc, od, .func (fnOf "law" "law" params body scope dV kV doc pm an cdv ct), sl⟩) (e3 : codeIn K cdv "law" = true) .. : ∃ t, My.Txt K t
set_option maxRecDepth 100000 in
set_option maxHeartbeats 0 in
theorem PySem.Challenge.cw_LID_holds : PySem.Challenge.rw_LID.Holds := by
  w_on; o_law; k_head; (case hw => w_witness2)
  k_fill
  refine L2.walk_of (l := PySem.Challenge.rw_LID) (n := 63) (k := 40) (x := "script") (CX := fun w => ..) (sp := fun _ => My.sp_law) rfl (by decide) rfl ⟨rfl, by decide, by decide⟩ (fun w h Y => PySem.W.kIn_of Y) ?F ?S ?C
  case F =>
    intro w mg fa h KX G hmg
    have T : ∃ t, My.Txt (L2.KOf KX) t := by
      dsimp only [L2.KOf]                          -- K must stand as «<heap const> w.params» for k_is
      refine' My.txt_mk ?e1 ?e2 ?e3 ..
      (case e1 => PySem.W.k_is)                    -- in the order: a name -> its address -> its object -> its parts
      (case e2 => PySem.W.k_is)
      ..
    obtain ⟨t, T⟩ := T
    have e0 := hmg.symm.trans (PySem.W.mg_of KX G T.law)
    cases e0                                       -- fa is the law's own address
    exact ⟨_, fun s u => .of_eq rfl, fun base kb nb => My.law_fn T kb nb⟩     -- if «.of_eq rfl» comes too early: refine' ⟨_, ?b, fun base kb nb => My.law_fn T kb nb⟩; exact fun s u => .of_eq rfl
  case S => exact fun w H a ns hl hO hS => ..
  case C => exact ..
(the tactic k_is has no namespace: write k_is) -/
namespace L2
open PySem PySem.Spec PyProof.Rows
noncomputable def defArgs (s : Stmt) : Arguments := match s with
  | .FunctionDef _ a _ _ _ _ _ _ _ _ => a
  | _ => { posonlyargs := [], args := [], vararg := none, kwonlyargs := [], kw_defaults := [], kwarg := none, defaults := [] }
noncomputable def defBody (s : Stmt) : List Stmt := match s with
  | .FunctionDef _ _ b _ _ _ _ _ _ _ => b
  | _ => []
noncomputable def defScope (s : Stmt) : Scope := match s with
  | .FunctionDef _ _ _ _ _ _ sc _ _ _ => sc
  | _ => { kind := .function, names := [], isGenerator := false, isCoroutine := false }
noncomputable abbrev CX0 : CXT := fun _ _ _ _ _ _ => False
noncomputable abbrev E0 : XK := fun _ _ _ => False
structure Fun (K : PySem.W.Frag) (x qual : Str) (st : Stmt) (f : Addr) (fd : FuncData) : Prop where
  ex : ∃ (oc : Value) (od : Option Addr) (kV doc pm : Value) (an : Option Addr) (cdv ct : Value) (osl : Array (Option Value)),
    fd = PySem.W.fnOf x qual (defArgs st) (defBody st) (defScope st) .none kV doc pm an cdv ct ∧ K.lookup f = some ⟨oc, od, .func fd, osl⟩ ∧ PySem.W.codeIn K cdv qual = true
  kp : PySem.W.keepIn K (.ref f) = true
section
variable {P : Program} {w : World} {K : PySem.W.Frag} {mg : Str → Option Value} {base : Heap}
theorem Fun.ok {x qual : Str} {st : Stmt} {f : Addr} {fd : FuncData} {N ps : List Str} {k : Nat} {sp : Sp} (F : Fun K x qual st f fd) (S : FnScope N ps (defScope st)) (len : ∀ vs H Q E, sp vs H Q E → vs.length = ps.length)
    (hbody : ∀ (cdv : Value) (A : Around) (outer : List Env) (s : Shared) (H : Hp) (vs : List V) (Q : VK) (E : XK), Room k (A.deeper (envOfC qual (defScope st) s.heap.objs.size f cdv)) → sp vs H Q E →
      ∃ t, PSs (cxOf CX0 P w K mg base N qual (defScope st) f cdv A outer s H E).nox (defBody st) t ∧ t { nx := fun _ H' => Q .non H', rt := Q } (start N vs) H) : FnOk P w K mg base CX0 (k + 1) f fd ps sp := by
  obtain ⟨oc, od, kV, doc, pm, an, cdv, ct, osl, rfl, lk, hcd⟩ := F.ex
  refine fn_of lk hcd S len fun A outer s H vs Q E hr hsp => ?_
  obtain ⟨t, h, q⟩ := hbody cdv A outer s H vs Q E hr hsp
  exact ⟨t, h.nox, q⟩
theorem Fun.binds {x qual : Str} {st : Stmt} {f : Addr} {fd : FuncData} {ps : List Str} (F : Fun K x qual st f fd)
    (h : ∀ (kV doc pm : Value) (an : Option Addr) (cdv ct : Value) (us : List Value), us.length = ps.length → bindArgs (PySem.W.fnOf x qual (defArgs st) (defBody st) (defScope st) .none kV doc pm an cdv ct) ⟨us, []⟩ = pure (ps.zip us)) : Binds K fd ps [] := by
  obtain ⟨oc, od, kV, doc, pm, an, cdv, ct, osl, rfl, lk, hcd⟩ := F.ex
  exact .all (h kV doc pm an cdv ct)
theorem fun_mk {x qual : Str} {st : Stmt} {f : Addr} {oc : Value} {od an : Option Addr} {osl : Array (Option Value)} {kV doc pm cdv ct : Value} (l : K.lookup f = some ⟨oc, od, .func (PySem.W.fnOf x qual (defArgs st) (defBody st) (defScope st) .none kV doc pm an cdv ct), osl⟩)
    (c : PySem.W.codeIn K cdv qual = true) (k : PySem.W.keepIn K (.ref f) = true) : Fun K x qual st f (PySem.W.fnOf x qual (defArgs st) (defBody st) (defScope st) .none kV doc pm an cdv ct) := ⟨⟨oc, od, kV, doc, pm, an, cdv, ct, osl, rfl, l, c⟩, k⟩
end
section
variable {X : Cx}
theorem pv (i : Nat) {x : Str} {pos : Pos} (hN : X.N[i]? = some x := by rfl) (hv : Vis X.env.scope x := by first | exact Or.inl rfl | exact Or.inr (Or.inl rfl) | exact Or.inr (Or.inr rfl)) (hd : (x == ("__debug__" : Str)) = false := by decide)
    (hcd : (x == ("__classdict__" : Str)) = false := by decide) : PE X (.Name x pos) (tVar i) := pe_var hN hv hd hcd
end
theorem iteF {A B : Prop} (h : B) : if false = true then A else B := by
  rw [if_neg Bool.false_ne_true]
  exact h
theorem iteT {A B : Prop} (h : A) : if true = true then A else B := by
  rw [if_pos rfl]
  exact h
theorem ite2 {c A B : Prop} [Decidable c] (h1 : c → A) (h2 : ¬ c → B) : if c then A else B := by
  by_cases h : c
  · rw [if_pos h]
    exact h1 h
  · rw [if_neg h]
    exact h2 h
theorem iteNS {c A B : Prop} [Decidable c] (hc : c) (h : B) : if (!decide c) = true then A else B := by
  rw [decide_eq_true hc]
  exact iteF h
noncomputable def Same (H H' : Hp) : Prop := ∀ b o, H b = some o → H' b = some o
theorem Same.refl (H : Hp) : Same H H := fun _ _ h => h
theorem Same.trans {H H1 H2 : Hp} (a : Same H H1) (b : Same H1 H2) : Same H H2 := fun c o h => b c o (a c o h)
theorem Same.free {H H' : Hp} (e : Same H H') {l : Addr} (h : H' l = Option.none) : H l = Option.none := by
  cases q : H l with
  | none => rfl
  | some o =>
    rw [e l o q] at h
    cases h
theorem Same.seq {K : PySem.W.Frag} {H H' : Hp} {a : Addr} {xs : List V} (e : Same H H') (h : SqL K H a xs) : SqL K H' a xs := by
  rcases h with (h | ⟨o, h⟩) | h
  · exact .inl (.inl (e _ _ h))
  · exact .inl (.inr ⟨o, e _ _ h⟩)
  · exact .inr h
end L2
set_option Elab.async false
set_option linter.all false
set_option maxRecDepth 100000
namespace L2
open PySem PySem.Spec PyProof.Rows
noncomputable def clos (cells : List (Str × Addr)) : List (Str × NameKind) → List (Str × Addr) → List (Str × Addr)
  | [], cs => cs
  | (n, k) :: r, cs => if (k == NameKind.free) = true then (match cells.lookup n with | some c => clos cells r ((n, c) :: cs) | none => clos cells r cs) else clos cells r cs
theorem clos_for {env : Env} : ∀ (l : List (Str × NameKind)) (cs : List (Str × Addr)), (∀ x ∈ l, x.2 = .free → ∃ c, env.cells.lookup x.1 = some c) →
    (forIn (m := Sem) l cs fun x r => match x with
      | (name, kind) => if (kind == NameKind.free) = true then do let c ← cellOf env name; pure (ForInStep.yield ((name, c) :: r)) else pure (ForInStep.yield r)) = pure (clos env.cells l cs)
  | [], cs, _ => by rfl
  | (n, k) :: r, cs, h => by
    have ih := fun cs => clos_for r cs fun x hx => h x (List.mem_cons_of_mem _ hx)
    rw [List.forIn_cons]
    unfold clos
    by_cases hk : (k == NameKind.free) = true
    · obtain ⟨c, hc⟩ := h (n, k) List.mem_cons_self (by simpa using hk)
      have hc' : env.cells.lookup n = some c := hc
      simp only [hk, if_true, hc']
      have e : cellOf env n = pure c := by unfold cellOf; rw [hc']
      rw [e]
      simp only [pure_bind]
      exact ih _
    · have hk' : (k == NameKind.free) = false := by simpa using hk
      simp only [hk', Bool.false_eq_true, if_false, pure_bind]
      exact ih _
theorem clos_eq {scope : Scope} {env : Env} (h : ∀ x ∈ scope.names, x.2 = .free → ∃ c, env.cells.lookup x.1 = some c) : closureFor scope env = pure (clos env.cells scope.names []) := by
  unfold closureFor
  have := clos_for (env := env) scope.names [] h
  simp only [this, pure_bind]
theorem clos_sub {cells : List (Str × Addr)} {x : Str} {c : Addr} : ∀ (l : List (Str × NameKind)) (cs : List (Str × Addr)), (∀ y d, cs.lookup y = some d → cells.lookup y = some d) → (clos cells l cs).lookup x = some c → cells.lookup x = some c
  | [], cs, h, e => h x c e
  | (n, k) :: r, cs, h, e => by
    unfold clos at e
    split at e
    · split at e
      · rename_i d hd
        refine clos_sub r _ (fun y z q => ?_) e
        rw [List.lookup_cons] at q
        split at q
        · rename_i hy
          cases q
          rw [eq_of_beq hy]; exact hd
        · exact h y z q
      · exact clos_sub r cs h e
    · exact clos_sub r cs h e
theorem clos_keep {cells : List (Str × Addr)} {x : Str} : ∀ (l : List (Str × NameKind)) (cs : List (Str × Addr)), (∃ c, cs.lookup x = some c) → ∃ c, (clos cells l cs).lookup x = some c
  | [], cs, h => h
  | (n, k) :: r, cs, h => by
    unfold clos
    split
    · split
      · refine clos_keep r _ ?_
        rw [List.lookup_cons]
        split
        · exact ⟨_, rfl⟩
        · exact h
      · exact clos_keep r cs h
    · exact clos_keep r cs h
theorem clos_has {cells : List (Str × Addr)} {x : Str} : ∀ (l : List (Str × NameKind)) (cs : List (Str × Addr)), (x, NameKind.free) ∈ l → (∃ c, cells.lookup x = some c) → ∃ c, (clos cells l cs).lookup x = some c
  | [], _, h, _ => nomatch h
  | (n, k) :: r, cs, h, ⟨c, hc⟩ => by
    unfold clos
    rcases List.mem_cons.mp h with e | h
    · cases e
      rw [if_pos (by rfl), hc]
      refine clos_keep r _ ⟨c, ?_⟩
      simp [List.lookup_cons]
    · split
      · split
        · exact clos_has r _ h ⟨c, hc⟩
        · exact clos_has r _ h ⟨c, hc⟩
      · exact clos_has r _ h ⟨c, hc⟩
theorem relabel_free {env : Env} : ∀ {names : List (Str × NameKind)} {x : Str}, names.lookup x = some .free →
    (names.map fun (n, k) => if (k == NameKind.free && env.scope.kind == .function && env.kindOf n == some .cell) then (n, NameKind.cell) else (n, k)).lookup x = some .cell ∨
    (names.map fun (n, k) => if (k == NameKind.free && env.scope.kind == .function && env.kindOf n == some .cell) then (n, NameKind.cell) else (n, k)).lookup x = some .free
  | [], _, h => by simp at h
  | (n, k) :: r, x, h => by
    have ih := @relabel_free env r x
    by_cases hc : (k == NameKind.free && env.scope.kind == .function && env.kindOf n == some .cell) = true
    · simp only [List.map_cons, if_pos hc, List.lookup_cons]
      cases hx : x == n with
      | true => exact .inl rfl
      | false =>
        simp only [List.lookup_cons, hx] at h
        exact ih h
    · simp only [List.map_cons, if_neg hc, List.lookup_cons]
      cases hx : x == n with
      | true =>
        simp only [List.lookup_cons, hx] at h
        cases h
        exact .inr rfl
      | false =>
        simp only [List.lookup_cons, hx] at h
        exact ih h
theorem relabel_back {env : Env} : ∀ {names : List (Str × NameKind)} {x : Str}, (∀ y ∈ names, y.2 ≠ .cell) →
    ((names.map fun (n, k) => if (k == NameKind.free && env.scope.kind == .function && env.kindOf n == some .cell) then (n, NameKind.cell) else (n, k)).lookup x = some .cell ∨
    (names.map fun (n, k) => if (k == NameKind.free && env.scope.kind == .function && env.kindOf n == some .cell) then (n, NameKind.cell) else (n, k)).lookup x = some .free) → (x, NameKind.free) ∈ names
  | [], _, _, h => by simp at h
  | (n, k) :: r, x, hn, h => by
    have ih := @relabel_back env r x fun y hy => hn y (List.mem_cons_of_mem _ hy)
    by_cases hc : (k == NameKind.free && env.scope.kind == .function && env.kindOf n == some .cell) = true
    · simp only [List.map_cons, if_pos hc, List.lookup_cons] at h
      have hk : k = .free := by
        simp only [Bool.and_eq_true] at hc
        exact eq_of_beq hc.1.1
      cases hx : x == n with
      | true => rw [eq_of_beq hx, hk]; exact List.mem_cons_self
      | false =>
        simp only [hx] at h
        exact List.mem_cons_of_mem _ (ih h)
    · simp only [List.map_cons, if_neg hc, List.lookup_cons] at h
      cases hx : x == n with
      | true =>
        simp only [hx] at h
        rcases h with h | h
        · have e : k = .cell := Option.some.inj h
          exact absurd e (hn (n, k) List.mem_cons_self)
        · have e : k = .free := Option.some.inj h
          rw [eq_of_beq hx, e]; exact List.mem_cons_self
      | false =>
        simp only [hx] at h
        exact List.mem_cons_of_mem _ (ih h)
noncomputable def compCx (X : Cx) (N : List Str) (scope : Scope) (C : Addr) (s : Shared) (H : Hp) (fp : List Addr) : Cx where
  prog := X.prog
  w := X.w
  K := X.K
  mg := X.mg
  base := X.base
  A := X.A
  N := N
  s₀ := s
  H₀ := H
  env := compEnvC scope (clos X.env.cells scope.names []) C X.env
  outer := X.stack
  stack := X.stack
  ex := fp
  fn := fun _ => false
  calm := X.calm
  pn := []
  xe := fun _ _ => False
structure CompScope (X : Cx) (N : List Str) (js : List (Option Nat)) (scope : Scope) : Prop where
  kind : scope.kind = .function
  nocell : ∀ y ∈ scope.names, y.2 ≠ .cell
  locs : ∀ y ∈ scope.names, y.2 = .local → scope.names.lookup y.1 = some .local
  free : ∀ y ∈ scope.names, y.2 = .free → X.env.kindOf y.1 = some .cell ∨ X.env.kindOf y.1 = some .free
  len : js.length = N.length
  js : ∀ (i j : Nat) (x : Str), js[i]? = some (some j) → N[i]? = some x → X.N[j]? = some x ∧ scope.names.lookup x = some .free
noncomputable def innerSt (js : List (Option Nat)) (σ : St) : St := js.map fun j => (j.bind fun j => σ[j]?).join
section
variable {X : Cx} {pins : List (Addr × Obj)} {σ : St} {H : Hp} {s : Shared} {N : List Str} {js : List (Option Nat)} {scope : Scope} {fp : List Addr} {C D : Addr} {h₁ : Heap} {m : Str → Option Value} {tk : Nat}
theorem lookup_mem {α β : Type} [BEq α] [LawfulBEq α] {x : α} {y : β} : ∀ {l : List (α × β)}, l.lookup x = some y → (x, y) ∈ l
  | [], h => by simp at h
  | (a, b) :: r, h => by
    rw [List.lookup_cons] at h
    split at h
    · rename_i hx
      cases h
      rw [eq_of_beq hx]; exact List.mem_cons_self
    · exact List.mem_cons_of_mem _ (lookup_mem h)
theorem inv_comp (S : CompScope X N js scope) (I : Inv X pins σ H s) (f2 : ∀ b ∈ fp, FpOk X pins H b) (hfp : ∀ b ∈ fp, b < s.heap.objs.size) (keep : ∀ b o, s.heap.get? b = some o → h₁.get? b = some o)
    (hD0 : s.heap.objs.size ≤ D) (hC0 : s.heap.objs.size ≤ C) (hDC : D ≠ C) (hD : ∃ n, h₁.get? D = some { cls := .type "list", data := .seq ([] : List Value).toArray n }) (hns : h₁.Ns C m) :
    Inv (compCx X N scope C s H fp) [] (innerSt js σ) (upd H D (.lst [])) { s with heap := h₁, toks := tk } := by
  have hc : ∀ x ∈ scope.names, x.2 = .free → ∃ c, X.env.cells.lookup x.1 = some c := fun x hx e => I.ok.has _ (S.free x hx e)
  have sub : ∀ x c, (clos X.env.cells scope.names []).lookup x = some c → X.env.cells.lookup x = some c := fun x c e => clos_sub _ _ (fun _ _ z => by simp at z) e
  have clt : ∀ x c, X.env.cells.lookup x = some c → c < s.heap.objs.size := fun x c e => by obtain ⟨v, q⟩ := I.cell x c e; exact q.lt
  have hasF : ∀ x, (x, NameKind.free) ∈ scope.names → ∃ c, (clos X.env.cells scope.names []).lookup x = some c := fun x hx => clos_has _ _ hx (hc (x, .free) hx rfl)
  have fD : H D = none := I.hok.fresh hD0
  have fC : H C = none := I.hok.fresh hC0
  refine ⟨⟨I.ok.mod, S.kind, I.ok.glob, I.ok.blt, hC0, fun x y c h1 h2 => I.ok.inj x y c (sub _ _ h1) (sub _ _ h2), fun x hx => ?_, fun x c h _ => (Bool.noConfusion h), I.ok.hd, I.ok.frames, .inl rfl, fun b hb => ⟨?_, fun x c e => (f2 b hb).2.2.2.2.1 x c (sub _ _ e)⟩, I.bs,
      Nat.le_trans I.ok.bsz I.sz, fun b o e hb => ?_, fun b hb z => ?_, I.stack, I.stkFree⟩,
    rfl, I.bare, Un.laid keep hD0 fD, ⟨m, hns, fun i x v h1 h2 h3 => ?_⟩, fun x c e => ?_, ?_, fun x c e => ?_, fun p hp => absurd hp (by simp [compCx]), I.hok.laid keep hD0 ?_, ?_⟩
  · exact hasF x (relabel_back S.nocell hx)
  · exact Nat.ne_of_lt (Nat.lt_of_lt_of_le (hfp b hb) hC0)
  · rcases (f2 b hb).2.2.2.1 with q | q
    · exact I.ok.noex b o e q
    · exact absurd (Nat.lt_of_lt_of_le (Heap.lt_size e) (Nat.le_trans I.ok.bsz q)) (Nat.lt_irrefl _)
  · rcases List.mem_cons.mp (I.stkSub b z) with q | q
    · exact (f2 b hb).2.1 q
    · exact (f2 b hb).2.2.1 q
  · have h2' : (js[i]?.map fun j => (j.bind fun j => σ[j]?).join) = some (some v) := by rw [← List.getElem?_map]; exact h2
    cases ej : js[i]? with
    | none => rw [ej] at h2'; cases h2'
    | some j =>
      rw [ej] at h2'
      cases j with
      | none => simp at h2'
      | some j =>
        have e2 : σ[j]? = some (some v) := by
          simp only [Option.map_some, Option.bind_some, Option.some.injEq] at h2'
          cases q : σ[j]? with
          | none => rw [q] at h2'; simp at h2'
          | some z => rw [q] at h2'; simp at h2'; rw [h2']
        obtain ⟨n1, n2⟩ := S.js i j x ej h1
        have hx := lookup_mem n2
        have hk := S.free _ hx rfl
        obtain ⟨m0, _, hl⟩ := I.loc
        obtain ⟨u, r, l⟩ := hl j x v n1 e2 (hk.elim (fun z => .inr (.inl z)) fun z => .inr (.inr z))
        refine ⟨u, r, ?_⟩
        rcases l with ⟨k, _⟩ | ⟨_, c, e, z⟩
        · have k' : X.env.kindOf x = some .local := k
          rcases hk with q | q <;> (rw [show X.env.kindOf x = _ from q] at k'; cases k')
        · obtain ⟨c', e'⟩ := hasF x hx
          have := sub _ _ e'
          rw [e] at this; cases this
          exact .inr ⟨relabel_free n2, c, e', z.keeps keep⟩
  · obtain ⟨v, q⟩ := I.cell x c (sub _ _ e)
    exact ⟨v, q.keeps keep⟩
  · show upd H D _ C = none
    rw [upd_ne (Ne.symm hDC)]; exact fC
  · show upd H D _ c = none
    have hlt := clt x c (sub _ _ e)
    rw [upd_ne (Nat.ne_of_lt (Nat.lt_of_lt_of_le hlt hD0))]
    exact I.freeC x c (sub _ _ e)
  · obtain ⟨n, hD⟩ := hD
    exact ⟨Nat.zero_le _, [], n, .nil, hD⟩
  · show (innerSt js σ).length = N.length
    unfold innerSt
    rw [List.length_map, S.len]
end
noncomputable def PIfs (X : Cx) (ifs : List Expr) (t : TT) : Prop :=
  ∀ (pins : List (Addr × Obj)) (s : Shared) (σ : St) (H : Hp) (Q : Bool → Hp → Prop), Inv X pins σ H s → t σ H Q →
    wpAny (model X.prog X.w) X.A (forIn ifs true fun c r => if r = true then do let ok ← isTrue c X.env (eval c X.env); pure (ForInStep.yield ok) else pure (ForInStep.yield r)) (TP X pins σ Q) X.xe s
noncomputable def tTrue : TT := fun _ H Q => Q true H
theorem pif_nil {X : Cx} : PIfs X [] tTrue := fun _ _ _ H _ I h => wpAny_tests_nil ⟨H, I, h⟩
theorem pif_one {X : Cx} {c : Expr} {t : TT} (h : PT X c t) : PIfs X [c] t := fun pins s σ H Q I hw => wpAny_tests_one (h pins s σ H Q I hw)
theorem compLoop_gen {prog : Program} {w : World} {A : Around} {R : Result → Shared → Prop} {s : Shared} {elt target iter : Expr} {ifs : List Expr} {scope : Scope} {pos : Pos} {it acc : Value} {env : Env} (I : Nat → Shared → Prop)
    (turn : ∀ n s, I n s → wpAny (model prog w) A (pyNext it) (fun r s₁ => match r with
      | none => R (.ok .next) s₁
      | some v => wpAny (model prog w) A (letOwnedTupleGo target it v) (fun _ s₁' => wpAny (model prog w) A (assign target env v) (fun _ s₂ =>
          wpAny (model prog w) A (forIn ifs true fun c r => if r = true then do let ok ← isTrue c env (eval c env); pure (ForInStep.yield ok) else pure (ForInStep.yield r)) (fun ok s₃ =>
            if ok = true then wpAny (model prog w) A (eval elt env) (fun x s₄ =>
              wpAny (model prog w) A (call (.builtin "list.append") [acc, x]) (fun _ s₅ => ∃ m, m < n ∧ I m s₅) (fun _ _ => False) s₄) (fun _ _ => False) s₃
            else ∃ m, m < n ∧ I m s₃) (fun _ _ => False) s₂) (fun _ _ => False) s₁') (fun _ _ => False) s₁) (fun _ _ => False) s)
    (n : Nat) (h : I n s) :
    codeAny (model prog w) A (.compLoop (.ListComp elt [⟨target, iter, ifs, 0⟩] scope pos) 0 it acc env) R s := by
  refine codeAny_loop rfl I (fun n s hI => ?_) n h
  show wpAny _ A ((compTurn (.ListComp elt [⟨target, iter, ifs, 0⟩] scope pos) 0 it acc env).onRaise (fun x => do noteFrame x env; theTreesLotGoes x)) _ _ s
  refine wpAny_noted ?_
  rw [compTurn_list]
  refine wpAny_bind (wpAny_standAt (wpAny_bind (wpAny_mono (turn n s hI) (fun r s₁ h₁ => ?_) fun _ _ h' => h'.elim)))
  cases r with
  | none => exact wpAny_pure h₁
  | some v =>
    refine wpAny_bind (wpAny_mono h₁ (fun _ s₁' h₁' => ?_) fun _ _ h' => h'.elim)
    refine wpAny_bind (wpAny_mono h₁' (fun _ s₂ h₂ => wpAny_bind (wpAny_mono h₂ (fun ok s₃ h₃ => ?_) fun _ _ h' => h'.elim)) fun _ _ h' => h'.elim)
    cases ok with
    | false => exact wpAny_pure ⟨rfl, h₃⟩
    | true =>
      exact wpAny_bind (wpAny_bind (wpAny_mono h₃ (fun x s₄ h₄ => wpAny_bind (wpAny_mono h₄ (fun _ s₅ h₅ => wpAny_pure (wpAny_pure ⟨rfl, h₅⟩)) fun _ _ h' => h'.elim)) fun _ _ h' => h'.elim))
noncomputable def tComp (js : List (Option Nat)) (wi : TI) (g : TG) (tc : TT) (te : TE) : TE := fun σ H Q =>
  wi σ H fun J H1 => ∀ D, H1 D = none → ∃ W : Nat → Nat → St → Hp → Prop, (∃ m, W 0 m (innerSt js σ) (upd H1 D (.lst []))) ∧
    ∀ i m σ' H', W i m σ' H' → (J.stop i H' ∧ Q (.ref D) H') ∨ (J.go i H' ∧ ∀ x H2, J.yld i H' x H2 → g x σ' H2 fun σ2 H3 => tc σ2 H3 fun b H4 =>
      if b = true then te σ2 H4 fun v H5 => rAppend (.ref D) [v] H5 fun _ H6 => ∃ m', m' < m ∧ W (i + 1) m' σ2 H6 else ∃ m', m' < m ∧ W (i + 1) m' σ2 H4)
theorem pe_comp {X : Cx} {elt tg iter : Expr} {ifs : List Expr} {scope : Scope} {pos : Pos} {N : List Str} {js : List (Option Nat)} {wi : TI} {g : TG} {tc : TT} {te : TE} (hcalm : X.calm = true) (S : CompScope X N js scope)
    (hi : PI X tg iter wi) (hg : ∀ C s H fp, PG (compCx X N scope C s H fp) tg g) (ht : ∀ C s H fp, PIfs (compCx X N scope C s H fp) ifs tc) (he : ∀ C s H fp, PE (compCx X N scope C s H fp) elt te)
    (hs : ∀ x, foldedSetIterable iter X.env x = pure x := by intro _; rfl) : PE X (.ListComp elt [⟨tg, iter, ifs, 0⟩] scope pos) (tComp js wi g tc te) := by
  intro pins s σ H Q I h
  have hc : ∀ x ∈ scope.names, x.2 = .free → ∃ c, X.env.cells.lookup x.1 = some c := fun x hx e => I.ok.has _ (S.free x hx e)
  rw [eval_ListComp]
  refine wpAny_comprehension_free (use := none) rfl hs (clos_eq hc) S.kind S.locs (thn (hi pins s σ H _ I h) fun v s1 h1 => thn h1 fun itv s2 h2 => ?_)
  obtain ⟨it, fp, tn, J, H2, e, I2, T, st2, f2, q⟩ := h2
  subst e
  refine wpAny_newObj_type (wpAny_newFunctionEnv S.nocell (by intro y hy; simp at hy) (fun h₁ hns₁ hsb₁ => ?_) S.kind)
  dsimp only at hns₁ hsb₁ ⊢
  generalize hH2 : s2.heap.push { cls := .type "list", dict := none, data := .seq ([] : List Value).toArray } = G2 at hns₁ hsb₁ ⊢
  have hC : G2.objs.size = s2.heap.objs.size + 1 := by rw [← hH2, Heap.size_push]
  have hDC : s2.heap.objs.size ≠ G2.objs.size := by rw [hC]; exact Nat.ne_of_lt (Nat.lt_succ_self _)
  have hC0 : s2.heap.objs.size ≤ G2.objs.size := by rw [hC]; exact Nat.le_succ _
  have below : ∀ b, b < s2.heap.objs.size → b ≠ G2.objs.size := fun b hb => by rw [hC]; exact Nat.ne_of_lt (Nat.lt_succ_of_lt hb)
  have old : ∀ b o, s2.heap.get? b = some o → h₁.get? b = some o := fun b o e => hsb₁.extBut b o (below b (Heap.lt_size e)) (Heap.get?_push_of_some _ (hH2 ▸ Heap.get?_push_of_some _ e))
  have hacc : h₁.get? s2.heap.objs.size = some { cls := .type "list", data := .seq ([] : List Value).toArray } := hsb₁.extBut _ _ hDC (Heap.get?_push_of_some _ (hH2 ▸ Heap.get?_push_size _ rfl))
  have hfp : ∀ b ∈ fp, b < s2.heap.objs.size := fun b hb => by obtain ⟨o, e, _⟩ := T.obj 0 _ st2 b hb; exact Heap.lt_size e
  obtain ⟨W, ⟨m0, w0⟩, turn⟩ := q s2.heap.objs.size (I2.hok.fresh (Nat.le_refl _))
  have stat : ∀ {H' : Hp}, (∀ b ∈ fp, H' b = none) → ∀ b ∈ fp, FpOk (compCx X N scope G2.objs.size s2 H2 fp) [] H' b := fun {H'} hn b hb =>
    ⟨hn b hb, below b (hfp b hb), fun z => by
      rcases List.mem_cons.mp (I2.stkSub b z) with q | q
      · exact (f2 b hb).2.1 q
      · exact (f2 b hb).2.2.1 q, .inl hb, fun x c e => (f2 b hb).2.2.2.2.1 x c (clos_sub _ _ (fun _ _ z => by simp at z) e), fun p hp => absurd hp (by simp [compCx])⟩
  have loop : ∀ s3 : Shared, s3 = { s2 with heap := h₁, toks := s2.toks + ([] : List (Str × Value)).length } →
      codeAny (model X.prog X.w) X.A (.compLoop (.ListComp elt [⟨tg, iter, ifs, 0⟩] scope pos) 0 (.ref it) (.ref s2.heap.objs.size) (compEnvC scope (clos X.env.cells scope.names []) G2.objs.size X.env))
        (compPost (model X.prog X.w) X.A X.xe none (EP X pins σ Q) (.ref s2.heap.objs.size) G2.objs.size) s3 := by
    rintro s3 rfl
    have I3 : Inv (compCx X N scope G2.objs.size s2 H2 fp) [] (innerSt js σ) (upd H2 s2.heap.objs.size (.lst [])) { s2 with heap := h₁, toks := s2.toks + ([] : List (Str × Value)).length } :=
      inv_comp S I2 f2 hfp old (Nat.le_refl _) hC0 hDC ⟨_, hacc⟩ hns₁
    refine compLoop_gen (fun n s' => ∃ i σ' H', Inv (compCx X N scope G2.objs.size s2 H2 fp) [] σ' H' s' ∧ tn i s'.heap ∧ (∀ b ∈ fp, H' b = none) ∧ W i n σ' H') ?_ m0
      ⟨0, _, _, I3, T.keep 0 _ _ st2 fun b _ o e => old b o e, fun b hb => by rw [upd_ne (Nat.ne_of_lt (hfp b hb))]; exact (f2 b hb).1, w0⟩
    rintro n s4 ⟨i, σ4, H4, I4, st4, fr4, w4⟩
    rcases turn i n σ4 H4 w4 with ⟨stop, qn⟩ | ⟨go, step⟩
    · refine thn (T.done (compCx X N scope G2.objs.size s2 H2 fp) rfl rfl rfl hcalm i [] s4 σ4 H4 (fun _ _ => False) I4 (stat fr4) st4 stop) fun r s5 ⟨hr, I5⟩ => ?_
      subst hr
      obtain ⟨m5, n5, _⟩ := I5.loc
      refine ⟨m5, n5, fun h' sb => ?_⟩
      have hos : s5.os = s2.os := I5.os
      obtain ⟨hh, gg, dd, tt, os5⟩ := s5
      obtain rfl : os5 = s2.os := hos
      have un : Un (frs X.stack) fp H2 H4 s2.heap h' := by
        have u := I5.base
        have nC : ∀ b o, s2.heap.get? b = some o → b ≠ G2.objs.size := fun b o e => below b (Heap.lt_size e)
        exact ⟨fun b o e n hf hx => sb.extBut b o (nC b o e) (u.keep b o e n hf hx), fun b o e n hf hx => by
            obtain ⟨sl, z⟩ := u.slot b o e n hf hx
            exact ⟨sl, sb.extBut b _ (nC b o e) z⟩, u.free, fun b o e hx => by
            obtain ⟨o', z⟩ := u.there b o e hx
            exact ⟨o', sb.extBut b _ (nC b o e) z⟩, u.tups, u.frzs, u.tbls⟩
      have hok : HOk X.prog X.w H4 h' := fun b ob e => (I5.hok b ob e).stay (fun c v hcv z => sb.extBut c v (fun q => by
        rcases hcv with hcv | hcv
        · rw [← hcv, q] at e
          have := I5.free
          have this' : H4 G2.objs.size = none := this
          rw [e] at this'; cases this'
        · rw [q] at hcv
          have this' : H4 G2.objs.size = none := I5.free
          rw [hcv] at this'; cases this') z) (fun _ z => z) fun _ _ z => z
      have IE := I2.call (h' := h') (g' := gg) (d' := dd) (t' := tt) (ch := fp) un hok I5.bare fun b hb => ⟨(f2 b hb).2.2.2.1, (f2 b hb).2.1, (f2 b hb).2.2.2.2.1, (f2 b hb).2.2.2.2.2⟩
      exact ⟨.ref s2.heap.objs.size, H4, IE, rfl, qn⟩
    · refine thn (T.item (compCx X N scope G2.objs.size s2 H2 fp) rfl rfl rfl hcalm i [] s4 σ4 H4 (fun _ _ => False) I4 (stat fr4) st4 go) fun r s5 ⟨u, hr, h5⟩ => ?_
      subst hr
      refine thn h5 fun _ s6 ⟨x, H6, I6, r6, y6, st6, fr6⟩ => ?_
      have I6' := I6.pinned (stat fr6) (T.obj _ _ st6)
      refine thn (hg _ _ _ _ _ s6 σ4 H6 x u _ I6' r6 (step x H6 y6)) fun _ s7 ⟨σ7, H7, I7, q7⟩ => ?_
      refine thn (ht _ _ _ _ _ s7 σ7 H7 _ I7 q7) fun b s8 ⟨H8, I8, q8⟩ => ?_
      have again : ∀ {s9 : Shared} {H9 : Hp}, Inv (compCx X N scope G2.objs.size s2 H2 fp) ([] ++ pinsAt fp s6.heap) σ7 H9 s9 → (∃ m', m' < n ∧ W (i + 1) m' σ7 H9) → ∃ m, m < n ∧ ∃ i σ' H', Inv (compCx X N scope G2.objs.size s2 H2 fp) [] σ' H' s9 ∧ tn i s9.heap ∧ (∀ b ∈ fp, H' b = none) ∧ W i m σ' H' := fun {s9 H9} I9 ⟨m', hm, w9⟩ => by
        refine ⟨m', hm, i + 1, σ7, H9, I9.unpinned, T.keep _ _ _ st6 fun b hb o e => (I9.pin (b, o) (List.mem_append_right _ (List.mem_append_right _ (mem_pinsAt hb e)))).1, fun b hb => ?_, w9⟩
        obtain ⟨o, e, d⟩ := T.obj _ _ st6 b hb
        exact (I9.pin (b, o) (List.mem_append_right _ (List.mem_append_right _ (mem_pinsAt hb e)))).2.1
      cases b with
      | false =>
        rw [if_neg Bool.false_ne_true] at q8 ⊢
        exact again I8 q8
      | true =>
        rw [if_pos rfl] at q8 ⊢
        refine thn (he _ _ _ _ _ s8 σ7 H8 _ I8 q8) fun xv s9 ⟨xx, H9, I9, r9, q9⟩ => ?_
        refine thn (mt_append _ s9 σ7 H9 (.ref s2.heap.objs.size) [xx] (.ref s2.heap.objs.size) [xv] _ I9 rfl (.cons r9 .nil) q9) fun _ s10 ⟨_, H10, I10, _, q10⟩ => ?_
        exact again I10 q10
  exact codeAny_compStart_list (loop _ rfl) (T.self _ _ _ _ _ (T.keep 0 _ _ st2 fun b _ o e => old b o e) (loop _ rfl))
end L2
set_option Elab.async false
set_option linter.all false
set_option maxRecDepth 100000
namespace L2
open PySem PySem.Spec PyProof.Rows
noncomputable def CXW (P : Program) (w : World) : CXT := fun outer H s E e s' => ∃ (a : Addr) (cls a0 : Value) (H' : Hp) (B : Heap), e = .ref a ∧ s'.os = s.os ∧ AllBare s'.gens ∧ Un (frs outer) [] H H' s.heap s'.heap ∧ HOk P w H' B ∧
  Heap.FlyingW B outer a cls a0 s'.heap ∧ (∀ b o, s.heap.get? b = some o → H b = none → b ∉ frs outer → B.get? b = some o) ∧ (∀ b o, s.heap.get? b = some o → b ∉ frs outer → ∃ o', B.get? b = some o') ∧ E cls none H'
theorem passN {P : Program} {w : World} {X : Cx} : Passes (CXW P w) X E0 := fun _ _ _ _ _ _ _ h => by
  obtain ⟨_, _, _, _, _, _, _, _, _, _, _, _, _, hE⟩ := h
  exact hE.elim
theorem mem_frs {env : Env} {L b : Addr} {outer : List Env} (hf : env.frame = some L) : b ∈ frs (env :: outer) ↔ b = L ∨ b ∈ frs outer := by
  unfold frs
  rw [List.filterMap_cons, hf]
  exact List.mem_cons
section
variable {P : Program} {w : World} {K : PySem.W.Frag} {mg : Str → Option Value} {base : Heap} {N : List Str} {qual : Str} {scope : Scope} {f : Addr} {cd : Value} {A : Around} {outer : List Env} {s : Shared} {H : Hp} {E : XK}
  {pins : List (Addr × Obj)} {σ : St} {H1 : Hp} {s1 : Shared}
theorem cxw_out (I : Inv (cxOf (CXW P w) P w K mg base N qual scope f cd A outer s H E) pins σ H1 s1) {a : Addr} {cls a0 : Value} {H' : Hp} {B : Heap} {s2 : Shared}
    (hos : s2.os = s1.os) (hb : AllBare s2.gens) (hokB : HOk P w H' B) (hfl : Heap.FlyingW B outer a cls a0 s2.heap)
    (keepB : ∀ b o, s1.heap.get? b = some o → H1 b = none → b ∉ frs (envOfC qual scope s.heap.objs.size f cd :: outer) → B.get? b = some o)
    (thereB : ∀ b o, s1.heap.get? b = some o → b ∉ frs (envOfC qual scope s.heap.objs.size f cd :: outer) → ∃ o', B.get? b = some o')
    (up : ∀ b o, s1.heap.get? b = some o → (∀ vs, o.data ≠ .fields vs) → b ∈ frs outer → H1 b = none → ∃ sl, s2.heap.get? b = some { o with slots := sl })
    (free1 : ∀ b o, s1.heap.get? b = some o → H1 b = none → H' b = none)
    (tups : ∀ b xs, H1 b = some (.tup xs) → H' b = some (.tup xs)) (frzs : ∀ b o u, H1 b = some (.frz o u) → H' b = some (.frz o u)) (tbls : ∀ b ps, H1 b = some (.tbl ps) → ∃ more, H' b = some (.tbl (ps ++ more)))
    (hE : E cls none H') : CXW P w outer H s E (.ref a) s2 := by
  have u := I.base
  have notL : ∀ b o, s.heap.get? b = some o → b ∉ frs outer → b ∉ frs (envOfC qual scope s.heap.objs.size f cd :: outer) := fun b o e nf z => by
    rcases (mem_frs (env := envOfC qual scope s.heap.objs.size f cd) rfl).mp z with q | q
    · rw [q] at e; exact absurd (Heap.lt_size e) (Nat.lt_irrefl _)
    · exact nf q
  have inB : ∀ b o, s.heap.get? b = some o → H b = none → b ∉ frs outer → B.get? b = some o := fun b o e n nf =>
    keepB b o (u.keep b o e n nf (by simp [cxOf])) (u.free b o e n (by simp [cxOf])) (notL b o e nf)
  have thB : ∀ b o, s.heap.get? b = some o → b ∉ frs outer → ∃ o', B.get? b = some o' := fun b o e nf => by
    obtain ⟨o1, e1⟩ := u.there b o e (by simp [cxOf])
    exact thereB b o1 e1 (notL b o e nf)
  have sl : ∀ b o, s.heap.get? b = some o → H b = none → b ∈ frs outer → ∃ sl, s2.heap.get? b = some { o with slots := sl } := fun b o e n hb => by
    obtain ⟨sl1, e1⟩ := u.slot b o e n hb (by simp [cxOf])
    obtain ⟨_, o', e', nf⟩ := I.ok.funs.mem hb
    have e'' : s.heap.get? b = some o' := e'
    rw [e] at e''; cases e''
    obtain ⟨sl2, e2⟩ := up b _ e1 nf hb (u.free b o e n (by simp [cxOf]))
    exact ⟨sl2, e2⟩
  refine ⟨a, cls, a0, H', B, rfl, hos.trans I.os, hb, ⟨fun b o e n nf _ => hfl.1 b o (inB b o e n nf), fun b o e n hb _ => sl b o e n hb, fun b o e n _ => ?_, fun b o e _ => ?_, fun b xs e => tups b xs (u.tups b xs e), fun b o x e => frzs b o x (u.frzs b o x e), fun b ps e => ?_⟩, hokB, hfl, inB, thB, hE⟩
  · obtain ⟨o1, e1⟩ := u.there b o e (by simp [cxOf])
    exact free1 b o1 e1 (u.free b o e n (by simp [cxOf]))
  · by_cases hb : b ∈ frs outer
    · obtain ⟨sl, q⟩ := sl b o e (I.ok.frf b hb) hb
      exact ⟨_, q⟩
    · obtain ⟨o', q⟩ := thB b o e hb
      exact ⟨o', hfl.1 b o' q⟩
  · obtain ⟨m1, e1⟩ := u.tbls b ps e
    obtain ⟨m2, e2⟩ := tbls b _ e1
    exact ⟨m1 ++ m2, by rw [e2, Array.append_assoc]⟩
theorem passW : Passes (CXW P w) (cxOf (CXW P w) P w K mg base N qual scope f cd A outer s H E) E := by
  intro pins σ H1 s1 e s' I hx
  obtain ⟨a, cls, a0, H', B, rfl, hos, hb, un, hokB, hfl, keepB, thereB, hE⟩ := hx
  show wpAny _ _ (leaving _ (.ref a)) _ _ s'
  refine wpAny_leaves_onW (L := s.heap.objs.size) I.ok.frames rfl hfl fun h'' hfl' hup => ?_
  refine cxw_out I (s2 := { s' with heap := h'' }) hos hb hokB hfl' keepB thereB (fun b o e nf hb n => ?_) (fun b o e n => un.free b o e n (by simp)) un.tups un.frzs un.tbls hE
  obtain ⟨sl, e1⟩ := un.slot b o e n ((mem_frs (env := envOfC qual scope s.heap.objs.size f cd) rfl).mpr (.inr hb)) (by simp)
  obtain ⟨sl2, e2⟩ := hup b _ e1 nf
  exact ⟨sl2, e2⟩
theorem madeW (I : Inv (cxOf (CXW P w) P w K mg base N qual scope f cd A outer s H E) pins σ H1 s1) {h' : Heap} {a : Addr} {cls : Value} {vs : List Value} (hx : Heap.MadeExcOf s1.heap h' a cls vs) (hE : E cls none H1) :
    (cxOf (CXW P w) P w K mg base N qual scope f cd A outer s H E).xe (.ref a) { s1 with heap := h' } := by
  have hin : ∀ env ∈ (envOfC qual scope s.heap.objs.size f cd :: outer), ∀ b, env.frame = some b → b ∈ frs (envOfC qual scope s.heap.objs.size f cd :: outer) := fun env he b hb => List.mem_filterMap.mpr ⟨env, he, hb⟩
  have stk : s1.heap.FunFrames base (envOfC qual scope s.heap.objs.size f cd :: outer) := I.stack
  have fr0 : ∀ b, b ∈ frs (envOfC qual scope s.heap.objs.size f cd :: outer) → H1 b = none := I.stkFree
  show wpAny _ _ (leaving _ (.ref a)) _ _ _
  refine wpAny_leaves_madeW (base := PySem.W.hideAll s1.heap (frs (envOfC qual scope s.heap.objs.size f cd :: outer))) (h := s1.heap) (L := s.heap.objs.size) (s := { s1 with heap := h' }) I.ok.frames rfl (fun b o q => PySem.W.of_hideAll _ q) (PySem.W.funFrames_hide stk hin) hx fun h'' t x1 x2 x3 x4 => ?_
  have hg : ∀ b o, s1.heap.get? b = some o → b ∉ frs (envOfC qual scope s.heap.objs.size f cd :: outer) → (PySem.W.hideAll s1.heap (frs (envOfC qual scope s.heap.objs.size f cd :: outer))).get? b = some o := fun b o e nf => PySem.W.hideAll_get _ e nf
  refine cxw_out I (s2 := { s1 with heap := h'' }) (H' := H1) rfl I.bare (fun b ob e => (I.hok b ob e).stay (fun c v hcv z => hg c v z fun q => ?_) (fun _ z => z) fun _ _ z => z) x1 (fun b o e _ nf => hg b o e nf) (fun b o e nf => ⟨o, hg b o e nf⟩) (fun b o e nf hb n => ?_) (fun _ _ _ n => n) (fun _ _ e => e) (fun _ _ _ e => e) (fun b ps e => ⟨#[], by rw [e]; simp⟩) hE
  · have z := fr0 c q
    rcases hcv with r | r
    · rw [← r, z] at e; cases e
    · rw [z] at r; cases r
  · exact x4 b o (hx.keeps b o e) nf
theorem pown : PassesOwn (model (cxOf (CXW P w) P w K mg base N qual scope f cd A outer s H E).prog (cxOf (CXW P w) P w K mg base N qual scope f cd A outer s H E).w) (cxOf (CXW P w) P w K mg base N qual scope f cd A outer s H E).A
    (cxOf (CXW P w) P w K mg base N qual scope f cd A outer s H E).env (cxOf (CXW P w) P w K mg base N qual scope f cd A outer s H E).xe := PassesOwn.leaving
end
theorem exc_obj {K : PySem.W.Frag} {h : Heap} {C : Addr} {bmB : List Value} {newId : String} (X : K.In h) (q : PySem.W.excIn K C bmB newId = true) :
    ∃ bm N nm qn bs hdct sn sub ab col dd k0 k1 k2 k3 k5 mN, h.get? C = some (excClassObj nm qn C N bs bm hdct sn sub ab col dd k0 k1 k2 k3 k5 newId) ∧ h.Ns N mN ∧ mN "__init__" = none ∧ OwnTail h bmB bm := by
  unfold PySem.W.excIn at q
  split at q
  · rename_i dd cd sl ho
    split at q
    · rename_i C' bm k0 k1 k2 k3 n k5 hm hs
      simp only [Bool.and_eq_true, beq_iff_eq, Bool.not_eq_true'] at q
      obtain ⟨⟨⟨⟨⟨rfl, rfl⟩, hdel⟩, ht⟩, hok⟩, hni⟩ := q
      obtain ⟨nm, bs, mro, ns, qn, hd, sn, sub, ab, col, del⟩ := cd
      dsimp only at hm hdel hok hni
      subst hm hdel
      have hsl : sl = #[k0, k1, k2, k3, some (.builtin n), k5] := by
        obtain ⟨l⟩ := sl
        simp only at hs
        rw [hs]
      subst hsl
      exact ⟨bm, ns, nm, qn, bs, hd, sn, sub, ab, col, dd, k0, k1, k2, k3, k5, _, X _ _ ho, .of_isNs (PySem.W.isNs_of_in X hok), PySem.W.nsMap_none_of_in X hok hni, PySem.W.tail_of_in X ht⟩
    · cases q
  · cases q
noncomputable def tRaise (E : XK) (C : Addr) : TS := fun _ _ H => E (.ref C) none H
theorem ps_raise {P : Program} {w : World} {K : PySem.W.Frag} {mg : Str → Option Value} {base : Heap} {N : List Str} {qual : Str} {scope : Scope} {f : Addr} {cd : Value} {A : Around} {outer : List Env} {s : Shared} {H : Hp} {E : XK}
    {x msg : Str} {C : Addr} {B newId initId : String} {bmB : List Value} {np cpos pos p3 : Pos} {j : Nat} (FB : ExcBaseFacts B newId initId bmB) (q : PySem.W.excIn K C bmB newId = true)
    (hm : mg x = some (.ref C)) (hg : Gl (cxOf (CXW P w) P w K mg base N qual scope f cd A outer s H E) x) (hd : (x == ("__debug__" : Str)) = false := by decide) :
    PS (cxOf (CXW P w) P w K mg base N qual scope f cd A outer s H E) (.Raise (some (.Call (.Name x np) [.Constant (.str msg) j p3] [] cpos)) none pos) (tRaise E C) := by
  intro pins s1 σ H1 D I h
  obtain ⟨bm, Nn, nm, qn, bs, hdct, sn, sub, ab, col, dd, k0, k1, k2, k3, k5, mN, hC, hN, hni, T⟩ := exc_obj I.ok.mod.kin q
  refine wpAny_Raise_call_subT (C := C) (nm := nm) (q := qn) (N := Nn) (bs := bs) (bm := bm) (hdct := hdct) (sn := sn) (sub := sub) (ab := ab) (col := col) (dd := dd) (k0 := k0) (k1 := k1) (k2 := k2) (k3 := k3) (k5 := k5)
    FB (mN := mN) (T.hasType FB.hasBase) (I.ok.hd rfl) rfl hni (ld_glob I hg hm ⟨rfl, ?_⟩ hd)
  have ha : PA (cxOf (CXW P w) P w K mg base N qual scope f cd A outer s H E) [.Constant (.str msg) j p3] (tCons (tC (.str msg)) tNil) := pa_cons pe_str pa_nil
  have hw := ha cpos pins s1 σ H1 (fun vs H2 => vs.length = 1 ∧ H2 = H1) I ⟨rfl, rfl⟩
  refine Calls.evalArgs_plain (thn hw fun us s2 ⟨vs, H2, I2, r, hl, e2⟩ => ?_)
  subst e2
  refine ⟨rfl, ?_, I2.bk _ _ hC, hN.keeps I2.bk, T.keeps I2.bk, fun h' e hx => madeW I2 hx h⟩
  show us.length ≤ sizeLine
  rw [← r.length, hl]; decide
section
variable {P : Program} {w : World} {K : PySem.W.Frag} {mg : Str → Option Value} {base : Heap}
theorem Fun.okX {x qual : Str} {st : Stmt} {f : Addr} {fd : FuncData} {N ps : List Str} {k : Nat} {sp : Sp} (F : Fun K x qual st f fd) (S : FnScope N ps (defScope st)) (len : ∀ vs H Q E, sp vs H Q E → vs.length = ps.length)
    (hbody : ∀ (cdv : Value) (A : Around) (outer : List Env) (s : Shared) (H : Hp) (vs : List V) (Q : VK) (E : XK), Room k (A.deeper (envOfC qual (defScope st) s.heap.objs.size f cdv)) → sp vs H Q E →
      ∃ t, PSs (cxOf (CXW P w) P w K mg base N qual (defScope st) f cdv A outer s H E) (defBody st) t ∧ t { nx := fun _ H' => Q .non H', rt := Q } (start N vs) H) : FnOk P w K mg base (CXW P w) (k + 1) f fd ps sp := by
  obtain ⟨oc, od, kV, doc, pm, an, cdv, ct, osl, rfl, lk, hcd⟩ := F.ex
  exact fn_of lk hcd S len fun A outer s H vs Q E hr hsp => hbody cdv A outer s H vs Q E hr hsp
theorem Fun.okN {x qual : Str} {st : Stmt} {f : Addr} {fd : FuncData} {N ps : List Str} {k : Nat} {sp : Sp} (F : Fun K x qual st f fd) (S : FnScope N ps (defScope st)) (len : ∀ vs H Q E, sp vs H Q E → vs.length = ps.length)
    (hbody : ∀ (cdv : Value) (A : Around) (outer : List Env) (s : Shared) (H : Hp) (vs : List V) (Q : VK) (E : XK), Room k (A.deeper (envOfC qual (defScope st) s.heap.objs.size f cdv)) → sp vs H Q E →
      ∃ t, PSs (cxOf (CXW P w) P w K mg base N qual (defScope st) f cdv A outer s H E).nox (defBody st) t ∧ t { nx := fun _ H' => Q .non H', rt := Q } (start N vs) H) : FnOk P w K mg base (CXW P w) (k + 1) f fd ps sp :=
  F.okX S len fun cdv A outer s H vs Q E hr hsp => by
    obtain ⟨t, h, q⟩ := hbody cdv A outer s H vs Q E hr hsp
    exact ⟨t, h.nox, q⟩
end
end L2
set_option Elab.async false
set_option linter.all false
set_option maxRecDepth 100000
namespace L2
open PySem PySem.Spec PyProof.Rows PySem.W
structure ExcC (K : Frag) (C : Addr) : Prop where
  ga : findIn K (.ref C) "__getattribute__" = some (some (.builtin "BaseException.__getattribute__"))
  gt : findIn K (.ref C) "__getattr__" = some none
  ca : findIn K (.ref C) "__class__" = some (some (.builtin "object.__class__"))
  ob : mroIn K C (.type "object") = some true
  be : mroIn K C (.type "BaseException") = some true
  ty : typeIn K (.ref C) = some (.type "type")
theorem ExcC.cls {K : Frag} {C : Addr} (T : ExcC K C) : (clsIn K C).isSome = true := by
  have h := T.ob
  unfold mroIn at h
  cases e : clsIn K C with
  | none => rw [e] at h; cases h
  | some cd => rfl
noncomputable def ExcAt (a C : Addr) (h : Heap) : Prop := ∃ o vs, h.get? a = some o ∧ o.cls = .ref C ∧ o.data = .fields vs
section
variable {prog : Program} {w : World} {A : Around} {E : Value → Shared → Prop} {h : Heap} {g : Array GenState} {d : Drawn} {t : Nat} {os : OsState} {a C : Addr} {o : Obj} {K : Frag}
theorem exc_class_get {R : Result → Shared → Prop} (X : K.In h) (T : ExcC K C) (hx : h.get? a = some o) (hc : o.cls = .ref C) (hq : R (.ok (.ret (.ref C))) ⟨h, g, d, t, os⟩) :
    codeAny (model prog w) A (.call (.builtin "getset_descriptor.__get__") ⟨[.builtin "object.__class__", .ref a, .ref C], []⟩) R ⟨h, g, d, t, os⟩ := by
  have hT5 : (⟨h, g, d, t, os⟩ : Shared).TypeIs (.builtin "object.__class__") "getset_descriptor" := F.typeOf_object_class
  have L1 := looks_mroIn (M := model prog w) X T.ob
  refine codeAny_call_builtin F.slot_gs_get.plain F.entry_gs_get (F.slot_gs_get.check _ _ _ _ _ _ _ _ hT5 (F.args_gs_get _ _ _) ?_)
  repeat (any_goals (first | assumption | (with_reducible refine wpAny_loadPart_at hx ?_; rw [hc]) | (rw [F.owner_object_class]; with_reducible refine L1.at ?_) | wp_step))
  refine ⟨Code.quiet_builtin _ (by decide +kernel), codeAny_builtin F.entry_object_class ?_⟩
  repeat (any_goals (first | assumption | (with_reducible refine wpAny_loadPart_at hx ?_; rw [hc]) | wp_step))
theorem exc_class_entry {tk : Tok} {Q : Fin → Shared → Prop} (X : K.In h) (T : ExcC K C) (hx : h.get? a = some o) (hc : o.cls = .ref C) (hq : Q (.done (.ret (.ref C))) ⟨h, g, d, t, os⟩) :
    wpAny (model prog w) A (Builtin.«object.__getattribute__» ⟨[.ref a, .str "__class__" tk], []⟩) Q E ⟨h, g, d, t, os⟩ := by
  have hT5 : (⟨h, g, d, t, os⟩ : Shared).TypeIs (.builtin "object.__class__") "getset_descriptor" := F.typeOf_object_class
  have f5 := F.typeOf_object_class
  have f6 := F.slot_gs_get.lookup
  have f7 := F.slot_gs_set.lookup
  have L1 := looks_findIn (M := model prog w) X T.ca
  repeat (any_goals (first | assumption | (with_reducible refine wpAny_loadPart_at hx ?_; rw [hc]) | with_reducible refine L1.at ?_ | wp_step))
  refine exc_class_get X T hx hc ?_
  repeat (any_goals (first | assumption | wp_step))
theorem exc_check_ga {M : Model} {nameV : Value} {Q : Unit → Shared → Prop} (X : K.In h) (T : ExcC K C) (hx : h.get? a = some o) (hc : o.cls = .ref C) (hq : Q () ⟨h, g, d, t, os⟩) :
    wpAny M A (checkBuiltinCall "BaseException.__getattribute__" ⟨[.ref a, nameV], []⟩) Q E ⟨h, g, d, t, os⟩ := by
  have hk : builtinKind "BaseException.__getattribute__" = some .slot := by decide +kernel
  have hsplit : splitId "BaseException.__getattribute__" = some ("BaseException", "__getattribute__") := by decide +kernel
  have ha := F.args_bexc_ga (.ref a) nameV
  have L1 := looks_mroIn (M := M) X T.be
  simp only [checkBuiltinCall, hk, hsplit]
  refine wpAny_bind ?_
  · unfold isInstance
    repeat (first | (with_reducible refine wpAny_loadPart_at hx ?_; rw [hc]) | with_reducible refine L1.at ?_ | wp_step)
    exact hq
theorem exc_class_by {tk : Tok} {Q : Value → Shared → Prop} (X : K.In h) (T : ExcC K C) (hx : h.get? a = some o) (hc : o.cls = .ref C) (hq : Q (.ref C) ⟨h, g, d, t, os⟩) :
    wpAny (model prog w) A (getAttrBy (.ref a) (.str "__class__" tk) false) Q E ⟨h, g, d, t, os⟩ := by
  have FB := PySem.F.attrBase_ValueError
  have f3 := FB.ga.bind (.ref a)
  have hx0 : (false && onTheHeap (Value.builtin "BaseException.__getattribute__")) = false := rfl
  have hx2 : (Value.builtin "BaseException.__getattribute__" == Value.builtin "object.__getattribute__") = false := by decide +kernel
  have hx1 : (onTheHeap (Value.ref C) && Value.builtin "BaseException.__getattribute__" == Value.builtin "object.__getattribute__") = false := by rw [hx2]; rfl
  have L1 := looks_findIn (M := model prog w) X T.ga
  have L2 := looks_findIn (M := model prog w) X T.gt
  repeat (any_goals (first | assumption | (with_reducible refine wpAny_loadPart_at hx ?_; rw [hc]) | with_reducible refine L1.at ?_ | with_reducible refine L2.at ?_ | wp_step))
  refine codeAny_call_builtin FB.ga.plain F.entry_bexc_ga (exc_check_ga X T hx hc (exc_class_entry X T hx hc ?_))
  repeat (any_goals (first | assumption | wp_step))
theorem exc_class_attr {Q : Option Value → Shared → Prop} (X : K.In h) (T : ExcC K C) (hx : h.get? a = some o) (hc : o.cls = .ref C) (hq : Q (some (.ref C)) ⟨h, g, d, t + 1, os⟩) :
    wpAny (model prog w) A (getAttr? (.ref a) "__class__") Q E ⟨h, g, d, t, os⟩ := by
  unfold getAttr? getAttrBy?
  repeat (any_goals (first | assumption | with_reducible apply exc_class_by X T hx hc | wp_step))
end
theorem kitx_exc {K : Frag} {a C : Addr} (T : ExcC K C) : KitX K (.ref a) (.ref C) (ExcAt a C) where
  ty := fun M h _ p => by
    obtain ⟨o, vs, h1, h2, _⟩ := p
    exact h2 ▸ (Looks.ld h1).andThen .now
  it := fun _ _ X _ => by
    obtain ⟨cdD, hcD⟩ := Option.isSome_iff_exists.mp T.cls
    unfold clsIn at hcD
    split at hcD
    · rename_i c' d' cd' sl' ho
      intro A' Q' E' s' k q
      unfold isType loadHead
      exact wpAny_bind (wpAny_loadPart (k _ _ (X _ _ ho)) (wpAny_pure q))
    · cases hcD
  ne := fun h tp dd its n sl X htp => by
    obtain ⟨cdD, hcD⟩ := Option.isSome_iff_exists.mp T.cls
    refine Bool.eq_false_iff.mpr fun q => ?_
    have e : C = tp := Value.ref.inj (beq_iff_eq.mp q)
    subst e
    unfold clsIn at hcD
    split at hcD
    · rename_i c' d' cd' sl' ho
      have z := (X _ _ ho).symm.trans htp
      cases z
    · cases hcD
  ca := fun {_ _ _ _ _ s} X p k => by
    obtain ⟨o, vs, h1, h2, _⟩ := p
    obtain ⟨hh, g, d, t, os⟩ := s
    exact exc_class_attr X T h1 h2 k
noncomputable def excO (a C : Addr) : HO := .ext (ExcAt a C)
inductive TyX (K : Frag) (H : Hp) : V → Value → Prop where
  | of {x : V} {t : Value} (h : TyOf K H x t) : TyX K H x t
  | exc {a C : Addr} (T : ExcC K C) (e : H a = some (excO a C)) : TyX K H (.ref a) (.ref C)
theorem isinst_x {X : Cx} {pins : List (Addr × Obj)} {σ : St} {H : Hp} {s : Shared} {A : Around} {E : Value → Shared → Prop} {Q : Value → Shared → Prop} {c : Value} {b : Bool} {x : V} {u t : Value} (I : Inv X pins σ H s) (rx : RelV x u) (ty : TyX X.K H x t)
    (e : kitOne X.K t c = some b) (h : ∀ tk, Q (.bool b) { s with toks := tk }) : wpAny (model X.prog X.w) A (call (.builtin "isinstance") [u, c]) Q E s := by
  cases ty with
  | of ty => exact isinst_ok I rx ty e h
  | @exc a C T ea =>
    cases (show u = Value.ref a from rx)
    obtain ⟨p, _, _⟩ := (show ObjOk X.prog X.w H s.heap a (excO a C) from I.hok a _ ea)
    exact kia_one (kitx_exc T) I.kIn p e (fun z => nomatch z) h
noncomputable def clsV : V → Option Value
  | .ref a => some (.ref a)
  | .ty n => some (.type n)
  | _ => none
theorem clsV_rel {x : V} {c u : Value} (h : clsV x = some c) (r : RelV x u) : u = c := by
  cases x with
  | ref a => cases h; exact r
  | ty n => cases h; exact r
  | _ => cases h
noncomputable def rIsi (K : Frag) : List V → Hp → VK → Prop := fun xs H Q => ∃ x t vc c b, xs = [x, vc] ∧ TyX K H x t ∧ clsV vc = some c ∧ kitOne K t c = some b ∧ Q (.bl b) H
theorem call_isi {X : Cx} : CallR X (.builtin "isinstance") (rIsi X.K) := by
  intro pins s σ H xs us Q I rv h
  obtain ⟨x, t, vc, c, b, rfl, ty, rc, e, q⟩ := h
  obtain ⟨u, v, rfl, r1, r2⟩ := rv.two
  rw [clsV_rel rc r2]
  exact isinst_x I r1 ty e fun tk => ⟨.bl b, H, I.tok _, rfl, q⟩
end L2
set_option Elab.async false
set_option linter.all false
set_option maxRecDepth 100000
namespace L2
open PySem PySem.Spec PyProof.Rows PySem.W
section
variable {X : Cx} {CX : CXT} {k : Nat} {f : Addr} {fd : FuncData} {ps : List Str} {sp : Sp} {dvs : List V} {ds : List Value} {E : XK} {x : Str} {p pos : Pos} {e : Expr} {es : List Expr} {te : TE} {t : TA} {pins : List (Addr × Obj)} {σ : St} {ta tb : TS}
end
noncomputable abbrev hdCx (X : Cx) (a : Addr) : Cx := { X with A := X.A.mark (some (.ref a)), calm := false, xe := fun _ _ => False }
theorem Inv.hd {X : Cx} {pins : List (Addr × Obj)} {σ : St} {H : Hp} {s : Shared} {a : Addr} (I : Inv X pins σ H s) : Inv (hdCx X a) pins σ H s :=
  ⟨⟨I.ok.mod, I.ok.kind, I.ok.glob, I.ok.blt, I.ok.above, I.ok.inj, I.ok.has, I.ok.cab, fun z => Bool.noConfusion z, I.ok.frames, I.ok.stk, I.ok.exf, I.ok.bs, I.ok.bsz, I.ok.noex, I.ok.exfs, I.ok.funs, I.ok.frf⟩, I.os, I.bare, I.base, I.loc, I.cell, I.free, I.freeC, I.pin, I.hok, I.len⟩
end L2
set_option Elab.async false
set_option linter.all false
set_option maxRecDepth 100000
namespace L2
open PySem PySem.Spec PyProof.Rows PySem.W
inductive DV where
  | non | bl (b : Bool) | int (i : Int) | str (x : Str) | lst (xs : List DV) | tup (xs : List DV)
mutual
noncomputable def eqD : DV → DV → Bool
  | .non, .non => true
  | .bl a, .bl b => a == b
  | .bl a, .int b => (if a then 1 else 0) == b
  | .int a, .bl b => a == (if b then 1 else 0)
  | .int a, .int b => a == b
  | .str a, .str b => a == b
  | .lst a, .lst b => eqDs a b
  | .tup a, .tup b => eqDs a b
  | _, _ => false
noncomputable def eqDs : List DV → List DV → Bool
  | [], [] => true
  | a :: r, b :: t => eqD a b && eqDs r t
  | _, _ => false
end
mutual
noncomputable def ht : DV → Nat
  | .lst xs => hts xs + 1
  | .tup xs => hts xs + 1
  | _ => 0
noncomputable def hts : List DV → Nat
  | [] => 0
  | a :: r => max (ht a) (hts r)
end
theorem ht_lst (ds : List DV) : ht (.lst ds) = hts ds + 1 := by unfold ht; rfl
theorem ht_tup (ds : List DV) : ht (.tup ds) = hts ds + 1 := by unfold ht; rfl
mutual
inductive Deep (K : Frag) (H : Hp) : V → DV → Prop where
  | non : Deep K H .non .non
  | bl (b : Bool) : Deep K H (.bl b) (.bl b)
  | int (i : Int) : Deep K H (.int i) (.int i)
  | str (x : Str) : Deep K H (.str x) (.str x)
  | lst {a : Addr} {xs : List V} {ds : List DV} (h : SqL K H a xs) (t : Deeps K H xs ds) : Deep K H (.ref a) (.lst ds)
  | tup {a : Addr} {xs : List V} {ds : List DV} (h : SqT K H a xs) (t : Deeps K H xs ds) : Deep K H (.ref a) (.tup ds)
inductive Deeps (K : Frag) (H : Hp) : List V → List DV → Prop where
  | nil : Deeps K H [] []
  | cons {x : V} {d : DV} {xs : List V} {ds : List DV} (h : Deep K H x d) (t : Deeps K H xs ds) : Deeps K H (x :: xs) (d :: ds)
end
theorem Deeps.length {K : Frag} {H : Hp} : ∀ {xs : List V} {ds : List DV}, Deeps K H xs ds → xs.length = ds.length
  | _, _, .nil => rfl
  | _, _, .cons _ t => by rw [List.length_cons, List.length_cons, Deeps.length t]
theorem Deeps.get {K : Frag} {H : Hp} : ∀ {xs : List V} {ds : List DV} {i : Nat} {d : DV}, Deeps K H xs ds → ds[i]? = some d → ∃ x, xs[i]? = some x ∧ Deep K H x d
  | _, _, _, _, .nil, e => by simp at e
  | _, _, 0, _, .cons h _, e => by simp at e; subst e; exact ⟨_, rfl, h⟩
  | _, _, i + 1, d, .cons _ t, e => by
    obtain ⟨x, h1, h2⟩ := Deeps.get (i := i) (d := d) t (by simpa using e)
    exact ⟨x, by simpa using h1, h2⟩
theorem Deeps.ints {K : Frag} {H : Hp} : ∀ ns : List Int, Deeps K H (ns.map V.int) (ns.map DV.int)
  | [] => .nil
  | n :: r => .cons (.int n) (Deeps.ints r)
theorem eqDs_len : ∀ {a b : List DV}, eqDs a b = true → a.length = b.length
  | [], [], _ => rfl
  | a :: r, b :: t, h => by
    unfold eqDs at h
    rw [Bool.and_eq_true] at h
    rw [List.length_cons, List.length_cons, eqDs_len h.2]
  | [], _ :: _, h => by unfold eqDs at h; cases h
  | _ :: _, [], h => by unfold eqDs at h; cases h
noncomputable def eAt (ds es : List DV) (j : Nat) : Bool := match ds[j]?, es[j]? with
  | some d, some e => eqD d e
  | _, _ => true
theorem all_eAt : ∀ (ds es : List DV), ds.length = es.length → (List.range ds.length).all (eAt ds es) = eqDs ds es
  | [], [], _ => by unfold eqDs; rfl
  | d :: r, e :: t, h => by
    have ih := all_eAt r t (by simpa using h)
    rw [List.length_cons, List.range_succ_eq_map, List.all_cons, List.all_map]
    unfold eqDs
    rw [← ih]
    congr 1
  | [], _ :: _, h => by cases h
  | _ :: _, [], h => by cases h
theorem all_eAt_min : ∀ (ds es : List DV), ((List.range (min ds.length es.length)).all (eAt ds es) && ds.length == es.length) = eqDs ds es := fun ds es => by
  by_cases h : ds.length = es.length
  · rw [h, Nat.min_self, ← h, all_eAt ds es h]; simp
  · have h1 : (ds.length == es.length) = false := by simpa using h
    rw [h1, Bool.and_false]
    cases q : eqDs ds es with
    | false => rfl
    | true => exact absurd (eqDs_len q) h
theorem hts_get : ∀ {ds : List DV} {i : Nat} {d : DV}, ds[i]? = some d → ht d ≤ hts ds
  | [], _, _, e => by simp at e
  | a :: r, 0, d, e => by simp at e; subst e; unfold hts; exact Nat.le_max_left _ _
  | a :: r, i + 1, d, e => by
    have := hts_get (ds := r) (i := i) (d := d) (by simpa using e)
    unfold hts; exact Nat.le_trans this (Nat.le_max_right _ _)
section
variable {X : Cx} {pins : List (Addr × Obj)} {σ : St} {H : Hp} {s : Shared}
theorem lt_ne {a : Addr} {xs ys : List V} (I : Inv X pins σ H s) (h1 : SqL X.K H a xs) (h2 : SqT X.K H a ys) : False := by
  obtain ⟨its, _, p, _⟩ := I.list h1
  obtain ⟨its2, _, q, _⟩ := I.tuple h2
  exact SeqAt.ne_of_list_tuple p.isList (show s.heap.IsTuple a its2.toArray from q) rfl
mutual
theorem Deep.inj (I : Inv X pins σ H s) : ∀ {d : DV} {x : V} {e : DV}, Deep X.K H x d → Deep X.K H x e → d = e
  | .non, _, _, .non, h => by cases h; rfl
  | .bl b, _, _, .bl _, h => by cases h; rfl
  | .int b, _, _, .int _, h => by cases h; rfl
  | .str b, _, _, .str _, h => by cases h; rfl
  | .lst ds, _, _, .lst h t, h' => by
    cases h' with
    | lst h2 t2 =>
      have e := I.list_inj h h2
      subst e
      rw [Deeps.inj I t t2]
    | tup h2 t2 => exact (lt_ne I h h2).elim
  | .tup ds, _, _, .tup h t, h' => by
    cases h' with
    | tup h2 t2 =>
      have e := I.tuple_inj h h2
      subst e
      rw [Deeps.inj I t t2]
    | lst h2 t2 => exact (lt_ne I h2 h).elim
theorem Deeps.inj (I : Inv X pins σ H s) : ∀ {ds : List DV} {xs : List V} {es : List DV}, Deeps X.K H xs ds → Deeps X.K H xs es → ds = es
  | [], _, _, .nil, h => by cases h; rfl
  | d :: ds, _, _, .cons h t, h' => by
    cases h' with
    | cons h2 t2 => rw [Deep.inj I h h2, Deeps.inj I t t2]
end
mutual
theorem eqD_refl : ∀ d : DV, eqD d d = true
  | .non => by unfold eqD; rfl
  | .bl b => by unfold eqD; simp
  | .int b => by unfold eqD; simp
  | .str b => by unfold eqD; simp
  | .lst ds => by unfold eqD; exact eqDs_refl ds
  | .tup ds => by unfold eqD; exact eqDs_refl ds
theorem eqDs_refl : ∀ ds : List DV, eqDs ds ds = true
  | [] => by unfold eqDs; rfl
  | d :: r => by unfold eqDs; rw [eqD_refl d, eqDs_refl r]; rfl
end
theorem items_eq {A : Around} {xs ys : List V} {us vs : List Value} {ds es : List DV} (rx : Vals xs us) (ry : Vals ys vs) (t1 : Deeps X.K H xs ds) (t2 : Deeps X.K H ys es)
    (ih : ∀ d ∈ ds, ∀ (e : DV) (x y : V) (u v : Value), Deep X.K H x d → Deep X.K H y e → RelV x u → RelV y v → SeqAt.EqAt A s u v (eqD d e)) (j : Nat) (h1 : j < us.toArray.size) (h2 : j < vs.toArray.size) :
    SeqAt.EqAt A s us.toArray[j] vs.toArray[j] (eAt ds es j) := by
  have l1 := rx.length
  have l2 := ry.length
  have m1 := t1.length
  have m2 := t2.length
  simp only [List.size_toArray] at h1 h2
  have g1 : ds[j]? = some ds[j] := List.getElem?_eq_getElem (by trivial)
  have g2 : es[j]? = some es[j] := List.getElem?_eq_getElem (by trivial)
  obtain ⟨x, ex, dx⟩ := t1.get g1
  obtain ⟨y, ey, dy⟩ := t2.get g2
  obtain ⟨u, eu, ru⟩ := rx.get ex
  obtain ⟨v, ev, rv⟩ := ry.get ey
  have e1 : us.toArray[j] = u := by
    rw [List.getElem_toArray]
    exact Option.some.inj ((List.getElem?_eq_getElem h1).symm.trans eu)
  have e2 : vs.toArray[j] = v := by
    rw [List.getElem_toArray]
    exact Option.some.inj ((List.getElem?_eq_getElem h2).symm.trans ev)
  have e3 : eAt ds es j = eqD ds[j] es[j] := by unfold eAt; rw [g1, g2]
  rw [e1, e2, e3]
  exact ih _ (List.getElem_mem _) _ x y u v dx dy ru rv
theorem rc_deep (I : Inv X pins σ H s) {A : Around} (d e : DV) (x y : V) (u v : Value) (hx : Deep X.K H x d) (hy : Deep X.K H y e) (rx : RelV x u) (ry : RelV y v) (hu : A.units < cLine)
    (ih : ∀ (d' : DV), ht d' < ht d → ∀ (e : DV) (x y : V) (u v : Value), Deep X.K H x d' → Deep X.K H y e → RelV x u → RelV y v → SeqAt.EqAt A.in1 s u v (eqD d' e)) : SeqAt.RcAt A s u v (eqD d e) := by
  have hlt : ∀ {ds : List DV} {d' : DV}, d' ∈ ds → ht d' < hts ds + 1 := fun {ds d'} hm => by
    obtain ⟨i, hi, e⟩ := List.getElem_of_mem hm
    exact Nat.lt_succ_of_le (hts_get (i := i) (by rw [List.getElem?_eq_getElem hi, e]))
  cases hx with
  | non =>
    cases (show u = Value.none from rx)
    cases hy with
    | non => cases (show v = Value.none from ry); unfold eqD; exact SeqAt.RcAt.none_none
    | bl b => cases (show v = Value.bool b from ry); unfold eqD; exact SeqAt.RcAt.none_bool b
    | int b => obtain ⟨t, rfl⟩ := ry; unfold eqD; exact SeqAt.RcAt.none_int b t
    | str b => obtain ⟨t, rfl⟩ := ry; unfold eqD; exact SeqAt.RcAt.none_str b t
    | lst h t => cases ry; obtain ⟨its, r, p, _⟩ := I.list h; unfold eqD; exact SeqAt.RcAt.none_list p.isList hu
    | tup h t => cases ry; obtain ⟨its, r, p, _⟩ := I.tuple h; unfold eqD; exact SeqAt.RcAt.none_tuple (show s.heap.IsTuple _ its.toArray from p) hu
  | bl a =>
    cases (show u = Value.bool a from rx)
    cases hy with
    | non => cases (show v = Value.none from ry); unfold eqD; exact SeqAt.RcAt.bool_none a
    | bl b => cases (show v = Value.bool b from ry); unfold eqD; exact SeqAt.RcAt.bool_bool a b
    | int b => obtain ⟨t, rfl⟩ := ry; unfold eqD; exact SeqAt.RcAt.bool_int a b t
    | str b => obtain ⟨t, rfl⟩ := ry; unfold eqD; exact SeqAt.RcAt.bool_str a b t
    | lst h t => cases ry; obtain ⟨its, r, p, _⟩ := I.list h; unfold eqD; exact SeqAt.RcAt.bool_list a p.isList hu
    | tup h t => cases ry; obtain ⟨its, r, p, _⟩ := I.tuple h; unfold eqD; exact SeqAt.RcAt.bool_tuple a (show s.heap.IsTuple _ its.toArray from p) hu
  | int a =>
    obtain ⟨t', rfl⟩ := rx
    cases hy with
    | non => cases (show v = Value.none from ry); unfold eqD; exact SeqAt.RcAt.int_none a t'
    | bl b => cases (show v = Value.bool b from ry); unfold eqD; exact SeqAt.RcAt.int_bool a t' b
    | int b => obtain ⟨t, rfl⟩ := ry; unfold eqD; exact SeqAt.RcAt.int_int a t' b t
    | str b => obtain ⟨t, rfl⟩ := ry; unfold eqD; exact SeqAt.RcAt.int_str a t' b t
    | lst h t => cases ry; obtain ⟨its, r, p, _⟩ := I.list h; unfold eqD; exact SeqAt.RcAt.int_list a t' p.isList hu
    | tup h t => cases ry; obtain ⟨its, r, p, _⟩ := I.tuple h; unfold eqD; exact SeqAt.RcAt.int_tuple a t' (show s.heap.IsTuple _ its.toArray from p) hu
  | str a =>
    obtain ⟨t', rfl⟩ := rx
    cases hy with
    | non => cases (show v = Value.none from ry); unfold eqD; exact SeqAt.RcAt.str_none a t'
    | bl b => cases (show v = Value.bool b from ry); unfold eqD; exact SeqAt.RcAt.str_bool a t' b
    | int b => obtain ⟨t, rfl⟩ := ry; unfold eqD; exact SeqAt.RcAt.str_int a t' b t
    | str b => obtain ⟨t, rfl⟩ := ry; unfold eqD; exact SeqAt.RcAt.str_str a t' b t
    | lst h t => cases ry; obtain ⟨its, r, p, _⟩ := I.list h; unfold eqD; exact SeqAt.RcAt.str_list a t' p.isList hu
    | tup h t => cases ry; obtain ⟨its, r, p, _⟩ := I.tuple h; unfold eqD; exact SeqAt.RcAt.str_tuple a t' (show s.heap.IsTuple _ its.toArray from p) hu
  | @lst a xs ds h t1 =>
    cases rx
    obtain ⟨its, r, p, _⟩ := I.list h
    cases hy with
    | non => cases (show v = Value.none from ry); unfold eqD; exact SeqAt.RcAt.list_none p.isList hu
    | bl b => cases (show v = Value.bool b from ry); unfold eqD; exact SeqAt.RcAt.list_bool b p.isList hu
    | int b => obtain ⟨t, rfl⟩ := ry; unfold eqD; exact SeqAt.RcAt.list_int b t p.isList hu
    | str b => obtain ⟨t, rfl⟩ := ry; unfold eqD; exact SeqAt.RcAt.list_str b t p.isList hu
    | @lst b ys es h2 t2 =>
      cases ry
      obtain ⟨its2, r2, p2, _⟩ := I.list h2
      have l1 := r.length
      have l2 := r2.length
      have m1 := t1.length
      have m2 := t2.length
      have it := items_eq (A := A.in1) r r2 t1 t2 fun d' hd' e x y u v a b c d => ih d' (by rw [ht_lst]; exact hlt hd') e x y u v a b c d
      unfold eqD
      by_cases hl : ds.length = es.length
      · have q := SeqAt.RcAt.lists (e := eAt ds es) p.isList p2.isList (by simp only [List.size_toArray]; trivial) hu it
        rw [← all_eAt ds es hl]
        have e1 : its.toArray.size = ds.length := by simp only [List.size_toArray]; trivial
        rw [e1] at q
        exact q
      · have q := SeqAt.RcAt.lists_lengths (A := A) p.isList p2.isList (by simp only [List.size_toArray, bne_iff_ne]; trivial) hu
        cases z : eqDs ds es with
        | false => exact q
        | true => exact absurd (eqDs_len z) hl
    | @tup b ys es h2 t2 =>
      cases ry
      obtain ⟨its2, r2, p2, _⟩ := I.tuple h2
      unfold eqD
      exact SeqAt.RcAt.list_tuple p.isList (show s.heap.IsTuple b its2.toArray from p2) hu
  | @tup a xs ds h t1 =>
    cases rx
    obtain ⟨its, r, p, _⟩ := I.tuple h
    have p' : s.heap.IsTuple a its.toArray := p
    cases hy with
    | non => cases (show v = Value.none from ry); unfold eqD; exact SeqAt.RcAt.tuple_none p' hu
    | bl b => cases (show v = Value.bool b from ry); unfold eqD; exact SeqAt.RcAt.tuple_bool b p' hu
    | int b => obtain ⟨t, rfl⟩ := ry; unfold eqD; exact SeqAt.RcAt.tuple_int b t p' hu
    | str b => obtain ⟨t, rfl⟩ := ry; unfold eqD; exact SeqAt.RcAt.tuple_str b t p' hu
    | @lst b ys es h2 t2 =>
      cases ry
      obtain ⟨its2, r2, p2, _⟩ := I.list h2
      unfold eqD
      exact SeqAt.RcAt.tuple_list p' p2.isList hu
    | @tup b ys es h2 t2 =>
      cases ry
      obtain ⟨its2, r2, p2, _⟩ := I.tuple h2
      have p2' : s.heap.IsTuple b its2.toArray := p2
      have l1 := r.length
      have l2 := r2.length
      have m1 := t1.length
      have m2 := t2.length
      have it := items_eq (A := A.in1) r r2 t1 t2 fun d' hd' e x y u v a b c d => ih d' (by rw [ht_tup]; exact hlt hd') e x y u v a b c d
      unfold eqD
      have q := SeqAt.RcAt.tuples (e := eAt ds es) p' p2' hu it
      have e1 : its.toArray.size = ds.length := by simp only [List.size_toArray]; trivial
      have e2 : its2.toArray.size = es.length := by simp only [List.size_toArray]; trivial
      rw [e1, e2, all_eAt_min] at q
      exact q
theorem eq_deep (I : Inv X pins σ H s) : ∀ (n : Nat) {A : Around} (d : DV), ht d ≤ n → A.units + n < cLine → ∀ (e : DV) (x y : V) (u v : Value), Deep X.K H x d → Deep X.K H y e → RelV x u → RelV y v → SeqAt.EqAt A s u v (eqD d e) := by
  intro n
  induction n with
  | zero =>
    intro A d hd hu e x y u v hx hy rx ry
    have rc := rc_deep I (A := A) d e x y u v hx hy rx ry (by trivial) (fun d' h => absurd h (by trivial))
    exact eq_of_rc I hx hy rx ry rc
  | succ n ihn =>
    intro A d hd hu e x y u v hx hy rx ry
    have rc := rc_deep I (A := A) d e x y u v hx hy rx ry (by trivial) (fun d' h => ihn (A := A.in1) d' (by trivial) (by rw [Around.in1_units]; trivial))
    exact eq_of_rc I hx hy rx ry rc
where
  eq_of_rc (I : Inv X pins σ H s) {A : Around} {d e : DV} {x y : V} {u v : Value} (hx : Deep X.K H x d) (hy : Deep X.K H y e) (rx : RelV x u) (ry : RelV y v) (rc : SeqAt.RcAt A s u v (eqD d e)) : SeqAt.EqAt A s u v (eqD d e) := by
    intro prog w E Q hq
    unfold eqBool
    refine wpAny_holding ?_
    refine wpAny_ite_split (fun hab => ?_) (fun hab => ?_)
    · have e1 : x = y := by
        have e0 := eq_of_beq hab
        rw [e0] at rx
        exact rx.inj ry
      subst e1
      have e2 := Deep.inj I hx hy
      subst e2
      rw [eqD_refl] at hq
      exact wpAny_bind (wpAny_rule (wpAny_pure hq))
    · cases hx <;> cases hy <;> first
        | (cases rx; cases ry; exact wpAny_bind (rc prog w E _ (wpAny_truthy_bool hq)))
        | (obtain ⟨t, rfl⟩ := rx; cases ry; exact wpAny_bind (rc prog w E _ (wpAny_truthy_bool hq)))
        | (cases rx; obtain ⟨t, rfl⟩ := ry; exact wpAny_bind (rc prog w E _ (wpAny_truthy_bool hq)))
        | (obtain ⟨t, rfl⟩ := rx; obtain ⟨t', rfl⟩ := ry; exact wpAny_bind (rc prog w E _ (wpAny_truthy_bool hq)))
theorem rcne_deep (I : Inv X pins σ H s) {A : Around} (d e : DV) (x y : V) (u v : Value) (hx : Deep X.K H x d) (hy : Deep X.K H y e) (rx : RelV x u) (ry : RelV y v) (hu : A.units < cLine)
    (ih : ∀ (d' : DV), ht d' < ht d → ∀ (e : DV) (x y : V) (u v : Value), Deep X.K H x d' → Deep X.K H y e → RelV x u → RelV y v → SeqAt.EqAt A.in1 s u v (eqD d' e)) : SeqAt.RcNeAt A s u v (!eqD d e) := by
  have hlt : ∀ {ds : List DV} {d' : DV}, d' ∈ ds → ht d' < hts ds + 1 := fun {ds d'} hm => by
    obtain ⟨i, hi, e⟩ := List.getElem_of_mem hm
    exact Nat.lt_succ_of_le (hts_get (i := i) (by rw [List.getElem?_eq_getElem hi, e]))
  cases hx with
  | non =>
    cases (show u = Value.none from rx)
    cases hy with
    | non => cases (show v = Value.none from ry); unfold eqD; exact SeqAt.RcNeAt.none_none
    | bl b => cases (show v = Value.bool b from ry); unfold eqD; exact SeqAt.RcNeAt.none_bool b
    | int b => obtain ⟨t, rfl⟩ := ry; unfold eqD; exact SeqAt.RcNeAt.none_int b t
    | str b => obtain ⟨t, rfl⟩ := ry; unfold eqD; exact SeqAt.RcNeAt.none_str b t
    | lst h t => cases ry; obtain ⟨its, r, p, _⟩ := I.list h; unfold eqD; exact SeqAt.RcNeAt.none_list p.isList hu
    | tup h t => cases ry; obtain ⟨its, r, p, _⟩ := I.tuple h; unfold eqD; exact SeqAt.RcNeAt.none_tuple (show s.heap.IsTuple _ its.toArray from p) hu
  | bl a =>
    cases (show u = Value.bool a from rx)
    cases hy with
    | non => cases (show v = Value.none from ry); unfold eqD; exact SeqAt.RcNeAt.bool_none a
    | bl b => cases (show v = Value.bool b from ry); unfold eqD; exact SeqAt.RcNeAt.bool_bool a b
    | int b => obtain ⟨t, rfl⟩ := ry; unfold eqD; exact SeqAt.RcNeAt.bool_int a b t
    | str b => obtain ⟨t, rfl⟩ := ry; unfold eqD; exact SeqAt.RcNeAt.bool_str a b t
    | lst h t => cases ry; obtain ⟨its, r, p, _⟩ := I.list h; unfold eqD; exact SeqAt.RcNeAt.bool_list a p.isList hu
    | tup h t => cases ry; obtain ⟨its, r, p, _⟩ := I.tuple h; unfold eqD; exact SeqAt.RcNeAt.bool_tuple a (show s.heap.IsTuple _ its.toArray from p) hu
  | int a =>
    obtain ⟨t', rfl⟩ := rx
    cases hy with
    | non => cases (show v = Value.none from ry); unfold eqD; exact SeqAt.RcNeAt.int_none a t'
    | bl b => cases (show v = Value.bool b from ry); unfold eqD; exact SeqAt.RcNeAt.int_bool a t' b
    | int b => obtain ⟨t, rfl⟩ := ry; unfold eqD; exact SeqAt.RcNeAt.int_int a t' b t
    | str b => obtain ⟨t, rfl⟩ := ry; unfold eqD; exact SeqAt.RcNeAt.int_str a t' b t
    | lst h t => cases ry; obtain ⟨its, r, p, _⟩ := I.list h; unfold eqD; exact SeqAt.RcNeAt.int_list a t' p.isList hu
    | tup h t => cases ry; obtain ⟨its, r, p, _⟩ := I.tuple h; unfold eqD; exact SeqAt.RcNeAt.int_tuple a t' (show s.heap.IsTuple _ its.toArray from p) hu
  | str a =>
    obtain ⟨t', rfl⟩ := rx
    cases hy with
    | non => cases (show v = Value.none from ry); unfold eqD; exact SeqAt.RcNeAt.str_none a t'
    | bl b => cases (show v = Value.bool b from ry); unfold eqD; exact SeqAt.RcNeAt.str_bool a t' b
    | int b => obtain ⟨t, rfl⟩ := ry; unfold eqD; exact SeqAt.RcNeAt.str_int a t' b t
    | str b => obtain ⟨t, rfl⟩ := ry; unfold eqD; exact SeqAt.RcNeAt.str_str a t' b t
    | lst h t => cases ry; obtain ⟨its, r, p, _⟩ := I.list h; unfold eqD; exact SeqAt.RcNeAt.str_list a t' p.isList hu
    | tup h t => cases ry; obtain ⟨its, r, p, _⟩ := I.tuple h; unfold eqD; exact SeqAt.RcNeAt.str_tuple a t' (show s.heap.IsTuple _ its.toArray from p) hu
  | @lst a xs ds h t1 =>
    cases rx
    obtain ⟨its, r, p, _⟩ := I.list h
    cases hy with
    | non => cases (show v = Value.none from ry); unfold eqD; exact SeqAt.RcNeAt.list_none p.isList hu
    | bl b => cases (show v = Value.bool b from ry); unfold eqD; exact SeqAt.RcNeAt.list_bool b p.isList hu
    | int b => obtain ⟨t, rfl⟩ := ry; unfold eqD; exact SeqAt.RcNeAt.list_int b t p.isList hu
    | str b => obtain ⟨t, rfl⟩ := ry; unfold eqD; exact SeqAt.RcNeAt.list_str b t p.isList hu
    | @lst b ys es h2 t2 =>
      cases ry
      obtain ⟨its2, r2, p2, _⟩ := I.list h2
      have l1 := r.length
      have l2 := r2.length
      have m1 := t1.length
      have m2 := t2.length
      have it := items_eq (A := A.in1) r r2 t1 t2 fun d' hd' e x y u v a b c d => ih d' (by rw [ht_lst]; exact hlt hd') e x y u v a b c d
      unfold eqD
      by_cases hl : ds.length = es.length
      · have q := SeqAt.RcNeAt.lists (e := eAt ds es) p.isList p2.isList (by simp only [List.size_toArray]; trivial) hu it
        rw [← all_eAt ds es hl]
        have e1 : its.toArray.size = ds.length := by simp only [List.size_toArray]; trivial
        rw [e1] at q
        exact q
      · have q := SeqAt.RcNeAt.lists_lengths (A := A) p.isList p2.isList (by simp only [List.size_toArray, bne_iff_ne]; trivial) hu
        cases z : eqDs ds es with
        | false => exact q
        | true => exact absurd (eqDs_len z) hl
    | @tup b ys es h2 t2 =>
      cases ry
      obtain ⟨its2, r2, p2, _⟩ := I.tuple h2
      unfold eqD
      exact SeqAt.RcNeAt.list_tuple p.isList (show s.heap.IsTuple b its2.toArray from p2) hu
  | @tup a xs ds h t1 =>
    cases rx
    obtain ⟨its, r, p, _⟩ := I.tuple h
    have p' : s.heap.IsTuple a its.toArray := p
    cases hy with
    | non => cases (show v = Value.none from ry); unfold eqD; exact SeqAt.RcNeAt.tuple_none p' hu
    | bl b => cases (show v = Value.bool b from ry); unfold eqD; exact SeqAt.RcNeAt.tuple_bool b p' hu
    | int b => obtain ⟨t, rfl⟩ := ry; unfold eqD; exact SeqAt.RcNeAt.tuple_int b t p' hu
    | str b => obtain ⟨t, rfl⟩ := ry; unfold eqD; exact SeqAt.RcNeAt.tuple_str b t p' hu
    | @lst b ys es h2 t2 =>
      cases ry
      obtain ⟨its2, r2, p2, _⟩ := I.list h2
      unfold eqD
      exact SeqAt.RcNeAt.tuple_list p' p2.isList hu
    | @tup b ys es h2 t2 =>
      cases ry
      obtain ⟨its2, r2, p2, _⟩ := I.tuple h2
      have p2' : s.heap.IsTuple b its2.toArray := p2
      have l1 := r.length
      have l2 := r2.length
      have m1 := t1.length
      have m2 := t2.length
      have it := items_eq (A := A.in1) r r2 t1 t2 fun d' hd' e x y u v a b c d => ih d' (by rw [ht_tup]; exact hlt hd') e x y u v a b c d
      unfold eqD
      have q := SeqAt.RcNeAt.tuples (e := eAt ds es) p' p2' hu it
      have e1 : its.toArray.size = ds.length := by simp only [List.size_toArray]; trivial
      have e2 : its2.toArray.size = es.length := by simp only [List.size_toArray]; trivial
      rw [e1, e2, all_eAt_min] at q
      exact q
end
noncomputable def rEqD (K : Frag) : R2 := fun x y H Q => ∃ d e, Deep K H x d ∧ Deep K H y e ∧ ht d ≤ 60 ∧ Q (.bl (eqD d e)) H
theorem op_eqD {X : Cx} (hu : X.A.units + 64 < cLine) : OpR X (compareOp .Eq) (rEqD X.K) := by
  intro pins s σ H x y v u Q I rx ry h
  obtain ⟨d, e, hx, hy, hh, q⟩ := h
  have rc := rc_deep I (A := X.A) d e x y v u hx hy rx ry (by trivial) (fun d' h => eq_deep I 60 d' (by trivial) (by rw [Around.in1_units]; trivial))
  exact rc X.prog X.w X.xe _ ⟨.bl _, H, I, rfl, q⟩
noncomputable def rNeD (K : Frag) : R2 := fun x y H Q => ∃ d e, Deep K H x d ∧ Deep K H y e ∧ ht d ≤ 60 ∧ Q (.bl (!eqD d e)) H
theorem op_neD {X : Cx} (hu : X.A.units + 64 < cLine) : OpR X (compareOp .NotEq) (rNeD X.K) := by
  intro pins s σ H x y v u Q I rx ry h
  obtain ⟨d, e, hx, hy, hh, q⟩ := h
  have rc := rcne_deep I (A := X.A) d e x y v u hx hy rx ry (by trivial) (fun d' h => eq_deep I 60 d' (by trivial) (by rw [Around.in1_units]; trivial))
  exact rc X.prog X.w X.xe _ ⟨.bl _, H, I, rfl, q⟩
end L2
set_option Elab.async false
set_option linter.all false
set_option maxRecDepth 100000
namespace L2
open PySem PySem.Spec PyProof.Rows PySem.W
noncomputable def compOk (osc : Scope) (XN N : List Str) (js : List (Option Nat)) (scope : Scope) : Bool :=
  scope.names.all (fun y => !(y.2 == NameKind.cell)) && scope.names.all (fun y => !(y.2 == NameKind.local) || scope.names.lookup y.1 == some .local) &&
  scope.names.all (fun y => !(y.2 == NameKind.free) || osc.names.lookup y.1 == some .cell || osc.names.lookup y.1 == some .free) && js.length == N.length &&
  (js.zip N).all (fun p => match p.1 with | none => true | some j => XN[j]? == some p.2 && scope.names.lookup p.2 == some .free)
theorem comp_scope {X : Cx} {N : List Str} {js : List (Option Nat)} {scope : Scope} {osc : Scope} {XN : List Str} (hk : scope.kind = .function) (e1 : X.env.scope = osc) (e2 : X.N = XN) (h : compOk osc XN N js scope = true) : CompScope X N js scope := by
  unfold compOk at h
  simp only [Bool.and_eq_true, List.all_eq_true, Bool.or_eq_true, Bool.not_eq_true', beq_iff_eq] at h
  obtain ⟨⟨⟨⟨h1, h2⟩, h3⟩, h4⟩, h5⟩ := h
  refine ⟨hk, fun y hy z => ?_, fun y hy z => ?_, fun y hy z => ?_, h4, fun i j x ej ex => ?_⟩
  · have := h1 y hy
    rw [z] at this; cases this
  · rcases h2 y hy with q | q
    · rw [z] at q; cases q
    · exact q
  · show X.env.scope.names.lookup y.1 = _ ∨ X.env.scope.names.lookup y.1 = _
    rw [e1]
    rcases h3 y hy with (q | q) | q
    · rw [z] at q; cases q
    · exact .inl q
    · exact .inr q
  · have hm : (some j, x) ∈ js.zip N := by
      refine List.mem_iff_getElem?.mpr ⟨i, ?_⟩
      rw [List.getElem?_zip_eq_some]
      exact ⟨ej, ex⟩
    have q := h5 _ hm
    simp only [Bool.and_eq_true, beq_iff_eq] at q
    rw [e2]
    exact q
noncomputable def CW (n : Nat) (Pv : Nat → St → Hp → Prop) (i m : Nat) (σ : St) (H : Hp) : Prop := m = n - i ∧ i ≤ n ∧ Pv i σ H
theorem CW.next {n : Nat} {Pv : Nat → St → Hp → Prop} {i : Nat} {σ : St} {H : Hp} (hi : i < n) (h : Pv (i + 1) σ H) : ∃ m', m' < n - i ∧ CW n Pv (i + 1) m' σ H := ⟨n - (i + 1), by trivial, rfl, hi, h⟩
theorem comp_rng {lo : Int} {n : Nat} {D : Addr} {σ0 : St} {H1 : Hp} {Q : VK} {g : TG} {tc : TT} {te : TE} (Pv : Nat → St → Hp → Prop) (h0 : Pv 0 σ0 (upd H1 D (.lst [])))
    (hs : ∀ i σ' H', i < n → Pv i σ' H' → g (.int (lo + i)) σ' H' fun σ2 H3 => tc σ2 H3 fun b H4 => if b = true then te σ2 H4 fun v H5 => rAppend (.ref D) [v] H5 fun _ H6 => ∃ m', m' < n - i ∧ CW n Pv (i + 1) m' σ2 H6 else ∃ m', m' < n - i ∧ CW n Pv (i + 1) m' σ2 H4)
    (hd : ∀ σ' H', Pv n σ' H' → Q (.ref D) H') :
    ∃ W : Nat → Nat → St → Hp → Prop, (∃ m, W 0 m σ0 (upd H1 D (.lst []))) ∧ ∀ i m σ' H', W i m σ' H' → ((Itr lo n).stop i H' ∧ Q (.ref D) H') ∨ ((Itr lo n).go i H' ∧ ∀ x H2, (Itr lo n).yld i H' x H2 → g x σ' H2 fun σ2 H3 => tc σ2 H3 fun b H4 =>
      if b = true then te σ2 H4 fun v H5 => rAppend (.ref D) [v] H5 fun _ H6 => ∃ m', m' < m ∧ W (i + 1) m' σ2 H6 else ∃ m', m' < m ∧ W (i + 1) m' σ2 H4) := by
  refine ⟨CW n Pv, ⟨n, rfl, Nat.zero_le _, h0⟩, ?_⟩
  rintro i m σ' H' ⟨rfl, hi, p⟩
  by_cases hlt : i < n
  · refine .inr ⟨hlt, fun x H2 y => ?_⟩
    obtain ⟨e, y⟩ := y
    subst e y
    exact hs i σ' _ hlt p
  · have e : i = n := by trivial
    subst e
    exact .inl ⟨Nat.le_refl _, hd σ' H' p⟩
theorem comp_lst {K : Frag} {a : Addr} {xs : List V} {D : Addr} {σ0 : St} {H1 : Hp} {Q : VK} {g : TG} {tc : TT} {te : TE} (Pv : Nat → St → Hp → Prop) (h0 : Pv 0 σ0 (upd H1 D (.lst []))) (hl : ∀ i σ H, i ≤ xs.length → Pv i σ H → SqL K H a xs)
    (hs : ∀ i x σ' H', xs[i]? = some x → Pv i σ' H' → g x σ' H' fun σ2 H3 => tc σ2 H3 fun b H4 => if b = true then te σ2 H4 fun v H5 => rAppend (.ref D) [v] H5 fun _ H6 => ∃ m', m' < xs.length - i ∧ CW xs.length Pv (i + 1) m' σ2 H6 else ∃ m', m' < xs.length - i ∧ CW xs.length Pv (i + 1) m' σ2 H4)
    (hd : ∀ σ' H', Pv xs.length σ' H' → Q (.ref D) H') :
    ∃ W : Nat → Nat → St → Hp → Prop, (∃ m, W 0 m σ0 (upd H1 D (.lst []))) ∧ ∀ i m σ' H', W i m σ' H' → ((Itl K a).stop i H' ∧ Q (.ref D) H') ∨ ((Itl K a).go i H' ∧ ∀ x H2, (Itl K a).yld i H' x H2 → g x σ' H2 fun σ2 H3 => tc σ2 H3 fun b H4 =>
      if b = true then te σ2 H4 fun v H5 => rAppend (.ref D) [v] H5 fun _ H6 => ∃ m', m' < m ∧ W (i + 1) m' σ2 H6 else ∃ m', m' < m ∧ W (i + 1) m' σ2 H4) := by
  refine ⟨CW xs.length Pv, ⟨xs.length, rfl, Nat.zero_le _, h0⟩, ?_⟩
  rintro i m σ' H' ⟨rfl, hi, p⟩
  have q := hl i σ' H' hi p
  by_cases hlt : i < xs.length
  · refine .inr ⟨⟨xs, xs[i], q, by simp [hlt]⟩, fun x H2 y => ?_⟩
    obtain ⟨e, y⟩ := y
    subst e
    exact hs i x σ' _ (y xs q) p
  · have e : i = xs.length := by trivial
    subst e
    exact .inl ⟨⟨xs, q, Nat.le_refl _⟩, hd σ' H' p⟩
theorem eqDs_ints : ∀ (a b : List Int), eqDs (a.map DV.int) (b.map DV.int) = decide (a = b)
  | [], [] => by unfold eqDs; rfl
  | [], _ :: _ => by simp [eqDs]
  | _ :: _, [] => by simp [eqDs]
  | x :: r, y :: t => by
    rw [List.map_cons, List.map_cons]
    unfold eqDs eqD
    rw [eqDs_ints r t]
    by_cases h : x = y <;> by_cases h2 : r = t <;> simp [h, h2]
theorem hts_ints : ∀ a : List Int, hts (a.map DV.int) = 0
  | [] => by unfold hts; rfl
  | x :: r => by rw [List.map_cons]; unfold hts ht; rw [hts_ints r]; rfl
noncomputable def rEqI (K : Frag) : R2 := fun x y H Q => ∃ (a b : Addr) (ns ms : List Int), x = .ref a ∧ y = .ref b ∧ SqL K H a (ns.map V.int) ∧ SqL K H b (ms.map V.int) ∧ Q (.bl (decide (ns = ms))) H
noncomputable def rNeI (K : Frag) : R2 := fun x y H Q => ∃ (a b : Addr) (ns ms : List Int), x = .ref a ∧ y = .ref b ∧ SqL K H a (ns.map V.int) ∧ SqL K H b (ms.map V.int) ∧ Q (.bl (!decide (ns = ms))) H
theorem op_eqL {X : Cx} (hu : X.A.units + 64 < cLine) : OpR X (compareOp .Eq) (rEqI X.K) := by
  intro pins s σ H x y v u Q I rx ry h
  obtain ⟨a, b, ns, ms, rfl, rfl, h1, h2, q⟩ := h
  refine op_eqD hu pins s σ H _ _ v u Q I rx ry ⟨_, _, .lst h1 (Deeps.ints ns), .lst h2 (Deeps.ints ms), ?_, ?_⟩
  · unfold ht; rw [hts_ints]; decide
  · unfold eqD; rw [eqDs_ints]; exact q
theorem op_neL {X : Cx} (hu : X.A.units + 64 < cLine) : OpR X (compareOp .NotEq) (rNeI X.K) := by
  intro pins s σ H x y v u Q I rx ry h
  obtain ⟨a, b, ns, ms, rfl, rfl, h1, h2, q⟩ := h
  refine op_neD hu pins s σ H _ _ v u Q I rx ry ⟨_, _, .lst h1 (Deeps.ints ns), .lst h2 (Deeps.ints ms), ?_, ?_⟩
  · unfold ht; rw [hts_ints]; decide
  · unfold eqD; rw [eqDs_ints]; exact q
theorem units_of {A : Around} {k : Nat} (hr : Room k A) : A.units + 64 < cLine := by have := hr.un; trivial
theorem ifT {σ : St} {H : Hp} {A B : Hp → Prop} (h : A H) : tTrue σ H (fun b H4 => if b = true then A H4 else B H4) := by
  show if true = true then A H else B H
  exact iteT h
theorem nameT {j : Nat} {v : V} {σ : St} {H : Hp} {A B : St → Hp → Prop} (h : A (σ.set j (some v)) H) : gName j v σ H (fun σ2 H3 => tTrue σ2 H3 (fun b H4 => if b = true then A σ2 H4 else B σ2 H4)) := by
  show if true = true then A (σ.set j (some v)) H else B (σ.set j (some v)) H
  exact iteT h
end L2
namespace PH
end PH
set_option Elab.async false
set_option linter.all false
set_option maxRecDepth 100000
set_option maxHeartbeats 4000000
namespace PH
open PySem L2 PySem.W
theorem same_new {H : Hp} {p : Addr} (h : H p = none) (o : HO) : Same H (upd H p o) := fun b u q => by rw [upd_ne (ne_of_none q h)]; exact q
noncomputable def deckO (a b c : Int) : HO := .lst [.int a, .int b, .int c]
noncomputable def lsI (ns : List Int) : HO := .lst (ns.map V.int)
theorem int_at {ns : List Int} {i : Nat} {y : V} (h : (ns.map V.int)[i]? = some y) : ∃ z, y = V.int z ∧ ns[i]? = some z := by
  rw [List.getElem?_map] at h
  cases e : ns[i]? with
  | none => rw [e] at h; cases h
  | some z => rw [e] at h; exact ⟨z, (Option.some.inj h).symm, rfl⟩
theorem take_at {α : Type} {ns : List α} {i : Nat} {z : α} (h : ns[i]? = some z) : ns.take (i + 1) = ns.take i ++ [z] := by rw [List.take_add_one, h]; rfl
abbrev bmV : List Value := [.type "ValueError", .type "Exception", .type "BaseException", .type "object"]
structure Ex (K : Frag) (mg : Str → Option Value) (x : Str) (C : Addr) : Prop where
  mg : mg x = some (.ref C)
  ex : excIn K C bmV "ValueError.__new__" = true
  cl : ExcC K C
theorem kit_refl (K : Frag) (t : Value) : kitOne K t t = some true := by unfold kitOne; rw [if_pos (beq_self_eq_true t)]
theorem kit_ib (K : Frag) : kitOne K (.type "int") (.type "bool") = some false := by rfl
theorem boot_isi : bootBuiltins "isinstance" = some (.builtin "isinstance") := by decide +kernel
theorem boot_list' : bootBuiltins "list" = some (.type "list") := by decide +kernel
theorem boot_int' : bootBuiltins "int" = some (.type "int") := by decide +kernel
theorem boot_bool' : bootBuiltins "bool" = some (.type "bool") := by decide +kernel
structure Bl (mg : Str → Option Value) : Prop where
  isi : mg "isinstance" = none
  list : mg "list" = none
  int : mg "int" = none
  bool : mg "bool" = none
  len : mg "len" = none
  range : mg "range" = none
  max : mg "max" = none
  ve : mg "ValueError" = none
theorem cut_from (ns : List Int) (k : Nat) : cutV (ns.map V.int) (some (k : Int)) none = (ns.drop k).map V.int := by
  unfold cutV
  rw [HT.sIx_none, HT.sIx_nat, List.length_map]
  rcases Nat.le_total k ns.length with h | h
  · rw [Nat.min_eq_left h, ← List.map_drop, List.take_of_length_le (by rw [List.length_map, List.length_drop]; exact Nat.le_refl _)]
  · rw [Nat.min_eq_right h, Nat.sub_self, List.take_zero, List.drop_of_length_le h]; rfl
noncomputable def spLaw (K : PySem.W.Frag) : Sp := fun vs H Q _ => ∃ (a : Addr) (ns : List Int), vs = [.ref a] ∧ SqL K H a (ns.map V.int) ∧ ns.length ≤ 63 ∧ ∀ H', Q (.bl true) H'
theorem fits {n : Nat} (h : n ≤ 1000000) : n ≤ sizeLine := by
  have : sizeLine = 16777216 := by decide
  trivial
theorem fits_lt {n : Nat} (h : n ≤ 1000000) : n < sizeLine := by
  have : sizeLine = 16777216 := by decide
  trivial
end PH
namespace PH
end PH
set_option Elab.async false
set_option linter.all false
set_option maxRecDepth 100000
namespace L2
open PySem PySem.Spec PyProof.Rows PySem.W
noncomputable def Itrs (lo c : Int) (n : Nat) : It := ⟨fun i _ => i < n, fun i H x H' => H' = H ∧ x = .int (lo + i * c), fun i _ => n ≤ i⟩
theorem turn_rangeS {P : Program} {w : World} {K : PySem.W.Frag} {tg : Expr} (it : Addr) (lo c : Int) (n : Nat) : Turn P w K tg (Itrs lo c n) [it] it (fun i h => IsRangeIter h it (lo + (i : Nat) * c) ((n : Int) - (i : Nat)) c) where
  mem := by simp
  obj := fun i h st b hb => by
    have e : b = it := by simpa using hb
    subst e
    exact ⟨_, st, fun v z => by
      have z' : Data.fields _ = Data.cell v := z
      cases z'⟩
  keep := fun i h h' st k => k it (by simp) _ st
  item := by
    intro X hP hw hK hc i pins s σ H E I hf st hg
    subst hP hw hK
    obtain ⟨f0, f1, f2, f3, f4, f5⟩ := hf it (by simp)
    have W := Walks.range (prog := X.prog) (w := X.w) (I.ok.hd hc) it lo c n
    refine W.item i s _ _ hg st fun v h' tk hv st' kk => ?_
    obtain ⟨t, rfl⟩ := hv
    have I1 : Inv X pins σ H { s with heap := h', toks := tk } := I.turned (fun b o hb e => kk b o (by simpa using hb) e) f0 f1 f3 f4 f5
    exact ⟨_, rfl, go_of (s := { s with heap := h', toks := tk }) (n := "range_iterator") st' rfl rfl (by decide) ⟨.int (lo + i * c), H, I1, ⟨t, rfl⟩, ⟨rfl, rfl⟩, st', fun b hb => (hf b hb).1⟩⟩
  done := by
    intro X hP hw hK hc i pins s σ H E I hf st hg
    subst hP hw hK
    obtain ⟨f0, f1, f2, f3, f4, f5⟩ := hf it (by simp)
    exact wpAny_pyNext_range_end (I.ok.hd hc) st (by have : n ≤ i := hg; trivial) fun h' eb => ⟨rfl, I.turned (t' := s.toks) (fun b o hb e => eb b o hb e) f0 f1 f3 f4 f5⟩
  self := fun _ _ _ _ _ st h => wpAny_pyIter_rangeiter st h
theorem rangeSize_nn (a b c : Int) : 0 ≤ Builtin.Range.rangeSize a b c := by
  unfold Builtin.Range.rangeSize
  split
  · split
    · have := Int.ediv_nonneg (a := b - a - 1) (b := c) (by trivial) (by trivial)
      trivial
    · trivial
  · split
    · by_cases hc : c = 0
      · subst hc; simp
      · have := Int.ediv_nonneg (a := a - b - 1) (b := -c) (by trivial) (by trivial)
        trivial
    · trivial
section
variable {X : Cx} {tg : Expr}
theorem range_itS {pins : List (Addr × Obj)} {σ : St} {H : Hp} {s : Shared} {R : It → Hp → Prop} {E : Value → Shared → Prop} {lo hi c : Int} {t u v : Tok} {tk : Nat} (I : Inv X pins σ H s) (h1 : Builtin.Range.small lo hi c = true)
    (q : R (Itrs lo c (Builtin.Range.rangeSize lo hi c).toNat) H) : wpAny (model X.prog X.w) X.A (pyIter (.ref s.heap.objs.size)) (PIE X pins σ tg R) E { s with heap := s.heap.push { cls := .type "range", data := .fields #[.int lo t, .int hi u, .int c v] }, toks := tk } := by
  refine wpAny_pyIter_range (IsRange.new ..) h1 ?_
  have I1 : Inv X pins σ H { s with heap := s.heap.push { cls := .type "range", data := .fields #[.int lo t, .int hi u, .int c v] }, toks := tk } := I.kept fun b o e => Heap.get?_push_of_some _ e
  refine ⟨(s.heap.push { cls := .type "range", data := .fields #[.int lo t, .int hi u, .int c v] }).objs.size, [(s.heap.push { cls := .type "range", data := .fields #[.int lo t, .int hi u, .int c v] }).objs.size], _, _, H, rfl,
    I1.kept (t' := tk) fun b o e => Heap.get?_push_of_some _ e, turn_rangeS _ lo c (Builtin.Range.rangeSize lo hi c).toNat, ?_, fun b hb => ?_, q⟩
  · have e1 : lo + ((0 : Nat) : Int) * c = lo := by simp
    have e2 : (((Builtin.Range.rangeSize lo hi c).toNat : Nat) : Int) - ((0 : Nat) : Int) = Builtin.Range.rangeSize lo hi c := by have := rangeSize_nn lo hi c; trivial
    show IsRangeIter _ _ (lo + ((0 : Nat) : Int) * c) ((((Builtin.Range.rangeSize lo hi c).toNat : Nat) : Int) - ((0 : Nat) : Int)) c
    rw [e1, e2]
    exact Heap.get?_push_size _ rfl
  · have e : b = (s.heap.push { cls := .type "range", data := .fields #[.int lo t, .int hi u, .int c v] }).objs.size := by simpa using hb
    subst e
    exact I1.fpOk (Nat.le_refl _) (I1.hok.fresh (Nat.le_refl _))
noncomputable def iRng3 (ta : TA) : TI := fun σ H R => ta σ H fun vs H1 => ∃ i j c : Int, vs = [.int i, .int j, .int c] ∧ (c ≠ 0 ∧ c.natAbs < 1073741824) ∧ Builtin.Range.small i j c = true ∧ R (Itrs i c (Builtin.Range.rangeSize i j c).toNat) H1
theorem pi_range3 {a b d : Expr} {ta : TA} {p pos : Pos} (hg : Gl X "range") (hm : X.mg "range" = none) (ha : PA X [a, b, d] ta) (hs : starEach [a, b, d] X.env = (false, eval a X.env) :: starEach [b, d] X.env := by rfl) (hpl : (backTo pos (starEach [b, d] X.env)).any (·.1) = false := by rfl) :
    PI X tg (.Call (.Name "range" p) [a, b, d] [] pos) (iRng3 ta) := by
  intro pins s σ H R I h
  refine Call_ (ld_blt I hg hm boot_range (PyProof.Rows.callWith_type1 (thn (ha pos pins s σ H _ I h) fun us s1 ⟨vs, H1, I1, r1, q1⟩ => ?_) hs hpl))
  obtain ⟨i, j, c, e, ⟨c0, c1⟩, sm, q⟩ := q1
  subst e
  cases r1 with
  | cons r rr =>
    cases rr with
    | cons r' rr =>
      cases rr with
      | cons r'' rr =>
        cases rr
        obtain ⟨t, rfl⟩ := r
        obtain ⟨t', rfl⟩ := r'
        obtain ⟨t'', rfl⟩ := r''
        exact call_range_3 c0 (range_itS (tk := s1.toks) I1 sm q) (.inl (PyProof.noPylong_small c1))
end
theorem small_step {a b : Int} {c : Int} (ha : -(2 ^ 61) ≤ a) (ha' : a < 2 ^ 61) (hb : -(2 ^ 61) ≤ b) (hb' : b < 2 ^ 61) (hc : 1 ≤ c) (hc' : c < 2 ^ 60) : Builtin.Range.small a b c = true := by
  have h0 := rangeSize_nn a b c
  have h1 : Builtin.Range.rangeSize a b c ≤ 2 ^ 62 := by
    unfold Builtin.Range.rangeSize
    rw [if_pos (by trivial)]
    split
    · have : (b - a - 1) / c ≤ b - a - 1 := Int.ediv_le_self _ (by trivial)
      trivial
    · decide
  unfold Builtin.Range.small
  simp only [Builtin.Range.rangeFitsLong, Bool.and_eq_true, Bool.or_eq_true, decide_eq_true_eq, beq_iff_eq]
  rw [if_pos (show c > 0 by trivial)]
  simp only [Bool.and_eq_true, decide_eq_true_eq]
  trivial
theorem comp_rngQ {lo : Int} {n : Nat} {D : Addr} {σ0 : St} {H1 : Hp} {Qd : Hp → Prop} {g : TG} {tc : TT} {te : TE} (Pv : Nat → St → Hp → Prop) (h0 : Pv 0 σ0 (upd H1 D (.lst [])))
    (hs : ∀ i σ' H', i < n → Pv i σ' H' → g (.int (lo + i)) σ' H' fun σ2 H3 => tc σ2 H3 fun b H4 => if b = true then te σ2 H4 fun v H5 => rAppend (.ref D) [v] H5 fun _ H6 => ∃ m', m' < n - i ∧ CW n Pv (i + 1) m' σ2 H6 else ∃ m', m' < n - i ∧ CW n Pv (i + 1) m' σ2 H4)
    (hd : ∀ σ' H', Pv n σ' H' → Qd H') :
    ∃ W : Nat → Nat → St → Hp → Prop, (∃ m, W 0 m σ0 (upd H1 D (.lst []))) ∧ ∀ i m σ' H', W i m σ' H' → ((Itr lo n).stop i H' ∧ Qd H') ∨ ((Itr lo n).go i H' ∧ ∀ x H2, (Itr lo n).yld i H' x H2 → g x σ' H2 fun σ2 H3 => tc σ2 H3 fun b H4 =>
      if b = true then te σ2 H4 fun v H5 => rAppend (.ref D) [v] H5 fun _ H6 => ∃ m', m' < m ∧ W (i + 1) m' σ2 H6 else ∃ m', m' < m ∧ W (i + 1) m' σ2 H4) :=
  comp_rng (Q := fun _ H => Qd H) Pv h0 hs hd
theorem comp_lstQ {K : Frag} {a : Addr} {xs : List V} {D : Addr} {σ0 : St} {H1 : Hp} {Qd : Hp → Prop} {g : TG} {tc : TT} {te : TE} (Pv : Nat → St → Hp → Prop) (h0 : Pv 0 σ0 (upd H1 D (.lst []))) (hl : ∀ i σ H, i ≤ xs.length → Pv i σ H → SqL K H a xs)
    (hs : ∀ i x σ' H', xs[i]? = some x → Pv i σ' H' → g x σ' H' fun σ2 H3 => tc σ2 H3 fun b H4 => if b = true then te σ2 H4 fun v H5 => rAppend (.ref D) [v] H5 fun _ H6 => ∃ m', m' < xs.length - i ∧ CW xs.length Pv (i + 1) m' σ2 H6 else ∃ m', m' < xs.length - i ∧ CW xs.length Pv (i + 1) m' σ2 H4)
    (hd : ∀ σ' H', Pv xs.length σ' H' → Qd H') :
    ∃ W : Nat → Nat → St → Hp → Prop, (∃ m, W 0 m σ0 (upd H1 D (.lst []))) ∧ ∀ i m σ' H', W i m σ' H' → ((Itl K a).stop i H' ∧ Qd H') ∨ ((Itl K a).go i H' ∧ ∀ x H2, (Itl K a).yld i H' x H2 → g x σ' H2 fun σ2 H3 => tc σ2 H3 fun b H4 =>
      if b = true then te σ2 H4 fun v H5 => rAppend (.ref D) [v] H5 fun _ H6 => ∃ m', m' < m ∧ W (i + 1) m' σ2 H6 else ∃ m', m' < m ∧ W (i + 1) m' σ2 H4) :=
  comp_lst (Q := fun _ H => Qd H) Pv h0 hl hs hd
end L2
set_option Elab.async false
set_option linter.all false
set_option maxRecDepth 100000
set_option maxHeartbeats 4000000
namespace PH
open PySem L2 PySem.W
theorem boot_tuple' : bootBuiltins "tuple" = some (.type "tuple") := by decide +kernel
structure ExR (K : Frag) (cP cN c1 c2 c3 c4 c5 c6 : Addr) : Prop where
  m : mroIn K cN (.ref cP) = some true
  v : kitOne K (.ref cN) (.type "ValueError") = some true
  o : kitAny K (.ref cN) [.ref c1, .ref c2, .ref c3, .ref c4, .ref c5, .ref c6] = some false
theorem cut_two (ns : List Int) (i j : Nat) : cutV (ns.map V.int) (some (i : Int)) (some (j : Int)) = ((ns.drop i).take (j - i)).map V.int := by
  unfold cutV
  rw [HT.sIx_nat, HT.sIx_nat, List.length_map, ← List.map_drop, ← List.map_take]
  congr 1
  rcases Nat.le_total i ns.length with h | h
  · rw [Nat.min_eq_left h]
    rcases Nat.le_total j ns.length with h2 | h2
    · rw [Nat.min_eq_left h2]
    · rw [Nat.min_eq_right h2, List.take_of_length_le (by rw [List.length_drop]; exact Nat.le_refl _), List.take_of_length_le (by rw [List.length_drop]; trivial)]
  · rw [Nat.min_eq_right h, List.drop_of_length_le (Nat.le_refl _), List.drop_of_length_le h, List.take_nil, List.take_nil]
end PH
namespace PH
end PH
set_option Elab.async false
set_option linter.all false
namespace L2
open PySem PySem.Spec PyProof.Rows
section
variable {X : Cx}
noncomputable def rInsert0 : V → List V → Hp → VK → Prop := fun x vs H Q => ∃ l xs y, x = .ref l ∧ vs = [.int 0, y] ∧ H l = some (.lst xs) ∧ xs.length < sizeLine ∧ Q .non (upd H l (.lst (y :: xs)))
theorem mt_insert0 : MtM X "list.insert" rInsert0 := by
  intro pins s σ H x vs v us Q I rx rv h
  obtain ⟨l, xs, y, rfl, rfl, hH, hz, q⟩ := h
  cases rx
  obtain ⟨u, rest, rfl, ru, rr⟩ : ∃ u rest, us = u :: rest ∧ RelV (.int 0) u ∧ Vals [y] rest := by
    cases rv with
    | cons a b => exact ⟨_, _, rfl, a, b⟩
  obtain ⟨u2, rfl, ru2⟩ := rr.one
  obtain ⟨t, rfl⟩ := ru
  obtain ⟨z, its, n, r, hl, e⟩ := I.lstM hH
  refine call_meets F.slot_list_insert ⟨_, e, rfl⟩ F.entry_list_insert (F.args_list_insert_3 _ _ _) (AutoSeq1.list_insert_list_int_val_1 l its.toArray n 0 t u2 (by decide) (by rw [List.size_toArray]; trivial)) ⟨e, ?_⟩
  refine ⟨.non, _, I.lset (its' := u2 :: its) hH e ?_ (.cons ru2 r) ?_, rfl, q⟩
  · simp
  · rw [List.length_cons]
    trivial
end
end L2
set_option Elab.async false
set_option linter.all false
set_option maxRecDepth 100000
set_option maxHeartbeats 4000000
namespace PH
open PySem L2 PySem.W
theorem boot_min' : bootBuiltins "min" = some (.builtin "min") := by decide +kernel
structure Bls (mg : Str → Option Value) : Prop where
  isi : mg "isinstance" = none
  list : mg "list" = none
  int : mg "int" = none
  bool : mg "bool" = none
  len : mg "len" = none
  range : mg "range" = none
  max : mg "max" = none
  ve : mg "ValueError" = none
  tuple : mg "tuple" = none
  min : mg "min" = none
  sorted : mg "sorted" = none
  all : mg "all" = none
  dict : mg "dict" = none
theorem same_upd {H H' : Hp} (s : Same H H') {q : Addr} (u : HO) (hq : H q = none) : Same H (upd H' q u) := fun b w e => by
  rw [upd_ne (ne_of_none e hq)]; exact s b w e
theorem lsI_app1 (a : List Int) (z : Int) : (.lst (a.map V.int ++ [V.int z]) : HO) = lsI (a ++ [z]) := by unfold lsI; rw [List.map_append]; rfl
end PH
set_option Elab.async false
set_option linter.all false
set_option maxRecDepth 100000
set_option maxHeartbeats 4000000
namespace PH
open PySem L2 PySem.W
structure Dks (ps : List Addr) (D : Addr) (H : Hp) : Prop where
  at_ : H D = some (.lst (ps.map V.ref))
  each : ∀ p ∈ ps, p ≠ D ∧ ∃ a b c, H p = some (deckO a b c)
end PH
set_option Elab.async false
set_option linter.all false
set_option maxRecDepth 100000
namespace L2
open PySem PySem.Spec PyProof.Rows PySem.W
end L2
set_option Elab.async false
set_option linter.all false
set_option maxRecDepth 100000
namespace L2
open PySem PySem.Spec PyProof.Rows
section
variable {κ : Type} [DecidableEq κ]
noncomputable def valV (kvs : List (κ × V)) (k : κ) : Option V := (kvs.find? fun kv => decide (kv.1 = k)).map (·.2)
noncomputable def putK (kvs : List (κ × V)) (k : κ) (v : V) : List (κ × V) :=
  if (kvs.any fun kv => decide (kv.1 = k)) = true then kvs.map (fun kv => if kv.1 = k then (kv.1, v) else kv) else kvs ++ [(k, v)]
theorem KV.length {kvs : List (κ × V)} {vs : List (κ × Value)} (r : KV kvs vs) : kvs.length = vs.length := Paired.length r
end
section
variable {P : Program} {w : World} {H : Hp} {h : Heap} {a : Addr}
end
noncomputable def DGet (H : Hp) (a : Addr) (y : V) (r : Option V) : Prop :=
  (∃ kvs k, Rd H a (.dK kvs) ∧ y = kV k ∧ r = valV kvs k) ∨ ∃ kvs k b, Rd H a (.dT kvs) ∧ y = .ref b ∧ H b = some (.tup (k.map kV)) ∧ r = valV kvs k
noncomputable def DPut (H : Hp) (a : Addr) (y v : V) (H' : Hp) : Prop :=
  (∃ kvs k, H a = some (.dK kvs) ∧ y = kV k ∧ kvs.length < sizeLine ∧ H' = upd H a (.dK (putK kvs k v))) ∨
  ∃ kvs k b, H a = some (.dT kvs) ∧ y = .ref b ∧ H b = some (.tup (k.map kV)) ∧ kvs.length < sizeLine ∧ H' = upd H a (.dT (putK kvs k v))
theorem DGet.t {H : Hp} {a b : Addr} {kvs : List (List Key × V)} {k : List Key} (e : H a = some (.dT kvs)) (eb : H b = some (.tup (k.map kV))) : DGet H a (.ref b) (valV kvs k) := .inr ⟨kvs, k, b, .inl e, rfl, eb, rfl⟩
theorem DPut.t {H : Hp} {a b : Addr} {kvs : List (List Key × V)} {k : List Key} {v : V} (e : H a = some (.dT kvs)) (eb : H b = some (.tup (k.map kV))) (hl : kvs.length < sizeLine) :
    DPut H a (.ref b) v (upd H a (.dT (putK kvs k v))) := .inr ⟨kvs, k, b, e, rfl, eb, hl, rfl⟩
section
variable {X : Cx} {pins : List (Addr × Obj)} {σ : St} {H : Hp} {s : Shared} {a : Addr} {y v : V} {u r : Value} {o : Option V} {A : Around} {E : Value → Shared → Prop}
end
section
variable {X : Cx} {pins : List (Addr × Obj)} {σ : St} {H : Hp} {s : Shared} {a : Addr} {kvs : List (Key × V)} {k : Key} {u : Value} {A : Around} {E : Value → Shared → Prop}
end
section
variable {X : Cx} {o i e value : Expr} {pos pos' tpos : Pos} {td ty tv : TE}
end
section
variable {X : Cx} {pos : Pos}
end
structure M1 (X : Cx) (o : Expr) (m : Str) (apos : Pos) (e : Expr) (cpos : Pos) : Prop where
  base : attributeBase o m X.env (eval o X.env) = eval o X.env
  few : ((backTo cpos (starEach [e] X.env)).all (fun x => !x.1) && (backToKw cpos (keywordEach [] X.env)).all (fun x => x.1.isSome)
    && decide (([e] : List Expr).length + ([] : List Keyword).length + (if ([] : List Keyword).isEmpty then 0 else 1) < 30)) = true
  line : (apos.endLine == cpos.line) = true
  trees : backTo cpos (starEach [e] X.env) = [(false, eval e X.env)]
structure M2 (X : Cx) (o : Expr) (m : Str) (apos : Pos) (e f : Expr) (cpos : Pos) : Prop where
  base : attributeBase o m X.env (eval o X.env) = eval o X.env
  few : ((backTo cpos (starEach [e, f] X.env)).all (fun x => !x.1) && (backToKw cpos (keywordEach [] X.env)).all (fun x => x.1.isSome)
    && decide (([e, f] : List Expr).length + ([] : List Keyword).length + (if ([] : List Keyword).isEmpty then 0 else 1) < 30)) = true
  line : (apos.endLine == cpos.line) = true
  trees : backTo cpos (starEach [e, f] X.env) = [(false, eval e X.env), (false, eval f X.env)]
section
variable {X : Cx} {pins : List (Addr × Obj)} {σ : St} {H : Hp} {s : Shared} {a : Addr} {y d : V} {u r : Value} {o : Option V} {A : Around} {E : Value → Shared → Prop}
end
section
variable {X : Cx} {o e f : Expr} {apos cpos : Pos} {td ty tx : TE}
end
section
variable {X : Cx} {pins : List (Addr × Obj)} {σ : St} {H : Hp} {s : Shared} {a : Addr} {kvs : List (Key × V)} {A : Around} {E : Value → Shared → Prop}
end
section
variable {X : Cx} {pins : List (Addr × Obj)} {σ : St} {H : Hp} {s : Shared} {a : Addr} {y : V} {u : Value} {A : Around} {E : Value → Shared → Prop}
end
end L2
namespace L2
open PySem PySem.Spec PyProof.Rows
section
variable {X : Cx}
end
section
variable {κ : Type} [DecidableEq κ]
theorem nd_snoc : ∀ {l : List κ} {k : κ}, l.Nodup → ¬ k ∈ l → (l ++ [k]).Nodup
  | [], k, _, _ => by simp
  | a :: r, k, h, hk => by
    obtain ⟨h1, h2⟩ := List.nodup_cons.mp h
    show (a :: (r ++ [k])).Nodup
    refine List.nodup_cons.mpr ⟨fun m => ?_, nd_snoc h2 fun m => hk (List.mem_cons.mpr (Or.inr m))⟩
    rcases List.mem_append.mp m with q | q
    · exact h1 q
    · exact hk (List.mem_cons.mpr (Or.inl (List.mem_singleton.mp q).symm))
end
end L2
set_option linter.all false
namespace TS
open PySem PyProof.Rows
section
variable {prog : Program} {w : World} {A : Around} {E : Value → Shared → Prop} {s : Shared}
structure Cmp (prog : Program) (w : World) (A : Around) (s : Shared) (kd : SortKind) (O : KeyOrd) (ky : Keyed → O.α) (S : Keyed → Prop) : Prop where
  lt : ∀ p q, S p → S q → ∀ {E : Value → Shared → Prop} {Q : Bool → Shared → Prop}, Q (O.blt (ky p) (ky q)) s → wpAny (model prog w) A (keyLt' kd p.1 q.1) Q E s
variable {kd : SortKind} {O : KeyOrd} {ky : Keyed → O.α} {S : Keyed → Prop}
end
end TS
set_option linter.all false
namespace TT
open PySem PyProof.Rows TS
section
variable (O : KeyOrd) (ky : Keyed → O.α) (ix : Keyed → Nat)
noncomputable def R (p q : Keyed) : Prop := O.kle (ky p) (ky q) ∧ (O.kle (ky q) (ky p) → ix p ≤ ix q)
noncomputable def Srt (l : List Keyed) : Prop := l.Pairwise (R O ky ix)
structure MI (a b out : Array Keyed) (ia ib : Nat) : Prop where
  ha : ia ≤ a.size
  hb : ib ≤ b.size
  perm : out.toList.Perm (a.toList.take ia ++ b.toList.take ib)
  srt : Srt O ky ix out.toList
  ra : ∀ x ∈ out.toList, ∀ y ∈ a.toList.drop ia, R O ky ix x y
  rb : ∀ x ∈ out.toList, ∀ y ∈ b.toList.drop ib, R O ky ix x y
variable {O ky ix} {a b out o : Array Keyed} {ia ib : Nat}
structure MH (O : KeyOrd) (ky : Keyed → O.α) (ix : Keyed → Nat) (a b out : Array Keyed) (na nb : Nat) : Prop where
  ha : na ≤ a.size
  hb : nb ≤ b.size
  perm : out.toList.Perm (a.toList.drop na ++ b.toList.drop nb)
  srt : out.toList.Pairwise fun x y => R O ky ix y x
  ra : ∀ x ∈ out.toList, ∀ y ∈ a.toList.take na, R O ky ix y x
  rb : ∀ x ∈ out.toList, ∀ y ∈ b.toList.take nb, R O ky ix y x
end
end TT
set_option linter.all false
namespace TT
open PySem PyProof.Rows TS
structure SameSt (st st' : SortSt) : Prop where
  kind : kindOf st' = kindOf st
  arr : arrOf st' = arrOf st
  pend : pendingOf st' = pendingOf st
  fail : failedOf st' = failedOf st
noncomputable def at_ (a : Array Keyed) (i : Nat) : Keyed := (a[i]?).getD (.none, .none)
section
variable {O : KeyOrd} {ky : Keyed → O.α} {ix : Keyed → Nat}
end
section
variable {prog : Program} {w : World} {A : Around} {E : Value → Shared → Prop} {s : Shared}
variable {kd : SortKind} {O : KeyOrd} {ky : Keyed → O.α} {ix : Keyed → Nat} {S : Keyed → Prop}
end
end TT
set_option linter.all false
namespace TT
open PySem PyProof.Rows TS
section
variable {O : KeyOrd} {ky : Keyed → O.α} {ix : Keyed → Nat}
end
section
variable {prog : Program} {w : World} {A : Around} {E : Value → Shared → Prop} {s : Shared}
variable {kd : SortKind} {O : KeyOrd} {ky : Keyed → O.α} {ix : Keyed → Nat} {S : Keyed → Prop}
end
end TT
set_option linter.all false
namespace TT
open PySem PyProof.Rows TS
structure Chg (lo : Nat) (st st' : SortSt) : Prop where
  kind : kindOf st' = kindOf st
  pend : pendingOf st' = pendingOf st
  fail : failedOf st' = failedOf st
  perm : (arrOf st').Perm (arrOf st)
  low : ∀ i, i < lo → (arrOf st')[i]? = (arrOf st)[i]?
section
variable {prog : Program} {w : World} {A : Around} {E : Value → Shared → Prop} {s : Shared}
variable {kd : SortKind} {O : KeyOrd} {ky : Keyed → O.α} {ix : Keyed → Nat} {S : Keyed → Prop}
noncomputable abbrev kf (ky : Keyed → O.α) (st : SortSt) (lo i : Nat) : O.α := ky (at_ (arrOf st) (lo + i))
noncomputable def Dn (O : KeyOrd) (ky : Keyed → O.α) (ix : Keyed → Nat) (st : SortSt) (lo n : Nat) : Prop := ∀ i j, i ≤ j → j < n → R O ky ix (at_ (arrOf st) (lo + j)) (at_ (arrOf st) (lo + i))
structure Lap (ix : Keyed → Nat) (st : SortSt) (lo n m : Nat) : Prop where
  cross : ∀ i j, i < n → n ≤ j → j < m → ix (at_ (arrOf st) (lo + i)) ≤ ix (at_ (arrOf st) (lo + j))
  rise : ∀ i j, n ≤ i → i ≤ j → j < m → ix (at_ (arrOf st) (lo + i)) ≤ ix (at_ (arrOf st) (lo + j))
structure Des (O : KeyOrd) (ky : Keyed → O.α) (ix : Keyed → Nat) (st : SortSt) (lo x neq m : Nat) : Prop where
  le : neq + 1 ≤ x
  dn : Dn O ky ix st lo (x - (neq + 1))
  lt : ∀ i j, i < x - (neq + 1) → x - (neq + 1) ≤ j → j < x → O.klt (kf ky st lo j) (kf ky st lo i)
  eq : ∀ i, x - (neq + 1) ≤ i → i < x → kf ky st lo i = kf ky st lo (x - 1)
  lap : Lap ix st lo (x - (neq + 1)) m
end
end TT
set_option linter.all false
namespace TT
open PySem PyProof.Rows TS
noncomputable def offs : Nat → List (List Keyed) → List (Nat × Nat)
  | _, [] => []
  | o, g :: r => (o, g.length) :: offs (o + g.length) r
noncomputable def two (p : Nat × Nat × Nat) : Nat × Nat := (p.1, p.2.1)
noncomputable def Ord (ix : Keyed → Nat) (l : List (List Keyed)) : Prop := l.Pairwise fun g h => ∀ x ∈ g, ∀ y ∈ h, ix x ≤ ix y
structure Stk (O : KeyOrd) (ky : Keyed → O.α) (ix : Keyed → Nat) (kd : SortKind) (a0 : Array Keyed) (st : SortSt) (segs : List (List Keyed)) (rest : List Keyed) : Prop where
  kind : kindOf st = kd
  fail : failedOf st = none
  arr : (arrOf st).toList = segs.flatten ++ rest
  perm : (arrOf st).Perm a0
  pend : (pendingOf st).toList.map two = offs 0 segs
  each : ∀ g ∈ segs, g ≠ [] ∧ Srt O ky ix g
  ord : Ord ix (segs ++ [rest])
section
variable {O : KeyOrd} {ky : Keyed → O.α} {ix : Keyed → Nat}
end
section
variable {prog : Program} {w : World} {A : Around} {E : Value → Shared → Prop} {s : Shared}
variable {kd : SortKind} {O : KeyOrd} {ky : Keyed → O.α} {ix : Keyed → Nat} {S : Keyed → Prop} {a0 : Array Keyed}
end
end TT
set_option linter.all false
namespace TT
open PySem PyProof.Rows TS
section
variable {prog : Program} {w : World} {A : Around} {E : Value → Shared → Prop} {s : Shared}
variable {kd : SortKind} {O : KeyOrd} {ky : Keyed → O.α} {ix : Keyed → Nat} {S : Keyed → Prop} {a0 : Array Keyed}
end
end TT
set_option linter.all false
namespace TS
open PySem PyProof.Rows
section
variable (O : KeyOrd) (ky : Keyed → O.α)
end
section
variable {prog : Program} {w : World} {A : Around} {E : Value → Shared → Prop} {s : Shared}
variable {kd : SortKind} {O : KeyOrd} {ky : Keyed → O.α} {S : Keyed → Prop}
end
end TS
set_option linter.all false
set_option maxRecDepth 100000
namespace TS
open PySem PyProof.Rows
section
variable {prog : Program} {w : World} {A : Around} {E : Value → Shared → Prop} {s : Shared}
variable {kd : SortKind} {O : KeyOrd} {ky : Keyed → O.α} {S : Keyed → Prop}
end
end TS
set_option Elab.async false
set_option linter.all false
set_option maxRecDepth 100000
namespace L2
open PySem PySem.Spec PyProof.Rows PySem.W
section
variable {X : Cx}
end
end L2
set_option Elab.async false
set_option linter.all false
set_option maxRecDepth 100000
namespace L2
open PySem PySem.Spec PyProof.Rows PySem.W
section
variable {X : Cx} {pins : List (Addr × Obj)} {σ : St} {H : Hp} {s : Shared}
noncomputable abbrev rListOf (K : Frag) : List V → Hp → VK → Prop := fun xs H Q => ∃ p ys, xs = [.ref p] ∧ (SqL K H p ys ∨ SqT K H p ys) ∧ ∀ l, H l = none → Q (.ref l) (upd H l (.lst ys))
end
end L2
set_option Elab.async false
set_option linter.all false
set_option maxRecDepth 100000
set_option maxHeartbeats 4000000
namespace PH
open PySem L2 PySem.W
structure Prs (H : Hp) (p : Addr) (zs : List (Addr × Int × Int)) : Prop where
  at_ : H p = some (.lst (zs.map fun z => V.ref z.1))
  each : ∀ z ∈ zs, H z.1 = some (.tup [.int z.2.1, .int z.2.2])
end PH
set_option Elab.async false
set_option linter.all false
set_option maxRecDepth 100000
namespace L2
open PySem PySem.Spec PyProof.Rows PySem.W
section
variable {X : Cx}
end
end L2
set_option linter.all false
namespace PH
open L2
end PH
set_option Elab.async false
set_option linter.all false
set_option maxRecDepth 100000
set_option maxHeartbeats 4000000
namespace PH
open PySem L2 PySem.W
end PH
set_option Elab.async false
set_option linter.all false
set_option maxRecDepth 100000
set_option maxHeartbeats 4000000
namespace PH
open PySem L2 PySem.W
end PH
set_option Elab.async false
set_option linter.all false
set_option maxRecDepth 100000
namespace L2
open PySem PySem.Spec PyProof.Rows
theorem ps_setC {X : Cx} {elt tg iter : Expr} {ifs : List Expr} {scope : Scope} {pos : Pos} {N : List Str} {js : List (Option Nat)} {wi : TI} {g : TG} {tc : TT} {te : TE} {y : Str} {iy : Nat} {py spos : Pos} (hN : X.N.Nodup) (hiy : X.N[iy]? = some y) (hy : X.env.scope.names.lookup y = some .local) (hcalm : X.calm = true) (S : CompScope X N js scope)
    (hi : PI X tg iter wi) (hg : ∀ C s H fp, PG (compCx X N scope C s H fp) tg g) (ht : ∀ C s H fp, PIfs (compCx X N scope C s H fp) ifs tc) (he : ∀ C s H fp, PE (compCx X N scope C s H fp) elt te)
    (hs : ∀ x, foldedSetIterable iter X.env x = pure x := by intro _; rfl) (hsw : swapsWith (.ListComp elt [⟨tg, iter, ifs, 0⟩] scope pos) (some (.Name y py)) spos.line X.env = pure true := by rfl) :
    PS X (.Assign [.Name y py] (.ListComp elt [⟨tg, iter, ifs, 0⟩] scope pos) spos) (tAsg (tComp js wi g tc te) (gName iy)) := by
  intro pins s σ H ED I h
  have hc : ∀ x ∈ scope.names, x.2 = .free → ∃ c, X.env.cells.lookup x.1 = some c := fun x hx e => I.ok.has _ (S.free x hx e)
  rw [exec_Assign_Name_used _ _ _ _ hsw]
  refine wpAny_bind (wpAny_standAt (wpAny_bind ?_))
  show wpAny _ X.A (do let _ ← comprehension (.ListComp elt [⟨tg, iter, ifs, 0⟩] scope pos) scope X.env _ (newList []) false (eval iter X.env) (some (assign (.Name y py) X.env))) _ _ s
  refine wpAny_bind (wpAny_mono (Q := fun _ s' => SP X pins ED .next s') ?_ (fun _ s' hq => wpAny_pure (wpAny_pure hq)) fun _ _ e => e)
  refine wpAny_comprehension_free (use := some (assign (.Name y py) X.env)) rfl hs (clos_eq hc) S.kind S.locs (thn (hi pins s σ H _ I h) fun v s1 h1 => thn h1 fun itv s2 h2 => ?_)
  obtain ⟨it, fp, tn, J, H2, e, I2, T, st2, f2, q⟩ := h2
  subst e
  refine wpAny_newObj_type (wpAny_newFunctionEnv S.nocell (by intro y hy; simp at hy) (fun h₁ hns₁ hsb₁ => ?_) S.kind)
  dsimp only at hns₁ hsb₁ ⊢
  generalize hH2 : s2.heap.push { cls := .type "list", dict := none, data := .seq ([] : List Value).toArray } = G2 at hns₁ hsb₁ ⊢
  have hC : G2.objs.size = s2.heap.objs.size + 1 := by rw [← hH2, Heap.size_push]
  have hDC : s2.heap.objs.size ≠ G2.objs.size := by rw [hC]; exact Nat.ne_of_lt (Nat.lt_succ_self _)
  have hC0 : s2.heap.objs.size ≤ G2.objs.size := by rw [hC]; exact Nat.le_succ _
  have below : ∀ b, b < s2.heap.objs.size → b ≠ G2.objs.size := fun b hb => by rw [hC]; exact Nat.ne_of_lt (Nat.lt_succ_of_lt hb)
  have old : ∀ b o, s2.heap.get? b = some o → h₁.get? b = some o := fun b o e => hsb₁.extBut b o (below b (Heap.lt_size e)) (Heap.get?_push_of_some _ (hH2 ▸ Heap.get?_push_of_some _ e))
  have hacc : h₁.get? s2.heap.objs.size = some { cls := .type "list", data := .seq ([] : List Value).toArray } := hsb₁.extBut _ _ hDC (Heap.get?_push_of_some _ (hH2 ▸ Heap.get?_push_size _ rfl))
  have hfp : ∀ b ∈ fp, b < s2.heap.objs.size := fun b hb => by obtain ⟨o, e, _⟩ := T.obj 0 _ st2 b hb; exact Heap.lt_size e
  obtain ⟨W, ⟨m0, w0⟩, turn⟩ := q s2.heap.objs.size (I2.hok.fresh (Nat.le_refl _))
  have stat : ∀ {H' : Hp}, (∀ b ∈ fp, H' b = none) → ∀ b ∈ fp, FpOk (compCx X N scope G2.objs.size s2 H2 fp) [] H' b := fun {H'} hn b hb =>
    ⟨hn b hb, below b (hfp b hb), fun z => by
      rcases List.mem_cons.mp (I2.stkSub b z) with q | q
      · exact (f2 b hb).2.1 q
      · exact (f2 b hb).2.2.1 q, .inl hb, fun x c e => (f2 b hb).2.2.2.2.1 x c (clos_sub _ _ (fun _ _ z => by simp at z) e), fun p hp => absurd hp (by simp [compCx])⟩
  have loop : ∀ s3 : Shared, s3 = { s2 with heap := h₁, toks := s2.toks + ([] : List (Str × Value)).length } →
      codeAny (model X.prog X.w) X.A (.compLoop (.ListComp elt [⟨tg, iter, ifs, 0⟩] scope pos) 0 (.ref it) (.ref s2.heap.objs.size) (compEnvC scope (clos X.env.cells scope.names []) G2.objs.size X.env))
        (compPost (model X.prog X.w) X.A X.xe (some (assign (.Name y py) X.env)) (fun _ s' => SP X pins ED .next s') (.ref s2.heap.objs.size) G2.objs.size) s3 := by
    rintro s3 rfl
    have I3 : Inv (compCx X N scope G2.objs.size s2 H2 fp) [] (innerSt js σ) (upd H2 s2.heap.objs.size (.lst [])) { s2 with heap := h₁, toks := s2.toks + ([] : List (Str × Value)).length } :=
      inv_comp S I2 f2 hfp old (Nat.le_refl _) hC0 hDC ⟨_, hacc⟩ hns₁
    refine compLoop_gen (fun n s' => ∃ i σ' H', Inv (compCx X N scope G2.objs.size s2 H2 fp) [] σ' H' s' ∧ tn i s'.heap ∧ (∀ b ∈ fp, H' b = none) ∧ W i n σ' H') ?_ m0
      ⟨0, _, _, I3, T.keep 0 _ _ st2 fun b _ o e => old b o e, fun b hb => by rw [upd_ne (Nat.ne_of_lt (hfp b hb))]; exact (f2 b hb).1, w0⟩
    rintro n s4 ⟨i, σ4, H4, I4, st4, fr4, w4⟩
    rcases turn i n σ4 H4 w4 with ⟨stop, qn⟩ | ⟨go, step⟩
    · refine thn (T.done (compCx X N scope G2.objs.size s2 H2 fp) rfl rfl rfl hcalm i [] s4 σ4 H4 (fun _ _ => False) I4 (stat fr4) st4 stop) fun r s5 ⟨hr, I5⟩ => ?_
      subst hr
      obtain ⟨m5, n5, _⟩ := I5.loc
      have hos : s5.os = s2.os := I5.os
      obtain ⟨hh, gg, dd, tt, os5⟩ := s5
      obtain rfl : os5 = s2.os := hos
      have sb : Heap.SameBut G2.objs.size hh hh := ⟨rfl, fun _ _ => rfl⟩
      have un : Un (frs X.stack) fp H2 H4 s2.heap hh := by
        have u := I5.base
        have nC : ∀ b o, s2.heap.get? b = some o → b ≠ G2.objs.size := fun b o e => below b (Heap.lt_size e)
        exact ⟨fun b o e n hf hx => sb.extBut b o (nC b o e) (u.keep b o e n hf hx), fun b o e n hf hx => by
            obtain ⟨sl, z⟩ := u.slot b o e n hf hx
            exact ⟨sl, sb.extBut b _ (nC b o e) z⟩, u.free, fun b o e hx => by
            obtain ⟨o', z⟩ := u.there b o e hx
            exact ⟨o', sb.extBut b _ (nC b o e) z⟩, u.tups, u.frzs, u.tbls⟩
      have hok : HOk X.prog X.w H4 hh := fun b ob e => (I5.hok b ob e).stay (fun c v hcv z => sb.extBut c v (fun q => by
        rcases hcv with hcv | hcv
        · rw [← hcv, q] at e
          have := I5.free
          have this' : H4 G2.objs.size = none := this
          rw [e] at this'; cases this'
        · rw [q] at hcv
          have this' : H4 G2.objs.size = none := I5.free
          rw [hcv] at this'; cases this') z) (fun _ z => z) fun _ _ z => z
      have IE := I2.call (h' := hh) (g' := gg) (d' := dd) (t' := tt) (ch := fp) un hok I5.bare fun b hb => ⟨(f2 b hb).2.2.2.1, (f2 b hb).2.1, (f2 b hb).2.2.2.2.1, (f2 b hb).2.2.2.2.2⟩
      have hCf : H4 G2.objs.size = none := I5.free
      have hCL : G2.objs.size ≠ X.env.locals := Ne.symm (below _ I2.lt)
      have hCc : ∀ x c, X.env.cells.lookup x = some c → c ≠ G2.objs.size := fun x c e => by
        obtain ⟨v', o', e', _⟩ := I2.cell x c e
        exact below _ (Heap.lt_size e')
      refine wpAny_assign_Name (store_ok2 IE hN hiy (.inl hy) (show RelV (.ref s2.heap.objs.size) (.ref s2.heap.objs.size) from rfl) (fun s6 I6 ⟨a6, sb6, ha6⟩ => ?_) (.inr hy))
      have nea : G2.objs.size ≠ a6 := by
        rcases ha6 with z | z
        · rw [z]; exact hCL
        · exact Ne.symm (hCc _ _ z)
      refine ⟨m5, n5.sameBut sb6 nea, fun h' sb' => ⟨_, H4, ?_, qn⟩⟩
      have := I6.turned (h' := h') (t' := s6.toks) (it := G2.objs.size) (fun b o ne e => (sb'.2 b ne).trans e) hCf hCL (.inr (Nat.le_trans I2.sz hC0)) hCc (fun p hp => below _ (Heap.lt_size (I2.pin p hp).1))
      exact this
    · refine thn (T.item (compCx X N scope G2.objs.size s2 H2 fp) rfl rfl rfl hcalm i [] s4 σ4 H4 (fun _ _ => False) I4 (stat fr4) st4 go) fun r s5 ⟨u, hr, h5⟩ => ?_
      subst hr
      refine thn h5 fun _ s6 ⟨x, H6, I6, r6, y6, st6, fr6⟩ => ?_
      have I6' := I6.pinned (stat fr6) (T.obj _ _ st6)
      refine thn (hg _ _ _ _ _ s6 σ4 H6 x u _ I6' r6 (step x H6 y6)) fun _ s7 ⟨σ7, H7, I7, q7⟩ => ?_
      refine thn (ht _ _ _ _ _ s7 σ7 H7 _ I7 q7) fun b s8 ⟨H8, I8, q8⟩ => ?_
      have again : ∀ {s9 : Shared} {H9 : Hp}, Inv (compCx X N scope G2.objs.size s2 H2 fp) ([] ++ pinsAt fp s6.heap) σ7 H9 s9 → (∃ m', m' < n ∧ W (i + 1) m' σ7 H9) → ∃ m, m < n ∧ ∃ i σ' H', Inv (compCx X N scope G2.objs.size s2 H2 fp) [] σ' H' s9 ∧ tn i s9.heap ∧ (∀ b ∈ fp, H' b = none) ∧ W i m σ' H' := fun {s9 H9} I9 ⟨m', hm, w9⟩ => by
        refine ⟨m', hm, i + 1, σ7, H9, I9.unpinned, T.keep _ _ _ st6 fun b hb o e => (I9.pin (b, o) (List.mem_append_right _ (List.mem_append_right _ (mem_pinsAt hb e)))).1, fun b hb => ?_, w9⟩
        obtain ⟨o, e, d⟩ := T.obj _ _ st6 b hb
        exact (I9.pin (b, o) (List.mem_append_right _ (List.mem_append_right _ (mem_pinsAt hb e)))).2.1
      cases b with
      | false =>
        rw [if_neg Bool.false_ne_true] at q8 ⊢
        exact again I8 q8
      | true =>
        rw [if_pos rfl] at q8 ⊢
        refine thn (he _ _ _ _ _ s8 σ7 H8 _ I8 q8) fun xv s9 ⟨xx, H9, I9, r9, q9⟩ => ?_
        refine thn (mt_append _ s9 σ7 H9 (.ref s2.heap.objs.size) [xx] (.ref s2.heap.objs.size) [xv] _ I9 rfl (.cons r9 .nil) q9) fun _ s10 ⟨_, H10, I10, _, q10⟩ => ?_
        exact again I10 q10
  exact codeAny_compStart_list (loop _ rfl) (T.self _ _ _ _ _ (T.keep 0 _ _ st2 fun b _ o e => old b o e) (loop _ rfl))
end L2
set_option Elab.async false
set_option linter.all false
set_option maxRecDepth 100000
namespace L2
open PySem PySem.Spec PyProof.Rows PySem.W
section
variable {X : Cx}
theorem boot_all' : bootBuiltins "all" = some (.builtin "all") := by decide +kernel
noncomputable def rAll (K : Frag) : List V → Hp → VK → Prop := fun xs H Q => ∃ (p : Addr) (bs : List Bool), xs = [.ref p] ∧ SqL K H p (bs.map V.bl) ∧ Q (.bl (bs.all id)) H
theorem bl_at {bs : List Bool} {us : List Value} (r : Vals (bs.map V.bl) us) : us = bs.map Value.bool := by
  induction bs generalizing us with
  | nil => cases r; rfl
  | cons b t ih =>
    cases r with
    | cons h t' =>
      rw [ih t']
      cases h
      rfl
theorem range_allB : ∀ (bs : List Bool), ((List.range bs.length).all fun i => (bs[i]?).getD true) = bs.all id := fun bs => by
  rw [Bool.eq_iff_iff, List.all_eq_true, List.all_eq_true]
  constructor
  · intro h b hb
    obtain ⟨i, hi, e⟩ := List.mem_iff_getElem.mp hb
    have := h i (List.mem_range.mpr hi)
    rw [List.getElem?_eq_getElem hi, e] at this
    exact this
  · intro h i hi
    have hi := List.mem_range.mp hi
    rw [List.getElem?_eq_getElem hi]
    exact h _ (List.getElem_mem hi)
theorem call_allL (hc : X.calm = true) : CallR X (.builtin "all") (rAll X.K) := by
  intro pins s σ H xs us Q I r h
  obtain ⟨p, bs, rfl, hs, q⟩ := h
  obtain ⟨u, rfl, ru⟩ := r.one
  cases ru
  obtain ⟨its, rv, pl, hz⟩ := I.list hs
  have e := bl_at rv
  subst e
  have hl := pl.isList
  have hlt : p < s.heap.objs.size := by obtain ⟨_, e, _⟩ := hl; exact Heap.lt_size e
  refine call_all_walk (wpAny_pyIter_list hl ?_)
  refine ⟨s.heap.objs.size, [s.heap.objs.size, p], [s.heap.objs.size], (bs.map Value.bool).toArray.size, _, _, fun i => (bs[i]?).getD true, rfl, Walks.list (A := X.A.in1) (I.ok.hd hc) _ p (Nat.ne_of_lt hlt) (bs.map Value.bool).toArray,
    ⟨⟨_, Heap.get?_push_size _ rfl, rfl, rfl⟩, hl.push _⟩, fun i v s' Q' E' hP hQ => ?_, fun h' tk hk => ?_⟩
  · have hP' : (bs.map Value.bool)[i]? = some v := by simpa using hP
    rw [List.getElem?_map] at hP'
    cases eb : bs[i]? with
    | none => rw [eb] at hP'; cases hP'
    | some b =>
      rw [eb] at hP'
      cases hP'
      simp only [eb, Option.getD_some] at hQ
      exact wpAny_truthy_bool hQ
  · have e : ((List.range (bs.map Value.bool).toArray.size).all fun i => (bs[i]?).getD true) = bs.all id := by
      rw [List.size_toArray, List.length_map]; exact range_allB bs
    rw [e]
    exact ⟨.bl _, H, I.kept (h' := h') (t' := tk) (fun b x e => hk b x (fun hm => by rw [List.mem_singleton.mp hm] at e; exact Nat.lt_irrefl _ (Heap.lt_size e)) (Heap.get?_push_of_some _ e)), rfl, q⟩
end
end L2
set_option Elab.async false
set_option linter.all false
set_option maxRecDepth 100000
namespace L2
open PySem PySem.Spec PyProof.Rows PySem.W
section
variable {X : Cx}
end
theorem atI_neg {α : Type} {xs : List α} {d : Nat} {i : Int} {v : α} (hi : i = -(d : Int)) (h1 : 1 ≤ d) (h2 : d ≤ xs.length) (h : xs[xs.length - d]? = some v) : atI xs i = some v := by
  have e : ixN xs.length i = some (xs.length - d) := by
    unfold ixN
    rw [if_neg (by trivial), if_pos (by trivial)]
    congr 1
    trivial
  unfold atI; rw [e]; exact h
end L2
namespace PH
open PySem L2 PySem.W
end PH
set_option Elab.async false
set_option linter.all false
namespace PH
noncomputable def lcp : List Int → List Int → Nat
  | x :: a, y :: b => if x = y then lcp a b + 1 else 0
  | _, _ => 0
noncomputable def tal (t : List Int) (b a : Nat) : Nat := lcp (t.drop b) (t.drop a)
noncomputable def lng (t : List Int) (a : Nat) : Nat → Nat × Nat
  | 0 => (a, 0)
  | n + 1 => if (lng t a n).2 ≤ tal t n a then (n, tal t n a) else lng t a n
noncomputable def cpl (t : List Int) (a : Nat) : Nat := (lng t a a).2
end PH
set_option Elab.async false
set_option linter.all false
set_option maxRecDepth 100000
set_option maxHeartbeats 4000000
namespace PH
open PySem L2 PySem.W
theorem gNz {i : Nat} {v v' : V} {σ : St} {H : Hp} {Q : St → Hp → Prop} (e : v' = v) (h : gName i v' σ H Q) : gName i v σ H Q := by
  subst e; exact h
theorem at_intsZ {ns : List Int} {i : Nat} {z : Int} (h : ns[i]? = some z) : atI (ns.map V.int) (i : Int) = some (.int z) := atI_nat (by rw [List.getElem?_map, h]; rfl)
inductive Pce where
  | sg (s : Int)
  | cp (b n : Int)
noncomputable def pO : Pce → HO
  | .sg s => .tup [.str "sign", .int s]
  | .cp b n => .tup [.str "copy", .int b, .int n]
structure Tel (H : Hp) (p : Addr) (zs : List (Addr × Pce)) : Prop where
  at_ : H p = some (.lst (zs.map fun z => V.ref z.1))
  each : ∀ z ∈ zs, H z.1 = some (pO z.2)
noncomputable def spWh : Sp := fun vs H Q _ => ∃ n : Int, vs = [.int n] ∧ Q (.bl true) H
noncomputable def spCellAt (K : Frag) : Sp := fun vs H Q _ => ∃ (a : Addr) (ns : List Int) (k : Nat), vs = [.ref a, .int (k : Int)] ∧ SqL K H a (ns.map V.int) ∧ ∀ x : Int, Q (.int x) H
end PH
set_option Elab.async false
set_option linter.all false
namespace PH
end PH
set_option Elab.async false
set_option linter.all false
set_option maxRecDepth 100000
set_option maxHeartbeats 4000000
namespace PH
open PySem L2 PySem.W
end PH
set_option Elab.async false
set_option linter.all false
set_option maxRecDepth 100000
namespace L2
open PySem PySem.Spec PyProof.Rows PySem.W
section
variable {X : Cx}
end
end L2
namespace L2
open PySem PySem.Spec PyProof.Rows PySem.W
section
variable {prog : Program} {w : World} {A : Around} {E : Value → Shared → Prop} {s : Shared}
theorem draw_listL {it l : Addr} {items : Array Value} (hne : l ≠ it) : ∀ (n i : Nat) (s : Shared) (Q : List Value → Shared → Prop), s.heap.IsListIter it l i → s.heap.IsList l items → i + n ≤ items.size →
    (∀ h', h'.IsListIter it l (i + n) → Heap.SameBut it s.heap h' → Q ((items.toList.drop i).take n) { s with heap := h' }) → wpAny (model prog w) A (draw (.ref it) n) Q E s
  | 0, i, s, Q, hit, _, _, hQ => by
    show wpAny _ _ (pure []) Q E s
    exact wpAny_pure (by simpa using hQ s.heap hit (Heap.SameBut.refl ..))
  | n + 1, i, s, Q, hit, hl, hle, hQ => by
    have hlt : i < items.size := by trivial
    show wpAny _ _ (pyNext (.ref it) >>= _) Q E s
    refine wpAny_bind (wpAny_pyNext_list_item hit hl (x := items[i]) (by simp [hlt]) fun h₁ hit₁ hs₁ => ?_)
    refine wpAny_bind (wpAny_holding (draw_listL hne n (i + 1) _ _ hit₁ (hl.at fun o e => (hs₁.2 l hne).trans e) (by trivial) fun h₂ hit₂ hs₂ => wpAny_pure ?_))
    have hd : items.toList.drop i = items[i] :: items.toList.drop (i + 1) := by simp [List.drop_eq_getElem_cons, hlt]
    have := hQ h₂ (by rw [show i + (n + 1) = i + 1 + n by trivial]; exact hit₂) (hs₁.trans hs₂)
    rw [hd, List.take_succ_cons] at this
    exact this
theorem unpackItems_listL {l : Addr} {items : Array Value} {Q : List Value → Shared → Prop} (hh : A.handled = none) (hl : s.heap.IsList l items)
    (hQ : ∀ h', Heap.ExtBut s.heap.objs.size s.heap h' → Q items.toList { s with heap := h' }) : wpAny (model prog w) A (unpackItems (.ref l) items.size none) Q E s := by
  have hlt : l ≠ s.heap.objs.size := by obtain ⟨o, ho, _⟩ := id hl; exact Nat.ne_of_lt (Heap.lt_size ho)
  have hty : s.TypeIs (.ref l) "list" := by obtain ⟨o, ho, hc, _⟩ := id hl; exact ⟨o, ho, hc⟩
  unfold unpackItems
  refine wpAny_bind ?_
  · unfold notIterableAtAll
    refine wpAny_bind (wpAny_specialOf hty slot_list_iter.lookup ?_)
    refine wpAny_pure ?_
    simp only [Bool.false_eq_true, if_false]
    refine wpAny_bind (wpAny_holding (wpAny_pyIter_list hl ?_))
    have hl1 : (s.heap.push { cls := .type "list_iterator", data := .fields #[.ref l, .int 0 0] }).IsList l items := hl.at fun o e => Heap.get?_push_of_some _ e
    refine wpAny_bind (wpAny_holding (draw_listL hlt items.size 0 _ _ ⟨_, Heap.get?_push_size _ rfl, rfl, rfl⟩ hl1 (by trivial) fun h₁ hit₁ hs₁ => ?_))
    have hall : List.take items.size (List.drop 0 items.toList) = items.toList := by
      rw [List.drop_zero]; exact List.take_of_length_le (by simp)
    rw [hall]
    rw [if_neg (by simp)]
    have hl₁ : h₁.IsList l items := hl1.at fun o e => (hs₁.2 l hlt).trans e
    refine wpAny_bind (wpAny_holding (wpAny_pyNext_list_end hh hit₁ hl₁ (by simp) fun h₂ he₂ => ?_))
    simp only [Option.isSome_none, Bool.false_eq_true, if_false]
    refine wpAny_pure (hQ h₂ fun b o hb e => he₂ b o hb (hs₁.extBut b o hb (Heap.get?_push_of_some _ e)))
theorem assign_Tuple_listL {env : Env} {elts : List Expr} {x1} {pos : Pos} {l : Addr} {items : Array Value} {Q : Unit → Shared → Prop} (hh : A.handled = none) (hl : s.heap.IsList l items)
    (hn : (assignEach elts env).length = items.size) (hstar : (assignEach elts env).findIdx? (·.1) = none)
    (h : ∀ h', Heap.ExtBut s.heap.objs.size s.heap h' → wpAny (model prog w) A (assignInOrder ((assignEach elts env).map (·.2)) items.toList) Q E { s with heap := h' }) :
    wpAny (model prog w) A (assign (.Tuple elts x1 pos) env (.ref l)) Q E s := by
  rw [assign_Tuple]
  refine wpAny_bind (wpAny_standAt ?_)
  unfold unpack
  rw [hn, hstar]
  exact wpAny_bind (wpAny_holding (unpackItems_listL hh hl h))
end
section
variable {X : Cx} {pos : Pos}
noncomputable def gLst (K : PySem.W.Frag) (n : Nat) (t : TGs) : TG := fun v σ H Q => ∃ a xs, v = .ref a ∧ SqL K H a xs ∧ xs.length = n ∧ t xs σ H Q
theorem pg_lst {es : List Expr} {k : Nat} {t : TGs} {n : Nat} (hc : X.calm = true) (h : PGs X es t)
    (hn : (assignEach es X.env).length = n := by rfl) (hst : (assignEach es X.env).findIdx? (·.1) = none := by rfl) : PG X (.Tuple es k pos) (gLst X.K n t) := by
  intro pins s σ H v u Q I r hw
  obtain ⟨a, xs, e1, hq, hl, hw⟩ := hw
  subst e1
  cases r
  obtain ⟨its, rv, ht, hz⟩ := I.list hq
  refine assign_Tuple_listL (I.ok.hd hc) ht.isList (by simp [hn, ← hl, rv.length]) hst fun h' hx => ?_
  have I1 : Inv X pins σ H { s with heap := h' } := I.kept (t' := s.toks) fun b o e => hx b o (Nat.ne_of_lt (Heap.lt_size e)) e
  exact h pins _ σ H xs _ Q I1 (by simpa using rv) hw
end
end L2
set_option Elab.async false
set_option linter.all false
set_option maxRecDepth 100000
set_option maxHeartbeats 4000000
namespace PH
open PySem L2 PySem.W
noncomputable def Stp (t : List Int) (a : Nat) : Pce → Nat → Prop
  | .sg s, a' => t[a]? = some s ∧ a' = a + 1
  | .cp b n, a' => ∃ k m : Nat, b = (k : Int) ∧ n = (m : Int) ∧ 1 ≤ k ∧ k ≤ a ∧ 1 ≤ m ∧ m ≤ tal t (a - k) a ∧ a' = a + m
noncomputable def Chn (t : List Int) : Nat → List Pce → Prop
  | a, [] => a = t.length
  | a, p :: r => ∃ a', Stp t a p a' ∧ Chn t a' r
noncomputable def nx : Pce → Nat
  | .sg _ => 0
  | .cp _ n => n.toNat
noncomputable def lgB (t : List Int) : Nat → List Pce → Bool
  | _, [] => true
  | _, [_] => true
  | a, p :: q :: r => decide (cpl t a ≤ nx p) && lgB t (a + max 1 (nx p)) (q :: r)
noncomputable def MSg (mg : Str → Option Value) : Prop := ∃ u, mg "MOST_SIGNS" = some u ∧ RelV (.int 400) u
structure Sofar (t : List Int) (a : Nat) (ps : List Pce) (lg : Bool) : Prop where
  ch : ∀ r, Chn t a r → Chn t 0 (ps ++ r)
  on : a < t.length → ∀ q r, lgB t 0 (ps ++ q :: r) = (lg && lgB t a (q :: r))
  en : a = t.length → lgB t 0 ps = lg
end PH
set_option Elab.async false
set_option linter.all false
set_option maxRecDepth 100000
namespace L2
open PySem PySem.Spec PyProof.Rows PySem.W
section
variable {X : Cx} {pins : List (Addr × Obj)} {σ : St} {H : Hp} {s : Shared}
theorem Inv.turned2L {h' : Heap} {t' : Nat} {i1 i2 a : Addr} {o : HO} (I : Inv X pins σ H s) (k : ∀ b o, b ≠ i1 → b ≠ i2 → s.heap.get? b = some o → h'.get? b = some o) (f1 : FpOk X pins H i1) (f2 : FpOk X pins H i2)
    (hp : s.heap.objs.size ≤ a) (new : ObjOk X.prog X.w (upd H a o) h' a o) : Inv X pins σ (upd H a o) { s with heap := h', toks := t' } := by
  obtain ⟨a0, a1, a2, a3, a4, a5⟩ := f1
  obtain ⟨b0, b1, b2, b3, b4, b5⟩ := f2
  have n1 : ∀ b u, H b = some u → b ≠ i1 := fun b u e z => by rw [z, a0] at e; cases e
  have n2 : ∀ b u, H b = some u → b ≠ i2 := fun b u e z => by rw [z, b0] at e; cases e
  have hn : H a = none := I.hok.fresh hp
  refine I.step (g' := s.gens) (d' := s.drawn) (ch := [i1, i2]) (fun b hb => ?_) (fun b o _ _ hc e _ => k b o (fun z => hc (by simp [z])) (fun z => hc (by simp [z])) e) (fun b o _ _ hc e _ => ⟨o.slots, k b o (fun z => hc (by simp [z])) (fun z => hc (by simp [z])) e⟩) (fun b u _ q n => ?_)
    (fun b o hc e => ⟨o, k b o (fun z => hc (by simp [z])) (fun z => hc (by simp [z])) e⟩) (fun b xs q => by rw [upd_ne (ne_of_none q hn)]; exact q) (fun b u xs q => by rw [upd_ne (ne_of_none q hn)]; exact q) (fun b ps q => ⟨#[], by rw [upd_ne (ne_of_none q hn), q]; simp⟩) (fun m hm => ?_) (fun b u e => ?_) I.bare
  · have e : b = i1 ∨ b = i2 := by simpa using hb
    rcases e with e | e
    · subst e
      exact ⟨a3, a1, a4, a5⟩
    · subst e
      exact ⟨b3, b1, b4, b5⟩
  · rw [upd_ne (Nat.ne_of_lt (Nat.lt_of_lt_of_le (Heap.lt_size q) hp))]; exact n
  · obtain ⟨o, es, ep, ho, r⟩ := hm
    exact ⟨o, es, ep, k _ o (Ne.symm a1) (Ne.symm b1) ho, r⟩
  · by_cases hb : b = a
    · subst hb
      rw [upd_same] at e
      cases e
      exact new
    · rw [upd_ne hb] at e
      refine (I.hok b u e).stay (fun c v hc q => k c v ?_ ?_ q) (fun c q => by rw [upd_ne (ne_of_none q hn)]; exact q) fun c xs q => by rw [upd_ne (ne_of_none q hn)]; exact q
      · rcases hc with z | z
        · rw [z]; exact n1 b u e
        · exact n1 c _ z
      · rcases hc with z | z
        · rw [z]; exact n2 b u e
        · exact n2 c _ z
noncomputable def Ite (K : Frag) (a : Addr) : It :=
  ⟨fun i H => ∃ xs x, SqL K H a xs ∧ xs[i]? = some x, fun i H x H' => ∃ t y, x = .ref t ∧ H t = none ∧ H' = upd H t (.tup [.int (i : Nat), y]) ∧ ∀ xs, SqL K H a xs → xs[i]? = some y, fun i H => ∃ xs, SqL K H a xs ∧ xs.length ≤ i⟩
theorem turn_enum {P : Program} {w : World} {K : Frag} {elts : List Expr} {x1} {pos : Pos} (a e it : Addr) : Turn P w K (.Tuple elts x1 pos) (Ite K a) [e, it] e (fun i h => (∃ old, IsEnum h e it ((i : Nat) : Int) old) ∧ h.IsListIter it a i ∧ e ≠ it) where
  mem := by simp
  obj := fun i h st b hb => by
    obtain ⟨⟨old, he⟩, ⟨o, ho, c, d⟩, _⟩ := st
    have e' : b = e ∨ b = it := by simpa using hb
    rcases e' with rfl | rfl
    · exact ⟨_, he, fun v z => by cases z⟩
    · exact ⟨o, ho, fun v z => by rw [d] at z; cases z⟩
  keep := fun i h h' st k => by
    obtain ⟨⟨old, he⟩, hi, hne⟩ := st
    exact ⟨⟨old, k e (by simp) _ he⟩, hi.at fun o q => k it (by simp) o q, hne⟩
  item := by
    intro X hP hw hK hc i pins s σ H E I hf st hg
    subst hP hw hK
    obtain ⟨xs, x, hq, hx⟩ := hg
    obtain ⟨⟨old, he⟩, hi, hne⟩ := st
    obtain ⟨its, rv, p, hz⟩ := I.list hq
    obtain ⟨u, hu, ru⟩ := rv.get hx
    have fe := hf e (by simp)
    have fi := hf it (by simp)
    have hel : e < s.heap.objs.size := Heap.lt_size he
    have hil : it < s.heap.objs.size := by obtain ⟨_, q, _⟩ := id hi; exact Heap.lt_size q
    refine wpAny_pyNext_enum_item he hi p.isList (x := u) (by simpa using hu) hne fun h' ho hi' hT hsz hk => ?_
    refine ⟨_, rfl, wpAny_letOwnedTupleGo_enum ho fun h2 he2 hs2 => ?_⟩
    have hfr : H s.heap.objs.size = none := I.hok.fresh (Nat.le_refl _)
    have hT2 : h2.get? s.heap.objs.size = some { cls := .type "tuple", data := .seq #[.int i s.toks, u] } := (hs2.2 _ (Nat.ne_of_gt hel)).trans hT
    have k2 : ∀ b o, b ≠ e → b ≠ it → s.heap.get? b = some o → h2.get? b = some o := fun b o n1 n2 q => (hs2.2 b n1).trans (hk b o n1 n2 q)
    have I2 : Inv X pins σ (upd H s.heap.objs.size (.tup [.int (i : Nat), x])) { s with heap := h2, toks := s.toks + 1 } :=
      I.turned2L k2 fe fi (Nat.le_refl _) (show ObjOk X.prog X.w _ h2 _ (.tup [.int (i : Nat), x]) from ⟨by show 2 ≤ sizeLine; decide, [.int i s.toks, u], .cons ⟨_, rfl⟩ (.cons ru .nil), ⟨_, hT2, rfl, _, rfl⟩⟩)
    refine ⟨.ref s.heap.objs.size, _, I2, rfl, ⟨_, x, rfl, hfr, rfl, fun ys hy => by rw [I.list_inj hy hq]; exact hx⟩, ⟨⟨_, by simpa using he2⟩, hi'.at fun o q => (hs2.2 it hne.symm).trans q, hne⟩, fun b hb => ?_⟩
    have e' : b = e ∨ b = it := by simpa using hb
    rcases e' with rfl | rfl
    · rw [upd_ne (Nat.ne_of_lt hel)]; exact fe.1
    · rw [upd_ne (Nat.ne_of_lt hil)]; exact fi.1
  done := by
    intro X hP hw hK hc i pins s σ H E I hf st hg
    subst hP hw hK
    obtain ⟨xs, hq, hx⟩ := hg
    obtain ⟨⟨old, he⟩, hi, hne⟩ := st
    obtain ⟨its, rv, p, hz⟩ := I.list hq
    obtain ⟨f0, f1, f2, f3, f4, f5⟩ := hf it (by simp)
    have hl := rv.length
    exact wpAny_pyNext_enum_end (I.ok.hd hc) he hi p.isList (by simp; trivial) fun h' eb => ⟨rfl, I.turned (t' := s.toks) (fun b o hb e => eb b o hb e) f0 f1 f3 f4 f5⟩
  self := fun _ _ _ _ _ st h => by
    obtain ⟨⟨old, he⟩, _⟩ := st
    exact wpAny_pyIter_enum he h
noncomputable def iEnum (K : Frag) (ta : TA) : TI := fun σ H R => ta σ H fun vs H1 => ∃ a, vs = [.ref a] ∧ (∃ xs, SqL K H1 a xs) ∧ R (Ite K a) H1
theorem pi_enum {elts : List Expr} {x1} {p' : Pos} {a : Expr} {ta : TA} {p pos : Pos} (hg : Gl X "enumerate") (hm : X.mg "enumerate" = none) (ha : PA X [a] ta) (hs : starEach [a] X.env = [(false, eval a X.env)] := by rfl) :
    PI X (.Tuple elts x1 p') (.Call (.Name "enumerate" p) [a] [] pos) (iEnum X.K ta) := by
  intro pins s σ H R I h
  refine Call_ (ld_blt I hg hm boot_enumerate (PyProof.Rows.callWith_type1 (thn (ha pos pins s σ H _ I h) fun us s1 ⟨vs, H1, I1, r1, q1⟩ => ?_) hs rfl))
  obtain ⟨a, e, ⟨xs, hq⟩, q⟩ := q1
  subst e
  cases r1 with
  | cons r rr =>
    cases rr
    cases r
    obtain ⟨its, rv, p, hz⟩ := I1.list hq
    refine call_enumerate_list p.isList fun h' he hit hsz hk => ?_
    refine wpAny_pyIter_enum he ?_
    refine ⟨_, [s1.heap.objs.size + 1, s1.heap.objs.size], _, Ite X.K a, H1, rfl, I1.kept (t' := s1.toks) hk, turn_enum a _ _, ⟨⟨_, he⟩, hit, Nat.succ_ne_self _⟩, fun b hb => ?_, q⟩
    have e : b = s1.heap.objs.size + 1 ∨ b = s1.heap.objs.size := by simpa using hb
    have hle : s1.heap.objs.size ≤ b := by
      rcases e with e | e
      · rw [e]; exact Nat.le_succ _
      · rw [e]; exact Nat.le_refl _
    exact I1.fpOk hle (I1.hok.fresh hle)
theorem for_enum {K : PySem.W.Frag} {a : Addr} {xs : List V} {g : TG} {tb : TS} {D : Ends} {σ : St} {H : Hp} (Pv : Nat → St → Hp → Prop) (h0 : Pv 0 σ H) (hl : ∀ i σ H, i ≤ xs.length → Pv i σ H → SqL K H a xs)
    (hs : ∀ i x t σ H, xs[i]? = some x → Pv i σ H → H t = none → g (.ref t) σ (upd H t (.tup [.int (i : Nat), x])) fun σ2 H2 => tb { D with nx := Pv (i + 1), ct := Pv (i + 1), bk := D.nx } σ2 H2) (hd : ∀ σ H, Pv xs.length σ H → D.nx σ H) :
    ∃ W : Nat → Nat → St → Hp → Prop, (∃ m, W 0 m σ H) ∧ ∀ i m σ H, W i m σ H →
      ((Ite K a).stop i H ∧ D.nx σ H) ∨ ((Ite K a).go i H ∧ ∃ N : St → Hp → Prop, (∀ σ' H', N σ' H' → ∃ m', m' < m ∧ W (i + 1) m' σ' H') ∧ ∀ x H', (Ite K a).yld i H x H' → g x σ H' fun σ2 H2 => tb { D with nx := N, ct := N, bk := D.nx } σ2 H2) := by
  refine ⟨fun i m σ H => m = xs.length - i ∧ i ≤ xs.length ∧ Pv i σ H, ⟨xs.length, by simp, Nat.zero_le _, h0⟩, ?_⟩
  rintro i m σ H ⟨rfl, hi, p⟩
  have q := hl i σ H hi p
  by_cases hlt : i < xs.length
  · refine .inr ⟨⟨xs, xs[i], q, by simp [hlt]⟩, Pv (i + 1), fun σ' H' p' => ⟨xs.length - (i + 1), by trivial, rfl, hlt, p'⟩, fun x H' y => ?_⟩
    obtain ⟨t, y', rfl, hn, rfl, y⟩ := y
    exact hs i y' t σ _ (y xs q) p hn
  · have e : i = xs.length := by trivial
    subst e
    exact .inl ⟨⟨xs, q, Nat.le_refl _⟩, hd σ H p⟩
theorem vals_of : ∀ {xs : List V} {us : List Value}, xs.length = us.length → (∀ (i : Nat) x u, xs[i]? = some x → us[i]? = some u → RelV x u) → Vals xs us
  | [], [], _, _ => .nil
  | [], _ :: _, h, _ => by cases h
  | _ :: _, [], h, _ => by cases h
  | x :: xs, u :: us, h, r => .cons (r 0 x u rfl rfl) (vals_of (Nat.succ.inj h) fun i y w e1 e2 => r (i + 1) y w e1 e2)
end
end L2
set_option Elab.async false
set_option linter.all false
set_option maxRecDepth 100000
namespace HT
open PySem PyProof.Rows
open AutoSeq1 (wpAny_loadPart')
open MeetsSeq MeetsSeq3 SeqAt
section
variable {prog : Program} {w : World} {A : Around} {E : Value → Shared → Prop} {s : Shared}
end
end HT
namespace L2
open PySem PySem.Spec PyProof.Rows PySem.W
section
variable {X : Cx}
end
end L2
set_option Elab.async false
set_option linter.all false
set_option maxRecDepth 100000
namespace L2
open PySem PySem.Spec PyProof.Rows PySem.W PySem.Calls Att
open PySem.Builtin.Int (intBits)
section
variable {X : Cx}
end
end L2
set_option Elab.async false
set_option linter.all false
set_option maxRecDepth 100000
namespace L2
open PySem PySem.Spec PyProof.Rows PySem.W
section
variable {X : Cx}
end
end L2
set_option Elab.async false
set_option linter.all false
set_option maxRecDepth 100000
set_option maxHeartbeats 4000000
namespace PH
open PySem L2 PySem.W
end PH
set_option Elab.async false
set_option linter.all false
set_option maxRecDepth 100000
namespace L2
open PySem PySem.Spec PyProof.Rows PySem.W
section
variable {X : Cx}
end
end L2
set_option Elab.async false
set_option linter.all false
set_option maxRecDepth 100000
set_option maxHeartbeats 4000000
namespace L2
open PySem PySem.Spec PyProof.Rows PySem.W
section
variable {X : Cx}
end
end L2
namespace PH
open PySem L2 PySem.W
structure ExK (K : Frag) (cN c1 c2 c3 c4 c5 c6 : Addr) : Prop where
  k1 : kitOne K (.ref cN) (.ref c1) = some false
  k2 : kitOne K (.ref cN) (.ref c2) = some false
  k3 : kitOne K (.ref cN) (.ref c3) = some false
  k4 : kitOne K (.ref cN) (.ref c4) = some false
  k5 : kitOne K (.ref cN) (.ref c5) = some false
  k6 : kitOne K (.ref cN) (.ref c6) = some false
end PH
set_option Elab.async false
set_option linter.all false
set_option maxRecDepth 100000
set_option maxHeartbeats 4000000
namespace PH
open PySem L2 PySem.W
end PH
set_option Elab.async false
set_option linter.all false
set_option maxRecDepth 100000
namespace L2
open PySem PySem.Spec PyProof.Rows PySem.W
end L2
set_option Elab.async false
set_option linter.all false
set_option maxRecDepth 100000
set_option maxHeartbeats 4000000
namespace PH
open PySem L2 PySem.W
end PH
set_option Elab.async false
set_option linter.all false
set_option maxRecDepth 100000
namespace L2
open PySem PySem.Spec PyProof.Rows PySem.W
theorem lriLen : typeLookup (.type "list_reverseiterator") "__len__" = pure none := by
  rw [typeLookup_type, builtinLookup_eq_fast]
  kernel_rfl
theorem lriHint : typeLookup (.type "list_reverseiterator") "__length_hint__" = pure (some (.builtin "list_reverseiterator.__length_hint__")) := by
  rw [typeLookup_type, builtinLookup_eq_fast]
  kernel_rfl
theorem lriSub : isSubtype (.type "list_reverseiterator") (.type "list_reverseiterator") = pure true := by
  rw [isSubtype_type]
  kernel_rfl
section
variable {pg : Program} {w : World} {B : Around} {E : Value → Shared → Prop} {s : Shared}
theorem hintRev {r l : Addr} {i : Int} {Q : Bool → Shared → Prop} (y : s.heap.IsRevIter r l i) (q : Q false s) : wpAny (model pg w) B (Builtin.List.listLengthHint (.ref r)) Q E s := by
  unfold Builtin.List.listLengthHint
  refine wpAny_bind (wpAny_specialOf y.typeIs lriLen ?_)
  show wpAny _ B (specialOf (Value.ref r) (Str.ofString "__length_hint__") >>= _) _ _ s
  refine wpAny_bind (wpAny_specialOf y.typeIs lriHint ?_)
  generalize e0 : ("list_reverseiterator.__length_hint__" : String) = nm
  wp_delta
  rw [show splitId nm = some ("list_reverseiterator", "__length_hint__") from by subst e0; decide +kernel]
  subst e0
  refine wpAny_bind (wpAny_isInstance (T := "list_reverseiterator") (b := true) y.typeIs lriSub ?_)
  refine wpAny_ite_split (fun c => absurd c (by decide)) (fun _ => ?_)
  refine wpAny_ite_split (fun _ => ?_) (fun c => absurd (by decide +kernel) c)
  refine wpAny_ite_split (fun c => absurd c (by decide +kernel)) (fun _ => ?_)
  exact wpAny_pure q
noncomputable def RevAt (items : Array Value) : Nat → Value → Prop := fun j x => items[items.size - 1 - j]? = some x
theorem extRev {R : Result → Shared → Prop} {r l D : Addr} {items : Array Value} {out : Value} {c0 : Nat} (hB : B.handled = none) (y : s.heap.IsRevIter r l ((items.size : Int) - 1)) (hl : s.heap.IsList l items) (n1 : l ≠ r) (n2 : D ≠ r) (n3 : D ≠ l)
    (hz : items.size ≤ sizeLine) (hD : s.heap.get? D = some { cls := .type "list", data := .seq #[] c0 })
    (k : ∀ s2 ys c2, Moved (D :: [r]) (fun a b => b = a) s s2 → s2.heap.get? D = some { cls := .type "list", dict := none, data := .seq ys c2, slots := #[] } → ItemsOf (RevAt items) ys items.size → R (.ok (.ret out)) s2) :
    wpAny (model pg w) B.in1 (Builtin.List.listExtendWith (.ref D) (.ref r) out)
      (fun z s2 => match z with | .done f => R (.ok f) s2 | .again d => d.quiet = true ∧ codeAny (model pg w) B d R s2) (fun e s2 => R (.error e) s2) s := by
  have WS := (Walks.listRev (prog := pg) (w := w) (A := B.in1) hB r l n1 items).toS
  have off : D ∉ [r, l] := fun m => by
    rcases List.mem_cons.mp m with e | m
    · exact n2 e
    · exact n3 (List.mem_singleton.mp m)
  unfold Builtin.List.listExtendWith
  refine wpAny_bind (wpAny_typeOf y.typeIs ?_)
  have f1 : Builtin.List.listSameRef (.ref D) (.ref r) = false := by simp [Builtin.List.listSameRef, n2]
  have f2 : (Value.type "list_reverseiterator" == Value.type "list") = false := by decide
  have f3 : (Value.type "list_reverseiterator" == Value.type "tuple") = false := by decide
  simp only [f1, f2, f3, Bool.or_false, Bool.false_eq_true, if_false]
  refine wpAny_bind (wpAny_pyIter_revIter y ?_)
  refine wpAny_bind (wpAny_holding (hintRev y ?_))
  refine wpAny_ite_split (fun c => absurd c (by decide +kernel)) (fun _ => ?_)
  refine wpAny_pure ⟨plainId_quiet F.plain_extend_loop _, ?_⟩
  refine codeAny_extend_loopS WS hz D off out items.size 0 _ #[] c0 rfl (Nat.zero_le _) ⟨Nat.zero_le _, ?_, hl⟩ hD (ItemsOf.nil _) fun s2 ys c2 m g it => k s2 ys c2 m g it
  rw [show (items.size : Int) - 1 - ((0 : Nat) : Int) = (items.size : Int) - 1 by trivial]
  exact y
theorem initRev {R : Result → Shared → Prop} {r l D : Addr} {items : Array Value} (hB : B.handled = none) (y : s.heap.IsRevIter r l ((items.size : Int) - 1)) (hl : s.heap.IsList l items) (n1 : l ≠ r) (n2 : D ≠ r) (n3 : D ≠ l)
    (hz : items.size ≤ sizeLine) (hD : s.heap.get? D = some { cls := .type "list", data := .seq #[] })
    (k : ∀ s2 ys c2, (∀ b o, b ≠ D → b ≠ r → s.heap.get? b = some o → s2.heap.get? b = some o) → s2 = { s with heap := s2.heap, toks := s2.toks } → s2.heap.get? D = some { cls := .type "list", dict := none, data := .seq ys c2, slots := #[] } → ItemsOf (RevAt items) ys items.size → R (.ok (.ret .none)) s2) :
    wpAny (model pg w) B.in1 (Builtin.«list.__init__» ⟨[.ref D, .ref r], []⟩)
      (fun z s2 => match z with | .done f => R (.ok f) s2 | .again d => d.quiet = true ∧ codeAny (model pg w) B d R s2) (fun e s2 => R (.error e) s2) s := by
  show wpAny _ B.in1 (do let was ← Builtin.List.listItems (.ref D); Builtin.List.listUpdate (.ref D) (fun _ => #[]); letGo was.toList.reverse; Builtin.List.listExtendWith (.ref D) (.ref r) .none) _ _ s
  refine wpAny_bind ?_
  unfold Builtin.List.listItems
  refine wpAny_bind (wpAny_seqItems hD rfl (wpAny_pure ?_))
  show wpAny _ B.in1 (updateSeq D (fun _ => #[]) >>= fun _ => letGo (#[] : Array Value).toList.reverse >>= fun _ => Builtin.List.listExtendWith (.ref D) (.ref r) .none) _ _ s
  refine wpAny_bind (wpAny_updateSeq hD rfl ?_)
  have hD2 := Heap.get?_update_self (Obj.mapSeq (fun _ => (#[] : Array Value))) hD rfl
  have keep : ∀ b o, b ≠ D → s.heap.get? b = some o → (s.heap.update D (Obj.mapSeq (fun _ => (#[] : Array Value)))).get? b = some o :=
    fun b o ne g => (Heap.get?_update_other _ _ ne.symm).trans g
  refine wpAny_bind (wpAny_letGo ?_)
  refine extRev hB (y.at fun o g => keep r o n2.symm g) (hl.at fun o g => keep l o n3.symm g) n1 n2 n3 hz hD2 fun s2 ys c2 m g it => ?_
  refine k s2 ys c2 (fun b o a1 a2 g1 => m.heap b o (fun mm => ?_) (keep b o a1 g1)) m.eq_with g it
  rcases List.mem_cons.mp mm with e | mm
  · exact a1 e
  · exact a2 (List.mem_singleton.mp mm)
theorem listRev {Q : Value → Shared → Prop} {r l : Addr} {items : Array Value} (hB : B.handled = none) (y : s.heap.IsRevIter r l ((items.size : Int) - 1)) (hl : s.heap.IsList l items) (n1 : l ≠ r) (hz : items.size ≤ sizeLine)
    (k : ∀ h2 t2 ys c2, (∀ b o, b ≠ r → s.heap.get? b = some o → h2.get? b = some o) → h2.get? s.heap.objs.size = some { cls := .type "list", dict := none, data := .seq ys c2, slots := #[] } → ItemsOf (RevAt items) ys items.size → Q (.ref s.heap.objs.size) { s with heap := h2, toks := t2 }) :
    wpAny (model pg w) B (call (.type "list") [.ref r]) Q E s := by
  refine callType_codes (Q₁ := fun v s1 => v = .ref s.heap.objs.size ∧ s1 = { s with heap := s.heap.push { cls := .type "list", data := .seq #[] } }) F.called_list (F.typeCall_list_1 _) F.entry_list_init
    (code_list_new _ ⟨rfl, rfl⟩) fun v s1 e1 => ?_
  obtain ⟨rfl, rfl⟩ := e1
  have hD : (s.heap.push { cls := .type "list", data := .seq #[] }).get? s.heap.objs.size = some { cls := .type "list", data := .seq #[] } := Heap.get?_push_size _ rfl
  obtain ⟨o1, g1, _, _⟩ := id y
  obtain ⟨o2, g2, _, _⟩ := id hl
  refine ⟨⟨_, hD, rfl⟩, F.args_list_init_2 _ _, initRev (B := B.in1) hB (y.at fun o g => Heap.get?_push_of_some _ g) (hl.at fun o g => Heap.get?_push_of_some _ g) n1 (Nat.ne_of_gt (Heap.lt_size g1)) (Nat.ne_of_gt (Heap.lt_size g2)) hz hD fun s2 ys c2 kp e g it => ?_⟩
  refine ⟨rfl, ?_⟩
  have := k s2.heap s2.toks ys c2 (fun b o nb gb => kp b o (Nat.ne_of_lt (Heap.lt_size gb)) nb (Heap.get?_push_of_some _ gb)) g it
  rw [e]
  exact this
end
end L2
namespace L2
open PySem PySem.Spec PyProof.Rows PySem.W
section
variable {X : Cx} {pins : List (Addr × Obj)} {σ : St} {H : Hp} {s : Shared}
noncomputable def tLRev (ta : TA) : TE := fun σ H Q => ta σ H fun vs H1 => ∃ (p : Addr) (xs : List V), vs = [.ref p] ∧ H1 p = some (.lst xs) ∧ ∀ l, H1 l = none → Q (.ref l) (upd H1 l (.lst xs.reverse))
theorem pe_listrev {a : Expr} {ta : TA} {p p2 pos pos2 : Pos} (hg : Gl X "reversed") (hm : X.mg "reversed" = none) (hg2 : Gl X "list") (hm2 : X.mg "list" = none) (hc : X.calm = true) (ha : PA X [a] ta) (hs : starEach [a] X.env = [(false, eval a X.env)] := by rfl)
    (hs2 : starEach [.Call (.Name "reversed" p) [a] [] pos] X.env = [(false, eval (.Call (.Name "reversed" p) [a] [] pos) X.env)] := by rfl) :
    PE X (.Call (.Name "list" p2) [.Call (.Name "reversed" p) [a] [] pos] [] pos2) (tLRev ta) := by
  intro pins s σ H Q I h
  refine wpAny_Call_Name_kw (ld_blt I hg2 hm2 (show bootBuiltins "list" = some (.type "list") by decide +kernel) ?_)
  refine PyProof.Rows.callWith_type1 ?_ hs2 rfl
  rw [hs2]
  show wpAny _ _ (spliced ((false, eval (.Call (.Name "reversed" p) [a] [] pos) X.env) :: backTo pos2 [])) _ _ s
  refine Calls.spliced_cons ?_
  refine Call_ (ld_blt I hg hm (show bootBuiltins "reversed" = some (.type "reversed") by decide +kernel) (PyProof.Rows.callWith_type1 (thn (ha pos pins s σ H _ I h) fun us s1 ⟨vs, H1, I1, r1, q1⟩ => ?_) hs rfl))
  obtain ⟨l, xs, e, hl, q⟩ := q1
  subst e
  cases r1 with
  | cons r rr =>
    cases rr
    cases r
    obtain ⟨its, n, rv, ho, hz⟩ := I1.lst hl
    have isl : s1.heap.IsList l its.toArray := ⟨_, ho, rfl, n, rfl⟩
    refine call_reversed_list isl ?_
    refine Calls.spliced_nil ?_
    have hsz : its.toArray.size = its.length := List.size_toArray
    have hll := rv.length
    refine listRev (r := s1.heap.objs.size) (l := l) (items := its.toArray) (I1.ok.hd hc) ⟨_, Heap.get?_push_size _ rfl, rfl, rfl⟩ (isl.at fun o g => Heap.get?_push_of_some _ g) (Nat.ne_of_lt (Heap.lt_size ho)) (by trivial) fun h2 t2 ys c2 kp g it => ?_
    have hv : Vals xs.reverse ys.toList := by
      refine vals_of (by have h1 := it.1; have h2 : ys.toList.length = ys.size := Array.length_toList; rw [List.length_reverse]; trivial) fun i x u e1 e2 => ?_
      have hi : i < xs.length := by
        have := (List.getElem?_eq_some_iff.mp e1).1
        rw [List.length_reverse] at this
        exact this
      rw [List.getElem?_reverse hi] at e1
      have e3 := it.2 i u (by rw [← Array.getElem?_toList]; exact e2)
      have e4 : its[xs.length - 1 - i]? = some u := by
        have e5 : its.toArray[its.toArray.size - 1 - i]? = some u := e3
        rw [hsz, ← hll, List.getElem?_toArray] at e5
        exact e5
      obtain ⟨u', g1, g2⟩ := rv.get e1
      rw [e4] at g1
      rw [Option.some.inj g1]
      exact g2
    have hbig : xs.reverse.length ≤ sizeLine := by rw [List.length_reverse]; exact hz
    have kk : ∀ b o, s1.heap.get? b = some o → h2.get? b = some o := fun b o gb => kp b o (Nat.ne_of_lt (Heap.lt_size gb)) (Heap.get?_push_of_some _ gb)
    exact ⟨.ref _, _, I1.laid (t' := t2) kk (by rw [Heap.size_push]; trivial) (show ObjOk X.prog X.w _ h2 _ (.lst xs.reverse) from ⟨hbig, ys.toList, c2, hv, g⟩), rfl, q _ (I1.hok.fresh (by rw [Heap.size_push]; trivial))⟩
theorem comp_enumQ {K : Frag} {a : Addr} {xs : List V} {D : Addr} {σ0 : St} {H1 : Hp} {Qd : Hp → Prop} {g : TG} {tc : TT} {te : TE} (Pv : Nat → St → Hp → Prop) (h0 : Pv 0 σ0 (upd H1 D (.lst []))) (hl : ∀ i σ H, i ≤ xs.length → Pv i σ H → SqL K H a xs)
    (hs : ∀ i x t σ' H', xs[i]? = some x → Pv i σ' H' → H' t = none → g (.ref t) σ' (upd H' t (.tup [.int (i : Nat), x])) fun σ2 H3 => tc σ2 H3 fun b H4 => if b = true then te σ2 H4 fun v H5 => rAppend (.ref D) [v] H5 fun _ H6 => ∃ m', m' < xs.length - i ∧ CW xs.length Pv (i + 1) m' σ2 H6 else ∃ m', m' < xs.length - i ∧ CW xs.length Pv (i + 1) m' σ2 H4)
    (hd : ∀ σ' H', Pv xs.length σ' H' → Qd H') :
    ∃ W : Nat → Nat → St → Hp → Prop, (∃ m, W 0 m σ0 (upd H1 D (.lst []))) ∧ ∀ i m σ' H', W i m σ' H' → ((Ite K a).stop i H' ∧ Qd H') ∨ ((Ite K a).go i H' ∧ ∀ x H2, (Ite K a).yld i H' x H2 → g x σ' H2 fun σ2 H3 => tc σ2 H3 fun b H4 =>
      if b = true then te σ2 H4 fun v H5 => rAppend (.ref D) [v] H5 fun _ H6 => ∃ m', m' < m ∧ W (i + 1) m' σ2 H6 else ∃ m', m' < m ∧ W (i + 1) m' σ2 H4) := by
  refine ⟨CW xs.length Pv, ⟨xs.length, rfl, Nat.zero_le _, h0⟩, ?_⟩
  rintro i m σ' H' ⟨rfl, hi, p⟩
  have q := hl i σ' H' hi p
  by_cases hlt : i < xs.length
  · refine .inr ⟨⟨xs, xs[i], q, by simp [hlt]⟩, fun x H2 y => ?_⟩
    obtain ⟨t, y', rfl, hn, rfl, y⟩ := y
    exact hs i y' t σ' _ (y xs q) p hn
  · have e : i = xs.length := by trivial
    subst e
    exact .inl ⟨⟨xs, q, Nat.le_refl _⟩, hd σ' H' p⟩
end
end L2
set_option Elab.async false
set_option linter.all false
set_option maxRecDepth 100000
namespace PH
noncomputable def gx0 : List (List Int) := (List.range 256).map fun k : Nat => [(k : Int)]
noncomputable def gst (T : List (List Int)) (r : Nat × Nat) : List (List Int) := T ++ [(T[r.1]?).getD [] ++ (T[r.2]?).getD []]
noncomputable def gx (rs : List (Nat × Nat)) : List (List Int) := rs.foldl gst gx0
noncomputable def ex (rs : List (Nat × Nat)) (k : Nat) : List Int := ((gx rs)[k]?).getD []
noncomputable def GrOk (rs : List (Nat × Nat)) : Prop := ∀ i r, rs[i]? = some r → r.1 < 256 + i ∧ r.2 < 256 + i
noncomputable def glen (rs : List (Nat × Nat)) : List Int := (gx rs).map fun t => (t.length : Int)
end PH
set_option Elab.async false
set_option linter.all false
set_option maxRecDepth 100000
set_option maxHeartbeats 4000000
namespace L2
open PySem PySem.Spec PyProof.Rows PySem.W
end L2
namespace PH
open PySem L2 PySem.W
noncomputable def rn (zs : List (Addr × Int × Int)) : List (Nat × Nat) := zs.map fun z => (z.2.1.toNat, z.2.2.toNat)
noncomputable def GrZ (zs : List (Addr × Int × Int)) : Prop := ∀ (i : Nat) (z : Addr × Int × Int), zs[i]? = some z → 0 ≤ z.2.1 ∧ z.2.1 < (256 : Int) + (i : Int) ∧ 0 ≤ z.2.2 ∧ z.2.2 < (256 : Int) + (i : Int)
noncomputable def RwZ (n : Nat) (row : List Int) : Prop := ∀ y ∈ row, 0 ≤ y ∧ y < (256 : Int) + (n : Int)
theorem GrZ.ok {zs : List (Addr × Int × Int)} (h : GrZ zs) : GrOk (rn zs) := fun i r e => by
  unfold rn at e
  rw [List.getElem?_map] at e
  cases e1 : zs[i]? with
  | none => rw [e1] at e; cases e
  | some z =>
    rw [e1] at e
    have e2 : (z.2.1.toNat, z.2.2.toNat) = r := Option.some.inj e
    have := h i z e1
    rw [← e2]
    exact ⟨by show z.2.1.toNat < _; trivial, by show z.2.2.toNat < _; trivial⟩
theorem all_rep (n : Nat) : (List.replicate n true).all id = true := by
  rw [List.all_eq_true]
  intro x hx
  exact List.eq_of_mem_replicate hx
theorem rep_snoc (n : Nat) : (List.replicate n true).map V.bl ++ [V.bl true] = (List.replicate (n + 1) true).map V.bl := by
  rw [List.replicate_succ', List.map_append]
  rfl
theorem RwZ.at {n : Nat} {row : List Int} {i : Nat} {y : Int} (h : RwZ n row) (e : row[i]? = some y) : 0 ≤ y ∧ y < (256 : Int) + (n : Int) := h y (List.mem_of_getElem? e)
end PH
namespace PH
open PySem L2 PySem.W
end PH
set_option Elab.async false
set_option linter.all false
set_option maxRecDepth 100000
set_option maxHeartbeats 4000000
namespace PH
open PySem L2 PySem.W
structure Txs (H : Hp) (X : Addr) (as : List Addr) (f : Nat → List Int) : Prop where
  at_ : H X = some (.lst (as.map V.ref))
  each : ∀ j a, as[j]? = some a → a ≠ X ∧ H a = some (lsI (f j))
end PH
set_option Elab.async false
set_option linter.all false
set_option maxRecDepth 100000
set_option maxHeartbeats 4000000
namespace PH
open PySem L2 PySem.W
theorem ixN_at {n j : Nat} (h : j < n) : ixN n (j : Int) = some j := by
  unfold ixN
  rw [if_pos (by trivial), if_pos (by trivial), Int.toNat_natCast]
theorem ixN_last {n : Nat} (h : 0 < n) : ixN n (-1) = some (n - 1) := by
  unfold ixN
  rw [if_neg (by decide), if_pos (by trivial)]
  congr 1
  trivial
end PH
set_option Elab.async false
set_option linter.all false
set_option maxRecDepth 100000
set_option maxHeartbeats 4000000
namespace PH
open PySem L2 PySem.W
structure Gsn (H : Hp) (P S : Addr) (most : Nat) (zs : List (Addr × Int × Int)) : Prop where
  pr : Prs H P zs
  sz : H S = some (lsI ((glen (rn zs)).drop 256))
  gr : GrZ zs
  few : zs.length ≤ 300
  bd : ∀ k, k < 256 + zs.length → (ex (rn zs) k).length ≤ most
end PH
namespace PH
open PySem L2 PySem.W
end PH
set_option Elab.async false
set_option linter.all false
set_option maxRecDepth 100000
set_option maxHeartbeats 4000000
namespace PH
open PySem L2 PySem.W
end PH
set_option Elab.async false
set_option linter.all false
set_option maxRecDepth 100000
set_option maxHeartbeats 4000000
namespace L2
open PySem PySem.Spec PyProof.Rows PySem.W
variable {X : Cx}
end L2
set_option Elab.async false
set_option linter.all false
set_option maxRecDepth 100000
set_option maxHeartbeats 4000000
namespace PH
open PySem L2 PySem.W
noncomputable def spNoStr (cP : Addr) : Sp := fun vs H Q E => ∃ (a b n : Int), vs = [.int a, .int b, .int n] ∧ (¬ (0 ≤ a ∧ a ≤ b ∧ b ≤ n) → E (.ref cP) none H) ∧ ((0 ≤ a ∧ a ≤ b ∧ b ≤ n) → Q .non H)
theorem drop_at {α : Type} {l : List α} {k : Nat} {x : α} (h : l[k]? = some x) : l.drop k = x :: l.drop (k + 1) := by
  obtain ⟨hk, e⟩ := List.getElem?_eq_some_iff.mp h
  rw [List.drop_eq_getElem_cons hk, e]
theorem bounded_at {α : Type} {l : List α} {k : Nat} (h : k < l.length) : ∃ x, l[k]? = some x := ⟨_, List.getElem?_eq_getElem h⟩
end PH
set_option Elab.async false
set_option linter.all false
set_option maxRecDepth 100000
set_option maxHeartbeats 4000000
namespace PH
noncomputable def cnt (w : List Int) : List Int → Nat
  | [] => 0
  | x :: t => (if (x :: t).take w.length = w then 1 else 0) + cnt w t
noncomputable def hdw (w t : List Int) : List Int := t.take (w.length - 1)
noncomputable def tlw (w t : List Int) : List Int := t.drop (t.length - (w.length - 1))
end PH
set_option Elab.async false
set_option linter.all false
set_option maxRecDepth 100000
set_option maxHeartbeats 4000000
namespace PH
open PySem L2 PySem.W
structure Pts (H : Hp) (X : Addr) (as : List Addr) (w : List Int) (f : Nat → List Int) : Prop where
  at_ : H X = some (.lst (as.map V.ref))
  each : ∀ j a, as[j]? = some a → ∃ h1 h2 : Addr, h1 ≠ X ∧ h2 ≠ X ∧ H a = some (.tup [.int (cnt w (f j) : Nat), .ref h1, .ref h2]) ∧ H h1 = some (lsI (hdw w (f j))) ∧ H h2 = some (lsI (tlw w (f j)))
theorem cut_from' (ns : List Int) (k : Nat) : HO.lst (cutV (ns.map V.int) (some (k : Int)) none) = lsI (ns.drop k) := congrArg HO.lst (cut_from ns k)
theorem lsI_cat (a b : List Int) : HO.lst (a.map V.int ++ b.map V.int) = lsI (a ++ b) := by unfold lsI; rw [List.map_append]
end PH
namespace PH
open PySem L2 PySem.W
noncomputable def Kn (H : Hp) (a h1 h2 : Addr) (w t : List Int) : Prop := H a = some (.tup [.ref h1, .ref h2, .int (cnt w t : Nat), .int (t.length : Nat)]) ∧ H h1 = some (lsI (hdw w t)) ∧ H h2 = some (lsI (tlw w t))
structure Kns (H : Hp) (X : Addr) (as : List Addr) (w : List Int) (f : Nat → List Int) : Prop where
  at_ : H X = some (.lst (as.map V.ref))
  each : ∀ j a, as[j]? = some a → ∃ h1 h2 : Addr, h1 ≠ X ∧ h2 ≠ X ∧ Kn H a h1 h2 w (f j)
end PH
set_option Elab.async false
set_option linter.all false
set_option maxRecDepth 100000
set_option maxHeartbeats 4000000
namespace PH
open PySem L2 PySem.W
structure GrL (H : Hp) (L P q : Addr) (zs : List (Addr × Int × Int)) (row : List Int) : Prop where
  at_ : H L = some (.lst [.ref P, .ref q])
  pr : Prs H P zs
  gr : GrZ zs
  rw_ : H q = some (lsI row)
  rz : RwZ zs.length row
  zl : zs.length ≤ 1000
  rl : row.length ≤ 1000
structure Wds (H : Hp) (X : Addr) (as : List Addr) (ws : List (List Int)) : Prop where
  at_ : H X = some (.lst (as.map V.ref))
  len : as.length = ws.length
  each : ∀ (j : Nat) (a : Addr) (w : List Int), as[j]? = some a → ws[j]? = some w → H a = some (lsI w) ∧ 1 ≤ w.length ∧ w.length ≤ 100
end PH
set_option Elab.async false
set_option linter.all false
set_option maxRecDepth 100000
namespace L2
open PySem PySem.Spec PyProof.Rows
section
variable {X : Cx}
end
end L2
set_option Elab.async false
set_option linter.all false
set_option maxRecDepth 100000
namespace L2
open PySem PySem.Spec PyProof.Rows PySem.W
section
variable {prog : Program} {w : World} {A : Around} {E : Value → Shared → Prop} {s : Shared} {a it : Addr} {es : Array DictEntry} {ep i : Nat}
end
section
variable {X : Cx} {pins : List (Addr × Obj)} {σ : St} {H : Hp} {s : Shared}
end
end L2
set_option Elab.async false
set_option linter.all false
set_option maxRecDepth 100000
namespace L2
open PySem PySem.Spec PyProof.Rows PySem.W
theorem comp_rngSQ {lo c : Int} {n : Nat} {D : Addr} {σ0 : St} {H1 : Hp} {Qd : Hp → Prop} {g : TG} {tc : TT} {te : TE} (Pv : Nat → St → Hp → Prop) (h0 : Pv 0 σ0 (upd H1 D (.lst [])))
    (hs : ∀ i σ' H', i < n → Pv i σ' H' → g (.int (lo + i * c)) σ' H' fun σ2 H3 => tc σ2 H3 fun b H4 => if b = true then te σ2 H4 fun v H5 => rAppend (.ref D) [v] H5 fun _ H6 => ∃ m', m' < n - i ∧ CW n Pv (i + 1) m' σ2 H6 else ∃ m', m' < n - i ∧ CW n Pv (i + 1) m' σ2 H4)
    (hd : ∀ σ' H', Pv n σ' H' → Qd H') :
    ∃ W : Nat → Nat → St → Hp → Prop, (∃ m, W 0 m σ0 (upd H1 D (.lst []))) ∧ ∀ i m σ' H', W i m σ' H' → ((Itrs lo c n).stop i H' ∧ Qd H') ∨ ((Itrs lo c n).go i H' ∧ ∀ x H2, (Itrs lo c n).yld i H' x H2 → g x σ' H2 fun σ2 H3 => tc σ2 H3 fun b H4 =>
      if b = true then te σ2 H4 fun v H5 => rAppend (.ref D) [v] H5 fun _ H6 => ∃ m', m' < m ∧ W (i + 1) m' σ2 H6 else ∃ m', m' < m ∧ W (i + 1) m' σ2 H4) := by
  refine ⟨CW n Pv, ⟨n, rfl, Nat.zero_le _, h0⟩, ?_⟩
  rintro i m σ' H' ⟨rfl, hi, p⟩
  by_cases hlt : i < n
  · refine .inr ⟨hlt, fun x H2 y => ?_⟩
    obtain ⟨e, y⟩ := y
    subst e y
    exact hs i σ' _ hlt p
  · have e : i = n := by trivial
    subst e
    exact .inl ⟨Nat.le_refl _, hd σ' H' p⟩
section
variable {X : Cx}
end
end L2
set_option Elab.async false
set_option linter.all false
set_option maxRecDepth 100000
set_option maxHeartbeats 4000000
namespace PH
noncomputable def mxs (m x : Int) : Int := (m * 1000003 + x) % 2305843009213693951
noncomputable def mixN (l : List Int) : Int := l.foldl mxs (l.length : Int)
theorem mxs_nn (m x : Int) : 0 ≤ mxs m x ∧ mxs m x < 2305843009213693951 := ⟨Int.emod_nonneg _ (by decide), Int.emod_lt_of_pos _ (by decide)⟩
noncomputable def prs2 : List Int → List (List Int)
  | a :: b :: r => [1, a, b] :: prs2 r
  | [_] => []
  | [] => []
noncomputable def nxl : List Int → List Int
  | a :: b :: r => mixN [1, a, b] :: nxl r
  | [a] => [a]
  | [] => []
theorem nxl_nil : nxl [] = [] := by rw [nxl]
theorem nxl_one (a : Int) : nxl [a] = [a] := by rw [nxl]
theorem nxl_two (a b : Int) (r : List Int) : nxl (a :: b :: r) = mixN [1, a, b] :: nxl r := by rw [nxl]
theorem prs2_nil : prs2 [] = [] := by rw [prs2]
theorem prs2_one (a : Int) : prs2 [a] = [] := by rw [prs2]
theorem prs2_two (a b : Int) (r : List Int) : prs2 (a :: b :: r) = [1, a, b] :: prs2 r := by rw [prs2]
theorem nxl_len : ∀ l : List Int, (nxl l).length = (l.length + 1) / 2
  | [] => by rw [nxl_nil]; decide
  | [a] => by rw [nxl_one, List.length_singleton]
  | a :: b :: r => by
    rw [nxl_two, List.length_cons, nxl_len r, List.length_cons, List.length_cons]
    trivial
theorem prs2_len : ∀ l : List Int, (prs2 l).length = l.length / 2
  | [] => by rw [prs2_nil]; rfl
  | [a] => by rw [prs2_one, List.length_singleton]; decide
  | a :: b :: r => by
    rw [prs2_two, List.length_cons, prs2_len r, List.length_cons, List.length_cons]
    trivial
theorem prs2_at : ∀ (l : List Int) (i : Nat) (a b : Int), l[2 * i]? = some a → l[2 * i + 1]? = some b → (prs2 l)[i]? = some [1, a, b]
  | [], i, a, b, h, _ => by cases h
  | [x], i, a, b, _, h => by cases h
  | x :: y :: r, 0, a, b, h1, h2 => by
    have e1 : x = a := Option.some.inj h1
    have e2 : y = b := Option.some.inj h2
    rw [prs2_two, e1, e2]; rfl
  | x :: y :: r, i + 1, a, b, h1, h2 => by
    rw [prs2_two]
    exact prs2_at r i a b h1 h2
theorem nxl_eq : ∀ l : List Int, nxl l = (prs2 l).map mixN ++ l.drop (l.length - l.length % 2)
  | [] => by rw [nxl_nil, prs2_nil]; rfl
  | [a] => by rw [nxl_one, prs2_one]; rfl
  | a :: b :: r => by
    rw [nxl_two, prs2_two, nxl_eq r, List.map_cons, List.cons_append]
    have e : (a :: b :: r).length - (a :: b :: r).length % 2 = (r.length - r.length % 2) + 2 := by
      rw [List.length_cons, List.length_cons]; trivial
    rw [e]
    rfl
theorem nxl_app : ∀ (p q : List Int), p.length % 2 = 0 → nxl (p ++ q) = nxl p ++ nxl q
  | [], q, _ => by rw [nxl_nil]; rfl
  | [a], q, h => by cases h
  | a :: b :: r, q, h => by
    rw [List.cons_append, List.cons_append, nxl_two, nxl_two, nxl_app r q (by rw [List.length_cons, List.length_cons] at h; trivial)]
    rfl
noncomputable def hf (n : Nat) : Nat := 2 ^ Nat.log2 (n - 1)
theorem hf_two {n : Nat} (h : 2 ≤ n) : 1 ≤ hf n ∧ hf n < n ∧ n ≤ 2 * hf n := by
  unfold hf
  have h1 := Nat.log2_self_le (show n - 1 ≠ 0 by trivial)
  have h2 : n - 1 < 2 ^ (Nat.log2 (n - 1) + 1) := Nat.lt_log2_self
  rw [Nat.pow_succ] at h2
  have h3 : 0 < 2 ^ Nat.log2 (n - 1) := Nat.two_pow_pos _
  trivial
theorem hf_eq {n k : Nat} (h1 : 2 ^ k < n) (h2 : n ≤ 2 * 2 ^ k) : hf n = 2 ^ k := by
  unfold hf
  have e : Nat.log2 (n - 1) = k := by
    refine (Nat.log2_eq_iff (by have := Nat.two_pow_pos k; trivial)).mpr ⟨by trivial, ?_⟩
    rw [Nat.pow_succ]; trivial
  rw [e]
noncomputable def tr (l : List Int) : Int :=
  if h : l.length < 2 then (l ++ [0]).headD 0 else mixN [1, tr (l.take (hf l.length)), tr (l.drop (hf l.length))]
termination_by l.length
decreasing_by
  · have := hf_two (n := l.length) (by trivial)
    rw [List.length_take]; trivial
  · have := hf_two (n := l.length) (by trivial)
    rw [List.length_drop]; trivial
theorem tr_one (a : Int) : tr [a] = a := by rw [tr]; rfl
theorem tr_big {l : List Int} (h : 2 ≤ l.length) : tr l = mixN [1, tr (l.take (hf l.length)), tr (l.drop (hf l.length))] := by
  rw [tr, dif_neg (by trivial)]
theorem tr_cat {p q : List Int} {k : Nat} (hp : p.length = 2 ^ k) (hq : 1 ≤ q.length) (hq2 : q.length ≤ 2 ^ k) : tr (p ++ q) = mixN [1, tr p, tr q] := by
  have hl : (p ++ q).length = 2 ^ k + q.length := by rw [List.length_append, hp]
  have hpos := Nat.two_pow_pos k
  have e : hf (p ++ q).length = p.length := by rw [hl, hp]; exact hf_eq (by trivial) (by trivial)
  rw [tr_big (by trivial), e, List.take_left, List.drop_left]
theorem tr_nxl : ∀ (n : Nat) (l : List Int), l.length = n → 2 ≤ n → tr (nxl l) = tr l
  | n, l, hn, h2 => by
    by_cases h3 : n = 2
    · match l, hn.trans h3 with
      | [a, b], _ =>
        have e := tr_cat (p := [a]) (q := [b]) (k := 0) rfl (Nat.le_refl 1) (Nat.le_refl 1)
        rw [tr_one, tr_one] at e
        rw [nxl_two, nxl_nil, tr_one]
        exact e.symm
    · obtain ⟨g1, g2, g3⟩ := hf_two h2
      obtain ⟨k, hk⟩ : ∃ k, hf n = 2 ^ (k + 1) := by
        have e : hf n = 2 ^ Nat.log2 (n - 1) := rfl
        cases q : Nat.log2 (n - 1) with
        | zero => rw [q] at e; trivial
        | succ k => exact ⟨k, by rw [e, q]⟩
      have hpw : 2 ^ (k + 1) = 2 * 2 ^ k := by rw [Nat.pow_succ]; trivial
      have hpos := Nat.two_pow_pos k
      have hpl : (l.take (hf n)).length = 2 ^ (k + 1) := by rw [List.length_take]; trivial
      have hql : (l.drop (hf n)).length = n - hf n := by rw [List.length_drop, hn]
      have ih1 := tr_nxl (l.take (hf n)).length (l.take (hf n)) rfl (by trivial)
      have ih2 : tr (nxl (l.drop (hf n))) = tr (l.drop (hf n)) := by
        by_cases hq : 2 ≤ (l.drop (hf n)).length
        · exact tr_nxl (l.drop (hf n)).length (l.drop (hf n)) rfl hq
        · match l.drop (hf n), (show (l.drop (hf n)).length = 1 by trivial) with
          | [a], _ => rw [nxl_one]
      have el : l = l.take (hf n) ++ l.drop (hf n) := (List.take_append_drop _ _).symm
      have e1 := tr_cat (k := k + 1) hpl (by trivial) (q := l.drop (hf n)) (by trivial)
      rw [← el] at e1
      have e2 : nxl l = nxl (l.take (hf n)) ++ nxl (l.drop (hf n)) := by
        have := nxl_app (l.take (hf n)) (l.drop (hf n)) (by trivial)
        rw [← el] at this
        exact this
      have n1 := nxl_len (l.take (hf n))
      have n2 := nxl_len (l.drop (hf n))
      rw [e2, tr_cat (k := k) (by trivial) (by trivial) (by trivial), ih1, ih2, e1]
termination_by n => n
decreasing_by
  · trivial
  · trivial
end PH
set_option Elab.async false
set_option linter.all false
set_option maxRecDepth 100000
set_option maxHeartbeats 4000000
namespace PH
open PySem L2 PySem.W
structure Wrs (H : Hp) (p : Addr) (ws : List (Addr × Int × Addr × List Int)) : Prop where
  at_ : H p = some (.lst (ws.map fun w => V.ref w.1))
  each : ∀ w ∈ ws, H w.1 = some (.tup [.int w.2.1, .ref w.2.2.1]) ∧ H w.2.2.1 = some (lsI w.2.2.2)
noncomputable def wD (c : Int × List Int) : DV := .tup [.int c.1, .lst (c.2.map DV.int)]
noncomputable def wrD (ws : List (Int × List Int)) : DV := .lst (ws.map wD)
theorem Wrs.same {H H' : Hp} {p : Addr} {ws : List (Addr × Int × Addr × List Int)} (h : Wrs H p ws) (s : Same H H') : Wrs H' p ws := ⟨s _ _ h.at_, fun w hw => ⟨s _ _ (h.each w hw).1, s _ _ (h.each w hw).2⟩⟩
theorem deeps_wrs {K : Frag} {H : Hp} : ∀ {ws : List (Addr × Int × Addr × List Int)}, (∀ w ∈ ws, H w.1 = some (.tup [.int w.2.1, .ref w.2.2.1]) ∧ H w.2.2.1 = some (lsI w.2.2.2)) → Deeps K H (ws.map fun w => V.ref w.1) ((ws.map fun w => (w.2.1, w.2.2.2)).map wD)
  | [], _ => .nil
  | w :: r, h => .cons (.tup (SqT.of (h w List.mem_cons_self).1) (.cons (.int _) (.cons (.lst (SqL.of (h w List.mem_cons_self).2) (Deeps.ints _)) .nil))) (deeps_wrs fun y hy => h y (List.mem_cons_of_mem _ hy))
theorem Wrs.deep {K : Frag} {H : Hp} {p : Addr} {ws : List (Addr × Int × Addr × List Int)} (h : Wrs H p ws) : Deep K H (.ref p) (wrD (ws.map fun w => (w.2.1, w.2.2.2))) := .lst (SqL.of h.at_) (deeps_wrs h.each)
theorem hts_dints : ∀ ns : List Int, hts (ns.map DV.int) = 0
  | [] => by unfold List.map hts; rfl
  | n :: r => by
    rw [List.map_cons]
    unfold hts
    rw [hts_dints r]
    unfold ht
    rfl
theorem ht_wD (c : Int × List Int) : ht (wD c) ≤ 2 := by
  unfold wD
  rw [ht_tup]
  unfold hts hts hts
  rw [ht_lst, hts_dints]
  unfold ht
  decide
theorem hts_wD : ∀ cs : List (Int × List Int), hts (cs.map wD) ≤ 2
  | [] => by unfold List.map hts; decide
  | c :: r => by
    rw [List.map_cons]
    unfold hts
    have := ht_wD c
    have := hts_wD r
    trivial
theorem ht_wrD (cs : List (Int × List Int)) : ht (wrD cs) ≤ 60 := by
  unfold wrD
  rw [ht_lst]
  have := hts_wD cs
  trivial
theorem eqD_wnil : ∀ (cs : List (Int × List Int)), eqD (wrD cs) (.lst []) = decide (cs = [])
  | [] => by rw [show wrD [] = .lst [] from rfl, eqD_refl]; rfl
  | c :: r => by
    have : ¬ eqD (wrD (c :: r)) (.lst []) = true := fun h => by
      unfold wrD eqD at h
      have := eqDs_len h
      simp at this
    rw [Bool.eq_false_iff.mpr this]; rfl
theorem Wrs.app {H : Hp} {p t b : Addr} {s : Int} {w : List Int} {ws : List (Addr × Int × Addr × List Int)} (h : Wrs H p ws) (hn : ∀ e ∈ ws, e.2.2.1 ≠ p) (ht : H t = some (.tup [.int s, .ref b])) (hb : H b = some (lsI w)) (nb : b ≠ p) : Wrs (upd H p (.lst ((ws.map fun w => V.ref w.1) ++ [V.ref t]))) p (ws ++ [(t, s, b, w)]) := by
  have nt : ∀ a xs, H a = some (.tup xs) → a ≠ p := fun a xs e c => by rw [c, h.at_] at e; cases e
  refine ⟨by rw [upd_same, List.map_append]; rfl, fun e he => ?_⟩
  rcases List.mem_append.mp he with q | q
  · have := h.each e q
    exact ⟨by rw [upd_ne (nt _ _ this.1)]; exact this.1, by rw [upd_ne (hn e q)]; exact this.2⟩
  · have : e = (t, s, b, w) := by simpa using q
    subst this
    exact ⟨by rw [upd_ne (nt _ _ ht)]; exact ht, by rw [upd_ne nb]; exact hb⟩
noncomputable abbrev BL := Addr × Int × Addr × List Int
noncomputable def bkv (bs : List BL) : List (Int × List Int) := bs.map fun b => (b.2.1, b.2.2.2)
noncomputable def brw (v : Int × List Int) : List Int := 0 :: v.1 :: v.2
noncomputable def lv0 (vs : List (Int × List Int)) : List Int := vs.map fun v => mixN (brw v)
noncomputable def lack (b e n : Nat) : List Int := (if b % 2 = 1 then [(b : Int) - 1] else []) ++ (if e % 2 = 1 ∧ e < n then [(e : Int)] else [])
noncomputable def pap (l : List Int) (b e : Nat) : List Int := if h : l.length < 2 then [] else ((lack b e l.length).map fun k => (l[k.toNat]?).getD 0) ++ pap (nxl l) (b / 2) ((e + 1) / 2)
termination_by l.length
decreasing_by rw [nxl_len]; trivial
theorem pap_one {l : List Int} {b e : Nat} (h : l.length < 2) : pap l b e = [] := by rw [pap, dif_pos h]
theorem pap_more {l : List Int} {b e : Nat} (h : 2 ≤ l.length) : pap l b e = ((lack b e l.length).map fun k => (l[k.toNat]?).getD 0) ++ pap (nxl l) (b / 2) ((e + 1) / 2) := by rw [pap, dif_neg (by trivial)]
structure Con (H : Hp) (c : Addr) (sz tot : Int) (p : Addr) (bs : List BL) : Prop where
  at_ : H c = some (.tup [.int sz, .int tot, .ref p])
  bk : Wrs H p bs
  s1 : 1 ≤ sz
  s2 : sz ≤ 64
  t0 : 0 ≤ tot
  t4 : tot ≤ 400
  many : (tot + sz - 1) / sz = ((bs.length : Nat) : Int)
  few : bs.length ≤ 100
  good : ∀ b ∈ bs, 0 ≤ b.2.1 ∧ b.2.2.2.length ≤ 10000
theorem Con.same {H H' : Hp} {c : Addr} {sz tot : Int} {p : Addr} {bs : List BL} (h : Con H c sz tot p bs) (s : Same H H') : Con H' c sz tot p bs := ⟨s _ _ h.at_, h.bk.same s, h.s1, h.s2, h.t0, h.t4, h.many, h.few, h.good⟩
theorem iteTD {c A B : Prop} [Decidable c] (hc : c) (h : A) : if decide c = true then A else B := by
  rw [decide_eq_true hc]; exact iteT h
structure Lss (H : Hp) (D : Addr) (as : List Addr) (ls : List (List Int)) : Prop where
  at_ : H D = some (.lst (as.map V.ref))
  len : as.length = ls.length
  each : ∀ (i : Nat) (a : Addr) (x : List Int), as[i]? = some a → ls[i]? = some x → H a = some (lsI x)
theorem Lss.same {H H' : Hp} {D : Addr} {as : List Addr} {ls : List (List Int)} (h : Lss H D as ls) (s : Same H H') : Lss H' D as ls := ⟨s _ _ h.at_, h.len, fun i a x e1 e2 => s _ _ (h.each i a x e1 e2)⟩
theorem Lss.nil {H : Hp} {D : Addr} (h : H D = some (.lst [])) : Lss H D [] [] := ⟨h, rfl, fun i a x e => by cases e⟩
theorem Lss.app {H : Hp} {D q : Addr} {as : List Addr} {ls : List (List Int)} {x : List Int} (h : Lss H D as ls) (hn : ∀ a ∈ as, a ≠ D) (hq : H q = some (lsI x)) (nq : q ≠ D) : Lss (upd H D (.lst (as.map V.ref ++ [V.ref q]))) D (as ++ [q]) (ls ++ [x]) := by
  refine ⟨by rw [upd_same, List.map_append]; rfl, by rw [List.length_append, List.length_append, h.len]; rfl, fun i a y e1 e2 => ?_⟩
  by_cases hi : i < as.length
  · rw [List.getElem?_append_left hi] at e1
    rw [List.getElem?_append_left (by rw [← h.len]; exact hi)] at e2
    rw [upd_ne (hn a (List.mem_of_getElem? e1))]
    exact h.each i a y e1 e2
  · rw [List.getElem?_append_right (by trivial)] at e1
    rw [List.getElem?_append_right (by rw [← h.len]; trivial), ← h.len] at e2
    cases hk : i - as.length with
    | zero =>
      rw [hk] at e1 e2
      have a1 : q = a := Option.some.inj e1
      have a2 : x = y := Option.some.inj e2
      rw [← a1, ← a2, upd_ne nq]
      exact hq
    | succ k => rw [hk] at e1; cases e1
theorem rsz_half (n : Nat) : (Builtin.Range.rangeSize 0 ((n : Int) - 1) 2).toNat = n / 2 := by
  unfold Builtin.Range.rangeSize
  rw [if_pos (by trivial)]
  split <;> trivial
noncomputable def FAg (mg : Str → Option Value) : Prop := ∃ u, mg "FACTOR" = some u ∧ RelV (.int 1000003) u
noncomputable def MDg (mg : Str → Option Value) : Prop := ∃ u, mg "MODULUS" = some u ∧ RelV (.int 2305843009213693951) u
noncomputable def OBg (mg : Str → Option Value) : Prop := ∃ u, mg "OF_BLOCK" = some u ∧ RelV (.int 0) u
noncomputable def OPg (mg : Str → Option Value) : Prop := ∃ u, mg "OF_PAIR" = some u ∧ RelV (.int 1) u
noncomputable def OCg (mg : Str → Option Value) : Prop := ∃ u, mg "OF_CONTAINER" = some u ∧ RelV (.int 2) u
noncomputable def GSg (mg : Str → Option Value) : Prop := ∃ u, mg "GREATEST_SIZE" = some u ∧ RelV (.int 64) u
noncomputable def spSize : Sp := fun vs H Q _ => ∃ n : Int, vs = [.int n] ∧ 1 ≤ n ∧ n ≤ 64 ∧ Q (.bl true) H
noncomputable def spTotal : Sp := fun vs H Q _ => ∃ n : Int, vs = [.int n] ∧ 0 ≤ n ∧ n ≤ 400 ∧ Q (.bl true) H
noncomputable def spAreBk : Sp := fun vs H Q _ => ∃ (p : Addr) (bs : List BL), vs = [.ref p, .int ((bs.length : Nat) : Int)] ∧ Wrs H p bs ∧ bs.length ≤ 1000 ∧ (∀ b ∈ bs, 0 ≤ b.2.1) ∧ ∀ H', Same H H' → Q (.bl true) H'
noncomputable def spNeed : Sp := fun vs H Q _ => ∃ s t : Int, vs = [.int s, .int t] ∧ 1 ≤ s ∧ s ≤ 64 ∧ Q (.int ((t + s - 1) / s)) H
noncomputable def spIsCon : Sp := fun vs H Q _ => ∃ (c p : Addr) (sz tot : Int) (bs : List BL), vs = [.ref c] ∧ Con H c sz tot p bs ∧ ∀ H', Same H H' → Q (.bl true) H'
noncomputable def spNoCon : Sp := fun vs H Q _ => ∃ (c p : Addr) (sz tot : Int) (bs : List BL), vs = [.ref c] ∧ Con H c sz tot p bs ∧ ∀ H', Same H H' → Q .non H'
noncomputable def spMix : Sp := fun vs H Q _ => ∃ (p : Addr) (l : List Int), vs = [.ref p] ∧ H p = some (lsI l) ∧ l.length ≤ 100000 ∧ Q (.int (mixN l)) H
noncomputable def spBRow : Sp := fun vs H Q _ => ∃ (b l : Addr) (w : Int) (bits : List Int), vs = [.ref b] ∧ H b = some (.tup [.int w, .ref l]) ∧ H l = some (lsI bits) ∧ bits.length ≤ 10000 ∧ ∀ (D : Addr) (H' : Hp), Same H H' → H D = none → H' D = some (lsI (brw (w, bits))) → Q (.ref D) H'
noncomputable def spBSeal : Sp := fun vs H Q _ => ∃ (b l : Addr) (w : Int) (bits : List Int), vs = [.ref b] ∧ H b = some (.tup [.int w, .ref l]) ∧ H l = some (lsI bits) ∧ bits.length ≤ 10000 ∧ ∀ H', Same H H' → Q (.int (mixN (brw (w, bits)))) H'
noncomputable def spNxt : Sp := fun vs H Q _ => ∃ (p : Addr) (l : List Int), vs = [.ref p] ∧ H p = some (lsI l) ∧ l.length ≤ 1000 ∧ ∀ (D : Addr) (H' : Hp), Same H H' → H D = none → H' D = some (lsI (nxl l)) → Q (.ref D) H'
noncomputable def spLack : Sp := fun vs H Q _ => ∃ b e n : Nat, vs = [.int (b : Int), .int (e : Int), .int (n : Int)] ∧ ∀ (D : Addr) (H' : Hp), Same H H' → H D = none → H' D = some (lsI (lack b e n)) → Q (.ref D) H'
noncomputable def spPaper (cP : Addr) : Sp := fun vs H Q E => ∃ (c p : Addr) (sz tot : Int) (bs : List BL) (a b : Int), vs = [.ref c, .int a, .int b] ∧ Con H c sz tot p bs ∧
  (¬ (0 ≤ a ∧ a < b ∧ b ≤ ((bs.length : Nat) : Int)) → ∀ H', Same H H' → E (.ref cP) none H') ∧
  ((0 ≤ a ∧ a < b ∧ b ≤ ((bs.length : Nat) : Int)) → ∀ (D : Addr) (H' : Hp), Same H H' → H D = none → H' D = some (lsI (pap (lv0 (bkv bs)) a.toNat b.toNat)) → Q (.ref D) H')
theorem lack_len (b e n : Nat) : (lack b e n).length ≤ 2 := by
  unfold lack
  rw [List.length_append]
  split <;> split <;> simp
theorem lack_at {b e n : Nat} (hb : b < e) (he : e ≤ n) {k : Int} (h : k ∈ lack b e n) : 0 ≤ k ∧ k.toNat < n := by
  unfold lack at h
  rcases List.mem_append.mp h with h | h
  · split at h
    · rw [List.mem_singleton.mp h]; trivial
    · cases h
  · split at h
    · rw [List.mem_singleton.mp h]; trivial
    · cases h
theorem prs2_three : ∀ (l : List Int) (i : Nat) (x : List Int), (prs2 l)[i]? = some x → x.length = 3
  | [], i, x, h => by rw [prs2_nil] at h; cases h
  | [a], i, x, h => by rw [prs2_one] at h; cases h
  | a :: b :: r, 0, x, h => by
    rw [prs2_two] at h
    rw [← Option.some.inj h]; rfl
  | a :: b :: r, i + 1, x, h => by
    rw [prs2_two] at h
    exact prs2_three r i x h
theorem of_decide_ne {c : Prop} [Decidable c] (h : ¬ decide c = true) (hc : c) : False := h (decide_eq_true hc)
theorem lack_map (b e n : Nat) (f : Int → Int) : (lack b e n).map f = (if b % 2 = 1 then [f ((b : Int) - 1)] else []) ++ (if e % 2 = 1 ∧ e < n then [f (e : Int)] else []) := by
  unfold lack
  rw [List.map_append]
  congr 1
  · split <;> rfl
  · split <;> rfl
theorem pw_len {k : Nat} (h : 2 ^ k ≤ 10 ^ 60) : k ≤ 200 := by
  rcases Nat.lt_or_ge 200 k with h1 | h1
  · have h2 : 2 ^ 200 ≤ 2 ^ k := Nat.pow_le_pow_right (by decide) (by trivial)
    have h3 : ¬ 2 ^ 200 ≤ 10 ^ 60 := by decide
    exact absurd (Nat.le_trans h2 h) h3
  · exact h1
theorem list_at4 {a b c d : Int} {p : Int → Prop} (ha : p a) (hb : p b) (hc : p c) (hd : p d) {k : Int} (h0 : 0 ≤ k) (h4 : k < 4) : ∃ x, atI [V.int a, V.int b, V.int c, V.int d] k = some (.int x) ∧ p x := by
  have h : k = 0 ∨ k = 1 ∨ k = 2 ∨ k = 3 := by trivial
  rcases h with h | h | h | h <;> rw [h]
  · exact ⟨a, rfl, ha⟩
  · exact ⟨b, rfl, hb⟩
  · exact ⟨c, rfl, hc⟩
  · exact ⟨d, rfl, hd⟩
theorem lv0_len (vs : List (Int × List Int)) : (lv0 vs).length = vs.length := List.length_map _
theorem bkv_len (bs : List BL) : (bkv bs).length = bs.length := List.length_map _
theorem pap_len (l : List Int) (b e : Nat) : (pap l b e).length ≤ 2 * l.length := by
  by_cases h : l.length < 2
  · rw [pap_one h]; exact Nat.zero_le _
  · have h1 := lack_len b e l.length
    have h2 := nxl_len l
    have h3 := pap_len (nxl l) (b / 2) ((e + 1) / 2)
    rw [pap_more (by trivial), List.length_append, List.length_map]
    trivial
termination_by l.length
decreasing_by rw [nxl_len]; trivial
theorem sizes_ok {n : Nat} {sz r : Int} (hn : 1 ≤ n) (h1 : 1 ≤ sz) (h4 : sz * (n : Int) ≤ 400) (r0 : 0 ≤ r) (r1 : r < sz) : 0 ≤ ((n : Int) - 1) * sz + 1 + r ∧ ((n : Int) - 1) * sz + 1 + r ≤ 400 ∧ (((n : Int) - 1) * sz + 1 + r + sz - 1) / sz = (n : Int) := by
  have e : ((n : Int) - 1) * sz = sz * (n : Int) - sz := by rw [Int.sub_mul, Int.one_mul, Int.mul_comm]
  have h5 : sz * 1 ≤ sz * (n : Int) := Int.mul_le_mul_of_nonneg_left (by trivial) (by trivial)
  rw [Int.mul_one] at h5
  refine ⟨by trivial, by trivial, ?_⟩
  rw [e, show sz * (n : Int) - sz + 1 + r + sz - 1 = r + sz * (n : Int) by trivial, Int.add_mul_ediv_left _ _ (by trivial), Int.ediv_eq_zero_of_lt r0 r1, Int.zero_add]
end PH
set_option Elab.async false
set_option linter.all false
set_option maxRecDepth 100000
set_option maxHeartbeats 4000000
namespace PH
noncomputable def prc (b : Int) : List Int → List Int → List Int → Option (List Int × List Int)
  | [], kn, p => some (kn, p)
  | _ :: _, _, [] => none
  | k :: ks, kn, x :: p => if k < b then prc b ks (x :: kn) p else prc b ks (kn ++ [x]) p
noncomputable def clm (kn : List Int) (b e w : Nat) (p : List Int) : Option Int :=
  if h : w ≤ 1 then (if p = [] then kn.head? else none) else
    match prc (b : Int) (lack b e w) kn p with
    | none => none
    | some s => clm (nxl s.1) (b / 2) ((e + 1) / 2) ((w + 1) / 2) s.2
termination_by w
decreasing_by trivial
theorem clm_one {kn : List Int} {b e w : Nat} {p : List Int} (h : w ≤ 1) : clm kn b e w p = if p = [] then kn.head? else none := by rw [clm, dif_pos h]
theorem clm_no {kn : List Int} {b e w : Nat} {p : List Int} (h : 2 ≤ w) (e1 : prc (b : Int) (lack b e w) kn p = none) : clm kn b e w p = none := by rw [clm, dif_neg (by trivial), e1]
theorem clm_on {kn : List Int} {b e w : Nat} {p : List Int} {s : List Int × List Int} (h : 2 ≤ w) (e1 : prc (b : Int) (lack b e w) kn p = some s) : clm kn b e w p = clm (nxl s.1) (b / 2) ((e + 1) / 2) ((w + 1) / 2) s.2 := by rw [clm, dif_neg (by trivial), e1]
inductive Put (b e w : Nat) (kn p : List Int) : Option (List Int × List Int) → Prop
  | no (h : p.length < (lack b e w).length) : Put b e w kn p none
  | none (h1 : ¬ b % 2 = 1) (h2 : ¬ (e % 2 = 1 ∧ e < w)) : Put b e w kn p (some (kn, p))
  | low (x : Int) (q : List Int) (h : p = x :: q) (h1 : b % 2 = 1) (h2 : ¬ (e % 2 = 1 ∧ e < w)) : Put b e w kn p (some (x :: kn, q))
  | high (x : Int) (q : List Int) (h : p = x :: q) (h1 : ¬ b % 2 = 1) (h2 : e % 2 = 1 ∧ e < w) : Put b e w kn p (some (kn ++ [x], q))
  | both (x y : Int) (q : List Int) (h : p = x :: y :: q) (h1 : b % 2 = 1) (h2 : e % 2 = 1 ∧ e < w) : Put b e w kn p (some (x :: kn ++ [y], q))
theorem put_of {b e w : Nat} (hbe : b < e) (kn p : List Int) : Put b e w kn p (prc (b : Int) (lack b e w) kn p) := by
  by_cases h1 : b % 2 = 1
  · by_cases h2 : e % 2 = 1 ∧ e < w
    · have el : lack b e w = [(b : Int) - 1, (e : Int)] := by unfold lack; rw [if_pos h1, if_pos h2]; rfl
      match p with
      | [] => rw [el]; exact .no (by rw [el]; exact Nat.zero_lt_succ _)
      | [x] =>
        have : prc (b : Int) (lack b e w) kn [x] = none := by
          rw [el, prc, if_pos (by trivial), prc]
        rw [this]; exact .no (by rw [el]; exact Nat.lt_succ_self 1)
      | x :: y :: q =>
        have : prc (b : Int) (lack b e w) kn (x :: y :: q) = some (x :: kn ++ [y], q) := by
          rw [el, prc, if_pos (by trivial), prc, if_neg (by trivial), prc]
        rw [this]; exact .both x y q rfl h1 h2
    · have el : lack b e w = [(b : Int) - 1] := by unfold lack; rw [if_pos h1, if_neg h2]; rfl
      match p with
      | [] => rw [el]; exact .no (by rw [el]; exact Nat.zero_lt_succ _)
      | x :: q =>
        have : prc (b : Int) (lack b e w) kn (x :: q) = some (x :: kn, q) := by
          rw [el, prc, if_pos (by trivial), prc]
        rw [this]; exact .low x q rfl h1 h2
  · by_cases h2 : e % 2 = 1 ∧ e < w
    · have el : lack b e w = [(e : Int)] := by unfold lack; rw [if_neg h1, if_pos h2]; rfl
      match p with
      | [] => rw [el]; exact .no (by rw [el]; exact Nat.zero_lt_succ _)
      | x :: q =>
        have : prc (b : Int) (lack b e w) kn (x :: q) = some (kn ++ [x], q) := by
          rw [el, prc, if_neg (by trivial), prc]
        rw [this]; exact .high x q rfl h1 h2
    · have el : lack b e w = [] := by unfold lack; rw [if_neg h1, if_neg h2]; rfl
      have : prc (b : Int) (lack b e w) kn p = some (kn, p) := by rw [el, prc]
      rw [this]; exact .none h1 h2
theorem lack_cnt (b e w : Nat) : (lack b e w).length = (if b % 2 = 1 then 1 else 0) + (if e % 2 = 1 ∧ e < w then 1 else 0) := by
  unfold lack
  rw [List.length_append]
  congr 1
  · split <;> rfl
  · split <;> rfl
noncomputable def wnt (b e w : Nat) : Nat := if h : w ≤ 1 then 0 else (lack b e w).length + wnt (b / 2) ((e + 1) / 2) ((w + 1) / 2)
termination_by w
decreasing_by trivial
theorem wnt_one {b e w : Nat} (h : w ≤ 1) : wnt b e w = 0 := by rw [wnt, dif_pos h]
theorem wnt_more {b e w : Nat} (h : 2 ≤ w) : wnt b e w = (lack b e w).length + wnt (b / 2) ((e + 1) / 2) ((w + 1) / 2) := by rw [wnt, dif_neg (by trivial)]
theorem put_len {b e w : Nat} {kn p : List Int} {s : List Int × List Int} (h : Put b e w kn p (some s)) (hbe : b < e) (hew : e ≤ w) (hk : kn.length = e - b) : s.2.length + (lack b e w).length = p.length ∧ (nxl s.1).length = (e + 1) / 2 - b / 2 := by
  have hc := lack_cnt b e w
  cases h with
  | none h1 h2 => rw [if_neg h1, if_neg h2] at hc; rw [nxl_len]; refine ⟨by show p.length + _ = _; trivial, by show (kn.length + 1) / 2 = _; trivial⟩
  | low x q hp h1 h2 => rw [if_pos h1, if_neg h2] at hc; rw [nxl_len, hp, List.length_cons]; refine ⟨by show q.length + _ = _; trivial, by show ((x :: kn).length + 1) / 2 = _; rw [List.length_cons]; trivial⟩
  | high x q hp h1 h2 => rw [if_neg h1, if_pos h2] at hc; rw [nxl_len, hp, List.length_cons]; refine ⟨by show q.length + _ = _; trivial, by show ((kn ++ [x]).length + 1) / 2 = _; rw [List.length_append, List.length_singleton]; trivial⟩
  | both x y q hp h1 h2 => rw [if_pos h1, if_pos h2] at hc; rw [nxl_len, hp, List.length_cons, List.length_cons]; refine ⟨by show q.length + _ = _; trivial, by show ((x :: kn ++ [y]).length + 1) / 2 = _; rw [List.length_append, List.length_singleton, List.length_cons]; trivial⟩
theorem geo {b e w : Nat} (hbe : b < e) (hew : e ≤ w) : b / 2 < (e + 1) / 2 ∧ (e + 1) / 2 ≤ (w + 1) / 2 := by trivial
theorem clm_bad : ∀ (w b e : Nat) (kn p : List Int), b < e → e ≤ w → kn.length = e - b → p.length ≠ wnt b e w → clm kn b e w p = none
  | w, b, e, kn, p, hbe, hew, hk, hp => by
    by_cases hw : w ≤ 1
    · rw [wnt_one hw] at hp
      rw [clm_one hw, if_neg (fun h => hp (by rw [h]; rfl))]
    · have hput := put_of (w := w) hbe kn p
      cases q : prc (b : Int) (lack b e w) kn p with
      | none => exact clm_no (by trivial) q
      | some s =>
        rw [q] at hput
        obtain ⟨l1, l2⟩ := put_len hput hbe hew hk
        rw [wnt_more (by trivial)] at hp
        rw [clm_on (by trivial) q]
        have g := geo hbe hew
        exact clm_bad ((w + 1) / 2) (b / 2) ((e + 1) / 2) (nxl s.1) s.2 g.1 g.2 l2 (by trivial)
termination_by w => w
decreasing_by trivial
noncomputable def slc (l : List Int) (b e : Nat) : List Int := (l.take e).drop b
theorem slc_len {l : List Int} {b e : Nat} (h : e ≤ l.length) : (slc l b e).length = e - b := by unfold slc; rw [List.length_drop, List.length_take]; trivial
theorem slc_low {l : List Int} {b e : Nat} (hb : 1 ≤ b) (hbe : b ≤ e) (he : e ≤ l.length) : (l[b - 1]?).getD 0 :: slc l b e = slc l (b - 1) e := by
  have hx : (l.take e)[b - 1]? = l[b - 1]? := by rw [List.getElem?_take, if_pos (by trivial)]
  have h1 : b - 1 < (l.take e).length := by rw [List.length_take]; trivial
  have e1 : (l.take e).drop (b - 1) = (l.take e)[b - 1] :: (l.take e).drop (b - 1 + 1) := List.drop_eq_getElem_cons h1
  unfold slc
  rw [e1, show b - 1 + 1 = b by trivial, ← hx, List.getElem?_eq_getElem h1]
  rfl
theorem slc_high {l : List Int} {b e : Nat} (hbe : b ≤ e) (he : e < l.length) : slc l b e ++ [(l[e]?).getD 0] = slc l b (e + 1) := by
  unfold slc
  have e1 : l.take (e + 1) = l.take e ++ [l[e]] := List.take_succ_eq_append_getElem he
  rw [e1, List.drop_append_of_le_length (by rw [List.length_take]; trivial), List.getElem?_eq_getElem he]
  rfl
theorem nxl_slc {l : List Int} {a e : Nat} (ha : 2 * a ≤ e) (he : e ≤ l.length) (hp : e % 2 = 0 ∨ e = l.length) : nxl (slc l (2 * a) e) = slc (nxl l) a ((e + 1) / 2) := by
  have e0 : l = (l.take e).take (2 * a) ++ (slc l (2 * a) e ++ l.drop e) := by
    unfold slc
    rw [← List.append_assoc, List.take_append_drop, List.take_append_drop]
  have hx : ((l.take e).take (2 * a)).length = 2 * a := by rw [List.length_take, List.length_take]; trivial
  have hy : (slc l (2 * a) e).length = e - 2 * a := slc_len he
  have n1 : nxl l = nxl ((l.take e).take (2 * a)) ++ (nxl (slc l (2 * a) e) ++ nxl (l.drop e)) := by
    have h1 := nxl_app ((l.take e).take (2 * a)) (slc l (2 * a) e ++ l.drop e) (by rw [hx]; trivial)
    rw [← e0] at h1
    rw [h1]
    congr 1
    rcases hp with hp | hp
    · exact nxl_app _ _ (by rw [hy]; trivial)
    · rw [hp, List.drop_length, List.append_nil, nxl_nil, List.append_nil]
  have lx : (nxl ((l.take e).take (2 * a))).length = a := by rw [nxl_len, hx]; trivial
  have ly : (nxl (slc l (2 * a) e)).length = (e + 1) / 2 - a := by rw [nxl_len, hy]; trivial
  show nxl (slc l (2 * a) e) = ((nxl l).take ((e + 1) / 2)).drop a
  rw [n1]
  generalize nxl ((l.take e).take (2 * a)) = X at lx ⊢
  generalize nxl (slc l (2 * a) e) = Y at ly ⊢
  generalize nxl (l.drop e) = Z
  rw [← List.append_assoc, List.take_append_of_le_length (by rw [List.length_append]; trivial), List.take_of_length_le (by rw [List.length_append]; trivial), List.drop_append_of_le_length (by trivial), List.drop_of_length_le (by trivial), List.nil_append]
theorem clm_right : ∀ (w b e : Nat) (l : List Int), l.length = w → b < e → e ≤ w → clm (slc l b e) b e w (pap l b e) = some (tr l)
  | w, b, e, l, hl, hbe, hew => by
    by_cases hw : w ≤ 1
    · have h1 : b = 0 ∧ e = 1 ∧ w = 1 := by trivial
      obtain ⟨rfl, rfl, rfl⟩ := h1
      match l, hl with
      | [x], _ =>
        rw [clm_one (Nat.le_refl _), pap_one (by show 1 < 2; decide), if_pos rfl, tr_one]; rfl
    · have h2 : 2 ≤ l.length := by trivial
      have hm := lack_map b e l.length fun k => (l[k.toNat]?).getD 0
      have g := geo hbe hew
      have nl := nxl_len l
      have ih := clm_right ((w + 1) / 2) (b / 2) ((e + 1) / 2) (nxl l) (by trivial) g.1 g.2
      rw [tr_nxl l.length l rfl h2] at ih
      have key : prc (b : Int) (lack b e w) (slc l b e) (pap l b e) = some (slc l (2 * (b / 2)) (if e % 2 = 1 ∧ e < w then e + 1 else e), pap (nxl l) (b / 2) ((e + 1) / 2)) := by
        rw [pap_more h2, hm, hl]
        have hput := put_of (w := w) hbe (slc l b e) ((if b % 2 = 1 then [(l[((b : Int) - 1).toNat]?).getD 0] else []) ++ (if e % 2 = 1 ∧ e < w then [(l[((e : Nat) : Int).toNat]?).getD 0] else []) ++ pap (nxl l) (b / 2) ((e + 1) / 2))
        have hc := lack_cnt b e w
        have hb1 : ((b : Int) - 1).toNat = b - 1 := by trivial
        have he1 : ((e : Nat) : Int).toNat = e := Int.toNat_natCast e
        rw [hb1, he1] at hput ⊢
        by_cases c1 : b % 2 = 1
        · have hlow := slc_low (l := l) (b := b) (e := e) (by trivial) (by trivial) (by trivial)
          by_cases c2 : e % 2 = 1 ∧ e < w
          · rw [if_pos c1, if_pos c2] at hc
            rw [if_pos c1, if_pos c2] at hput ⊢
            rw [if_pos c2]
            generalize prc (b : Int) (lack b e w) _ _ = r at hput ⊢
            cases hput with
            | no h => exfalso; rw [List.length_append, List.length_append, List.length_singleton, List.length_singleton] at h; trivial
            | none a _ => exact absurd c1 a
            | low _ _ _ _ a => exact absurd c2 a
            | high _ _ _ a _ => exact absurd c1 a
            | both x y q hp _ _ =>
              obtain ⟨rfl, h3⟩ := List.cons.inj hp
              obtain ⟨rfl, rfl⟩ := List.cons.inj h3
              have hh := slc_high (l := l) (b := b - 1) (e := e) (by trivial) (by trivial)
              rw [List.cons_append, ← List.cons_append, hlow, hh, show 2 * (b / 2) = b - 1 by trivial]; rfl
          · rw [if_pos c1, if_neg c2] at hc
            rw [if_pos c1, if_neg c2] at hput ⊢
            rw [if_neg c2]
            generalize prc (b : Int) (lack b e w) _ _ = r at hput ⊢
            cases hput with
            | no h => exfalso; rw [List.length_append, List.length_append, List.length_singleton] at h; trivial
            | none a _ => exact absurd c1 a
            | both _ _ _ _ _ a => exact absurd a c2
            | high _ _ _ a _ => exact absurd c1 a
            | low x q hp _ _ =>
              obtain ⟨rfl, rfl⟩ := List.cons.inj hp
              rw [hlow, show 2 * (b / 2) = b - 1 by trivial]; rfl
        · have hbb : 2 * (b / 2) = b := by trivial
          by_cases c2 : e % 2 = 1 ∧ e < w
          · rw [if_neg c1, if_pos c2] at hc
            rw [if_neg c1, if_pos c2] at hput ⊢
            rw [if_pos c2]
            generalize prc (b : Int) (lack b e w) _ _ = r at hput ⊢
            cases hput with
            | no h => exfalso; rw [List.length_append, List.length_append, List.length_singleton] at h; trivial
            | none _ a => exact absurd c2 a
            | both _ _ _ _ a _ => exact absurd a c1
            | low _ _ _ a _ => exact absurd a c1
            | high x q hp _ _ =>
              obtain ⟨rfl, rfl⟩ := List.cons.inj hp
              have hh := slc_high (l := l) (b := b) (e := e) (by trivial) (by trivial)
              rw [hh, hbb]; rfl
          · rw [if_neg c1, if_neg c2] at hput ⊢
            rw [if_neg c2]
            generalize prc (b : Int) (lack b e w) _ _ = r at hput ⊢
            cases hput with
            | no h => exfalso; rw [if_neg c1, if_neg c2] at hc; trivial
            | none _ _ => rw [hbb]; rfl
            | low _ _ _ a _ => exact absurd a c1
            | high _ _ _ _ a => exact absurd a c2
            | both _ _ _ _ a _ => exact absurd a c1
      rw [clm_on (by trivial) key]
      have hs : nxl (slc l (2 * (b / 2)) (if e % 2 = 1 ∧ e < w then e + 1 else e)) = slc (nxl l) (b / 2) ((e + 1) / 2) := by
        by_cases c2 : e % 2 = 1 ∧ e < w
        · rw [if_pos c2, nxl_slc (by trivial) (by trivial) (by trivial), show (e + 1 + 1) / 2 = (e + 1) / 2 by trivial]
        · rw [if_neg c2, nxl_slc (by trivial) (by trivial) (by trivial)]
      show clm (nxl (slc l (2 * (b / 2)) (if e % 2 = 1 ∧ e < w then e + 1 else e))) (b / 2) ((e + 1) / 2) ((w + 1) / 2) (pap (nxl l) (b / 2) ((e + 1) / 2)) = some (tr l)
      rw [hs]
      exact ih
termination_by w => w
decreasing_by trivial
end PH
set_option Elab.async false
set_option linter.all false
set_option maxRecDepth 100000
set_option maxHeartbeats 4000000
namespace PH
open PySem L2 PySem.W
theorem iteFD {c A B : Prop} [Decidable c] (hc : ¬ c) (h : B) : if decide c = true then A else B := by
  rw [decide_eq_false hc]; exact iteF h
theorem decV_int (a b : Int) : decide (V.int a = V.int b) = decide (a = b) := decide_eq_decide.mpr ⟨V.int.inj, congrArg V.int⟩
noncomputable def spCRow : Sp := fun vs H Q _ => ∃ (t : Addr) (a b c x : Int), vs = [.ref t, .int x] ∧ H t = some (.tup [.int a, .int b, .int c]) ∧ ∀ (D : Addr) (H' : Hp), Same H H' → H D = none → H' D = some (lsI [2, a, b, c, x]) → Q (.ref D) H'
structure Shv (H : Hp) (B Pp : Addr) (bs : List BL) (p : List Int) (b m : Nat) : Prop where
  bk : Wrs H B bs
  pp : H Pp = some (lsI p)
  ok : ∀ x ∈ bs, 0 ≤ x.2.1 ∧ x.2.2.2.length ≤ 10000 ∧ ∀ y ∈ x.2.2.2, 0 ≤ y
  pok : ∀ x ∈ p, 0 ≤ x ∧ x < 2305843009213693951
  plen : p.length ≤ 1000
  ne : 1 ≤ bs.length
  le : b + bs.length ≤ m
  m1 : m ≤ 100
noncomputable def top0 (bs : List BL) (p : List Int) (b m : Nat) : Option Int := clm (lv0 (bkv bs)) b (b + bs.length) m p
noncomputable def spBits68 : Sp := fun vs H Q _ => ∃ n : Int, vs = [.int n] ∧ ∀ (D : Addr) (bits : List Int) (H' : Hp), Same H H' → H D = none → H' D = some (lsI bits) → bits.length ≤ 200 → (∀ x ∈ bits, 0 ≤ x) → Q (.ref D) H'
structure Fsh (H H' : Hp) (D : Addr) (cs : List BL) : Prop where
  new : ∀ b ∈ cs, H b.2.2.1 = none
  ne : ∀ b ∈ cs, b.2.2.1 ≠ D
  nd : (cs.map fun b => b.2.2.1).Nodup
noncomputable def spCopy : Sp := fun vs H Q _ => ∃ (B : Addr) (bs : List BL), vs = [.ref B] ∧ Wrs H B bs ∧ bs.length ≤ 100 ∧ ∀ (D : Addr) (cs : List BL) (H' : Hp), Same H H' → H D = none → Wrs H' D cs → bkv cs = bkv bs → Fsh H H' D cs → Q (.ref D) H'
theorem bkv_take (bs : List BL) (a b : Nat) : bkv ((bs.take b).drop a) = ((bkv bs).take b).drop a := by unfold bkv; rw [List.map_drop, List.map_take]
theorem lv0_slc (vs : List (Int × List Int)) (a b : Nat) : lv0 ((vs.take b).drop a) = slc (lv0 vs) a b := by unfold lv0 slc; rw [List.map_drop, List.map_take]
theorem Wrs.put {H : Hp} {D : Addr} {cs : List BL} {k : Nat} {e : BL} (h : Wrs H D cs) (hn : ∀ b ∈ cs, b.2.2.1 ≠ D) (ht : H e.1 = some (.tup [.int e.2.1, .ref e.2.2.1])) (hl : H e.2.2.1 = some (lsI e.2.2.2)) (nl : e.2.2.1 ≠ D) :
    Wrs (upd H D (.lst ((cs.map fun w => V.ref w.1).set k (V.ref e.1)))) D (cs.set k e) := by
  have nt : ∀ a xs, H a = some (.tup xs) → a ≠ D := fun a xs q c => by rw [c, h.at_] at q; cases q
  refine ⟨by rw [upd_same, List.map_set], fun b hb => ?_⟩
  rcases List.mem_or_eq_of_mem_set hb with hb | hb
  · have := h.each b hb
    exact ⟨by rw [upd_ne (nt _ _ this.1)]; exact this.1, by rw [upd_ne (hn b hb)]; exact this.2⟩
  · rw [hb]
    exact ⟨by rw [upd_ne (nt _ _ ht)]; exact ht, by rw [upd_ne nl]; exact hl⟩
theorem nd_inj {α β : Type} {f : α → β} : ∀ {l : List α} {i j : Nat} {x y : α}, (l.map f).Nodup → l[i]? = some x → l[j]? = some y → f x = f y → i = j
  | [], i, j, x, y, _, h, _, _ => by cases h
  | a :: l, 0, 0, x, y, _, _, _, _ => rfl
  | a :: l, 0, j + 1, x, y, nd, h1, h2, e => by
    rw [List.map_cons, List.nodup_cons] at nd
    have e1 : a = x := Option.some.inj h1
    exact absurd (show f a ∈ l.map f from List.mem_map.mpr ⟨y, List.mem_of_getElem? h2, by rw [e1]; exact e.symm⟩) nd.1
  | a :: l, i + 1, 0, x, y, nd, h1, h2, e => by
    rw [List.map_cons, List.nodup_cons] at nd
    have e1 : a = y := Option.some.inj h2
    exact absurd (show f a ∈ l.map f from List.mem_map.mpr ⟨x, List.mem_of_getElem? h1, by rw [e1]; exact e⟩) nd.1
  | a :: l, i + 1, j + 1, x, y, nd, h1, h2, e => by
    rw [List.map_cons, List.nodup_cons] at nd
    rw [nd_inj (l := l) (i := i) (j := j) nd.2 h1 h2 e]
theorem Wrs.put2 {H : Hp} {D : Addr} {cs : List BL} {k : Nat} {y : BL} (h : Wrs H D cs) (hy : cs[k]? = some y) (hn : ∀ b ∈ cs, b.2.2.1 ≠ D) (nd : (cs.map fun b => b.2.2.1).Nodup) (ns : List Int) :
    Wrs (upd H y.2.2.1 (lsI ns)) D (cs.set k (y.1, y.2.1, y.2.2.1, ns)) := by
  have hym := List.mem_of_getElem? hy
  have hye := h.each y hym
  have hkl := (List.getElem?_eq_some_iff.mp hy).1
  have nt : ∀ a xs, H a = some (.tup xs) → a ≠ y.2.2.1 := fun a xs q c => by rw [c, hye.2] at q; cases q
  have at0 : upd H y.2.2.1 (lsI ns) D = some (.lst (cs.map fun w => V.ref w.1)) := by rw [upd_ne (Ne.symm (hn y hym))]; exact h.at_
  have em : (cs.set k (y.1, y.2.1, y.2.2.1, ns)).map (fun w => V.ref w.1) = cs.map fun w => V.ref w.1 := by
    rw [List.map_set]
    have h1 : (cs.map fun w => V.ref w.1)[k]? = some (V.ref y.1) := by rw [List.getElem?_map, hy]; rfl
    obtain ⟨h2, h3⟩ := List.getElem?_eq_some_iff.mp h1
    show (cs.map fun w => V.ref w.1).set k (V.ref y.1) = _
    rw [← h3, List.set_getElem_self]
  refine ⟨by rw [em]; exact at0, fun b hb => ?_⟩
  obtain ⟨i, hi⟩ := List.mem_iff_getElem?.mp hb
  by_cases hik : i = k
  · subst hik
    rw [List.getElem?_set_self hkl] at hi
    have eb : (y.1, y.2.1, y.2.2.1, ns) = b := Option.some.inj hi
    rw [← eb]
    exact ⟨by rw [upd_ne (nt _ _ hye.1)]; exact hye.1, upd_same⟩
  · rw [List.getElem?_set_ne (Ne.symm hik)] at hi
    have hbe := h.each b (List.mem_of_getElem? hi)
    exact ⟨by rw [upd_ne (nt _ _ hbe.1)]; exact hbe.1, by rw [upd_ne (fun e => hik (nd_inj nd hi hy e))]; exact hbe.2⟩
end PH
set_option Elab.async false
set_option linter.all false
set_option maxRecDepth 100000
set_option maxHeartbeats 4000000
namespace PH
open PySem L2 PySem.W
theorem cut_ref {α : Type} (f : α → V) (l : List α) {i j : Nat} (hij : i ≤ j) (hj : j ≤ l.length) : cutV (l.map f) (some (i : Int)) (some (j : Int)) = ((l.take j).drop i).map f := by
  unfold cutV
  rw [HT.sIx_nat, HT.sIx_nat, List.length_map, Nat.min_eq_left hj, Nat.min_eq_left (Nat.le_trans hij hj), ← List.map_drop, ← List.map_take, List.drop_take]
theorem Wrs.slice {H : Hp} {B q : Addr} {bs : List BL} (h : Wrs H B bs) (hq : H q = none) (i j : Nat) : Wrs (upd H q (.lst (((bs.take j).drop i).map fun w => V.ref w.1))) q ((bs.take j).drop i) := ⟨upd_same, fun w hw => by
  have := h.each w (List.mem_of_mem_take (List.mem_of_mem_drop hw))
  exact ⟨same_new hq _ _ _ this.1, same_new hq _ _ _ this.2⟩⟩
section
variable {bs xs ys : List BL} {A B n : Nat}
theorem sl_len (hn : bs.length = n) (hAB : A < B) (hBn : B ≤ n) (hx : bkv xs = ((bkv bs).take B).drop A) : xs.length = B - A := by
  have := congrArg List.length hx
  rw [bkv_len, List.length_drop, List.length_take, bkv_len] at this
  trivial
theorem top_right (hn : bs.length = n) (hAB : A < B) (hBn : B ≤ n) (hx : bkv xs = ((bkv bs).take B).drop A) : top0 xs (pap (lv0 (bkv bs)) A B) A n = some (tr (lv0 (bkv bs))) := by
  have hl := sl_len hn hAB hBn hx
  unfold top0
  rw [hl, hx, lv0_slc, show A + (B - A) = B by trivial]
  exact clm_right n A B (lv0 (bkv bs)) (by rw [lv0_len, bkv_len, hn]) hAB hBn
end
end PH
set_option Elab.async false
set_option linter.all false
set_option maxRecDepth 100000
set_option maxHeartbeats 4000000
namespace PH
open PySem L2 PySem.W
noncomputable def okW (v : Int × List Int) : Bool := decide (0 ≤ v.1) && v.2.all fun x => decide (0 ≤ x)
noncomputable def okR (p : List Int) : Bool := p.all fun x => decide (0 ≤ x) && decide (x < 2305843009213693951)
noncomputable def msh (m b : Int) (vs : List (Int × List Int)) (p : List Int) : Bool := !(decide (b < 0) || decide (vs.length = 0) || decide (m < b + (vs.length : Nat))) && (vs.all okW && okR p)
theorem msh_iff {m b : Int} {vs : List (Int × List Int)} {p : List Int} : msh m b vs p = true ↔ (0 ≤ b ∧ 1 ≤ vs.length ∧ b + (vs.length : Nat) ≤ m ∧ vs.all okW = true ∧ okR p = true) := by
  unfold msh
  rw [Bool.and_eq_true, Bool.and_eq_true, Bool.not_eq_true', Bool.or_eq_false_iff, Bool.or_eq_false_iff]
  simp only [decide_eq_false_iff_not]
  constructor
  · rintro ⟨⟨⟨h1, h2⟩, h3⟩, h4, h5⟩
    exact ⟨by trivial, by trivial, by trivial, h4, h5⟩
  · rintro ⟨h1, h2, h3, h4, h5⟩
    exact ⟨⟨⟨by trivial, by trivial⟩, by trivial⟩, h4, h5⟩
noncomputable def spIsBkR : Sp := fun vs H Q _ => ∃ (b l : Addr) (w : Int) (bits : List Int), vs = [.ref b] ∧ H b = some (.tup [.int w, .ref l]) ∧ H l = some (lsI bits) ∧ Q (.bl (decide (0 ≤ w))) H
noncomputable def spMaySealR : Sp := fun vs H Q _ => ∃ (b l : Addr) (w : Int) (bits : List Int), vs = [.ref b] ∧ H b = some (.tup [.int w, .ref l]) ∧ H l = some (lsI bits) ∧ bits.length ≤ 10000 ∧ ∀ H', Same H H' → Q (.bl (okW (w, bits))) H'
noncomputable def spAreSealsR : Sp := fun vs H Q _ => ∃ (p : Addr) (l : List Int), vs = [.ref p] ∧ H p = some (lsI l) ∧ l.length ≤ 10000 ∧ ∀ H', Same H H' → Q (.bl (okR l)) H'
structure Hnd (H : Hp) (B Pp : Addr) (bs : List BL) (p : List Int) : Prop where
  bk : Wrs H B bs
  pp : H Pp = some (lsI p)
  bl : ∀ x ∈ bs, x.2.2.2.length ≤ 10000
  bn : bs.length ≤ 100
  plen : p.length ≤ 1000
theorem Hnd.same {H H' : Hp} {B Pp : Addr} {bs : List BL} {p : List Int} (h : Hnd H B Pp bs p) (s : Same H H') : Hnd H' B Pp bs p := ⟨h.bk.same s, s _ _ h.pp, h.bl, h.bn, h.plen⟩
noncomputable def spMayShowR : Sp := fun vs H Q _ => ∃ (B Pp : Addr) (bs : List BL) (p : List Int) (b m : Int), vs = [.int m, .int b, .ref B, .ref Pp] ∧ Hnd H B Pp bs p ∧ ∀ H', Same H H' → Q (.bl (msh m b (bkv bs) p)) H'
noncomputable def rws (kn : List Int) (b e w : Nat) (p : List Int) : List (List Int) :=
  if h : w ≤ 1 then [] else
    match prc (b : Int) (lack b e w) kn p with
    | none => []
    | some s => prs2 s.1 ++ rws (nxl s.1) (b / 2) ((e + 1) / 2) ((w + 1) / 2) s.2
termination_by w
decreasing_by trivial
theorem rws_one {kn : List Int} {b e w : Nat} {p : List Int} (h : w ≤ 1) : rws kn b e w p = [] := by rw [rws, dif_pos h]
theorem rws_on {kn : List Int} {b e w : Nat} {p : List Int} {s : List Int × List Int} (h : 2 ≤ w) (e1 : prc (b : Int) (lack b e w) kn p = some s) : rws kn b e w p = prs2 s.1 ++ rws (nxl s.1) (b / 2) ((e + 1) / 2) ((w + 1) / 2) s.2 := by rw [rws, dif_neg (by trivial), e1]
noncomputable def topV (vs : List (Int × List Int)) (p : List Int) (b m : Nat) : Option Int := clm (lv0 vs) b (b + vs.length) m p
noncomputable def rowV (vs : List (Int × List Int)) (p : List Int) (b m : Nat) : List (List Int) := vs.map brw ++ rws (lv0 vs) b (b + vs.length) m p
noncomputable def spPRowsF : Sp := fun vs H Q _ => ∃ (p : Addr) (l : List Int), vs = [.ref p] ∧ H p = some (lsI l) ∧ l.length ≤ 1000 ∧ ∀ (D : Addr) (as : List Addr) (H' : Hp), Same H H' → H D = none → Lss H' D as (prs2 l) → (∀ a ∈ as, H a = none) → Q (.ref D) H'
noncomputable def spRTopR : Sp := fun vs H Q _ => ∃ (B Pp : Addr) (bs : List BL) (p : List Int) (b m : Nat), vs = [.int (m : Int), .int (b : Int), .ref B, .ref Pp] ∧ Hnd H B Pp bs p ∧ 1 ≤ bs.length ∧ b + bs.length ≤ m ∧ m ≤ 2 ^ 62 ∧
  (topV (bkv bs) p b m = none → ∀ H', Same H H' → Q .non H') ∧ (∀ t, topV (bkv bs) p b m = some t → ∀ (T R : Addr) (as : List Addr) (H' : Hp), Same H H' → H' T = some (.tup [.ref R, .int t]) → Lss H' R as (rowV (bkv bs) p b m) → (∀ a ∈ as, H a = none) → as.length ≤ 20000 → Q (.ref T) H')
noncomputable def spRMixR : Sp := fun vs H Q _ => ∃ (N B Pp : Addr) (bs : List BL) (p : List Int) (b m n0 n1 : Int), vs = [.ref N, .int b, .ref B, .ref Pp] ∧ H N = some (.tup [.int n0, .int n1, .int m]) ∧ Hnd H B Pp bs p ∧ m ≤ 2 ^ 62 ∧
  (msh m b (bkv bs) p = false ∨ topV (bkv bs) p b.toNat m.toNat = none → ∀ H', Same H H' → Q .non H') ∧
  (msh m b (bkv bs) p = true → ∀ t, topV (bkv bs) p b.toNat m.toNat = some t → ∀ (R : Addr) (as : List Addr) (H' : Hp), Same H H' → Lss H' R as (rowV (bkv bs) p b.toNat m.toNat ++ [[2, n0, n1, m, t]]) → (∀ a ∈ as, H a = none) → as.length ≤ 20001 → Q (.ref R) H')
noncomputable def shV (sl n0 n1 m b : Int) (vs : List (Int × List Int)) (p : List Int) : Bool := msh m b vs p && match topV vs p b.toNat m.toNat with
  | none => false
  | some t => decide (mixN [2, n0, n1, m, t] = sl)
theorem shV_no {sl n0 n1 m b : Int} {vs : List (Int × List Int)} {p : List Int} (h : msh m b vs p = false ∨ topV vs p b.toNat m.toNat = none) : shV sl n0 n1 m b vs p = false := by
  unfold shV
  rcases h with h | h
  · rw [h]; rfl
  · rw [h]; exact Bool.and_false _
theorem shV_yes {sl n0 n1 m b t : Int} {vs : List (Int × List Int)} {p : List Int} (h1 : msh m b vs p = true) (h2 : topV vs p b.toNat m.toNat = some t) : shV sl n0 n1 m b vs p = decide (mixN [2, n0, n1, m, t] = sl) := by
  unfold shV
  rw [h1, h2]; rfl
noncomputable def spShowsR : Sp := fun vs H Q _ => ∃ (N B Pp : Addr) (bs : List BL) (p : List Int) (b m n0 n1 sl : Int), vs = [.int sl, .ref N, .int b, .ref B, .ref Pp] ∧ H N = some (.tup [.int n0, .int n1, .int m]) ∧ Hnd H B Pp bs p ∧ m ≤ 2 ^ 62 ∧ ∀ H', Same H H' → Q (.bl (shV sl n0 n1 m b (bkv bs) p)) H'
theorem clm_good : ∀ (w b e : Nat) (kn p : List Int), b < e → e ≤ w → kn.length = e - b → p.length = wnt b e w → ∃ t, clm kn b e w p = some t
  | w, b, e, kn, p, hbe, hew, hk, hp => by
    by_cases hw : w ≤ 1
    · rw [wnt_one hw] at hp
      rw [clm_one hw, if_pos (List.length_eq_zero_iff.mp hp)]
      match kn, hk with
      | x :: r, _ => exact ⟨x, rfl⟩
      | [], hk => rw [List.length_nil] at hk; trivial
    · have hput := put_of (w := w) hbe kn p
      rw [wnt_more (by trivial)] at hp
      cases q : prc (b : Int) (lack b e w) kn p with
      | none =>
        rw [q] at hput
        cases hput with
        | no h => trivial
      | some s =>
        rw [q] at hput
        obtain ⟨l1, l2⟩ := put_len hput hbe hew hk
        rw [clm_on (by trivial) q]
        have g := geo hbe hew
        exact clm_good ((w + 1) / 2) (b / 2) ((e + 1) / 2) (nxl s.1) s.2 g.1 g.2 l2 (by trivial)
termination_by w => w
decreasing_by trivial
noncomputable def fitV (m b : Int) (vs : List (Int × List Int)) (p : List Int) : Bool := msh m b vs p && decide (p.length = wnt b.toNat (b.toNat + vs.length) m.toNat)
theorem fit_some {m b : Int} {vs : List (Int × List Int)} {p : List Int} (h : fitV m b vs p = true) : ∃ t, topV vs p b.toNat m.toNat = some t := by
  unfold fitV at h
  rw [Bool.and_eq_true] at h
  obtain ⟨h1, h2, h3, _, _⟩ := msh_iff.mp h.1
  exact clm_good _ _ _ _ _ (by trivial) (by trivial) (by rw [lv0_len]; trivial) (of_decide_eq_true h.2)
theorem fit_none {m b : Int} {vs : List (Int × List Int)} {p : List Int} (h1 : msh m b vs p = true) (h : fitV m b vs p = false) : topV vs p b.toNat m.toNat = none := by
  unfold fitV at h
  rw [h1, Bool.true_and] at h
  obtain ⟨h2, h3, h4, _, _⟩ := msh_iff.mp h1
  exact clm_bad _ _ _ _ _ (by trivial) (by trivial) (by rw [lv0_len]; trivial) (of_decide_eq_false h)
theorem Lss.ext {H : Hp} {D E : Addr} {as bs : List Addr} {ls ks : List (List Int)} (h : Lss H D as ls) (hn : ∀ a ∈ as, a ≠ D) (h2 : Lss H E bs ks) (hn2 : ∀ a ∈ bs, a ≠ D) : Lss (upd H D (.lst (as.map V.ref ++ bs.map V.ref))) D (as ++ bs) (ls ++ ks) := by
  refine ⟨by rw [upd_same, List.map_append], by rw [List.length_append, List.length_append, h.len, h2.len], fun i a y e1 e2 => ?_⟩
  by_cases hi : i < as.length
  · rw [List.getElem?_append_left hi] at e1
    rw [List.getElem?_append_left (by rw [← h.len]; exact hi)] at e2
    rw [upd_ne (hn a (List.mem_of_getElem? e1))]
    exact h.each i a y e1 e2
  · rw [List.getElem?_append_right (by trivial)] at e1
    rw [List.getElem?_append_right (by rw [← h.len]; trivial), ← h.len] at e2
    rw [upd_ne (hn2 a (List.mem_of_getElem? e1))]
    exact h2.each _ a y e1 e2
theorem pw_half {w k : Nat} (h : w ≤ 2 ^ k) (h2 : 2 ≤ w) : ∃ j, k = j + 1 ∧ (w + 1) / 2 ≤ 2 ^ j := by
  cases k with
  | zero => rw [Nat.pow_zero] at h; trivial
  | succ j => exact ⟨j, rfl, by rw [Nat.pow_succ] at h; trivial⟩
noncomputable def spLong67 : Sp := fun vs H Q _ => ∃ f c m : Nat, vs = [.int (f : Int), .int (c : Int), .int (m : Int)] ∧ 1 ≤ c ∧ f + c ≤ m ∧ Q (.int (wnt f (f + c) m : Nat)) H
noncomputable def spFits67 : Sp := fun vs H Q _ => ∃ (N B Pp : Addr) (bs : List BL) (p : List Int) (b m n0 n1 : Int), vs = [.ref N, .int b, .ref B, .ref Pp] ∧ H N = some (.tup [.int n0, .int n1, .int m]) ∧ Hnd H B Pp bs p ∧ ∀ H', Same H H' → Q (.bl (fitV m b (bkv bs) p)) H'
theorem pw_len3 {k : Nat} (h : 2 ^ k ≤ 10 ^ 30) : k ≤ 200 := pw_len (Nat.le_trans h (by decide))
end PH
set_option Elab.async false
set_option linter.all false
set_option maxRecDepth 100000
set_option maxHeartbeats 4000000
namespace PH
open PySem L2 PySem.W
noncomputable def lc1 (lo : Int) (kn lf : List Int) : Int × List Int × List Int := if lo % 2 = 1 then (lo - 1, lf.headD 0 :: kn, lf.tail) else (lo, kn, lf)
noncomputable def lc2 (w lo : Int) (kn lf : List Int) : List Int × List Int := if ((kn.length : Nat) : Int) % 2 = 1 ∧ lo + ((kn.length : Nat) : Int) < w then (kn ++ [lf.headD 0], lf.tail) else (kn, lf)
theorem lc1_yes {lo : Int} {kn lf : List Int} (h : lo % 2 = 1) : lc1 lo kn lf = (lo - 1, lf.headD 0 :: kn, lf.tail) := if_pos h
theorem lc1_no {lo : Int} {kn lf : List Int} (h : ¬ lo % 2 = 1) : lc1 lo kn lf = (lo, kn, lf) := if_neg h
theorem lc2_yes {w lo : Int} {kn lf : List Int} (h : ((kn.length : Nat) : Int) % 2 = 1 ∧ lo + ((kn.length : Nat) : Int) < w) : lc2 w lo kn lf = (kn ++ [lf.headD 0], lf.tail) := if_pos h
theorem lc2_no {w lo : Int} {kn lf : List Int} (h : ¬ (((kn.length : Nat) : Int) % 2 = 1 ∧ lo + ((kn.length : Nat) : Int) < w)) : lc2 w lo kn lf = (kn, lf) := if_neg h
theorem lc_put {b e w : Nat} {kn lf : List Int} {s : List Int × List Int} (hbe : b < e) (hk : kn.length = e - b) (h : Put b e w kn lf (some s)) :
    lc2 (w : Int) (lc1 (b : Int) kn lf).1 (lc1 (b : Int) kn lf).2.1 (lc1 (b : Int) kn lf).2.2 = s ∧ (lc1 (b : Int) kn lf).1 / 2 = ((b / 2 : Nat) : Int) := by
  cases h with
  | none h1 h2 =>
    rw [lc1_no (by trivial)]
    refine ⟨lc2_no ?_, by show (b : Int) / 2 = _; trivial⟩
    rintro ⟨a1, a2⟩
    have a1' : ((kn.length : Nat) : Int) % 2 = 1 := a1
    have a2' : (b : Int) + ((kn.length : Nat) : Int) < (w : Int) := a2
    exact h2 ⟨by trivial, by trivial⟩
  | low x q hp h1 h2 =>
    rw [lc1_yes (by trivial)]
    subst hp
    refine ⟨lc2_no ?_, by show ((b : Int) - 1) / 2 = _; trivial⟩
    rintro ⟨a1, a2⟩
    have a1' : (((kn.length + 1 : Nat)) : Int) % 2 = 1 := a1
    have a2' : ((b : Int) - 1) + ((kn.length + 1 : Nat) : Int) < (w : Int) := a2
    exact h2 ⟨by trivial, by trivial⟩
  | high x q hp h1 h2 =>
    rw [lc1_no (by trivial)]
    subst hp
    refine ⟨lc2_yes ⟨?_, ?_⟩, by show (b : Int) / 2 = _; trivial⟩
    · show ((kn.length : Nat) : Int) % 2 = 1; trivial
    · show (b : Int) + ((kn.length : Nat) : Int) < (w : Int); trivial
  | both x y q hp h1 h2 =>
    rw [lc1_yes (by trivial)]
    subst hp
    refine ⟨lc2_yes ⟨?_, ?_⟩, by show ((b : Int) - 1) / 2 = _; trivial⟩
    · show ((kn.length + 1 : Nat) : Int) % 2 = 1; trivial
    · show ((b : Int) - 1) + ((kn.length + 1 : Nat) : Int) < (w : Int); trivial
theorem list_atM {xs : List Int} {k : Int} (h0 : 0 ≤ k) (h1 : k < (xs.length : Nat)) : ∃ x, atI (xs.map V.int) k = some (.int x) ∧ x ∈ xs := by
  obtain ⟨j, rfl⟩ : ∃ j : Nat, k = (j : Int) := ⟨k.toNat, by trivial⟩
  obtain ⟨x, hx⟩ : ∃ x, xs[j]? = some x := ⟨_, List.getElem?_eq_getElem (by trivial)⟩
  exact ⟨x, at_intsZ hx, List.mem_of_getElem? hx⟩
theorem sqMidG {A B : TS} {D : Ends} {σ : St} {H : Hp} (M : St → Hp → Prop) (h2 : ∀ σ' H', M σ' H' → B D σ' H') (h1 : ∀ N : St → Hp → Prop, (∀ σ' H', M σ' H' → N σ' H') → A { D with nx := N } σ H) : tSeq A B D σ H := h1 _ h2
theorem iteNTG {c A B : Prop} [Decidable c] (hc : ¬ c) (h : A) : if (!decide c) = true then A else B := by
  rw [decide_eq_false hc]; exact h
theorem lc1_len (lo : Int) (kn lf : List Int) : (lc1 lo kn lf).2.1.length ≤ kn.length + 1 ∧ (lc1 lo kn lf).2.2.length ≤ lf.length ∧ kn.length ≤ (lc1 lo kn lf).2.1.length := by
  unfold lc1
  split
  · exact ⟨Nat.le_refl _, by show lf.tail.length ≤ _; rw [List.length_tail]; trivial, Nat.le_succ _⟩
  · exact ⟨Nat.le_succ _, Nat.le_refl _, Nat.le_refl _⟩
theorem lc2_len (w lo : Int) (kn lf : List Int) : (lc2 w lo kn lf).1.length ≤ kn.length + 1 ∧ (lc2 w lo kn lf).2.length ≤ lf.length ∧ kn.length ≤ (lc2 w lo kn lf).1.length := by
  unfold lc2
  split
  · refine ⟨by show (kn ++ [_]).length ≤ _; rw [List.length_append, List.length_singleton]; trivial, by show lf.tail.length ≤ _; rw [List.length_tail]; trivial, by show _ ≤ (kn ++ [_]).length; rw [List.length_append]; trivial⟩
  · exact ⟨Nat.le_succ _, Nat.le_refl _, Nat.le_refl _⟩
theorem wnt_step {b e w fd W : Nat} (h2 : 2 ≤ w) (h : fd + wnt b e w = W) : fd + ((if b % 2 = 1 then 1 else 0) + (if e % 2 = 1 ∧ e < w then 1 else 0)) + wnt (b / 2) ((e + 1) / 2) ((w + 1) / 2) = W := by
  rw [wnt_more h2, lack_cnt] at h
  trivial
end PH
set_option Elab.async false
set_option linter.all false
set_option maxRecDepth 100000
namespace L2
open PySem PySem.Spec PyProof.Rows PySem.W
section
variable {X : Cx} {pins : List (Addr × Obj)} {σ : St} {H : Hp} {s : Shared}
theorem Inv.turnedNL {h' : Heap} {t' : Nat} {fp : List Addr} {a : Addr} {o : HO} (I : Inv X pins σ H s) (k : ∀ b o, b ∉ fp → s.heap.get? b = some o → h'.get? b = some o) (f : ∀ b ∈ fp, FpOk X pins H b)
    (hp : s.heap.objs.size ≤ a) (new : ObjOk X.prog X.w (upd H a o) h' a o) : Inv X pins σ (upd H a o) { s with heap := h', toks := t' } := by
  have n1 : ∀ b u, H b = some u → b ∉ fp := fun b u e z => by rw [(f b z).1] at e; cases e
  have hn : H a = none := I.hok.fresh hp
  refine I.step (g' := s.gens) (d' := s.drawn) (ch := fp) (fun b hb => ?_) (fun b o _ _ hc e _ => k b o hc e) (fun b o _ _ hc e _ => ⟨o.slots, k b o hc e⟩) (fun b u _ q n => ?_)
    (fun b o hc e => ⟨o, k b o hc e⟩) (fun b xs q => by rw [upd_ne (ne_of_none q hn)]; exact q) (fun b u xs q => by rw [upd_ne (ne_of_none q hn)]; exact q) (fun b ps q => ⟨#[], by rw [upd_ne (ne_of_none q hn), q]; simp⟩) (fun m hm => ?_) (fun b u e => ?_) I.bare
  · obtain ⟨a0, a1, a2, a3, a4, a5⟩ := f b hb
    exact ⟨a3, a1, a4, a5⟩
  · rw [upd_ne (Nat.ne_of_lt (Nat.lt_of_lt_of_le (Heap.lt_size q) hp))]; exact n
  · obtain ⟨o, es, ep, ho, r⟩ := hm
    exact ⟨o, es, ep, k _ o (fun z => (f _ z).2.1 rfl) ho, r⟩
  · by_cases hb : b = a
    · subst hb
      rw [upd_same] at e
      cases e
      exact new
    · rw [upd_ne hb] at e
      refine (I.hok b u e).stay (fun c v hc q => k c v ?_ q) (fun c q => by rw [upd_ne (ne_of_none q hn)]; exact q) fun c xs q => by rw [upd_ne (ne_of_none q hn)]; exact q
      rcases hc with z | z
      · rw [z]; exact n1 b u e
      · exact n1 c _ z
theorem Inv.turnedN {h' : Heap} {t' : Nat} {fp : List Addr} (I : Inv X pins σ H s) (k : ∀ b o, b ∉ fp → s.heap.get? b = some o → h'.get? b = some o) (f : ∀ b ∈ fp, FpOk X pins H b) : Inv X pins σ H { s with heap := h', toks := t' } := by
  have n1 : ∀ b u, H b = some u → b ∉ fp := fun b u e z => by rw [(f b z).1] at e; cases e
  refine I.step (g' := s.gens) (d' := s.drawn) (ch := fp) (fun b hb => ?_) (fun b o _ _ hc e _ => k b o hc e) (fun b o _ _ hc e _ => ⟨o.slots, k b o hc e⟩) (fun _ _ _ _ n => n)
    (fun b o hc e => ⟨o, k b o hc e⟩) (fun _ _ e => e) (fun _ _ _ e => e) (fun b ps e => ⟨#[], by rw [e]; simp⟩) (fun m hm => ?_) (fun b u e => ?_) I.bare
  · obtain ⟨a0, a1, a2, a3, a4, a5⟩ := f b hb
    exact ⟨a3, a1, a4, a5⟩
  · obtain ⟨o, es, ep, ho, r⟩ := hm
    exact ⟨o, es, ep, k _ o (fun z => (f _ z).2.1 rfl) ho, r⟩
  · refine (I.hok b u e).stay (fun c v hc q => k c v ?_ q) (fun c q => q) fun c xs q => q
    rcases hc with z | z
    · rw [z]; exact n1 b u e
    · exact n1 c _ z
noncomputable def Itz (K : Frag) (a b : Addr) : It :=
  ⟨fun i H => ∃ xs ys x y, SqL K H a xs ∧ SqL K H b ys ∧ xs[i]? = some x ∧ ys[i]? = some y,
   fun i H v H' => ∃ t x y, v = .ref t ∧ H t = none ∧ H' = upd H t (.tup [x, y]) ∧ (∀ xs, SqL K H a xs → xs[i]? = some x) ∧ ∀ ys, SqL K H b ys → ys[i]? = some y,
   fun i H => ∃ xs ys, SqL K H a xs ∧ SqL K H b ys ∧ (xs.length ≤ i ∨ ys.length ≤ i)⟩
theorem turn_zip {P : Program} {w : World} {K : Frag} {elts : List Expr} {x1} {pos : Pos} {z TI TO i1 i2 : Addr} (a b : Addr) (D : ZipApart z TI TO i1 i2 a b) : Turn P w K (.Tuple elts x1 pos) (Itz K a b) [z, TI, TO, i1, i2] z
    (fun i h => IsZip h z TI TO .none ∧ IsPair h TI (.ref i1) (.ref i2) ∧ (∃ u v, IsPair h TO u v) ∧ h.IsListIter i1 a i ∧ h.IsListIter i2 b i) where
  mem := by simp
  obj := fun i h st c hc => by
    obtain ⟨hz, hTI, ⟨u, v, hTO⟩, ⟨o1, e1, _, d1⟩, ⟨o2, e2, _, d2⟩⟩ := st
    have e' : c = z ∨ c = TI ∨ c = TO ∨ c = i1 ∨ c = i2 := by simpa using hc
    rcases e' with rfl | rfl | rfl | rfl | rfl
    · exact ⟨_, hz, fun v q => by cases q⟩
    · exact ⟨_, hTI, fun v q => by cases q⟩
    · exact ⟨_, hTO, fun v q => by cases q⟩
    · exact ⟨o1, e1, fun v q => by rw [d1] at q; cases q⟩
    · exact ⟨o2, e2, fun v q => by rw [d2] at q; cases q⟩
  keep := fun i h h' st k => by
    obtain ⟨hz, hTI, ⟨u, v, hTO⟩, h1, h2⟩ := st
    exact ⟨k z (by simp) _ hz, k TI (by simp) _ hTI, ⟨u, v, k TO (by simp) _ hTO⟩, h1.at fun o q => k i1 (by simp) o q, h2.at fun o q => k i2 (by simp) o q⟩
  item := by
    intro X hP hw hK hc i pins s σ H E I hf st hg
    subst hP hw hK
    obtain ⟨xs, ys, x, y, hqx, hqy, hx, hy⟩ := hg
    obtain ⟨hz, hTI, ⟨u0, v0, hTO⟩, h1, h2⟩ := st
    obtain ⟨its, rv, p, hsz⟩ := I.list hqx
    obtain ⟨its2, rv2, p2, hsz2⟩ := I.list hqy
    obtain ⟨u, hu, ru⟩ := rv.get hx
    obtain ⟨v, hv, rv'⟩ := rv2.get hy
    have lts : ∀ c ∈ [z, TI, TO, i1, i2], c < s.heap.objs.size := fun c hc => by
      have e' : c = z ∨ c = TI ∨ c = TO ∨ c = i1 ∨ c = i2 := by simpa using hc
      rcases e' with rfl | rfl | rfl | rfl | rfl
      · exact Heap.lt_size hz
      · exact Heap.lt_size hTI
      · exact Heap.lt_size hTO
      · obtain ⟨_, q, _⟩ := id h1; exact Heap.lt_size q
      · obtain ⟨_, q, _⟩ := id h2; exact Heap.lt_size q
    refine wpAny_pyNext_zip_item D hz hTI hTO h1 h2 p.isList p2.isList (x := u) (y := v) (by simpa using hu) (by simpa using hv) fun h' a1 a2 a3 a4 a5 a6 hk => ?_
    refine ⟨_, rfl, wpAny_letOwnedTupleGo_zip a1 fun h2' hz2 hs2 => ?_⟩
    have hfr : H s.heap.objs.size = none := I.hok.fresh (Nat.le_refl _)
    have hzl := lts z (by simp)
    have hT2 : h2'.get? s.heap.objs.size = some { cls := .type "tuple", data := .seq #[u, v] } := (hs2.2 _ (Nat.ne_of_gt hzl)).trans a5
    have k2 : ∀ c o, c ∉ [z, TI, TO, i1, i2] → s.heap.get? c = some o → h2'.get? c = some o := fun c o n q => by
      have n1 : c ≠ z := fun e => n (by simp [e])
      exact (hs2.2 c n1).trans (hk c o n1 (fun e => n (by simp [e])) (fun e => n (by simp [e])) (fun e => n (by simp [e])) q)
    have I2 : Inv X pins σ (upd H s.heap.objs.size (.tup [x, y])) { s with heap := h2', toks := s.toks } :=
      I.turnedNL k2 hf (Nat.le_refl _) (show ObjOk X.prog X.w _ h2' _ (.tup [x, y]) from ⟨by show 2 ≤ sizeLine; decide, [u, v], .cons ru (.cons rv' .nil), ⟨_, hT2, rfl, _, rfl⟩⟩)
    have hTI2 : IsPair h2' TI (.ref i1) (.ref i2) := (hs2.2 _ D.TIz).trans (hk _ _ D.TIz D.TITO D.TIi1 D.TIi2 hTI)
    refine ⟨.ref s.heap.objs.size, _, I2, rfl, ⟨_, x, y, rfl, hfr, rfl, (fun zs hzs => by rw [I.list_inj hzs hqx]; exact hx), fun zs hzs => by rw [I.list_inj hzs hqy]; exact hy⟩,
      ⟨hz2, hTI2, ⟨_, _, (hs2.2 _ D.TOz).trans a2⟩, a3.at fun o q => (hs2.2 i1 D.i1z).trans q, a4.at fun o q => (hs2.2 i2 D.i2z).trans q⟩, fun c hc => ?_⟩
    rw [upd_ne (Nat.ne_of_lt (lts c hc))]
    exact (hf c hc).1
  done := by
    intro X hP hw hK hc i pins s σ H E I hf st hg
    subst hP hw hK
    obtain ⟨xs, ys, hqx, hqy, hx⟩ := hg
    obtain ⟨hz, hTI, ⟨u0, v0, hTO⟩, h1, h2⟩ := st
    obtain ⟨its, rv, p, hsz⟩ := I.list hqx
    obtain ⟨its2, rv2, p2, hsz2⟩ := I.list hqy
    have l1 := rv.length
    have l2 := rv2.length
    refine wpAny_pyNext_zip_end (I.ok.hd hc) D hz hTI hTO h1 h2 p.isList p2.isList ?_ fun h' hk => ⟨rfl, I.turnedN (t' := s.toks) (fun c o n q => hk c o (fun e => n (by simp [e])) (fun e => n (by simp [e])) (fun e => n (by simp [e])) (fun e => n (by simp [e])) q) hf⟩
    rcases hx with hx | hx
    · exact .inl (by simp; trivial)
    · exact .inr (by simp; trivial)
  self := fun _ _ _ _ _ st h => wpAny_pyIter_zip st.1 h
noncomputable def iZip (K : Frag) (ta : TA) : TI := fun σ H R => ta σ H fun vs H1 => ∃ a b, vs = [.ref a, .ref b] ∧ (∃ xs, SqL K H1 a xs) ∧ (∃ ys, SqL K H1 b ys) ∧ R (Itz K a b) H1
theorem boot_zip' : bootBuiltins "zip" = some (.type "zip") := by decide +kernel
theorem pi_zip {elts : List Expr} {x1} {p' : Pos} {a b : Expr} {ta : TA} {p pos : Pos} (hg : Gl X "zip") (hm : X.mg "zip" = none) (ha : PA X [a, b] ta) (hs : starEach [a, b] X.env = (false, eval a X.env) :: starEach [b] X.env := by rfl) (hpl : (backTo pos (starEach [b] X.env)).any (·.1) = false := by rfl) :
    PI X (.Tuple elts x1 p') (.Call (.Name "zip" p) [a, b] [] pos) (iZip X.K ta) := by
  intro pins s σ H R I h
  refine Call_ (ld_blt I hg hm boot_zip' (PyProof.Rows.callWith_type1 (thn (ha pos pins s σ H _ I h) fun us s1 ⟨vs, H1, I1, r1, q1⟩ => ?_) hs hpl))
  obtain ⟨a, b, e, ⟨xs, hqx⟩, ⟨ys, hqy⟩, q⟩ := q1
  subst e
  cases r1 with
  | cons r rr =>
    cases rr with
    | cons r' rr =>
      cases rr
      cases r
      cases r'
      obtain ⟨its, rv, p, hsz⟩ := I1.list hqx
      obtain ⟨its2, rv2, p2, hsz2⟩ := I1.list hqy
      have la : a < s1.heap.objs.size := by obtain ⟨o, ho, _⟩ := p.isList; exact Heap.lt_size ho
      have lb : b < s1.heap.objs.size := by obtain ⟨o, ho, _⟩ := p2.isList; exact Heap.lt_size ho
      refine call_zip_2 p.isList p2.isList fun h' a1 a2 a3 a4 a5 a6 hk => ?_
      refine wpAny_pyIter_zip a1 ?_
      refine ⟨_, [s1.heap.objs.size + 4, s1.heap.objs.size + 2, s1.heap.objs.size + 3, s1.heap.objs.size, s1.heap.objs.size + 1], _, Itz X.K a b, H1, rfl, I1.kept (t' := s1.toks) hk, turn_zip a b (zipApart_new la lb), ⟨a1, a2, ⟨_, _, a3⟩, a4, a5⟩, fun c hc => ?_, q⟩
      have hle : s1.heap.objs.size ≤ c := by
        have e' : c = s1.heap.objs.size + 4 ∨ c = s1.heap.objs.size + 2 ∨ c = s1.heap.objs.size + 3 ∨ c = s1.heap.objs.size ∨ c = s1.heap.objs.size + 1 := by simpa using hc
        rcases e' with rfl | rfl | rfl | rfl | rfl
        · exact Nat.le_add_right _ _
        · exact Nat.le_add_right _ _
        · exact Nat.le_add_right _ _
        · exact Nat.le_refl _
        · exact Nat.le_add_right _ _
      exact I1.fpOk hle (I1.hok.fresh hle)
end
end L2
set_option Elab.async false
set_option linter.all false
set_option maxRecDepth 100000
set_option maxHeartbeats 4000000
namespace L2
open PySem PySem.Spec PyProof.Rows PySem.W
noncomputable def rInLL (K : Frag) : R2 := fun x y H Q => ∃ (a p : Addr) (zs : List (Addr × List Int)) (t : List Int), x = .ref a ∧ y = .ref p ∧ SqL K H p (zs.map fun z => V.ref z.1) ∧ (∀ z ∈ zs, SqL K H z.1 (z.2.map V.int)) ∧ SqL K H a (t.map V.int) ∧ Q (.bl (decide (t ∈ zs.map (·.2)))) H
theorem eqD_ints45 (a b : List Int) : eqD (.lst (a.map DV.int)) (.lst (b.map DV.int)) = decide (a = b) := by
  unfold eqD; rw [eqDs_ints]
theorem hts_ints45 : ∀ ns : List Int, hts (ns.map DV.int) = 0
  | [] => by unfold hts; rfl
  | n :: ns => by rw [List.map_cons]; unfold hts; rw [hts_ints45 ns]; unfold ht; rfl
theorem refs45 : ∀ {zs : List (Addr × List Int)} {us : List Value}, Vals (zs.map fun z => V.ref z.1) us → us = zs.map fun z => Value.ref z.1
  | [], us, h => by cases h; rfl
  | z :: zs, us, h => by
    cases h with
    | cons r t => rw [refs45 t, show _ = Value.ref z.1 from r]; rfl
open Classical in
theorem op_inLL {X : Cx} (hu : X.A.units + 64 < cLine) : OpR X (compareOp .In) (rInLL X.K) := by
  intro pins s σ H x y v u Q I rx ry h
  obtain ⟨a, p, zs, t, rfl, rfl, hs, hz, ha, q⟩ := h
  cases rx
  cases ry
  obtain ⟨its, r, pl, hzl⟩ := I.list hs
  have hits := refs45 r
  subst hits
  have dz : ∀ z ∈ zs, Deep X.K H (.ref z.1) (.lst (z.2.map DV.int)) := fun z hm => .lst (hz z hm) (Deeps.ints _)
  have same : ∀ z ∈ zs, ∀ y ∈ zs, z.1 = y.1 → (z.2 = t ↔ y.2 = t) := fun z h1 y h2 e => by
    have e1 := dz z h1
    have e2 := dz y h2
    rw [e] at e1
    have e3 := Deep.inj I e1 e2
    have : z.2 = y.2 := of_decide_eq_true (by rw [← eqD_ints45, e3, eqD_refl])
    rw [this]
  have fz : ∀ z ∈ zs, decide (∃ y ∈ zs, Value.ref z.1 = Value.ref y.1 ∧ y.2 = t) = decide (z.2 = t) := fun z hm => by
    refine decide_eq_decide.mpr ⟨?_, fun h => ⟨z, hm, rfl, h⟩⟩
    rintro ⟨y, hy, e, h⟩
    exact (same z hm y hy (Value.ref.inj e)).mpr h
  refine SeqAt.in_listAt (fun v => decide (∃ y ∈ zs, v = Value.ref y.1 ∧ y.2 = t)) pl.isList (fun w hw => ?_) ⟨.bl _, H, I, rfl, ?_⟩
  · have hw' : w ∈ zs.map fun z => Value.ref z.1 := by simpa using hw
    obtain ⟨z, hm, rfl⟩ := List.mem_map.mp hw'
    have hd := eq_deep I 60 (A := X.A.in1) (.lst (z.2.map DV.int)) (by rw [ht_lst, hts_ints45]; decide) (by rw [Around.in1_units]; trivial) (.lst (t.map DV.int)) (.ref z.1) (.ref a) (.ref z.1) (.ref a) (dz z hm) (.lst ha (Deeps.ints _)) rfl rfl
    rw [eqD_ints45] at hd
    try dsimp only
    rw [fz z hm]
    exact hd
  · have e : (zs.map fun z => Value.ref z.1).toArray.any (fun v => decide (∃ y ∈ zs, v = Value.ref y.1 ∧ y.2 = t)) = decide (t ∈ zs.map (·.2)) := by
      rw [List.any_toArray, Bool.eq_iff_iff, List.any_eq_true, decide_eq_true_iff, List.mem_map]
      constructor
      · rintro ⟨v, _, h⟩
        obtain ⟨y, hy, _, h⟩ := of_decide_eq_true h
        exact ⟨y, hy, h⟩
      · rintro ⟨y, hy, h⟩
        exact ⟨Value.ref y.1, List.mem_map.mpr ⟨y, hy, rfl⟩, decide_eq_true ⟨y, hy, rfl, h⟩⟩
    rw [e]
    exact q
theorem comp_zipR {K : Frag} {a b : Addr} {xs ys : List V} {D : Addr} {σ0 : St} {H1 : Hp} {Qd : Hp → Prop} {g : TG} {tc : TT} {te : TE} (he : ys.length = xs.length) (Pv : Nat → St → Hp → Prop) (h0 : Pv 0 σ0 (upd H1 D (.lst []))) (hl : ∀ i σ H, i ≤ xs.length → Pv i σ H → SqL K H a xs ∧ SqL K H b ys)
    (hs : ∀ i x y t σ' H', xs[i]? = some x → ys[i]? = some y → Pv i σ' H' → H' t = none → g (.ref t) σ' (upd H' t (.tup [x, y])) fun σ2 H3 => tc σ2 H3 fun b H4 => if b = true then te σ2 H4 fun v H5 => rAppend (.ref D) [v] H5 fun _ H6 => ∃ m', m' < xs.length - i ∧ CW xs.length Pv (i + 1) m' σ2 H6 else ∃ m', m' < xs.length - i ∧ CW xs.length Pv (i + 1) m' σ2 H4)
    (hd : ∀ σ' H', Pv xs.length σ' H' → Qd H') :
    ∃ W : Nat → Nat → St → Hp → Prop, (∃ m, W 0 m σ0 (upd H1 D (.lst []))) ∧ ∀ i m σ' H', W i m σ' H' → ((Itz K a b).stop i H' ∧ Qd H') ∨ ((Itz K a b).go i H' ∧ ∀ x H2, (Itz K a b).yld i H' x H2 → g x σ' H2 fun σ2 H3 => tc σ2 H3 fun b H4 =>
      if b = true then te σ2 H4 fun v H5 => rAppend (.ref D) [v] H5 fun _ H6 => ∃ m', m' < m ∧ W (i + 1) m' σ2 H6 else ∃ m', m' < m ∧ W (i + 1) m' σ2 H4) := by
  refine ⟨CW xs.length Pv, ⟨xs.length, rfl, Nat.zero_le _, h0⟩, ?_⟩
  rintro i m σ' H' ⟨rfl, hi, p⟩
  obtain ⟨q1, q2⟩ := hl i σ' H' hi p
  by_cases hlt : i < xs.length
  · refine .inr ⟨⟨xs, ys, xs[i], ys[i]'(by trivial), q1, q2, by simp [hlt], by simp [he, hlt]⟩, fun x H2 y => ?_⟩
    obtain ⟨t, x', y', rfl, hn, rfl, y1, y2⟩ := y
    exact hs i x' y' t σ' _ (y1 xs q1) (y2 ys q2) p hn
  · have e : i = xs.length := by trivial
    subst e
    exact .inl ⟨⟨xs, ys, q1, q2, .inl (Nat.le_refl _)⟩, hd σ' H' p⟩
end L2
set_option Elab.async false
set_option linter.all false
set_option maxRecDepth 100000
set_option maxHeartbeats 4000000
namespace PH
open PySem L2 PySem.W
noncomputable def isC (x y : List Int) : Bool := decide (x ≠ y) && decide (mixN x = mixN y)
noncomputable def NoC (R S : List (List Int)) : Prop := ∀ (i : Nat) (x y : List Int), R[i]? = some x → S[i]? = some y → isC x y = false
theorem noC_eq {x y : List Int} (h : isC x y = false) (hm : mixN x = mixN y) : x = y := by
  unfold isC at h
  rw [decide_eq_true hm, Bool.and_true] at h
  exact Decidable.not_not.mp (of_decide_eq_false h)
theorem prs_ne : ∀ {s s' : List Int}, s.length = s'.length → s ≠ s' → NoC (prs2 s) (prs2 s') → nxl s ≠ nxl s'
  | [], [], _, h, _ => absurd rfl h
  | [a], [a'], _, h, _ => by rw [nxl_one, nxl_one]; exact h
  | a :: b :: r, a' :: b' :: r', hl, h, hc => by
    rw [nxl_two, nxl_two]
    intro e
    obtain ⟨e1, e2⟩ := List.cons.inj e
    rw [prs2_two, prs2_two] at hc
    have e3 := noC_eq (hc 0 _ _ rfl rfl) e1
    obtain ⟨_, e3⟩ := List.cons.inj e3
    obtain ⟨ea, e3⟩ := List.cons.inj e3
    obtain ⟨eb, _⟩ := List.cons.inj e3
    have hr : r ≠ r' := fun z => h (by rw [ea, eb, z])
    exact prs_ne (by simpa using hl) hr (fun i x y h1 h2 => hc (i + 1) x y h1 h2) e2
  | [], _ :: _, hl, _, _ => by cases hl
  | _ :: _, [], hl, _, _ => by cases hl
  | [_], _ :: _ :: _, hl, _, _ => by simp at hl
  | _ :: _ :: _, [_], hl, _, _ => by simp at hl
theorem put_ne {b e w : Nat} {kn p kn' p' : List Int} {s s' : List Int × List Int} (hl : kn.length = kn'.length) (h : Put b e w kn p (some s)) (h' : Put b e w kn' p' (some s')) : s.1.length = s'.1.length ∧ (kn ≠ kn' → s.1 ≠ s'.1) := by
  cases h with
  | none h1 h2 =>
    cases h' with
    | none _ _ => exact ⟨hl, id⟩
    | low _ _ _ a _ => exact absurd a h1
    | high _ _ _ _ a => exact absurd a h2
    | both _ _ _ _ a _ => exact absurd a h1
  | low x q hp h1 h2 =>
    cases h' with
    | none a _ => exact absurd h1 a
    | high _ _ _ a _ => exact absurd h1 a
    | both _ _ _ _ _ a => exact absurd a h2
    | low x' q' hp' _ _ => exact ⟨by show (x :: kn).length = (x' :: kn').length; rw [List.length_cons, List.length_cons, hl], fun hn e => hn (List.cons.inj e).2⟩
  | high x q hp h1 h2 =>
    cases h' with
    | none _ a => exact absurd h2 a
    | low _ _ _ _ a => exact absurd h2 a
    | both _ _ _ _ a _ => exact absurd a h1
    | high x' q' hp' _ _ => exact ⟨by show (kn ++ [x]).length = (kn' ++ [x']).length; rw [List.length_append, List.length_append, hl]; rfl, fun hn e => hn (List.append_inj e hl).1⟩
  | both x y q hp h1 h2 =>
    cases h' with
    | none a _ => exact absurd h1 a
    | low _ _ _ _ a => exact absurd h2 a
    | high _ _ _ a _ => exact absurd h1 a
    | both x' y' q' hp' _ _ =>
      refine ⟨by show (x :: kn ++ [y]).length = (x' :: kn' ++ [y']).length; rw [List.length_append, List.length_append, List.length_cons, List.length_cons, hl]; rfl, fun hn e => hn ?_⟩
      have e1 : x :: (kn ++ [y]) = x' :: (kn' ++ [y']) := e
      exact (List.append_inj (List.cons.inj e1).2 hl).1
theorem rws_same : ∀ (w b e : Nat) (kn kn' p p' : List Int) (t t' : Int), b < e → e ≤ w → kn.length = e - b → kn'.length = e - b → clm kn b e w p = some t → clm kn' b e w p' = some t' →
    (rws kn b e w p).length = (rws kn' b e w p').length ∧ (kn ≠ kn' → NoC (rws kn b e w p) (rws kn' b e w p') → t ≠ t')
  | w, b, e, kn, kn', p, p', t, t', hbe, hew, hk, hk', h1, h2 => by
    by_cases hw : w ≤ 1
    · rw [clm_one hw] at h1 h2
      rw [rws_one hw, rws_one hw]
      refine ⟨rfl, fun hn _ => ?_⟩
      by_cases hp : p = []
      · by_cases hp2 : p' = []
        · rw [if_pos hp] at h1
          rw [if_pos hp2] at h2
          match kn, kn', hk, hk' with
          | [x], [y], _, _ =>
            have e1 : x = t := Option.some.inj h1
            have e2 : y = t' := Option.some.inj h2
            intro z
            exact hn (by rw [e1, e2, z])
          | [], _, a, _ => rw [List.length_nil] at a; trivial
          | _ :: _ :: _, _, a, _ => rw [List.length_cons, List.length_cons] at a; trivial
          | _, [], _, a => rw [List.length_nil] at a; trivial
          | _, _ :: _ :: _, _, a => rw [List.length_cons, List.length_cons] at a; trivial
        · rw [if_neg hp2] at h2; cases h2
      · rw [if_neg hp] at h1; cases h1
    · have hput := put_of (w := w) hbe kn p
      have hput2 := put_of (w := w) hbe kn' p'
      cases q : prc (b : Int) (lack b e w) kn p with
      | none => rw [clm_no (by trivial) q] at h1; cases h1
      | some s =>
        cases q2 : prc (b : Int) (lack b e w) kn' p' with
        | none => rw [clm_no (by trivial) q2] at h2; cases h2
        | some s2 =>
          rw [q] at hput
          rw [q2] at hput2
          rw [clm_on (by trivial) q] at h1
          rw [clm_on (by trivial) q2] at h2
          rw [rws_on (by trivial) q, rws_on (by trivial) q2]
          obtain ⟨_, l2⟩ := put_len hput hbe hew hk
          obtain ⟨_, l2'⟩ := put_len hput2 hbe hew hk'
          obtain ⟨n1, n2⟩ := put_ne (by rw [hk, hk']) hput hput2
          have g := geo hbe hew
          obtain ⟨r1, r2⟩ := rws_same ((w + 1) / 2) (b / 2) ((e + 1) / 2) (nxl s.1) (nxl s2.1) s.2 s2.2 t t' g.1 g.2 l2 l2' h1 h2
          have pl : (prs2 s.1).length = (prs2 s2.1).length := by rw [prs2_len, prs2_len, n1]
          refine ⟨by rw [List.length_append, List.length_append, pl, r1], fun hn hc => ?_⟩
          have c1 : NoC (prs2 s.1) (prs2 s2.1) := fun i x y a1 a2 => hc i x y (by rw [List.getElem?_append_left (List.getElem?_eq_some_iff.mp a1).1]; exact a1) (by rw [List.getElem?_append_left (List.getElem?_eq_some_iff.mp a2).1]; exact a2)
          refine r2 (prs_ne n1 (n2 hn) c1) fun i x y a1 a2 => hc ((prs2 s.1).length + i) x y ?_ ?_
          · rw [List.getElem?_append_right (by trivial), show (prs2 s.1).length + i - (prs2 s.1).length = i by trivial]; exact a1
          · rw [List.getElem?_append_right (by trivial), pl, show (prs2 s2.1).length + i - (prs2 s2.1).length = i by trivial]; exact a2
termination_by w => w
decreasing_by trivial
theorem brw_inj {v v' : Int × List Int} (h : brw v = brw v') : v = v' := by
  unfold brw at h
  obtain ⟨_, h⟩ := List.cons.inj h
  obtain ⟨h1, h2⟩ := List.cons.inj h
  exact Prod.ext h1 h2
theorem lv_ne : ∀ {vs vs' : List (Int × List Int)}, vs.length = vs'.length → vs ≠ vs' → NoC (vs.map brw) (vs'.map brw) → lv0 vs ≠ lv0 vs'
  | [], [], _, h, _ => absurd rfl h
  | v :: r, v' :: r', hl, h, hc => by
    show mixN (brw v) :: lv0 r ≠ mixN (brw v') :: lv0 r'
    intro e
    obtain ⟨e1, e2⟩ := List.cons.inj e
    have e3 := brw_inj (noC_eq (hc 0 _ _ rfl rfl) e1)
    have hr : r ≠ r' := fun z => h (by rw [e3, z])
    exact lv_ne (by simpa using hl) hr (fun i x y h1 h2 => hc (i + 1) x y h1 h2) e2
  | [], _ :: _, hl, _, _ => by cases hl
  | _ :: _, [], hl, _, _ => by cases hl
noncomputable def fcl (R S : List (List Int)) : Option (List Int × List Int) := (R.zip S).find? fun q => isC q.1 q.2
noncomputable def rowF (vs : List (Int × List Int)) (p : List Int) (b m : Nat) (n0 n1 t : Int) : List (List Int) := rowV vs p b m ++ [[2, n0, n1, (m : Int), t]]
theorem row_len {vs vs' : List (Int × List Int)} {p p' : List Int} {b m : Nat} {t t' : Int} (hl : vs.length = vs'.length) (h1 : 1 ≤ vs.length) (h2 : b + vs.length ≤ m) (ht : topV vs p b m = some t) (ht' : topV vs' p' b m = some t') : (rowV vs p b m).length = (rowV vs' p' b m).length := by
  unfold rowV
  unfold topV at ht ht'
  rw [← hl] at ht'
  have := (rws_same m b (b + vs.length) (lv0 vs) (lv0 vs') p p' t t' (by trivial) h2 (by rw [lv0_len]; trivial) (by rw [lv0_len]; trivial) ht ht').1
  rw [List.length_append, List.length_append, List.length_map, List.length_map, ← hl, this]
theorem clash_ex {vs vs' : List (Int × List Int)} {p p' : List Int} {b m : Nat} {n0 n1 t t' : Int} (hl : vs.length = vs'.length) (h1 : 1 ≤ vs.length) (h2 : b + vs.length ≤ m) (hn : vs ≠ vs') (ht : topV vs p b m = some t) (ht' : topV vs' p' b m = some t')
    (hm : mixN [2, n0, n1, (m : Int), t] = mixN [2, n0, n1, (m : Int), t']) : ∃ q, fcl (rowF vs p b m n0 n1 t) (rowF vs' p' b m n0 n1 t') = some q := by
  cases hf : fcl (rowF vs p b m n0 n1 t) (rowF vs' p' b m n0 n1 t') with
  | some q => exact ⟨q, rfl⟩
  | none =>
    exfalso
    have hno : NoC (rowF vs p b m n0 n1 t) (rowF vs' p' b m n0 n1 t') := fun i x y a1 a2 => by
      have hz : ((rowF vs p b m n0 n1 t).zip (rowF vs' p' b m n0 n1 t'))[i]? = some (x, y) := by rw [List.getElem?_zip_eq_some]; exact ⟨a1, a2⟩
      have := List.find?_eq_none.mp hf (x, y) (List.mem_of_getElem? hz)
      simpa using this
    have hrl := row_len hl h1 h2 ht ht'
    unfold rowF at hno
    unfold topV at ht ht'
    rw [← hl] at ht'
    have hrow : NoC (rowV vs p b m) (rowV vs' p' b m) := fun i x y a1 a2 => hno i x y (by rw [List.getElem?_append_left (List.getElem?_eq_some_iff.mp a1).1]; exact a1) (by rw [List.getElem?_append_left (List.getElem?_eq_some_iff.mp a2).1]; exact a2)
    have hlast : isC [2, n0, n1, (m : Int), t] [2, n0, n1, (m : Int), t'] = false := hno (rowV vs p b m).length _ _ (by rw [List.getElem?_append_right (Nat.le_refl _), Nat.sub_self]; rfl) (by rw [hrl, List.getElem?_append_right (Nat.le_refl _), Nat.sub_self]; rfl)
    have et : t = t' := by
      have := noC_eq hlast hm
      simpa using this
    unfold rowV at hrow
    have ml : (vs.map brw).length = (vs'.map brw).length := by rw [List.length_map, List.length_map, hl]
    have c0 : NoC (vs.map brw) (vs'.map brw) := fun i x y a1 a2 => hrow i x y (by rw [List.getElem?_append_left (List.getElem?_eq_some_iff.mp a1).1]; exact a1) (by rw [List.getElem?_append_left (List.getElem?_eq_some_iff.mp a2).1]; exact a2)
    have c1 : NoC (rws (lv0 vs) b (b + vs.length) m p) (rws (lv0 vs') b (b + vs.length) m p') := fun i x y a1 a2 => hrow ((vs.map brw).length + i) x y (by rw [List.getElem?_append_right (by trivial), show (vs.map brw).length + i - (vs.map brw).length = i by trivial]; exact a1) (by rw [ml, List.getElem?_append_right (by trivial), show (vs'.map brw).length + i - (vs'.map brw).length = i by trivial, ← hl]; exact a2)
    exact (rws_same m b (b + vs.length) (lv0 vs) (lv0 vs') p p' t t' (by trivial) h2 (by rw [lv0_len]; trivial) (by rw [lv0_len]; trivial) ht ht').2 (lv_ne hl hn c0) c1 et
theorem fcl_some {R S : List (List Int)} {q : List Int × List Int} (h : fcl R S = some q) : q.1 ∈ R ∧ q.2 ∈ S ∧ q.1 ≠ q.2 ∧ mixN q.1 = mixN q.2 := by
  unfold fcl at h
  have h1 := List.find?_some h
  have h2 := List.of_mem_zip (List.mem_of_find?_eq_some h)
  have h1 : isC q.1 q.2 = true := h1
  unfold isC at h1
  rw [Bool.and_eq_true] at h1
  exact ⟨h2.1, h2.2, of_decide_eq_true h1.1, of_decide_eq_true h1.2⟩
noncomputable def cls (m b n0 n1 : Int) (vs : List (Int × List Int)) (p : List Int) (vs' : List (Int × List Int)) (p' : List Int) : Option (List Int × List Int) :=
  if vs.length = vs'.length ∧ vs ≠ vs' ∧ msh m b vs p = true ∧ msh m b vs' p' = true then
    match topV vs p b.toNat m.toNat, topV vs' p' b.toNat m.toNat with
    | some t, some t' => if mixN [2, n0, n1, m, t] = mixN [2, n0, n1, m, t'] then fcl (rowV vs p b.toNat m.toNat ++ [[2, n0, n1, m, t]]) (rowV vs' p' b.toNat m.toNat ++ [[2, n0, n1, m, t']]) else none
    | _, _ => none
  else none
noncomputable def spClash : Sp := fun vs H Q _ => ∃ (N B Pp B' Pp' : Addr) (bs bs' : List BL) (p p' : List Int) (b m n0 n1 : Int), vs = [.ref N, .int b, .ref B, .ref Pp, .ref B', .ref Pp'] ∧ H N = some (.tup [.int n0, .int n1, .int m]) ∧ Hnd H B Pp bs p ∧ Hnd H B' Pp' bs' p' ∧ m ≤ 2 ^ 62 ∧
  (cls m b n0 n1 (bkv bs) p (bkv bs') p' = none → ∀ H', Same H H' → Q .non H') ∧
  (∀ q, cls m b n0 n1 (bkv bs) p (bkv bs') p' = some q → ∀ (T a1 a2 : Addr) (H' : Hp), Same H H' → H' T = some (.tup [.ref a1, .ref a2]) → H' a1 = some (lsI q.1) → H' a2 = some (lsI q.2) → H a1 = none → H a2 = none → a1 ≠ a2 → Q (.ref T) H')
theorem eqDs_map {α : Type} [DecidableEq α] {f : α → DV} (hf : ∀ a b, eqD (f a) (f b) = decide (a = b)) : ∀ a b : List α, eqDs (a.map f) (b.map f) = decide (a = b)
  | [], [] => by unfold List.map eqDs; rfl
  | [], y :: b => by rw [List.map_nil, List.map_cons]; unfold eqDs; rfl
  | x :: a, [] => by rw [List.map_nil, List.map_cons]; unfold eqDs; rfl
  | x :: a, y :: b => by
    rw [List.map_cons, List.map_cons]
    unfold eqDs
    rw [hf, eqDs_map hf a b, Bool.eq_iff_iff, Bool.and_eq_true, decide_eq_true_iff, decide_eq_true_iff, decide_eq_true_iff]
    constructor
    · rintro ⟨h1, h2⟩; rw [h1, h2]
    · intro h; exact List.cons.inj h
theorem eqD_w (v v' : Int × List Int) : eqD (wD v) (wD v') = decide (v = v') := by
  have e : eqD (wD v) (wD v') = (decide (v.1 = v'.1) && decide (v.2 = v'.2)) := by
    unfold wD eqD eqDs eqDs eqDs
    rw [eqD_ints45]
    unfold eqD
    rw [Bool.and_true]
    congr 1
  rw [e, Bool.eq_iff_iff, Bool.and_eq_true, decide_eq_true_iff, decide_eq_true_iff, decide_eq_true_iff]
  constructor
  · rintro ⟨h1, h2⟩; exact Prod.ext h1 h2
  · rintro rfl; exact ⟨rfl, rfl⟩
theorem eqD_wr (vs vs' : List (Int × List Int)) : eqD (wrD vs) (wrD vs') = decide (vs = vs') := by
  unfold wrD eqD
  exact eqDs_map eqD_w vs vs'
end PH
set_option Elab.async false
set_option linter.all false
set_option maxRecDepth 100000
set_option maxHeartbeats 4000000
namespace PH
open PySem L2 PySem.W
theorem cls_no {m b n0 n1 : Int} {vs vs' : List (Int × List Int)} {p p' : List Int} (h : ¬ (vs.length = vs'.length ∧ vs ≠ vs' ∧ msh m b vs p = true ∧ msh m b vs' p' = true)) : cls m b n0 n1 vs p vs' p' = none := if_neg h
theorem cls_n1 {m b n0 n1 : Int} {vs vs' : List (Int × List Int)} {p p' : List Int} (h : topV vs p b.toNat m.toNat = none) : cls m b n0 n1 vs p vs' p' = none := by
  unfold cls
  split
  · rw [h]
  · rfl
theorem cls_n2 {m b n0 n1 : Int} {vs vs' : List (Int × List Int)} {p p' : List Int} (h : topV vs' p' b.toNat m.toNat = none) : cls m b n0 n1 vs p vs' p' = none := by
  unfold cls
  split
  · rw [h]; cases topV vs p b.toNat m.toNat <;> rfl
  · rfl
theorem cls_mix {m b n0 n1 t t' : Int} {vs vs' : List (Int × List Int)} {p p' : List Int} (h1 : topV vs p b.toNat m.toNat = some t) (h2 : topV vs' p' b.toNat m.toNat = some t') (h : ¬ mixN [2, n0, n1, m, t] = mixN [2, n0, n1, m, t']) : cls m b n0 n1 vs p vs' p' = none := by
  unfold cls
  split
  · rw [h1, h2]; exact if_neg h
  · rfl
theorem cls_yes {m b n0 n1 t t' : Int} {vs vs' : List (Int × List Int)} {p p' : List Int} (hc : vs.length = vs'.length ∧ vs ≠ vs' ∧ msh m b vs p = true ∧ msh m b vs' p' = true) (h1 : topV vs p b.toNat m.toNat = some t) (h2 : topV vs' p' b.toNat m.toNat = some t') (h : mixN [2, n0, n1, m, t] = mixN [2, n0, n1, m, t']) :
    cls m b n0 n1 vs p vs' p' = fcl (rowV vs p b.toNat m.toNat ++ [[2, n0, n1, m, t]]) (rowV vs' p' b.toNat m.toNat ++ [[2, n0, n1, m, t']]) := by
  unfold cls
  rw [if_pos hc, h1, h2]
  exact if_pos h
theorem rws_three : ∀ (w b e : Nat) (kn p : List Int), ∀ x ∈ rws kn b e w p, x.length = 3
  | w, b, e, kn, p => by
    by_cases hw : w ≤ 1
    · rw [rws_one hw]; intro x hx; cases hx
    · cases q : prc (b : Int) (lack b e w) kn p with
      | none =>
        rw [rws, dif_neg hw, q]
        intro x hx; cases hx
      | some s =>
        rw [rws_on (by trivial) q]
        intro x hx
        rcases List.mem_append.mp hx with hx | hx
        · obtain ⟨i, hi⟩ := List.mem_iff_getElem?.mp hx
          exact prs2_three _ i x hi
        · exact rws_three ((w + 1) / 2) (b / 2) ((e + 1) / 2) (nxl s.1) s.2 x hx
termination_by w => w
decreasing_by trivial
theorem row_short {bs : List BL} {p : List Int} {b m : Nat} {l : List Int} (hl : l.length = 5) (hb : ∀ x ∈ bs, x.2.2.2.length ≤ 10000) : ∀ x ∈ rowV (bkv bs) p b m ++ [l], x.length ≤ 10002 := fun x hx => by
  rcases List.mem_append.mp hx with hx | hx
  · unfold rowV at hx
    rcases List.mem_append.mp hx with hx | hx
    · obtain ⟨v, hv, rfl⟩ := List.mem_map.mp hx
      obtain ⟨y, hy, rfl⟩ := List.mem_map.mp hv
      have := hb y hy
      show y.2.2.2.length + 1 + 1 ≤ 10002
      trivial
    · rw [rws_three _ _ _ _ _ x hx]; decide
  · rw [List.mem_singleton.mp hx, hl]; decide
noncomputable def Bks (H : Hp) (D : Addr) (ds : List BL) : Prop := Wrs H D ds ∧ ∀ x ∈ ds, x.2.2.2.length ≤ 300
theorem Bks.same {H H' : Hp} {D : Addr} {ds : List BL} (h : Bks H D ds) (s : Same H H') : Bks H' D ds := ⟨h.1.same s, h.2⟩
noncomputable def spOthers : Sp := fun vs H Q _ => ∃ (B C : Addr) (bs : List BL) (cs : List Int), vs = [.ref B, .ref C] ∧ Bks H B bs ∧ bs.length ≤ 90 ∧ H C = some (lsI cs) ∧ 1 ≤ cs.length ∧ cs.length ≤ 100 ∧ ∀ (D : Addr) (ds : List BL) (H' : Hp), Same H H' → Bks H' D ds → ds.length = bs.length → Q (.ref D) H'
noncomputable def spAnother : Sp := fun vs H Q _ => ∃ (B C : Addr) (bs : List BL) (cs : List Int) (c : Int), vs = [.ref B, .int c, .ref C] ∧ Bks H B bs ∧ bs.length ≤ 90 ∧ H C = some (lsI cs) ∧ 1 ≤ cs.length ∧ cs.length ≤ 100 ∧ ∀ (D : Addr) (ds : List BL) (H' : Hp), Same H H' → Bks H' D ds → ds.length ≤ bs.length + 1 → Q (.ref D) H'
noncomputable def spSpoilt69 : Sp := fun vs H Q _ => ∃ (B Pp : Addr) (bs : List BL) (p : List Int) (c : Int), vs = [.ref B, .ref Pp, .int c] ∧ Bks H B bs ∧ bs.length ≤ 91 ∧ H Pp = some (lsI p) ∧ p.length ≤ 500 ∧ ∀ (t B2 P2 : Addr) (ds : List BL) (p2 : List Int) (H' : Hp), Same H H' → H' t = some (.tup [.ref B2, .ref P2]) → Bks H' B2 ds → H' P2 = some (lsI p2) → ds.length = bs.length → p2.length ≤ p.length + 1 → Q (.ref t) H'
noncomputable def spRows69 : Sp := fun vs H Q _ => ∃ (N B Pp : Addr) (bs : List BL) (p : List Int) (b m : Nat) (n0 n1 : Int), vs = [.ref N, .int (b : Int), .ref B, .ref Pp] ∧ H N = some (.tup [.int n0, .int n1, .int (m : Int)]) ∧ Hnd H B Pp bs p ∧ 1 ≤ bs.length ∧ b + bs.length ≤ m ∧ m ≤ 100 ∧ p.length = wnt b (b + bs.length) m ∧
  ∀ (D : Addr) (as : List Addr) (t : Int) (H' : Hp), Same H H' → topV (bkv bs) p b m = some t → Lss H' D as (rowV (bkv bs) p b m ++ [[2, n0, n1, (m : Int), t]]) → as.length ≤ 20001 → Q (.ref D) H'
noncomputable def spPaper69 : Sp := fun vs H Q _ => ∃ (N Sh Pp Ot : Addr) (bs os : List BL) (p : List Int) (b m : Nat) (n0 n1 c : Int), vs = [.ref N, .int (b : Int), .ref Sh, .ref Pp, .ref Ot, .int c] ∧ H N = some (.tup [.int n0, .int n1, .int (m : Int)]) ∧ Hnd H Sh Pp bs p ∧ Bks H Ot os ∧ os.length ≤ 91 ∧ 1 ≤ bs.length ∧ b + bs.length ≤ m ∧ m ≤ 100 ∧ p.length = wnt b (b + bs.length) m ∧
  ∀ (D : Addr) (p2 : List Int) (H' : Hp), Same H H' → H' D = some (lsI p2) → p2.length = p.length → Q (.ref D) H'
noncomputable def spLClash : Sp := fun vs H Q _ => ∃ (T a1 a2 R S : Addr) (r1 r2 : List Int) (as bs : List Addr) (Rl Sl : List (List Int)), vs = [.ref T, .ref R, .ref S] ∧ H T = some (.tup [.ref a1, .ref a2]) ∧ H a1 = some (lsI r1) ∧ H a2 = some (lsI r2) ∧ Lss H R as Rl ∧ Lss H S bs Sl ∧ r1.length ≤ 10002 ∧ r2.length ≤ 10002 ∧ r1 ∈ Rl ∧ r2 ∈ Sl ∧ r1 ≠ r2 ∧ mixN r1 = mixN r2 ∧ ∀ H', Same H H' → Q (.bl true) H'
structure Drw (H : Hp) (N L Sh Pp Ot Oq : Addr) (n0 n1 m : Int) (bs : List BL) (p : List Int) (os : List BL) (q : List Int) : Prop where
  nu : H N = some (.tup [.int n0, .int n1, .int m])
  ls : H L = some (.lst [.ref Sh, .ref Pp, .ref Ot, .ref Oq])
  h1 : Hnd H Sh Pp bs p
  h2 : Hnd H Ot Oq os q
  m1 : m ≤ 100
theorem Drw.same {H H' : Hp} {N L Sh Pp Ot Oq : Addr} {n0 n1 m : Int} {bs : List BL} {p : List Int} {os : List BL} {q : List Int} (h : Drw H N L Sh Pp Ot Oq n0 n1 m bs p os q) (s : Same H H') : Drw H' N L Sh Pp Ot Oq n0 n1 m bs p os q := ⟨s _ _ h.nu, s _ _ h.ls, h.h1.same s, h.h2.same s, h.m1⟩
noncomputable def spDrawn69 (K : Frag) : Sp := fun vs H Q _ => ∃ (a : Addr) (ns : List Int), vs = [.ref a] ∧ SqL K H a (ns.map V.int) ∧ ns.length ≤ 63 ∧
  ∀ (T N L Sh Pp Ot Oq : Addr) (n0 n1 m f : Int) (bs : List BL) (p : List Int) (os : List BL) (q : List Int) (H' : Hp), Same H H' → H' T = some (.tup [.ref N, .int f, .ref L]) → Drw H' N L Sh Pp Ot Oq n0 n1 m bs p os q → Q (.ref T) H'
theorem cut_m1 (xs : List V) : cutV xs none (some (-1)) = xs.dropLast := by
  unfold cutV
  have e1 : HT.sIx xs.length 0 none = 0 := rfl
  have e2 : HT.sIx xs.length xs.length (some (-1)) = xs.length - 1 := by
    unfold HT.sIx
    simp
    trivial
  rw [e1, e2, List.drop_zero, Nat.sub_zero, List.dropLast_eq_take]
noncomputable def FstC (H2 H : Hp) (D : Addr) (as as' cs : List Addr) (qs : List (List Int × List Int)) : Prop := (cs = [] ∧ qs = []) ∨ ∃ (c : Addr) (cs' : List Addr) (q : List Int × List Int) (qs' : List (List Int × List Int)) (x y : Addr), cs = c :: cs' ∧ qs = q :: qs' ∧ c ≠ D ∧ x ∈ as ∧ y ∈ as' ∧ H c = some (.tup [.ref x, .ref y]) ∧ H2 x = some (lsI q.1) ∧ H2 y = some (lsI q.2)
theorem FstC.same {H2 H H' : Hp} {D : Addr} {as as' cs : List Addr} {qs : List (List Int × List Int)} (h : FstC H2 H D as as' cs qs) (s : Same H H') : FstC H2 H' D as as' cs qs := by
  rcases h with h | ⟨c, cs', q, qs', x, y, h1, h2, h3, h4, h5, h6, h7, h8⟩
  · exact .inl h
  · exact .inr ⟨c, cs', q, qs', x, y, h1, h2, h3, h4, h5, s _ _ h6, h7, h8⟩
theorem FstC.app {H2 H : Hp} {D t x y : Addr} {as as' cs : List Addr} {qs : List (List Int × List Int)} {rx ry : List Int} (h : FstC H2 H D as as' cs qs) (nt : t ≠ D) (hx : x ∈ as) (hy : y ∈ as') (ht : H t = some (.tup [.ref x, .ref y])) (h7 : H2 x = some (lsI rx)) (h8 : H2 y = some (lsI ry)) (o : HO) : FstC H2 (upd H D o) D as as' (cs ++ [t]) (qs ++ [(rx, ry)]) := by
  rcases h with ⟨rfl, rfl⟩ | ⟨c, cs', q, qs', x, y, rfl, rfl, h3, h4, h5, h6, h7, h8⟩
  · exact .inr ⟨t, [], (rx, ry), [], x, y, rfl, rfl, nt, hx, hy, by rw [upd_ne nt]; exact ht, h7, h8⟩
  · exact .inr ⟨c, cs' ++ [t], q, qs' ++ [(rx, ry)], x, y, rfl, rfl, h3, h4, h5, by rw [upd_ne h3]; exact h6, h7, h8⟩
structure Spl (H H' : Hp) (B2 P2 : Addr) (ds : List BL) (p2 : List Int) (n k : Nat) : Prop where
  bk : Wrs H' B2 ds
  bz : ∀ b ∈ ds, b.2.2.2.length ≤ 300
  bn : ds.length = n
  new : ∀ b ∈ ds, H b.2.2.1 = none
  ne : ∀ b ∈ ds, b.2.2.1 ≠ B2
  nd : (ds.map fun b => b.2.2.1).Nodup
  bH : H B2 = none
  pp : H' P2 = some (lsI p2)
  pH : H P2 = none
  pl : p2.length ≤ k
  pne : P2 ≠ B2
  pbn : ∀ b ∈ ds, b.2.2.1 ≠ P2
  sm : Same H H'
theorem Spl.pap {H H' : Hp} {B2 P2 : Addr} {ds : List BL} {p2 : List Int} {n k : Nat} (h : Spl H H' B2 P2 ds p2 n k) {p3 : List Int} (hl : p3.length ≤ k) : Spl H (upd H' P2 (lsI p3)) B2 P2 ds p3 n k := by
  have nt : ∀ a xs, H' a = some (.tup xs) → a ≠ P2 := fun a xs e c => by rw [c, h.pp] at e; cases e
  refine ⟨⟨by rw [upd_ne (Ne.symm h.pne)]; exact h.bk.at_, fun w hw => ?_⟩, h.bz, h.bn, h.new, h.ne, h.nd, h.bH, upd_same, h.pH, hl, h.pne, h.pbn, same_upd h.sm _ h.pH⟩
  have := h.bk.each w hw
  exact ⟨by rw [upd_ne (nt _ _ this.1)]; exact this.1, by rw [upd_ne (h.pbn w hw)]; exact this.2⟩
theorem Spl.same {H H' H2 : Hp} {B2 P2 : Addr} {ds : List BL} {p2 : List Int} {n k : Nat} (h : Spl H H' B2 P2 ds p2 n k) (s : Same H' H2) : Spl H H2 B2 P2 ds p2 n k := ⟨h.bk.same s, h.bz, h.bn, h.new, h.ne, h.nd, h.bH, s _ _ h.pp, h.pH, h.pl, h.pne, h.pbn, h.sm.trans s⟩
theorem rsz_one (n : Nat) : (Builtin.Range.rangeSize 1 (n : Int) 2).toNat = n / 2 := by
  unfold Builtin.Range.rangeSize
  rw [if_pos (by trivial)]
  split <;> trivial
theorem cls_some {m b n0 n1 : Int} {vs vs' : List (Int × List Int)} {p p' : List Int} {q : List Int × List Int} (h : cls m b n0 n1 vs p vs' p' = some q) : vs.length = vs'.length ∧ vs ≠ vs' ∧ fitV m b vs p = true ∧ fitV m b vs' p' = true := by
  by_cases hc : vs.length = vs'.length ∧ vs ≠ vs' ∧ msh m b vs p = true ∧ msh m b vs' p' = true
  · refine ⟨hc.1, hc.2.1, ?_, ?_⟩
    · cases hf : fitV m b vs p with
      | true => rfl
      | false => rw [cls_n1 (fit_none hc.2.2.1 hf)] at h; cases h
    · cases hf : fitV m b vs' p' with
      | true => rfl
      | false => rw [cls_n2 (fit_none hc.2.2.2 hf)] at h; cases h
  · rw [cls_no hc] at h; cases h
theorem fit_msh {m b : Int} {vs : List (Int × List Int)} {p : List Int} (h : fitV m b vs p = true) : msh m b vs p = true ∧ p.length = wnt b.toNat (b.toNat + vs.length) m.toNat := by
  unfold fitV at h
  rw [Bool.and_eq_true] at h
  exact ⟨h.1, of_decide_eq_true h.2⟩
noncomputable def Tld (H6 H : Hp) (v : V) (o : Option (List Int × List Int)) : Prop := (v = .non ∧ o = none) ∨ ∃ (T a1 a2 : Addr) (q : List Int × List Int), v = .ref T ∧ o = some q ∧ H T = some (.tup [.ref a1, .ref a2]) ∧ H a1 = some (lsI q.1) ∧ H a2 = some (lsI q.2) ∧ H6 a1 = none ∧ H6 a2 = none ∧ a1 ≠ a2
theorem Tld.same {H6 H H' : Hp} {v : V} {o : Option (List Int × List Int)} (h : Tld H6 H v o) (s : Same H H') : Tld H6 H' v o := by
  rcases h with h | ⟨T, a1, a2, q, h1, h2, h3, h4, h5, h6⟩
  · exact .inl h
  · exact .inr ⟨T, a1, a2, q, h1, h2, s _ _ h3, s _ _ h4, s _ _ h5, h6⟩
noncomputable def hdD (vs : List (Int × List Int)) (p : List Int) (vs' : List (Int × List Int)) (p' : List Int) : DV := .lst [wrD vs, .lst (p.map DV.int), wrD vs', .lst (p'.map DV.int)]
theorem ht_hdD (vs : List (Int × List Int)) (p : List Int) (vs' : List (Int × List Int)) (p' : List Int) : ht (hdD vs p vs' p') ≤ 60 := by
  have h1 : ∀ vs : List (Int × List Int), ht (wrD vs) ≤ 3 := fun vs => by
    unfold wrD
    rw [ht_lst]
    have := hts_wD vs
    trivial
  have h2 : ∀ p : List Int, ht (.lst (p.map DV.int)) = 1 := fun p => by rw [ht_lst, hts_dints]
  unfold hdD
  rw [ht_lst]
  unfold hts hts hts hts hts
  have := h1 vs
  have := h1 vs'
  have := h2 p
  have := h2 p'
  trivial
theorem deep_hd {K : Frag} {H : Hp} {L A B C D : Addr} {bs os : List BL} {p q : List Int} (h : H L = some (.lst [.ref A, .ref B, .ref C, .ref D])) (h1 : Hnd H A B bs p) (h2 : Hnd H C D os q) : Deep K H (.ref L) (hdD (bkv bs) p (bkv os) q) :=
  .lst (SqL.of h) (.cons h1.bk.deep (.cons (.lst (SqL.of h1.pp) (Deeps.ints _)) (.cons h2.bk.deep (.cons (.lst (SqL.of h2.pp) (Deeps.ints _)) .nil))))
end PH
set_option Elab.async false
set_option linter.all false
set_option maxRecDepth 100000
set_option maxHeartbeats 4000000
namespace K69
open PySem L2 PySem.W PH
noncomputable def top (i : Nat) : Stmt := PySem.Challenge.pw_packhall_k69_whole_clashes.main.body.getD i (.Pass ⟨0, 0, 0, 0⟩)
noncomputable abbrev s_whole : Stmt := top 6
noncomputable abbrev s_nostr : Stmt := top 7
noncomputable abbrev s_size : Stmt := top 10
noncomputable abbrev s_total : Stmt := top 11
noncomputable abbrev s_isbk : Stmt := top 12
noncomputable abbrev s_arebk : Stmt := top 13
noncomputable abbrev s_need : Stmt := top 14
noncomputable abbrev s_iscon : Stmt := top 15
noncomputable abbrev s_nocon : Stmt := top 16
noncomputable abbrev s_mix : Stmt := top 23
noncomputable abbrev s_brow : Stmt := top 24
noncomputable abbrev s_bseal : Stmt := top 25
noncomputable abbrev s_prows : Stmt := top 26
noncomputable abbrev s_nextl : Stmt := top 27
noncomputable abbrev s_crow : Stmt := top 28
noncomputable abbrev s_lack : Stmt := top 29
noncomputable abbrev s_paper : Stmt := top 30
noncomputable abbrev s_mayseal : Stmt := top 31
noncomputable abbrev s_aresl : Stmt := top 32
noncomputable abbrev s_mayshow : Stmt := top 33
noncomputable abbrev s_rtop : Stmt := top 34
noncomputable abbrev s_rmix : Stmt := top 35
noncomputable abbrev s_shows : Stmt := top 36
noncomputable abbrev s_clash : Stmt := top 37
noncomputable abbrev s_cellat : Stmt := top 39
noncomputable abbrev s_lwhole : Stmt := top 40
noncomputable abbrev s_lbits : Stmt := top 41
noncomputable abbrev s_lmix : Stmt := top 42
noncomputable abbrev s_lcopy : Stmt := top 43
noncomputable abbrev s_lothers : Stmt := top 44
noncomputable abbrev s_lanother : Stmt := top 45
noncomputable abbrev s_lspoilt : Stmt := top 48
noncomputable abbrev s_lrows : Stmt := top 49
noncomputable abbrev s_lpaper : Stmt := top 50
noncomputable abbrev s_lclash : Stmt := top 51
noncomputable abbrev s_llong : Stmt := top 46
noncomputable abbrev s_lfits : Stmt := top 47
noncomputable abbrev s_ldrawn : Stmt := top 52
noncomputable abbrev s_law : Stmt := top 53
section
variable {P : Program} {w : World} {K : PySem.W.Frag} {mg : Str → Option Value} {base : Heap}
theorem sc_whole : FnScope ["thing"] ["thing"] (defScope s_whole) := ⟨rfl, rfl, rfl, by decide +kernel, rfl, by decide +kernel, by decide +kernel⟩
theorem ok_whole {f : Addr} {fd : FuncData} (F : Fun K "is_whole" "is_whole" s_whole f fd) (B : Bls mg) : FnOk P w K mg base (CXW P w) 1 f fd ["thing"] (spWh) := by
  refine F.okN sc_whole (fun vs H Q E h => ?_) (fun cdv A outer s H vs Q E hr h => ?_)
  · obtain ⟨n, rfl, _⟩ := h
    rfl
  · obtain ⟨n, rfl, q⟩ := h
    refine ⟨_, (pss_one (ps_ret (pe_and (pe_callB (r := rIsi K) call_isi rfl B.isi boot_isi (pa_cons (pv 0) (pa_cons (pe_bltn (v := .ty "int") rfl B.int boot_int' rfl) pa_nil))) (pe_one (pe_not (pe_callB (r := rIsi K) call_isi rfl B.isi boot_isi (pa_cons (pv 0) (pa_cons (pe_bltn (v := .ty "bool") rfl B.bool boot_bool' rfl) pa_nil)))))))), ?_⟩
    refine ⟨_, rfl, _, _, _, _, true, rfl, .of (.int n), rfl, kit_refl _ _, _, rfl, ?_⟩
    refine iteT ?_
    refine ⟨_, rfl, _, _, _, _, false, rfl, .of (.int n), rfl, kit_ib _, _, rfl, ?_⟩
    exact q
theorem sc_nostr : FnScope ["first", "last", "length"] ["first", "last", "length"] (defScope s_nostr) := ⟨rfl, rfl, rfl, by decide +kernel, rfl, by decide +kernel, by decide +kernel⟩
theorem ok_nostr {f c_NoPlace : Addr} {fd : FuncData} (F : Fun K "refuse_no_stretch" "refuse_no_stretch" s_nostr f fd) (B : Bls mg) (X_NoPlace : Ex K mg "NoPlace" c_NoPlace) (m_NoPlace : mg "NoPlace" = some (.ref c_NoPlace)) : FnOk P w K mg base (CXW P w) 1 f fd ["first", "last", "length"] (spNoStr c_NoPlace) := by
  refine F.okX sc_nostr (fun vs H Q E h => ?_) (fun cdv A outer s H vs Q E hr h => ?_)
  · obtain ⟨a, b, n, rfl, _⟩ := h
    rfl
  · obtain ⟨a, b, n, rfl, hE, hQ⟩ := h
    refine ⟨_, (pss_one (ps_if (PW.pt (pw_or (pt_cmpR op_lt (pv 0) pe_int (nomark _)) (pw_or (pt_cmpR op_gt (pv 0) (pv 1) (nomark _)) (pw_or1 (pt_cmpR op_gt (pv 1) (pv 2) (nomark _))))))
        (pss_one (ps_raise PySem.F.excBase_ValueError X_NoPlace.ex X_NoPlace.mg rfl))
        pss_nil)), ?_⟩
    refine ⟨_, rfl, _, _, rfl, rfl, _, rfl, ?_⟩
    by_cases h0 : a < 0
    · rw [decide_eq_true h0]
      refine iteT (iteT ?_)
      exact hE (by trivial)
    rw [decide_eq_false h0]
    refine iteF ?_
    refine ⟨_, rfl, _, rfl, _, _, rfl, rfl, _, rfl, ?_⟩
    by_cases h1 : b < a
    · rw [decide_eq_true h1]
      refine iteT (iteT ?_)
      exact hE (by trivial)
    rw [decide_eq_false h1]
    refine iteF ?_
    refine ⟨_, rfl, _, rfl, _, _, rfl, rfl, _, rfl, ?_⟩
    by_cases h2 : n < b
    · rw [decide_eq_true h2]
      refine iteT ?_
      exact hE (by trivial)
    rw [decide_eq_false h2]
    refine iteF ?_
    exact hQ (by trivial)
end
end K69
set_option Elab.async false
set_option linter.all false
set_option maxRecDepth 100000
set_option maxHeartbeats 4000000
namespace K69
open PySem L2 PySem.W PH
section
variable {P : Program} {w : World} {K : PySem.W.Frag} {mg : Str → Option Value} {base : Heap}
theorem sc_size : FnScope ["thing"] ["thing"] (defScope s_size) := ⟨rfl, rfl, rfl, by decide +kernel, rfl, by decide +kernel, by decide +kernel⟩
theorem ok_size {f f_whole : Addr} {fd d_whole : FuncData} (F : Fun K "is_size" "is_size" s_size f fd) (B : Bls mg) (m_GS : GSg mg) 
    (G_whole : FnOk P w K mg base (CXW P w) 1 f_whole d_whole ["thing"] (spWh)) (b_whole : Binds K d_whole ["thing"] []) (k_whole : keepIn K (.ref f_whole) = true) (m_whole : mg "is_whole" = some (.ref f_whole)) : FnOk P w K mg base (CXW P w) 2 f fd ["thing"] (spSize) := by
  refine F.okN sc_size (fun vs H Q E h => ?_) (fun cdv A outer s H vs Q E hr h => ?_)
  · obtain ⟨n, rfl, _⟩ := h
    rfl
  · obtain ⟨n, rfl, h0, h1, q⟩ := h
    obtain ⟨u_GS, mv_GS, rv_GS⟩ := m_GS
    refine ⟨_, (pss_one (ps_ret (pe_and (pe_call G_whole hr rfl m_whole k_whole b_whole .nil passN (pa_cons (pv 0) pa_nil)) (pe_one (pe_chain op_le op_le pe_int (pv 0) (pe_glob (v := .int 64) rfl mv_GS rv_GS)))))), ?_⟩
    refine ⟨_, rfl, n, rfl, _, rfl, ?_⟩
    refine iteT ?_
    refine ⟨_, rfl, _, _, rfl, rfl, _, rfl, ?_⟩
    rw [decide_eq_true h0]
    refine iteT ?_
    refine ⟨_, _, rfl, rfl, ?_⟩
    show Q (.bl (decide (n ≤ 64))) H
    rw [decide_eq_true h1]
    exact q
theorem sc_total : FnScope ["thing"] ["thing"] (defScope s_total) := ⟨rfl, rfl, rfl, by decide +kernel, rfl, by decide +kernel, by decide +kernel⟩
theorem ok_total {f f_whole : Addr} {fd d_whole : FuncData} (F : Fun K "is_total" "is_total" s_total f fd) (B : Bls mg) (m_MS : MSg mg) 
    (G_whole : FnOk P w K mg base (CXW P w) 1 f_whole d_whole ["thing"] (spWh)) (b_whole : Binds K d_whole ["thing"] []) (k_whole : keepIn K (.ref f_whole) = true) (m_whole : mg "is_whole" = some (.ref f_whole)) : FnOk P w K mg base (CXW P w) 2 f fd ["thing"] (spTotal) := by
  refine F.okN sc_total (fun vs H Q E h => ?_) (fun cdv A outer s H vs Q E hr h => ?_)
  · obtain ⟨n, rfl, _⟩ := h
    rfl
  · obtain ⟨n, rfl, h0, h1, q⟩ := h
    obtain ⟨u_MS, mv_MS, rv_MS⟩ := m_MS
    refine ⟨_, (pss_one (ps_ret (pe_and (pe_call G_whole hr rfl m_whole k_whole b_whole .nil passN (pa_cons (pv 0) pa_nil)) (pe_one (pe_chain op_le op_le pe_int (pv 0) (pe_glob (v := .int 400) rfl mv_MS rv_MS)))))), ?_⟩
    refine ⟨_, rfl, n, rfl, _, rfl, ?_⟩
    refine iteT ?_
    refine ⟨_, rfl, _, _, rfl, rfl, _, rfl, ?_⟩
    rw [decide_eq_true h0]
    refine iteT ?_
    refine ⟨_, _, rfl, rfl, ?_⟩
    show Q (.bl (decide (n ≤ 400))) H
    rw [decide_eq_true h1]
    exact q
end
end K69
set_option Elab.async false
set_option linter.all false
set_option maxRecDepth 100000
set_option maxHeartbeats 4000000
namespace K69
open PySem L2 PySem.W PH
section
variable {P : Program} {w : World} {K : PySem.W.Frag} {mg : Str → Option Value} {base : Heap}
theorem sc_isbk : FnScope ["thing"] ["thing"] (defScope s_isbk) := ⟨rfl, rfl, rfl, by decide +kernel, rfl, by decide +kernel, by decide +kernel⟩
theorem ok_isbk {f f_whole : Addr} {fd d_whole : FuncData} (F : Fun K "is_block" "is_block" s_isbk f fd) (B : Bls mg) 
    (G_whole : FnOk P w K mg base (CXW P w) 1 f_whole d_whole ["thing"] (spWh)) (b_whole : Binds K d_whole ["thing"] []) (k_whole : keepIn K (.ref f_whole) = true) (m_whole : mg "is_whole" = some (.ref f_whole)) : FnOk P w K mg base (CXW P w) 2 f fd ["thing"] (spIsBkR) := by
  refine F.okN sc_isbk (fun vs H Q E h => ?_) (fun cdv A outer s H vs Q E hr h => ?_)
  · obtain ⟨b, l, w, bits, rfl, _⟩ := h
    rfl
  · obtain ⟨b, l, w, bits, rfl, hb, hl, hQ⟩ := h
    refine ⟨_, (pss_cons (ps_if (PW.pt (pw_or (pt_not (pt_val (pe_callB (r := rIsi K) call_isi rfl B.isi boot_isi (pa_cons (pv 0) (pa_cons (pe_bltn (v := .ty "tuple") rfl B.tuple boot_tuple' rfl) pa_nil))))) (pw_or1 (pt_cmpR op_ne (pe_callB call_len_seq rfl B.len PySem.boot_len (pa_cons (pv 0) pa_nil)) pe_int (nomark _)))))
        (pss_one (ps_ret pe_bl))
        pss_nil)
      (pss_one (ps_ret (pe_and (pe_call G_whole hr rfl m_whole k_whole b_whole .nil passN (pa_cons (pe_ix ix_tup (pv 0) pe_int (fun _ _ => rfl)) pa_nil)) (pe_and (pe_cmpR op_ge (pe_ix ix_tup (pv 0) pe_int (fun _ _ => rfl)) pe_int (nomark _)) (pe_one (pe_callB (r := rIsi K) call_isi rfl B.isi boot_isi (pa_cons (pe_ix ix_tup (pv 0) pe_int (fun _ _ => rfl)) (pa_cons (pe_bltn (v := .ty "list") rfl B.list boot_list' rfl) pa_nil))))))))), ?_⟩
    refine ⟨_, rfl, _, _, _, _, true, rfl, .of (.tup hb), rfl, kit_refl _ _, _, rfl, ?_⟩
    refine iteF ?_
    refine ⟨_, rfl, b, _, rfl, .inr (SqT.of hb), rfl, _, rfl, ?_⟩
    refine iteNS rfl ?_
    refine ⟨_, rfl, b, _, _, _, rfl, rfl, SqT.of hb, rfl, w, rfl, _, rfl, ?_⟩
    refine iteT ?_
    refine ⟨_, rfl, b, _, _, _, rfl, rfl, SqT.of hb, rfl, _, _, rfl, rfl, _, rfl, ?_⟩
    by_cases h0 : 0 ≤ w
    rotate_left
    · rw [decide_eq_false h0] at hQ ⊢
      exact iteF hQ
    rw [decide_eq_true h0] at hQ ⊢
    refine iteT ?_
    refine ⟨_, rfl, b, _, _, _, rfl, rfl, SqT.of hb, rfl, _, _, _, _, true, rfl, .of (.lst hl), rfl, kit_refl _ _, ?_⟩
    exact hQ
end
end K69
set_option Elab.async false
set_option linter.all false
set_option maxRecDepth 100000
set_option maxHeartbeats 4000000
namespace K69
open PySem L2 PySem.W PH
section
variable {P : Program} {w : World} {K : PySem.W.Frag} {mg : Str → Option Value} {base : Heap}
theorem sc_arebk : FnScope ["things", "many"] ["things", "many"] (defScope s_arebk) := ⟨rfl, rfl, rfl, by decide +kernel, rfl, by decide +kernel, by decide +kernel⟩
theorem ok_arebk {f f_isbk : Addr} {fd d_isbk : FuncData} (F : Fun K "are_blocks" "are_blocks" s_arebk f fd) (B : Bls mg) 
    (G_isbk : FnOk P w K mg base (CXW P w) 2 f_isbk d_isbk ["thing"] (spIsBkR)) (b_isbk : Binds K d_isbk ["thing"] []) (k_isbk : keepIn K (.ref f_isbk) = true) (m_isbk : mg "is_block" = some (.ref f_isbk)) : FnOk P w K mg base (CXW P w) 3 f fd ["things", "many"] (spAreBk) := by
  refine F.okN sc_arebk (fun vs H Q E h => ?_) (fun cdv A outer s H vs Q E hr h => ?_)
  · obtain ⟨p, bs, rfl, _⟩ := h
    rfl
  · obtain ⟨p, bs, rfl, bk, hl, h0, hQ⟩ := h
    refine ⟨_, (pss_one (ps_ret (pe_and (pe_callB (r := rIsi K) call_isi rfl B.isi boot_isi (pa_cons (pv 0) (pa_cons (pe_bltn (v := .ty "list") rfl B.list boot_list' rfl) pa_nil))) (pe_and (pe_cmpR op_eq (pe_callB call_len_seq rfl B.len PySem.boot_len (pa_cons (pv 0) pa_nil)) (pv 1) (nomark _)) (pe_one (pe_callB (call_allL rfl) rfl B.all boot_all' (pa_cons (pe_comp (N := ["thing"]) (js := [none]) (g := (gName 0)) (tc := tTrue) (te := (tCall (spIsBkR) [] E0 (tCons (tVar 0) tNil))) rfl (comp_scope (osc := defScope s_arebk) (XN := ["things", "many"]) rfl rfl rfl (by decide +kernel)) (pi_list (pv 0)) (fun _ _ _ _ => pg_name (i := 0) (show (["thing"] : List Str).Nodup by decide +kernel) rfl (Or.inl rfl)) (fun _ _ _ _ => pif_nil) (fun _ _ _ _ => (pe_call G_isbk hr rfl m_isbk k_isbk b_isbk .nil passN (pa_cons (pv 0) pa_nil)))) pa_nil))))))), ?_⟩
    refine ⟨_, rfl, _, _, _, _, true, rfl, .of (.lst bk.at_), rfl, kit_refl _ _, _, rfl, ?_⟩
    refine iteT ?_
    refine ⟨_, rfl, p, _, rfl, .inl (SqL.of bk.at_), _, rfl, rfl, _, rfl, ?_⟩
    refine iteTD (congrArg (fun y : Nat => V.int (y : Int)) (List.length_map _)) ?_
    refine ⟨_, rfl, p, rfl, ⟨_, SqL.of bk.at_⟩, fun D hD => ?_⟩
    refine comp_lstQ (K := K) (a := p) (xs := bs.map fun w => V.ref w.1) (fun i σ' H' => ∃ (v0 : Option V), σ' = [v0] ∧ H' D = some (.lst ((List.replicate i true).map V.bl)) ∧ Same H H')
      ⟨none, rfl, upd_same, same_new hD _⟩ (fun i σ' H' _ ⟨_, _, _, e⟩ => SqL.of (e _ _ bk.at_)) ?_ ?_
    · rintro i y σ' H' hi ⟨v0, rfl, hD', sm⟩
      have hlt : i < (bs.map fun w => V.ref w.1).length := (List.getElem?_eq_some_iff.mp hi).1
      have hil : i < bs.length := by rw [List.length_map] at hlt; exact hlt
      obtain ⟨z, hz⟩ := bounded_at hil
      rw [List.getElem?_map, hz] at hi
      have ey : V.ref z.1 = y := Option.some.inj hi
      subst ey
      have hm := List.mem_of_getElem? hz
      have he := bk.each z hm
      refine nameT ?_
      refine ⟨_, rfl, z.1, z.2.2.1, z.2.1, z.2.2.2, rfl, sm _ _ he.1, sm _ _ he.2, ?_⟩
      rw [decide_eq_true (h0 z hm)]
      refine ⟨D, _, _, rfl, rfl, hD', fits_lt (by rw [List.length_map, List.length_replicate]; trivial), ?_⟩
      refine CW.next hlt ⟨_, rfl, ?_, same_upd sm _ hD⟩
      rw [upd_same, rep_snoc]
    rintro σ' H2 ⟨v0, rfl, hD2, sm2⟩
    refine ⟨D, _, rfl, SqL.of hD2, ?_⟩
    rw [all_rep]
    exact hQ H2 sm2
end
end K69
set_option Elab.async false
set_option linter.all false
set_option maxRecDepth 100000
set_option maxHeartbeats 4000000
namespace K69
open PySem L2 PySem.W PH
section
variable {P : Program} {w : World} {K : PySem.W.Frag} {mg : Str → Option Value} {base : Heap}
theorem sc_need : FnScope ["size", "total"] ["size", "total"] (defScope s_need) := ⟨rfl, rfl, rfl, by decide +kernel, rfl, by decide +kernel, by decide +kernel⟩
theorem ok_need {f : Addr} {fd : FuncData} (F : Fun K "blocks_needed" "blocks_needed" s_need f fd) (B : Bls mg) : FnOk P w K mg base (CXW P w) 1 f fd ["size", "total"] (spNeed) := by
  refine F.okN sc_need (fun vs H Q E h => ?_) (fun cdv A outer s H vs Q E hr h => ?_)
  · obtain ⟨s, t, rfl, _⟩ := h
    rfl
  · obtain ⟨s, t, rfl, h1, h2, hQ⟩ := h
    refine ⟨_, (pss_one (ps_ret (pe_op op_fdiv (pe_op op_sub (pe_op op_add (pv 1) (pv 0)) pe_int) (pv 0)))), ?_⟩
    refine ⟨_, rfl, _, rfl, _, _, rfl, rfl, _, _, rfl, rfl, _, rfl, _, _, rfl, rfl, ⟨by trivial, by trivial⟩, ?_⟩
    exact hQ
theorem sc_iscon : FnScope ["thing"] ["thing"] (defScope s_iscon) := ⟨rfl, rfl, rfl, by decide +kernel, rfl, by decide +kernel, by decide +kernel⟩
theorem ok_iscon {f f_size f_total f_arebk f_need : Addr} {fd d_size d_total d_arebk d_need : FuncData} (F : Fun K "is_container" "is_container" s_iscon f fd) (B : Bls mg) 
    (G_size : FnOk P w K mg base (CXW P w) 2 f_size d_size ["thing"] (spSize)) (b_size : Binds K d_size ["thing"] []) (k_size : keepIn K (.ref f_size) = true) (m_size : mg "is_size" = some (.ref f_size)) 
    (G_total : FnOk P w K mg base (CXW P w) 2 f_total d_total ["thing"] (spTotal)) (b_total : Binds K d_total ["thing"] []) (k_total : keepIn K (.ref f_total) = true) (m_total : mg "is_total" = some (.ref f_total)) 
    (G_arebk : FnOk P w K mg base (CXW P w) 3 f_arebk d_arebk ["things", "many"] (spAreBk)) (b_arebk : Binds K d_arebk ["things", "many"] []) (k_arebk : keepIn K (.ref f_arebk) = true) (m_arebk : mg "are_blocks" = some (.ref f_arebk)) 
    (G_need : FnOk P w K mg base (CXW P w) 1 f_need d_need ["size", "total"] (spNeed)) (b_need : Binds K d_need ["size", "total"] []) (k_need : keepIn K (.ref f_need) = true) (m_need : mg "blocks_needed" = some (.ref f_need)) : FnOk P w K mg base (CXW P w) 4 f fd ["thing"] (spIsCon) := by
  refine F.okN sc_iscon (fun vs H Q E h => ?_) (fun cdv A outer s H vs Q E hr h => ?_)
  · obtain ⟨c, p, sz, tot, bs, rfl, _⟩ := h
    rfl
  · obtain ⟨c, p, sz, tot, bs, rfl, cn, hQ⟩ := h
    refine ⟨_, (pss_cons (ps_if (PW.pt (pw_or (pt_not (pt_val (pe_callB (r := rIsi K) call_isi rfl B.isi boot_isi (pa_cons (pv 0) (pa_cons (pe_bltn (v := .ty "tuple") rfl B.tuple boot_tuple' rfl) pa_nil))))) (pw_or1 (pt_cmpR op_ne (pe_callB call_len_seq rfl B.len PySem.boot_len (pa_cons (pv 0) pa_nil)) pe_int (nomark _)))))
        (pss_one (ps_ret pe_bl))
        pss_nil)
      (pss_cons (ps_if (PW.pt (pw_or (pt_not (pt_val (pe_call G_size (hr.mono (show 2 ≤ 3 by decide)) rfl m_size k_size b_size .nil passN (pa_cons (pe_ix ix_tup (pv 0) pe_int (fun _ _ => rfl)) pa_nil)))) (pw_or1 (pt_not (pt_val (pe_call G_total (hr.mono (show 2 ≤ 3 by decide)) rfl m_total k_total b_total .nil passN (pa_cons (pe_ix ix_tup (pv 0) pe_int (fun _ _ => rfl)) pa_nil)))))))
        (pss_one (ps_ret pe_bl))
        pss_nil)
      (pss_one (ps_ret (pe_call G_arebk hr rfl m_arebk k_arebk b_arebk .nil passN (pa_cons (pe_ix ix_tup (pv 0) pe_int (fun _ _ => rfl)) (pa_cons (pe_call G_need (hr.mono (show 1 ≤ 3 by decide)) rfl m_need k_need b_need .nil passN (pa_cons (pe_ix ix_tup (pv 0) pe_int (fun _ _ => rfl)) (pa_cons (pe_ix ix_tup (pv 0) pe_int (fun _ _ => rfl)) pa_nil))) pa_nil))))))), ?_⟩
    have hc := cn.at_
    refine ⟨_, rfl, _, _, _, _, true, rfl, .of (.tup hc), rfl, kit_refl _ _, _, rfl, ?_⟩
    refine iteF ?_
    refine ⟨_, rfl, c, _, rfl, .inr (SqT.of hc), rfl, _, rfl, ?_⟩
    refine iteNS rfl ?_
    refine ⟨_, rfl, c, _, _, _, rfl, rfl, SqT.of hc, rfl, sz, rfl, cn.s1, cn.s2, _, rfl, ?_⟩
    refine iteF ?_
    refine ⟨_, rfl, c, _, _, _, rfl, rfl, SqT.of hc, rfl, tot, rfl, cn.t0, cn.t4, _, rfl, ?_⟩
    refine iteF ?_
    refine ⟨_, rfl, c, _, _, _, rfl, rfl, SqT.of hc, rfl, _, rfl, c, _, _, _, rfl, rfl, SqT.of hc, rfl, _, rfl, c, _, _, _, rfl, rfl, SqT.of hc, rfl, sz, tot, rfl, cn.s1, cn.s2, p, bs, congrArg (fun y => [V.ref p, V.int y]) cn.many, cn.bk, (by have := cn.few; trivial), (fun b hb => (cn.good b hb).1), fun H' s' => ?_⟩
    exact hQ H' s'
end
end K69
set_option Elab.async false
set_option linter.all false
set_option maxRecDepth 100000
set_option maxHeartbeats 4000000
namespace K69
open PySem L2 PySem.W PH
section
variable {P : Program} {w : World} {K : PySem.W.Frag} {mg : Str → Option Value} {base : Heap}
theorem sc_nocon : FnScope ["thing"] ["thing"] (defScope s_nocon) := ⟨rfl, rfl, rfl, by decide +kernel, rfl, by decide +kernel, by decide +kernel⟩
theorem ok_nocon {f c_Broken f_iscon : Addr} {fd d_iscon : FuncData} (F : Fun K "refuse_no_container" "refuse_no_container" s_nocon f fd) (B : Bls mg) (X_Broken : Ex K mg "Broken" c_Broken) (m_Broken : mg "Broken" = some (.ref c_Broken)) 
    (G_iscon : FnOk P w K mg base (CXW P w) 4 f_iscon d_iscon ["thing"] (spIsCon)) (b_iscon : Binds K d_iscon ["thing"] []) (k_iscon : keepIn K (.ref f_iscon) = true) (m_iscon : mg "is_container" = some (.ref f_iscon)) : FnOk P w K mg base (CXW P w) 5 f fd ["thing"] (spNoCon) := by
  refine F.okX sc_nocon (fun vs H Q E h => ?_) (fun cdv A outer s H vs Q E hr h => ?_)
  · obtain ⟨c, p, sz, tot, bs, rfl, _⟩ := h
    rfl
  · obtain ⟨c, p, sz, tot, bs, rfl, cn, hQ⟩ := h
    refine ⟨_, (pss_one (ps_if (pt_not (pt_val (pe_call G_iscon hr rfl m_iscon k_iscon b_iscon .nil passW (pa_cons (pv 0) pa_nil))))
        (pss_one (ps_raise PySem.F.excBase_ValueError X_Broken.ex X_Broken.mg rfl))
        pss_nil)), ?_⟩
    refine ⟨_, rfl, c, p, sz, tot, bs, rfl, cn, fun H' s' => ⟨_, rfl, ?_⟩⟩
    refine iteF ?_
    exact hQ H' s'
end
end K69
set_option Elab.async false
set_option linter.all false
set_option maxRecDepth 100000
set_option maxHeartbeats 4000000
namespace K69
open PySem L2 PySem.W PH
section
variable {P : Program} {w : World} {K : PySem.W.Frag} {mg : Str → Option Value} {base : Heap}
theorem sc_mix : FnScope ["row", "mixed", "number"] ["row"] (defScope s_mix) := ⟨rfl, rfl, rfl, by decide +kernel, rfl, by decide +kernel, by decide +kernel⟩
theorem ok_mix {f : Addr} {fd : FuncData} (F : Fun K "mix" "mix" s_mix f fd) (B : Bls mg) (m_FA : FAg mg) (m_MD : MDg mg) : FnOk P w K mg base (CXW P w) 1 f fd ["row"] (spMix) := by
  refine F.okN sc_mix (fun vs H Q E h => ?_) (fun cdv A outer s H vs Q E hr h => ?_)
  · obtain ⟨p, l, rfl, _⟩ := h
    rfl
  · obtain ⟨p, l, rfl, hp, hl, hQ⟩ := h
    obtain ⟨u_FA, mv_FA, rv_FA⟩ := m_FA
    obtain ⟨u_MD, mv_MD, rv_MD⟩ := m_MD
    refine ⟨_, (pss_cons (ps_set (i := 1) sc_mix.nd rfl (Or.inl rfl) (pe_callB call_len_seq rfl B.len PySem.boot_len (pa_cons (pv 0) pa_nil)))
      (pss_cons (ps_for PassesOwn.never rfl (pi_list (pv 0)) (pg_name (i := 2) sc_mix.nd rfl (Or.inl rfl))
        (pss_one (ps_set (i := 1) sc_mix.nd rfl (Or.inl rfl) (pe_op op_mod (pe_op op_add (pe_op op_mul (pv 1) (pe_glob (v := .int 1000003) rfl mv_FA rv_FA)) (pv 2)) (pe_glob (v := .int 2305843009213693951) rfl mv_MD rv_MD)))))
      (pss_one (ps_ret (pv 1))))), ?_⟩
    refine ⟨_, rfl, p, _, rfl, .inl (SqL.of hp), ?_⟩
    refine gNz (v' := V.int ((l.length : Nat) : Int)) (congrArg (fun y : Nat => V.int (y : Int)) (List.length_map _).symm) ?_
    refine ⟨_, rfl, p, rfl, ⟨_, SqL.of hp⟩, for_list (K := K) (a := p) (xs := l.map V.int) (fun i σ H' => ∃ (m : Int) (v2 : Option V), σ = [some (.ref p), some (.int m), v2] ∧ H' = H ∧ m = (l.take i).foldl mxs (l.length : Int) ∧ 0 ≤ m ∧ m < 2305843009213693951)
      ⟨_, none, rfl, rfl, rfl, by trivial, by trivial⟩ (fun i σ H' _ ⟨_, _, _, e, _⟩ => by rw [e]; exact SqL.of hp) ?_ ?_⟩
    · rintro i y σ H' hi ⟨m, v2, rfl, rfl, hm, m0, m1⟩
      obtain ⟨z, rfl, hz⟩ := int_at hi
      refine ⟨_, rfl, _, _, rfl, rfl, .inl ⟨by trivial, by trivial⟩, _, rfl, _, _, rfl, rfl, _, _, rfl, rfl, (by show (0 : Int) < 2305843009213693951; decide), ?_⟩
      have b := mxs_nn m z
      exact ⟨mxs m z, _, rfl, rfl, by rw [take_at hz, List.foldl_append, ← hm]; rfl, b.1, b.2⟩
    · rintro σ H' ⟨m, v2, rfl, rfl, hm, _, _⟩
      rw [List.length_map, List.take_length] at hm
      refine ⟨_, rfl, ?_⟩
      rw [hm]; exact hQ
end
end K69
set_option Elab.async false
set_option linter.all false
set_option maxRecDepth 100000
set_option maxHeartbeats 4000000
namespace K69
open PySem L2 PySem.W PH
section
variable {P : Program} {w : World} {K : PySem.W.Frag} {mg : Str → Option Value} {base : Heap}
theorem sc_brow : FnScope ["block"] ["block"] (defScope s_brow) := ⟨rfl, rfl, rfl, by decide +kernel, rfl, by decide +kernel, by decide +kernel⟩
theorem ok_brow {f : Addr} {fd : FuncData} (F : Fun K "block_row" "block_row" s_brow f fd) (B : Bls mg) (m_OB : OBg mg) : FnOk P w K mg base (CXW P w) 1 f fd ["block"] (spBRow) := by
  refine F.okN sc_brow (fun vs H Q E h => ?_) (fun cdv A outer s H vs Q E hr h => ?_)
  · obtain ⟨b, l, w, bits, rfl, _⟩ := h
    rfl
  · obtain ⟨b, l, w, bits, rfl, hb, hl, hz, hQ⟩ := h
    obtain ⟨u_OB, mv_OB, rv_OB⟩ := m_OB
    refine ⟨_, (pss_one (ps_ret (pe_op op_cat (pe_lst (pa_cons (pe_glob (v := .int 0) rfl mv_OB rv_OB) (pa_cons (pe_ix ix_tup (pv 0) pe_int (fun _ _ => rfl)) pa_nil))) (pe_ix ix_tup (pv 0) pe_int (fun _ _ => rfl))))), ?_⟩
    refine ⟨_, rfl, b, _, _, _, rfl, rfl, SqT.of hb, rfl, (by show 2 ≤ sizeLine; decide), fun l0 hl0 => ?_⟩
    have ul0 := same_new hl0 (.lst [V.int 0, V.int w])
    have el0 : upd H l0 (.lst [V.int 0, V.int w]) l0 = some (.lst [V.int 0, V.int w]) := upd_same
    generalize upd H l0 (.lst [V.int 0, V.int w]) = H1 at ul0 el0 ⊢
    have el0' : H1 l0 = some (lsI [0, w]) := el0
    refine ⟨_, rfl, b, _, _, _, rfl, rfl, SqT.of (ul0 _ _ hb), rfl, l0, l, _, _, rfl, rfl, el0', ul0 _ _ hl, fits (by rw [List.length_map, List.length_map]; show 2 + _ ≤ _; trivial), fun D hD => ?_⟩
    rw [lsI_cat]
    exact hQ D _ (ul0.trans (same_new hD _)) (ul0.free hD) upd_same
theorem sc_bseal : FnScope ["block"] ["block"] (defScope s_bseal) := ⟨rfl, rfl, rfl, by decide +kernel, rfl, by decide +kernel, by decide +kernel⟩
theorem ok_bseal {f f_mix f_brow : Addr} {fd d_mix d_brow : FuncData} (F : Fun K "block_seal" "block_seal" s_bseal f fd) (B : Bls mg) 
    (G_mix : FnOk P w K mg base (CXW P w) 1 f_mix d_mix ["row"] (spMix)) (b_mix : Binds K d_mix ["row"] []) (k_mix : keepIn K (.ref f_mix) = true) (m_mix : mg "mix" = some (.ref f_mix)) 
    (G_brow : FnOk P w K mg base (CXW P w) 1 f_brow d_brow ["block"] (spBRow)) (b_brow : Binds K d_brow ["block"] []) (k_brow : keepIn K (.ref f_brow) = true) (m_brow : mg "block_row" = some (.ref f_brow)) : FnOk P w K mg base (CXW P w) 2 f fd ["block"] (spBSeal) := by
  refine F.okN sc_bseal (fun vs H Q E h => ?_) (fun cdv A outer s H vs Q E hr h => ?_)
  · obtain ⟨b, l, w, bits, rfl, _⟩ := h
    rfl
  · obtain ⟨b, l, w, bits, rfl, hb, hl, hz, hQ⟩ := h
    refine ⟨_, (pss_one (ps_ret (pe_call G_mix hr rfl m_mix k_mix b_mix .nil passN (pa_cons (pe_call G_brow hr rfl m_brow k_brow b_brow .nil passN (pa_cons (pv 0) pa_nil)) pa_nil)))), ?_⟩
    refine ⟨_, rfl, b, l, w, bits, rfl, hb, hl, hz, fun D H' s' hDn hD => ?_⟩
    refine ⟨D, _, rfl, hD, (by show bits.length + 1 + 1 ≤ 100000; trivial), ?_⟩
    exact hQ H' s'
end
end K69
set_option Elab.async false
set_option linter.all false
set_option maxRecDepth 100000
set_option maxHeartbeats 4000000
namespace K69
open PySem L2 PySem.W PH
section
variable {P : Program} {w : World} {K : PySem.W.Frag} {mg : Str → Option Value} {base : Heap}
theorem sc_prows : FnScope ["level"] ["level"] (defScope s_prows) := ⟨rfl, rfl, rfl, by decide +kernel, rfl, by decide +kernel, by decide +kernel⟩
theorem ok_prows {f : Addr} {fd : FuncData} (F : Fun K "pair_rows" "pair_rows" s_prows f fd) (B : Bls mg) (m_OP : OPg mg) : FnOk P w K mg base (CXW P w) 1 f fd ["level"] (spPRowsF) := by
  refine F.okN sc_prows (fun vs H Q E h => ?_) (fun cdv A outer s H vs Q E hr h => ?_)
  · obtain ⟨p, l, rfl, _⟩ := h
    rfl
  · obtain ⟨p, l, rfl, hp, hl, hQ⟩ := h
    obtain ⟨u_OP, mv_OP, rv_OP⟩ := m_OP
    refine ⟨_, (pss_one (ps_ret (pe_comp (N := ["at", "level"]) (js := [none, some 0]) (g := (gName 0)) (tc := tTrue) (te := (tLst (tCons (tC (.int 1)) (tCons (tOp (rIxL K) (tVar 1) (tVar 0)) (tCons (tOp (rIxL K) (tVar 1) (tOp (rI0 fun i j => .int (i + j)) (tVar 0) (tC (.int 1)))) tNil))))) rfl (comp_scope (osc := defScope s_prows) (XN := ["level"]) rfl rfl rfl (by decide +kernel)) (pi_range3 rfl B.range (pa_cons pe_int (pa_cons (pe_op op_sub (pe_callB call_len_seq rfl B.len PySem.boot_len (pa_cons (pv 0) pa_nil)) pe_int) (pa_cons pe_int pa_nil)))) (fun _ _ _ _ => pg_name (i := 0) (show (["at", "level"] : List Str).Nodup by decide +kernel) rfl (Or.inl rfl)) (fun _ _ _ _ => pif_nil) (fun _ _ _ _ => (pe_lst (pa_cons (pe_glob (v := .int 1) rfl mv_OP rv_OP) (pa_cons (pe_ix ix_list (pv 1) (pv 0) (fun _ _ => rfl)) (pa_cons (pe_ix ix_list (pv 1) (pe_op op_add (pv 0) pe_int) (fun _ _ => rfl)) pa_nil)))))))), ?_⟩
    refine ⟨_, rfl, p, _, rfl, .inl (SqL.of hp), _, _, rfl, rfl, 0, ((l.length : Nat) : Int) - 1, 2, by rw [List.length_map], ⟨by decide, by decide⟩, small_step (by decide) (by decide) (by trivial) (by trivial) (by decide) (by decide), fun D hD => ?_⟩
    rw [rsz_half]
    refine comp_rngSQ (fun i σ' H' => ∃ (v0 : Option V) (as : List Addr), σ' = [v0, some (.ref p)] ∧ Lss H' D as ((prs2 l).take i) ∧ (∀ a ∈ as, a ≠ D) ∧ (∀ a ∈ as, H a = none) ∧ Same H H')
      ⟨none, [], rfl, by rw [List.take_zero]; exact Lss.nil upd_same, (fun a h => by cases h), (fun a h => by cases h), same_new hD _⟩ ?_ ?_
    · rintro i σ' H' hi ⟨v0, as, rfl, ls, hn, hfr, sm⟩
      rw [show (0 : Int) + ((i : Nat) : Int) * 2 = ((2 * i : Nat) : Int) by trivial]
      obtain ⟨x, hx⟩ := bounded_at (l := l) (k := 2 * i) (by trivial)
      obtain ⟨y, hy⟩ := bounded_at (l := l) (k := 2 * i + 1) (by trivial)
      have hp' := sm _ _ hp
      refine nameT ?_
      refine ⟨_, rfl, _, rfl, p, _, _, _, rfl, rfl, SqL.of hp', at_intsZ hx, _, rfl, _, rfl, _, _, rfl, rfl, p, _, ((2 * i + 1 : Nat) : Int), _, rfl, rfl, SqL.of hp', at_intsZ hy, (by show 3 ≤ sizeLine; decide), fun q hq => ?_⟩
      have u := same_new hq (.lst [V.int 1, V.int x, V.int y])
      have eq : upd H' q (.lst [V.int 1, V.int x, V.int y]) q = some (lsI [1, x, y]) := upd_same
      generalize upd H' q (.lst [V.int 1, V.int x, V.int y]) = H2 at u eq ⊢
      have ls2 := ls.same u
      have nq : q ≠ D := fun e => by rw [e] at hq; rw [ls.at_] at hq; cases hq
      have hal : as.length ≤ 1000 := by have := ls.len; rw [List.length_take, prs2_len] at this; trivial
      refine ⟨D, _, _, rfl, rfl, ls2.at_, fits_lt (by rw [List.length_map]; trivial), ?_⟩
      refine CW.next hi ⟨_, as ++ [q], rfl, ?_, ?_, ?_, same_upd (sm.trans u) _ hD⟩
      · rw [take_at (prs2_at l i x y hx hy)]
        exact ls2.app hn eq nq
      · intro a ha
        rcases List.mem_append.mp ha with ha | ha
        · exact hn a ha
        · rw [List.mem_singleton.mp ha]; exact nq
      · intro a ha
        rcases List.mem_append.mp ha with ha | ha
        · exact hfr a ha
        · rw [List.mem_singleton.mp ha]; exact sm.free hq
    rintro σ' H2 ⟨v0, as, rfl, ls, hn, hfr, sm2⟩
    rw [show l.length / 2 = (prs2 l).length from (prs2_len l).symm, List.take_length] at ls
    exact hQ D as H2 sm2 hD ls hfr
end
end K69
set_option Elab.async false
set_option linter.all false
set_option maxRecDepth 100000
set_option maxHeartbeats 4000000
namespace K69
open PySem L2 PySem.W PH
section
variable {P : Program} {w : World} {K : PySem.W.Frag} {mg : Str → Option Value} {base : Heap}
theorem sc_nextl : FnScope ["level", "left_over"] ["level"] (defScope s_nextl) := ⟨rfl, rfl, rfl, by decide +kernel, rfl, by decide +kernel, by decide +kernel⟩
theorem ok_nextl {f f_mix f_prows : Addr} {fd d_mix d_prows : FuncData} (F : Fun K "next_level" "next_level" s_nextl f fd) (B : Bls mg) 
    (G_mix : FnOk P w K mg base (CXW P w) 1 f_mix d_mix ["row"] (spMix)) (b_mix : Binds K d_mix ["row"] []) (k_mix : keepIn K (.ref f_mix) = true) (m_mix : mg "mix" = some (.ref f_mix)) 
    (G_prows : FnOk P w K mg base (CXW P w) 1 f_prows d_prows ["level"] (spPRowsF)) (b_prows : Binds K d_prows ["level"] []) (k_prows : keepIn K (.ref f_prows) = true) (m_prows : mg "pair_rows" = some (.ref f_prows)) : FnOk P w K mg base (CXW P w) 2 f fd ["level"] (spNxt) := by
  refine F.okN sc_nextl (fun vs H Q E h => ?_) (fun cdv A outer s H vs Q E hr h => ?_)
  · obtain ⟨p, l, rfl, _⟩ := h
    rfl
  · obtain ⟨p, l, rfl, hp, hl, hQ⟩ := h
    refine ⟨_, (pss_cons (ps_set (i := 1) sc_nextl.nd rfl (Or.inl rfl) (pe_slice sl_list (pv 0) (po_some (pe_op op_sub (pe_callB call_len_seq rfl B.len PySem.boot_len (pa_cons (pv 0) pa_nil)) (pe_op op_mod (pe_callB call_len_seq rfl B.len PySem.boot_len (pa_cons (pv 0) pa_nil)) pe_int))) po_none))
      (pss_one (ps_ret (pe_op op_cat (pe_comp (N := ["row"]) (js := [none]) (g := (gName 0)) (tc := tTrue) (te := (tCall (spMix) [] E0 (tCons (tVar 0) tNil))) rfl (comp_scope (osc := defScope s_nextl) (XN := ["level", "left_over"]) rfl rfl rfl (by decide +kernel)) (pi_list (pe_call G_prows hr rfl m_prows k_prows b_prows .nil passN (pa_cons (pv 0) pa_nil))) (fun _ _ _ _ => pg_name (i := 0) (show (["row"] : List Str).Nodup by decide +kernel) rfl (Or.inl rfl)) (fun _ _ _ _ => pif_nil) (fun _ _ _ _ => (pe_call G_mix hr rfl m_mix k_mix b_mix .nil passN (pa_cons (pv 0) pa_nil)))) (pv 1))))), ?_⟩
    refine ⟨_, rfl, _, rfl, p, _, rfl, .inl (SqL.of hp), _, rfl, p, _, rfl, .inl (SqL.of hp), _, _, rfl, rfl, (by show (0 : Int) < 2; decide), _, _, rfl, rfl, _, rfl, p, _, rfl, SqL.of hp, fun c hc => ?_⟩
    have ecut : HO.lst (cutV (l.map V.int) (some ((((l.map V.int).length : Nat) : Int) - (((l.map V.int).length : Nat) : Int) % 2)) none) = lsI (l.drop (l.length - l.length % 2)) := by
      rw [List.length_map, show ((l.length : Nat) : Int) - ((l.length : Nat) : Int) % 2 = ((l.length - l.length % 2 : Nat) : Int) by trivial, cut_from']
    try simp only []
    rw [ecut]
    have uc := same_new hc (lsI (l.drop (l.length - l.length % 2)))
    have ec : upd H c (lsI (l.drop (l.length - l.length % 2))) c = some (lsI (l.drop (l.length - l.length % 2))) := upd_same
    generalize upd H c (lsI (l.drop (l.length - l.length % 2))) = H1 at uc ec ⊢
    refine ⟨_, rfl, p, l, rfl, uc _ _ hp, hl, fun R as H2 s2 hR ls _ => ?_⟩
    have hal : as.length = l.length / 2 := by rw [ls.len, prs2_len]
    refine ⟨R, rfl, ⟨_, SqL.of ls.at_⟩, fun D hD => ?_⟩
    refine comp_lstQ (K := K) (a := R) (xs := as.map V.ref) (fun i σ' H' => ∃ (v0 : Option V), σ' = [v0] ∧ H' D = some (lsI (((prs2 l).take i).map mixN)) ∧ Same H2 H')
      ⟨none, rfl, upd_same, same_new hD _⟩ (fun i σ' H' _ ⟨_, _, _, e⟩ => SqL.of (e _ _ ls.at_)) ?_ ?_
    · rintro i y σ' H' hi ⟨v0, rfl, hD', sm⟩
      have hlt : i < (as.map V.ref).length := (List.getElem?_eq_some_iff.mp hi).1
      have hil : i < as.length := by rw [List.length_map] at hlt; exact hlt
      obtain ⟨a, ha⟩ := bounded_at hil
      obtain ⟨x, hx⟩ := bounded_at (l := prs2 l) (k := i) (by rw [prs2_len]; trivial)
      rw [List.getElem?_map, ha] at hi
      have ey : V.ref a = y := Option.some.inj hi
      subst ey
      have hx3 : x.length = 3 := prs2_three l i x hx
      refine nameT ?_
      refine ⟨_, rfl, a, x, rfl, sm _ _ (ls.each i a x ha hx), by trivial, ?_⟩
      refine ⟨D, _, _, rfl, rfl, hD', fits_lt (by rw [List.length_map, List.length_map, List.length_take, prs2_len]; trivial), ?_⟩
      refine CW.next hlt ⟨_, rfl, ?_, same_upd sm _ hD⟩
      rw [upd_same, take_at hx, List.map_append, lsI_app1]; rfl
    rintro σ' H3 ⟨v0, rfl, hD3, sm3⟩
    rw [List.length_map, ls.len, List.take_length] at hD3
    have s13 := s2.trans sm3
    have hb := nxl_len l
    rw [nxl_eq, List.length_append] at hb
    refine ⟨_, rfl, D, c, _, _, rfl, rfl, hD3, s13 _ _ ec, fits (by simp only [List.length_map] at hb ⊢; trivial), fun r hr2 => ?_⟩
    rw [lsI_cat, ← nxl_eq]
    have s03 := uc.trans s13
    exact hQ r _ (s03.trans (same_new hr2 _)) (s03.free hr2) upd_same
end
end K69
set_option Elab.async false
set_option linter.all false
set_option maxRecDepth 100000
set_option maxHeartbeats 4000000
namespace K69
open PySem L2 PySem.W PH
section
variable {P : Program} {w : World} {K : PySem.W.Frag} {mg : Str → Option Value} {base : Heap}
theorem sc_crow : FnScope ["numbers", "top"] ["numbers", "top"] (defScope s_crow) := ⟨rfl, rfl, rfl, by decide +kernel, rfl, by decide +kernel, by decide +kernel⟩
theorem ok_crow {f : Addr} {fd : FuncData} (F : Fun K "container_row" "container_row" s_crow f fd) (B : Bls mg) (m_OC : OCg mg) : FnOk P w K mg base (CXW P w) 1 f fd ["numbers", "top"] (spCRow) := by
  refine F.okN sc_crow (fun vs H Q E h => ?_) (fun cdv A outer s H vs Q E hr h => ?_)
  · obtain ⟨t, a, b, c, x, rfl, _⟩ := h
    rfl
  · obtain ⟨t, a, b, c, x, rfl, ht, hQ⟩ := h
    obtain ⟨u_OC, mv_OC, rv_OC⟩ := m_OC
    refine ⟨_, (pss_one (ps_ret (pe_lst (pa_cons (pe_glob (v := .int 2) rfl mv_OC rv_OC) (pa_cons (pe_ix ix_tup (pv 0) pe_int (fun _ _ => rfl)) (pa_cons (pe_ix ix_tup (pv 0) pe_int (fun _ _ => rfl)) (pa_cons (pe_ix ix_tup (pv 0) pe_int (fun _ _ => rfl)) (pa_cons (pv 1) pa_nil)))))))), ?_⟩
    refine ⟨_, rfl, t, _, _, _, rfl, rfl, SqT.of ht, rfl, _, rfl, t, _, _, _, rfl, rfl, SqT.of ht, rfl, _, rfl, t, _, _, _, rfl, rfl, SqT.of ht, rfl, _, rfl, (by show 5 ≤ sizeLine; decide), fun D hD => ?_⟩
    exact hQ D _ (same_new hD _) hD upd_same
end
end K69
set_option Elab.async false
set_option linter.all false
set_option maxRecDepth 100000
set_option maxHeartbeats 4000000
namespace K69
open PySem L2 PySem.W PH
section
variable {P : Program} {w : World} {K : PySem.W.Frag} {mg : Str → Option Value} {base : Heap}
theorem sc_lack : FnScope ["begin", "behind", "many", "places"] ["begin", "behind", "many"] (defScope s_lack) := ⟨rfl, rfl, rfl, by decide +kernel, rfl, by decide +kernel, by decide +kernel⟩
theorem ok_lack {f : Addr} {fd : FuncData} (F : Fun K "places_lacking" "places_lacking" s_lack f fd) (B : Bls mg) : FnOk P w K mg base (CXW P w) 1 f fd ["begin", "behind", "many"] (spLack) := by
  refine F.okN sc_lack (fun vs H Q E h => ?_) (fun cdv A outer s H vs Q E hr h => ?_)
  · obtain ⟨b, e, n, rfl, _⟩ := h
    rfl
  · obtain ⟨b, e, n, rfl, hQ⟩ := h
    refine ⟨_, (pss_cons (ps_set (i := 3) sc_lack.nd rfl (Or.inl rfl) (pe_lst pa_nil))
      (pss_cons (ps_if (pt_cmpR op_eq (pe_op op_mod (pv 0) pe_int) pe_int (nomark _))
        (pss_one (ps_expr (pe_bm PySem.F.plainAttrs_list PySem.F.slot_list_append PySem.F.type_list_append mt_append (pv 3) (pa_cons (pe_op op_sub (pv 0) pe_int) pa_nil))))
        pss_nil)
      (pss_cons (ps_if (PW.pt (pw_and (pt_cmpR op_eq (pe_op op_mod (pv 1) pe_int) pe_int (nomark _)) (pw_and1 (pt_cmpR op_lt (pv 1) (pv 2) (nomark _)))))
        (pss_one (ps_expr (pe_bm PySem.F.plainAttrs_list PySem.F.slot_list_append PySem.F.type_list_append mt_append (pv 3) (pa_cons (pv 1) pa_nil))))
        pss_nil)
      (pss_one (ps_ret (pv 3)))))), ?_⟩
    unfold lack at hQ
    refine ⟨(by show 0 ≤ sizeLine; decide), fun P hP => ?_⟩
    have s1 := same_new hP (.lst [])
    have eP : upd H P (.lst []) P = some (lsI []) := upd_same
    generalize upd H P (.lst []) = H1 at s1 eP ⊢
    refine ⟨_, rfl, _, _, rfl, rfl, (by show (0 : Int) < 2; decide), rfl, _, rfl, ?_⟩
    refine ite2 (fun c1 => ?_) (fun c1 => ?_)
    · have c1' : (b : Int) % 2 = 1 := V.int.inj (of_decide_eq_true c1)
      rw [show (if b % 2 = 1 then [(b : Int) - 1] else []) = [(b : Int) - 1] from if_pos (by trivial)] at hQ
      refine ⟨_, rfl, .inl ⟨rfl, _, SqL.of eP⟩, _, rfl, _, _, rfl, rfl, P, _, _, rfl, rfl, eP, fits_lt (by decide), ?_⟩
      have s2 := same_upd s1 (.lst (([] : List Int).map V.int ++ [V.int ((b : Int) - 1)])) hP
      have eP2 : upd H1 P (.lst (([] : List Int).map V.int ++ [V.int ((b : Int) - 1)])) P = some (lsI [(b : Int) - 1]) := upd_same
      try simp only []
      generalize upd H1 P (.lst (([] : List Int).map V.int ++ [V.int ((b : Int) - 1)])) = H2 at s2 eP2 ⊢
      refine ⟨_, rfl, _, _, rfl, rfl, (by show (0 : Int) < 2; decide), rfl, _, rfl, ?_⟩
      refine ite2 (fun c2 => ?_) (fun c2 => ?_)
      rotate_left
      · have c2' : ¬ (e : Int) % 2 = 1 := fun z => of_decide_ne c2 (congrArg V.int z)
        refine iteF ?_
        refine ⟨_, rfl, ?_⟩
        rw [show (if e % 2 = 1 ∧ e < n then [(e : Int)] else []) = [] from if_neg (by trivial), List.append_nil] at hQ
        exact hQ P H2 s2 hP eP2
      have c2' : (e : Int) % 2 = 1 := V.int.inj (of_decide_eq_true c2)
      refine ⟨_, rfl, _, rfl, _, _, rfl, rfl, _, rfl, ?_⟩
      by_cases hen : (e : Int) < (n : Int)
      rotate_left
      · rw [decide_eq_false hen]
        refine iteF ?_
        refine ⟨_, rfl, ?_⟩
        rw [show (if e % 2 = 1 ∧ e < n then [(e : Int)] else []) = [] from if_neg (by trivial), List.append_nil] at hQ
        exact hQ P H2 s2 hP eP2
      rw [decide_eq_true hen]
      refine iteT ?_
      refine ⟨_, rfl, .inl ⟨rfl, _, SqL.of eP2⟩, _, rfl, P, _, _, rfl, rfl, eP2, fits_lt (by rw [List.length_map]; show 1 ≤ _; decide), ?_⟩
      refine ⟨_, rfl, ?_⟩
      rw [show (if e % 2 = 1 ∧ e < n then [(e : Int)] else []) = [(e : Int)] from if_pos (by trivial)] at hQ
      exact hQ P _ (same_upd s2 _ hP) hP (by rw [upd_same, lsI_app1])
    · have c1' : ¬ (b : Int) % 2 = 1 := fun z => of_decide_ne c1 (congrArg V.int z)
      rw [show (if b % 2 = 1 then [(b : Int) - 1] else []) = [] from if_neg (by trivial)] at hQ
      refine ⟨_, rfl, _, _, rfl, rfl, (by show (0 : Int) < 2; decide), rfl, _, rfl, ?_⟩
      refine ite2 (fun c2 => ?_) (fun c2 => ?_)
      rotate_left
      · have c2' : ¬ (e : Int) % 2 = 1 := fun z => of_decide_ne c2 (congrArg V.int z)
        refine iteF ?_
        refine ⟨_, rfl, ?_⟩
        rw [show (if e % 2 = 1 ∧ e < n then [(e : Int)] else []) = [] from if_neg (by trivial), List.append_nil] at hQ
        exact hQ P H1 s1 hP eP
      have c2' : (e : Int) % 2 = 1 := V.int.inj (of_decide_eq_true c2)
      refine ⟨_, rfl, _, rfl, _, _, rfl, rfl, _, rfl, ?_⟩
      by_cases hen : (e : Int) < (n : Int)
      rotate_left
      · rw [decide_eq_false hen]
        refine iteF ?_
        refine ⟨_, rfl, ?_⟩
        rw [show (if e % 2 = 1 ∧ e < n then [(e : Int)] else []) = [] from if_neg (by trivial), List.append_nil] at hQ
        exact hQ P H1 s1 hP eP
      rw [decide_eq_true hen]
      refine iteT ?_
      refine ⟨_, rfl, .inl ⟨rfl, _, SqL.of eP⟩, _, rfl, P, _, _, rfl, rfl, eP, fits_lt (by rw [List.length_map]; show 0 ≤ _; decide), ?_⟩
      refine ⟨_, rfl, ?_⟩
      rw [show (if e % 2 = 1 ∧ e < n then [(e : Int)] else []) = [(e : Int)] from if_pos (by trivial)] at hQ
      exact hQ P _ (same_upd s1 _ hP) hP (by rw [upd_same, lsI_app1])
end
end K69
set_option Elab.async false
set_option linter.all false
set_option maxRecDepth 100000
set_option maxHeartbeats 4000000
namespace K69
open PySem L2 PySem.W PH
section
variable {P : Program} {w : World} {K : PySem.W.Frag} {mg : Str → Option Value} {base : Heap}
theorem sc_paper : FnScope ["container", "first", "last", "level", "begin", "behind", "paper"] ["container", "first", "last"] (defScope s_paper) := ⟨rfl, rfl, rfl, by decide +kernel, rfl, by decide +kernel, by decide +kernel⟩
theorem ok_paper {f c_NoPlace f_nostr f_nocon f_bseal f_nextl f_lack : Addr} {fd d_nostr d_nocon d_bseal d_nextl d_lack : FuncData} (F : Fun K "paper_of" "paper_of" s_paper f fd) (B : Bls mg) (X_NoPlace : Ex K mg "NoPlace" c_NoPlace) (m_NoPlace : mg "NoPlace" = some (.ref c_NoPlace)) 
    (G_nostr : FnOk P w K mg base (CXW P w) 1 f_nostr d_nostr ["first", "last", "length"] (spNoStr c_NoPlace)) (b_nostr : Binds K d_nostr ["first", "last", "length"] []) (k_nostr : keepIn K (.ref f_nostr) = true) (m_nostr : mg "refuse_no_stretch" = some (.ref f_nostr)) 
    (G_nocon : FnOk P w K mg base (CXW P w) 5 f_nocon d_nocon ["thing"] (spNoCon)) (b_nocon : Binds K d_nocon ["thing"] []) (k_nocon : keepIn K (.ref f_nocon) = true) (m_nocon : mg "refuse_no_container" = some (.ref f_nocon)) 
    (G_bseal : FnOk P w K mg base (CXW P w) 2 f_bseal d_bseal ["block"] (spBSeal)) (b_bseal : Binds K d_bseal ["block"] []) (k_bseal : keepIn K (.ref f_bseal) = true) (m_bseal : mg "block_seal" = some (.ref f_bseal)) 
    (G_nextl : FnOk P w K mg base (CXW P w) 2 f_nextl d_nextl ["level"] (spNxt)) (b_nextl : Binds K d_nextl ["level"] []) (k_nextl : keepIn K (.ref f_nextl) = true) (m_nextl : mg "next_level" = some (.ref f_nextl)) 
    (G_lack : FnOk P w K mg base (CXW P w) 1 f_lack d_lack ["begin", "behind", "many"] (spLack)) (b_lack : Binds K d_lack ["begin", "behind", "many"] []) (k_lack : keepIn K (.ref f_lack) = true) (m_lack : mg "places_lacking" = some (.ref f_lack)) : FnOk P w K mg base (CXW P w) 6 f fd ["container", "first", "last"] (spPaper c_NoPlace) := by
  refine F.okX sc_paper (fun vs H Q E h => ?_) (fun cdv A outer s H vs Q E hr h => ?_)
  · obtain ⟨c, p, sz, tot, bs, a0, b0, rfl, _⟩ := h
    rfl
  · obtain ⟨c, p, sz, tot, bs, a0, b0, rfl, cn, hE, hQ⟩ := h
    refine ⟨_, (pss_cons (ps_expr (pe_call G_nocon hr rfl m_nocon k_nocon b_nocon .nil passW (pa_cons (pv 0) pa_nil)))
      (pss_cons (ps_expr (pe_call G_nostr (hr.mono (show 1 ≤ 5 by decide)) rfl m_nostr k_nostr b_nostr .nil passW (pa_cons (pv 1) (pa_cons (pv 2) (pa_cons (pe_callB call_len_seq rfl B.len PySem.boot_len (pa_cons (pe_ix ix_tup (pv 0) pe_int (fun _ _ => rfl)) pa_nil)) pa_nil)))))
      (pss_cons (ps_if (pt_cmpR op_eq (pv 1) (pv 2) (nomark _))
        (pss_one (ps_raise PySem.F.excBase_ValueError X_NoPlace.ex X_NoPlace.mg rfl))
        pss_nil)
      (pss_cons (ps_set (i := 3) sc_paper.nd rfl (Or.inr rfl) (pe_comp (N := ["block"]) (js := [none]) (g := (gName 0)) (tc := tTrue) (te := (tCall (spBSeal) [] E0 (tCons (tVar 0) tNil))) rfl (comp_scope (osc := defScope s_paper) (XN := ["container", "first", "last", "level", "begin", "behind", "paper"]) rfl rfl rfl (by decide +kernel)) (pi_list (pe_ix ix_tup (pv 0) pe_int (fun _ _ => rfl))) (fun _ _ _ _ => pg_name (i := 0) (show (["block"] : List Str).Nodup by decide +kernel) rfl (Or.inl rfl)) (fun _ _ _ _ => pif_nil) (fun _ _ _ _ => (pe_call G_bseal (hr.mono (show 2 ≤ 5 by decide)) rfl m_bseal k_bseal b_bseal .nil passN (pa_cons (pv 0) pa_nil)))))
      (pss_cons (ps_set (i := 4) sc_paper.nd rfl (Or.inl rfl) (pv 1))
      (pss_cons (ps_set (i := 5) sc_paper.nd rfl (Or.inl rfl) (pv 2))
      (pss_cons (ps_set (i := 6) sc_paper.nd rfl (Or.inl rfl) (pe_lst pa_nil))
      (pss_cons (ps_while pown (pt_cmpR op_gt (pe_callB call_len_seq rfl B.len PySem.boot_len (pa_cons (pv 3) pa_nil)) pe_int (nomark _))
        (pss_cons (ps_expr (pe_bm PySem.F.plainAttrs_list PySem.F.slot_list_extend PySem.F.type_list_extend mt_extend (pv 6) (pa_cons (pe_comp (N := ["place", "level"]) (js := [none, some 3]) (g := (gName 0)) (tc := tTrue) (te := (tOp (rIxL K) (tVar 1) (tVar 0))) rfl (comp_scope (osc := defScope s_paper) (XN := ["container", "first", "last", "level", "begin", "behind", "paper"]) rfl rfl rfl (by decide +kernel)) (pi_list (pe_call G_lack (hr.mono (show 1 ≤ 5 by decide)) rfl m_lack k_lack b_lack .nil passW (pa_cons (pv 4) (pa_cons (pv 5) (pa_cons (pe_callB call_len_seq rfl B.len PySem.boot_len (pa_cons (pv 3) pa_nil)) pa_nil))))) (fun _ _ _ _ => pg_name (i := 0) (show (["place", "level"] : List Str).Nodup by decide +kernel) rfl (Or.inl rfl)) (fun _ _ _ _ => pif_nil) (fun _ _ _ _ => (pe_ix ix_list (pv 1) (pv 0) (fun _ _ => rfl)))) pa_nil)))
        (pss_cons (ps_set (i := 3) sc_paper.nd rfl (Or.inr rfl) (pe_call G_nextl (hr.mono (show 2 ≤ 5 by decide)) rfl m_nextl k_nextl b_nextl .nil passW (pa_cons (pv 3) pa_nil)))
        (pss_cons (ps_set (i := 4) sc_paper.nd rfl (Or.inl rfl) (pe_op op_fdiv (pv 4) pe_int))
        (pss_one (ps_set (i := 5) sc_paper.nd rfl (Or.inl rfl) (pe_op op_fdiv (pe_op op_add (pv 5) pe_int) pe_int)))))))
      (pss_one (ps_ret (pv 6))))))))))), ?_⟩
    have few := cn.few
    refine ⟨_, rfl, c, p, sz, tot, bs, rfl, cn, fun H1 s1 => ?_⟩
    have cn1 := cn.same s1
    refine ⟨_, rfl, _, rfl, _, rfl, c, _, _, _, rfl, rfl, SqT.of cn1.at_, rfl, p, _, rfl, .inl (SqL.of cn1.bk.at_), a0, b0, ((bs.length : Nat) : Int), congrArg (fun y : Nat => [V.int a0, V.int b0, V.int (y : Int)]) (List.length_map _), (fun hno => hE (fun h => hno ⟨by trivial, by trivial, by trivial⟩) H1 s1), fun hok => ?_⟩
    refine ⟨_, rfl, _, rfl, rfl, _, rfl, ?_⟩
    refine ite2 (fun ce => ?_) (fun ce => ?_)
    · have ce' : a0 = b0 := V.int.inj (of_decide_eq_true ce)
      exact hE (fun h => by trivial) H1 s1
    have ce' : a0 ≠ b0 := fun z => of_decide_ne ce (congrArg V.int z)
    replace hQ := hQ ⟨hok.1, by trivial, hok.2.2⟩
    obtain ⟨ba, eba⟩ : ∃ ba : Nat, a0 = (ba : Int) := ⟨a0.toNat, by trivial⟩
    obtain ⟨eb, eeb⟩ : ∃ eb : Nat, b0 = (eb : Int) := ⟨b0.toNat, by trivial⟩
    refine ⟨_, rfl, c, _, _, _, rfl, rfl, SqT.of cn1.at_, rfl, p, rfl, ⟨_, SqL.of cn1.bk.at_⟩, fun D hD => ?_⟩
    refine comp_lstQ (K := K) (a := p) (xs := bs.map fun w => V.ref w.1) (fun i σ' H' => ∃ (v0 : Option V), σ' = [v0] ∧ H' D = some (lsI (lv0 ((bkv bs).take i))) ∧ Same H1 H')
      ⟨none, rfl, by rw [List.take_zero]; exact upd_same, same_new hD _⟩ (fun i σ' H' _ ⟨_, _, _, e⟩ => SqL.of (e _ _ cn1.bk.at_)) ?_ ?_
    · rintro i y σ' H' hi ⟨v0, rfl, hD', sm⟩
      have hlt : i < (bs.map fun w => V.ref w.1).length := (List.getElem?_eq_some_iff.mp hi).1
      have hil : i < bs.length := by rw [List.length_map] at hlt; exact hlt
      obtain ⟨z, hz⟩ := bounded_at hil
      rw [List.getElem?_map, hz] at hi
      have ey : V.ref z.1 = y := Option.some.inj hi
      subst ey
      have hm := List.mem_of_getElem? hz
      have he := cn1.bk.each z hm
      have hzv : (bkv bs)[i]? = some (z.2.1, z.2.2.2) := by unfold bkv; rw [List.getElem?_map, hz]; rfl
      refine nameT ?_
      refine ⟨_, rfl, z.1, z.2.2.1, z.2.1, z.2.2.2, rfl, sm _ _ he.1, sm _ _ he.2, (cn.good z hm).2, fun H4 s4 => ?_⟩
      refine ⟨D, _, _, rfl, rfl, s4 _ _ hD', fits_lt (by rw [List.length_map, lv0_len, List.length_take, bkv_len]; trivial), ?_⟩
      refine CW.next hlt ⟨_, rfl, ?_, same_upd (sm.trans s4) _ hD⟩
      rw [upd_same, lsI_app1, take_at hzv]
      unfold lv0
      rw [List.map_append]; rfl
    rintro σ' H2 ⟨v0, rfl, hD2, sm2⟩
    rw [List.length_map, show bs.length = (bkv bs).length from (bkv_len bs).symm, List.take_length] at hD2
    have s2 := s1.trans sm2
    refine ⟨_, rfl, _, rfl, (by show 0 ≤ sizeLine; decide), fun P hP => ?_⟩
    have uP := same_new hP (.lst [])
    have eP : upd H2 P (.lst []) P = some (lsI []) := upd_same
    have hDP : D ≠ P := fun e => by rw [e] at hD2; rw [hD2] at hP; cases hP
    have hPH : H P = none := s2.free hP
    have hD3 := uP _ _ hD2
    generalize upd H2 P (.lst []) = H3 at uP eP hD3 ⊢
    have hll : (lv0 (bkv bs)).length = bs.length := by rw [lv0_len, bkv_len]
    refine ⟨fun mm σ H' => ∃ (L : Addr) (lv pp : List Int) (b e : Nat), mm = lv.length ∧ σ = [some (.ref c), some (.int a0), some (.int b0), some (.ref L), some (.int (b : Int)), some (.int (e : Int)), some (.ref P)] ∧ H' L = some (lsI lv) ∧ lv.length ≤ 100 ∧ H' P = some (lsI pp) ∧ L ≠ P ∧ b < e ∧ e ≤ lv.length ∧ pp ++ pap lv b e = pap (lv0 (bkv bs)) a0.toNat b0.toNat ∧ pp.length + 2 * lv.length ≤ 1000 ∧ Same H H',
      ⟨_, D, lv0 (bkv bs), [], ba, eb, rfl, by rw [← eba, ← eeb]; rfl, hD3, by trivial, eP, hDP, by trivial, by trivial, by rw [eba, eeb, Int.toNat_natCast, Int.toNat_natCast]; rfl, by rw [List.length_nil]; trivial, s2.trans uP⟩, ?_⟩
    clear hD2 hD3 hll sm2 hDP eP uP hD eba eeb ba eb
    rintro mm σ H4 ⟨L, lv, pp, b, e, rfl, rfl, hL, hlv, hPP, hLP, hbe, hel, hpap, hpl, sm⟩
    refine ⟨_, rfl, L, _, rfl, .inl (SqL.of hL), _, _, rfl, rfl, _, rfl, ?_⟩
    rw [List.length_map]
    by_cases h2 : 2 ≤ lv.length
    rotate_left
    · rw [decide_eq_false (show ¬ (1 : Int) < ((lv.length : Nat) : Int) by trivial)]
      refine iteF ?_
      refine ⟨_, rfl, ?_⟩
      rw [pap_one (by trivial), List.append_nil] at hpap
      rw [hpap] at hPP
      exact hQ P H4 sm hPH hPP
    rw [decide_eq_true (show (1 : Int) < ((lv.length : Nat) : Int) by trivial)]
    refine iteT ?_
    refine ⟨fun σ' H'' => ∃ m', m' < lv.length ∧ ∃ (L : Addr) (lv pp : List Int) (b e : Nat), m' = lv.length ∧ σ' = [some (.ref c), some (.int a0), some (.int b0), some (.ref L), some (.int (b : Int)), some (.int (e : Int)), some (.ref P)] ∧ H'' L = some (lsI lv) ∧ lv.length ≤ 100 ∧ H'' P = some (lsI pp) ∧ L ≠ P ∧ b < e ∧ e ≤ lv.length ∧ pp ++ pap lv b e = pap (lv0 (bkv bs)) a0.toNat b0.toNat ∧ pp.length + 2 * lv.length ≤ 1000 ∧ Same H H'', fun σ' H'' z => z, ?_⟩
    refine ⟨_, rfl, .inl ⟨rfl, _, SqL.of hPP⟩, _, rfl, _, rfl, _, rfl, L, _, rfl, .inl (SqL.of hL), b, e, lv.length, congrArg (fun y : Nat => [V.int (b : Int), V.int (e : Int), V.int (y : Int)]) (List.length_map _), fun K0 H5 s5 hK0n hK0 => ?_⟩
    refine ⟨K0, rfl, ⟨_, SqL.of hK0⟩, fun D hD => ?_⟩
    have hL5 := s5 _ _ hL
    have hlk := lack_len b e lv.length
    refine comp_lstQ (K := K) (a := K0) (xs := (lack b e lv.length).map V.int) (fun i σ' H' => ∃ (v0 : Option V), σ' = [v0, some (.ref L)] ∧ H' D = some (lsI (((lack b e lv.length).take i).map fun k => (lv[k.toNat]?).getD 0)) ∧ Same H5 H')
      ⟨none, rfl, upd_same, same_new hD _⟩ (fun i σ' H' _ ⟨_, _, _, e⟩ => SqL.of (e _ _ hK0)) ?_ ?_
    · rintro i y σ' H' hi ⟨v0, rfl, hD', sm'⟩
      have hlt : i < ((lack b e lv.length).map V.int).length := (List.getElem?_eq_some_iff.mp hi).1
      obtain ⟨k, rfl, hk⟩ := int_at hi
      obtain ⟨k0, k1⟩ := lack_at hbe hel (List.mem_of_getElem? hk)
      obtain ⟨x, hx⟩ := bounded_at k1
      refine nameT ?_
      refine ⟨_, rfl, _, rfl, L, _, ((k.toNat : Nat) : Int), _, rfl, congrArg V.int (by trivial), SqL.of (sm' _ _ hL5), at_intsZ hx, ?_⟩
      refine ⟨D, _, _, rfl, rfl, hD', fits_lt (by rw [List.length_map, List.length_map, List.length_take]; trivial), ?_⟩
      refine CW.next hlt ⟨_, rfl, ?_, same_upd sm' _ hD⟩
      rw [upd_same, take_at hk, List.map_append, lsI_app1]
      show some (lsI (_ ++ [x])) = some (lsI (_ ++ [(lv[k.toNat]?).getD 0]))
      rw [hx]; rfl
    rintro σ' H6 ⟨v0, rfl, hD6, sm6⟩
    rw [List.length_map, List.take_length] at hD6
    have s46 := s5.trans sm6
    have hPP6 := s46 _ _ hPP
    have hL6 := s46 _ _ hL
    have nPD : P ≠ D := fun z => by rw [z] at hPP; rw [s5 _ _ hPP] at hD; cases hD
    obtain ⟨xs, exs⟩ : ∃ xs, xs = (lack b e lv.length).map fun k => (lv[k.toNat]?).getD 0 := ⟨_, rfl⟩
    have hxl : xs.length ≤ 2 := by rw [exs, List.length_map]; exact hlk
    rw [← exs] at hD6
    refine ⟨P, D, _, _, rfl, rfl, hPP6, hD6, fits (by rw [List.length_map, List.length_map]; trivial), ?_⟩
    rw [lsI_cat]
    have sm7 := same_upd (sm.trans s46) (lsI (pp ++ xs)) hPH
    have hP7 : upd H6 P (lsI (pp ++ xs)) P = some (lsI (pp ++ xs)) := upd_same
    have hL7 : upd H6 P (lsI (pp ++ xs)) L = some (lsI lv) := by rw [upd_ne hLP]; exact hL6
    generalize upd H6 P (lsI (pp ++ xs)) = H7 at sm7 hP7 hL7 ⊢
    refine ⟨_, rfl, L, lv, rfl, hL7, by trivial, fun L2 H8 s8 hL2n hL2 => ?_⟩
    refine ⟨_, rfl, _, _, rfl, rfl, ⟨by decide, by decide⟩, ?_⟩
    refine gNz (v' := V.int ((b / 2 : Nat) : Int)) (congrArg V.int (by trivial)) ?_
    refine ⟨_, rfl, _, _, rfl, rfl, _, _, rfl, rfl, ⟨by decide, by decide⟩, ?_⟩
    refine gNz (v' := V.int (((e + 1) / 2 : Nat) : Int)) (congrArg V.int (by trivial)) ?_
    have nl := nxl_len lv
    have nL2P : L2 ≠ P := fun z => by rw [z, hP7] at hL2n; cases hL2n
    refine ⟨(nxl lv).length, by trivial, L2, nxl lv, pp ++ xs, b / 2, (e + 1) / 2, rfl, rfl, hL2, by trivial, s8 _ _ hP7, nL2P, by trivial, by trivial, ?_, by rw [List.length_append]; trivial, sm7.trans s8⟩
    rw [← hpap, pap_more h2, ← exs, List.append_assoc]
end
end K69
set_option Elab.async false
set_option linter.all false
set_option maxRecDepth 100000
set_option maxHeartbeats 4000000
namespace K69
open PySem L2 PySem.W PH
section
variable {P : Program} {w : World} {K : PySem.W.Frag} {mg : Str → Option Value} {base : Heap}
theorem sc_mayseal : FnScope ["block"] ["block"] (defScope s_mayseal) := ⟨rfl, rfl, rfl, by decide +kernel, rfl, by decide +kernel, by decide +kernel⟩
theorem ok_mayseal {f f_whole f_isbk : Addr} {fd d_whole d_isbk : FuncData} (F : Fun K "may_be_sealed" "may_be_sealed" s_mayseal f fd) (B : Bls mg) 
    (G_whole : FnOk P w K mg base (CXW P w) 1 f_whole d_whole ["thing"] (spWh)) (b_whole : Binds K d_whole ["thing"] []) (k_whole : keepIn K (.ref f_whole) = true) (m_whole : mg "is_whole" = some (.ref f_whole)) 
    (G_isbk : FnOk P w K mg base (CXW P w) 2 f_isbk d_isbk ["thing"] (spIsBkR)) (b_isbk : Binds K d_isbk ["thing"] []) (k_isbk : keepIn K (.ref f_isbk) = true) (m_isbk : mg "is_block" = some (.ref f_isbk)) : FnOk P w K mg base (CXW P w) 3 f fd ["block"] (spMaySealR) := by
  refine F.okN sc_mayseal (fun vs H Q E h => ?_) (fun cdv A outer s H vs Q E hr h => ?_)
  · obtain ⟨b, l, w, bits, rfl, _⟩ := h
    rfl
  · obtain ⟨b, l, w, bits, rfl, hb, hl, hzl, hQ⟩ := h
    refine ⟨_, (pss_one (ps_ret (pe_and (pe_call G_isbk hr rfl m_isbk k_isbk b_isbk .nil passN (pa_cons (pv 0) pa_nil)) (pe_one (pe_callB (call_allL rfl) rfl B.all boot_all' (pa_cons (pe_comp (N := ["number"]) (js := [none]) (g := (gName 0)) (tc := tTrue) (te := (tAndV (tCall (spWh) [] E0 (tCons (tVar 0) tNil)) (tOp (rI0 fun i j => .bl (decide (j ≤ i))) (tVar 0) (tC (.int 0))))) rfl (comp_scope (osc := defScope s_mayseal) (XN := ["block"]) rfl rfl rfl (by decide +kernel)) (pi_list (pe_ix ix_tup (pv 0) pe_int (fun _ _ => rfl))) (fun _ _ _ _ => pg_name (i := 0) (show (["number"] : List Str).Nodup by decide +kernel) rfl (Or.inl rfl)) (fun _ _ _ _ => pif_nil) (fun _ _ _ _ => (pe_and (pe_call G_whole (hr.mono (show 1 ≤ 2 by decide)) rfl m_whole k_whole b_whole .nil passN (pa_cons (pv 0) pa_nil)) (pe_one (pe_cmpR op_ge (pv 0) pe_int (nomark _)))))) pa_nil)))))), ?_⟩
    refine ⟨_, rfl, b, l, w, bits, rfl, hb, hl, _, rfl, ?_⟩
    by_cases h0 : 0 ≤ w
    rotate_left
    · rw [decide_eq_false h0]
      refine iteF ?_
      have h := hQ H (Same.refl H)
      unfold okW at h
      rw [show decide (0 ≤ (w, bits).1) = false from decide_eq_false h0] at h
      exact h
    rw [decide_eq_true h0]
    refine iteT ?_
    refine ⟨_, rfl, b, _, _, _, rfl, rfl, SqT.of hb, rfl, l, rfl, ⟨_, SqL.of hl⟩, fun D hD => ?_⟩
    refine comp_lstQ (K := K) (a := l) (xs := bits.map V.int) (fun i σ' H' => ∃ (v0 : Option V) (bs : List Bool), σ' = [v0] ∧ H' D = some (.lst (bs.map V.bl)) ∧ bs = (bits.take i).map (fun x => decide (0 ≤ x)) ∧ Same H H')
      ⟨none, [], rfl, upd_same, by rw [List.take_zero]; rfl, same_new hD _⟩ (fun i σ' H' _ ⟨_, _, _, _, _, e⟩ => SqL.of (e _ _ hl)) ?_ ?_
    · rintro i y σ' H' hi ⟨v0, bs, rfl, hD', hbs, sm⟩
      have hlt : i < (bits.map V.int).length := (List.getElem?_eq_some_iff.mp hi).1
      have hil : i < bits.length := by rw [List.length_map] at hlt; exact hlt
      obtain ⟨z, rfl, hz⟩ := int_at hi
      have hbl : bs.length ≤ 20000 := by rw [hbs, List.length_map, List.length_take]; trivial
      refine nameT ?_
      refine ⟨_, rfl, z, rfl, _, rfl, ?_⟩
      refine iteT ?_
      refine ⟨_, rfl, _, _, rfl, rfl, ?_⟩
      refine ⟨D, _, _, rfl, rfl, hD', fits_lt (by rw [List.length_map]; trivial), ?_⟩
      refine CW.next hlt ⟨_, bs ++ [decide (0 ≤ z)], rfl, by rw [upd_same, List.map_append]; rfl, ?_, same_upd sm _ hD⟩
      rw [hbs, take_at hz, List.map_append]
      rfl
    rintro σ' H2 ⟨v0, bs, rfl, hD2, hbs, sm2⟩
    rw [List.length_map, List.take_length] at hbs
    refine ⟨D, _, rfl, SqL.of hD2, ?_⟩
    have h := hQ H2 sm2
    unfold okW at h
    rw [show decide (0 ≤ (w, bits).1) = true from decide_eq_true h0, Bool.true_and] at h
    rw [hbs, List.all_map]
    exact h
end
end K69
set_option Elab.async false
set_option linter.all false
set_option maxRecDepth 100000
set_option maxHeartbeats 4000000
namespace K69
open PySem L2 PySem.W PH
section
variable {P : Program} {w : World} {K : PySem.W.Frag} {mg : Str → Option Value} {base : Heap}
theorem sc_aresl : FnScope ["numbers"] ["numbers"] (defScope s_aresl) := ⟨rfl, rfl, rfl, by decide +kernel, rfl, by decide +kernel, by decide +kernel⟩
theorem ok_aresl {f f_whole : Addr} {fd d_whole : FuncData} (F : Fun K "are_seals" "are_seals" s_aresl f fd) (B : Bls mg) (m_MD : MDg mg) 
    (G_whole : FnOk P w K mg base (CXW P w) 1 f_whole d_whole ["thing"] (spWh)) (b_whole : Binds K d_whole ["thing"] []) (k_whole : keepIn K (.ref f_whole) = true) (m_whole : mg "is_whole" = some (.ref f_whole)) : FnOk P w K mg base (CXW P w) 2 f fd ["numbers"] (spAreSealsR) := by
  refine F.okN sc_aresl (fun vs H Q E h => ?_) (fun cdv A outer s H vs Q E hr h => ?_)
  · obtain ⟨p, l, rfl, _⟩ := h
    rfl
  · obtain ⟨p, l, rfl, hp, hl, hQ⟩ := h
    obtain ⟨u_MD, mv_MD, rv_MD⟩ := m_MD
    refine ⟨_, (pss_one (ps_ret (pe_callB (call_allL rfl) rfl B.all boot_all' (pa_cons (pe_comp (N := ["number"]) (js := [none]) (g := (gName 0)) (tc := tTrue) (te := (tAndV (tCall (spWh) [] E0 (tCons (tVar 0) tNil)) (tChain (rI0 fun i j => .bl (decide (i ≤ j))) (rI0 fun i j => .bl (decide (i < j))) (tC (.int 0)) (tVar 0) (tC (.int 2305843009213693951))))) rfl (comp_scope (osc := defScope s_aresl) (XN := ["numbers"]) rfl rfl rfl (by decide +kernel)) (pi_list (pv 0)) (fun _ _ _ _ => pg_name (i := 0) (show (["number"] : List Str).Nodup by decide +kernel) rfl (Or.inl rfl)) (fun _ _ _ _ => pif_nil) (fun _ _ _ _ => (pe_and (pe_call G_whole hr rfl m_whole k_whole b_whole .nil passN (pa_cons (pv 0) pa_nil)) (pe_one (pe_chain op_le op_lt pe_int (pv 0) (pe_glob (v := .int 2305843009213693951) rfl mv_MD rv_MD)))))) pa_nil)))), ?_⟩
    refine ⟨_, rfl, p, rfl, ⟨_, SqL.of hp⟩, fun D hD => ?_⟩
    refine comp_lstQ (K := K) (a := p) (xs := l.map V.int) (fun i σ' H' => ∃ (v0 : Option V) (bs : List Bool), σ' = [v0] ∧ H' D = some (.lst (bs.map V.bl)) ∧ bs = (l.take i).map (fun x => decide (0 ≤ x) && decide (x < 2305843009213693951)) ∧ Same H H')
      ⟨none, [], rfl, upd_same, by rw [List.take_zero]; rfl, same_new hD _⟩ (fun i σ' H' _ ⟨_, _, _, _, _, e⟩ => SqL.of (e _ _ hp)) ?_ ?_
    · rintro i y σ' H' hi ⟨v0, bs, rfl, hD', hbs, sm⟩
      have hlt : i < (l.map V.int).length := (List.getElem?_eq_some_iff.mp hi).1
      have hil : i < l.length := by rw [List.length_map] at hlt; exact hlt
      obtain ⟨z, rfl, hz⟩ := int_at hi
      have hbl : bs.length ≤ 20000 := by rw [hbs, List.length_map, List.length_take]; trivial
      refine nameT ?_
      refine ⟨_, rfl, z, rfl, _, rfl, ?_⟩
      refine iteT ?_
      refine ⟨_, rfl, _, _, rfl, rfl, _, rfl, ?_⟩
      by_cases h0 : 0 ≤ z
      rotate_left
      · rw [decide_eq_false h0]
        refine iteF ?_
        refine ⟨D, _, _, rfl, rfl, hD', fits_lt (by rw [List.length_map]; trivial), ?_⟩
        refine CW.next hlt ⟨_, bs ++ [false], rfl, by rw [upd_same, List.map_append]; rfl, ?_, same_upd sm _ hD⟩
        rw [hbs, take_at hz, List.map_append]
        show _ ++ [false] = _ ++ [decide (0 ≤ z) && decide (z < 2305843009213693951)]
        rw [decide_eq_false h0]; rfl
      rw [decide_eq_true h0]
      refine iteT ?_
      refine ⟨_, _, rfl, rfl, ?_⟩
      refine ⟨D, _, _, rfl, rfl, hD', fits_lt (by rw [List.length_map]; trivial), ?_⟩
      refine CW.next hlt ⟨_, bs ++ [decide (z < 2305843009213693951)], rfl, by rw [upd_same, List.map_append]; rfl, ?_, same_upd sm _ hD⟩
      rw [hbs, take_at hz, List.map_append]
      show _ ++ [decide (z < 2305843009213693951)] = _ ++ [decide (0 ≤ z) && decide (z < 2305843009213693951)]
      rw [decide_eq_true h0]; rfl
    rintro σ' H2 ⟨v0, bs, rfl, hD2, hbs, sm2⟩
    rw [List.length_map, List.take_length] at hbs
    refine ⟨D, _, rfl, SqL.of hD2, ?_⟩
    have h := hQ H2 sm2
    unfold okR at h
    rw [hbs, List.all_map]
    exact h
end
end K69
set_option Elab.async false
set_option linter.all false
set_option maxRecDepth 100000
set_option maxHeartbeats 4000000
namespace K69
open PySem L2 PySem.W PH
section
variable {P : Program} {w : World} {K : PySem.W.Frag} {mg : Str → Option Value} {base : Heap}
theorem sc_mayshow : FnScope ["many", "first", "blocks", "paper"] ["many", "first", "blocks", "paper"] (defScope s_mayshow) := ⟨rfl, rfl, rfl, by decide +kernel, rfl, by decide +kernel, by decide +kernel⟩
theorem ok_mayshow {f f_mayseal f_aresl : Addr} {fd d_mayseal d_aresl : FuncData} (F : Fun K "may_show" "may_show" s_mayshow f fd) (B : Bls mg) 
    (G_mayseal : FnOk P w K mg base (CXW P w) 3 f_mayseal d_mayseal ["block"] (spMaySealR)) (b_mayseal : Binds K d_mayseal ["block"] []) (k_mayseal : keepIn K (.ref f_mayseal) = true) (m_mayseal : mg "may_be_sealed" = some (.ref f_mayseal)) 
    (G_aresl : FnOk P w K mg base (CXW P w) 2 f_aresl d_aresl ["numbers"] (spAreSealsR)) (b_aresl : Binds K d_aresl ["numbers"] []) (k_aresl : keepIn K (.ref f_aresl) = true) (m_aresl : mg "are_seals" = some (.ref f_aresl)) : FnOk P w K mg base (CXW P w) 4 f fd ["many", "first", "blocks", "paper"] (spMayShowR) := by
  refine F.okN sc_mayshow (fun vs H Q E h => ?_) (fun cdv A outer s H vs Q E hr h => ?_)
  · obtain ⟨Bq, Pp, bs, p, b, m, rfl, _⟩ := h
    rfl
  · obtain ⟨Bq, Pp, bs, p, b, m, rfl, hd, hQ⟩ := h
    refine ⟨_, (pss_cons (ps_if (PW.pt (pw_or (pt_cmpR op_lt (pv 1) pe_int (nomark _)) (pw_or (pt_cmpR op_eq (pe_callB call_len_seq rfl B.len PySem.boot_len (pa_cons (pv 2) pa_nil)) pe_int (nomark _)) (pw_or1 (pt_cmpR op_gt (pe_op op_add (pv 1) (pe_callB call_len_seq rfl B.len PySem.boot_len (pa_cons (pv 2) pa_nil))) (pv 0) (nomark _))))))
        (pss_one (ps_ret pe_bl))
        pss_nil)
      (pss_one (ps_ret (pe_and (pe_callB (call_allL rfl) rfl B.all boot_all' (pa_cons (pe_comp (N := ["block"]) (js := [none]) (g := (gName 0)) (tc := tTrue) (te := (tCall (spMaySealR) [] E0 (tCons (tVar 0) tNil))) rfl (comp_scope (osc := defScope s_mayshow) (XN := ["many", "first", "blocks", "paper"]) rfl rfl rfl (by decide +kernel)) (pi_list (pv 2)) (fun _ _ _ _ => pg_name (i := 0) (show (["block"] : List Str).Nodup by decide +kernel) rfl (Or.inl rfl)) (fun _ _ _ _ => pif_nil) (fun _ _ _ _ => (pe_call G_mayseal hr rfl m_mayseal k_mayseal b_mayseal .nil passN (pa_cons (pv 0) pa_nil)))) pa_nil)) (pe_one (pe_call G_aresl (hr.mono (show 2 ≤ 3 by decide)) rfl m_aresl k_aresl b_aresl .nil passN (pa_cons (pv 3) pa_nil))))))), ?_⟩
    have hbn := hd.bn
    have hpl := hd.plen
    have hvl : (bkv bs).length = bs.length := bkv_len bs
    have no : (decide (b < 0) || decide ((bkv bs).length = 0) || decide (m < b + ((bkv bs).length : Nat))) = true → Q (.bl false) H := fun h => by
      have := hQ H (Same.refl H)
      unfold msh at this
      rw [h] at this
      exact this
    refine ⟨_, rfl, _, _, rfl, rfl, _, rfl, ?_⟩
    by_cases h1 : b < 0
    · rw [decide_eq_true h1]
      exact iteT (iteT (no (by rw [decide_eq_true h1]; rfl)))
    rw [decide_eq_false h1]
    refine iteF ?_
    refine ⟨_, rfl, Bq, _, rfl, .inl (SqL.of hd.bk.at_), rfl, _, rfl, ?_⟩
    rw [List.length_map]
    by_cases h2 : bs.length = 0
    · rw [decide_eq_true (show V.int ((bs.length : Nat) : Int) = V.int 0 by rw [h2]; rfl)]
      exact iteT (iteT (no (by rw [hvl, decide_eq_true h2, Bool.or_true]; rfl)))
    rw [decide_eq_false (show ¬ V.int ((bs.length : Nat) : Int) = V.int 0 from fun e => h2 (by have := V.int.inj e; trivial))]
    refine iteF ?_
    refine ⟨_, rfl, _, rfl, Bq, _, rfl, .inl (SqL.of hd.bk.at_), _, _, rfl, rfl, _, rfl, _, _, rfl, rfl, _, rfl, ?_⟩
    rw [List.length_map]
    by_cases h3 : m < b + ((bs.length : Nat) : Int)
    · rw [decide_eq_true h3]
      exact iteT (no (by rw [hvl, decide_eq_true h3, Bool.or_true]))
    rw [decide_eq_false h3]
    refine iteF ?_
    refine ⟨_, rfl, Bq, rfl, ⟨_, SqL.of hd.bk.at_⟩, fun D hD => ?_⟩
    refine comp_lstQ (K := K) (a := Bq) (xs := bs.map fun w => V.ref w.1) (fun i σ' H' => ∃ (v0 : Option V) (os : List Bool), σ' = [v0] ∧ H' D = some (.lst (os.map V.bl)) ∧ os = ((bkv bs).take i).map okW ∧ Same H H')
      ⟨none, [], rfl, upd_same, by rw [List.take_zero]; rfl, same_new hD _⟩ (fun i σ' H' _ ⟨_, _, _, _, _, e⟩ => SqL.of (e _ _ hd.bk.at_)) ?_ ?_
    · rintro i y σ' H' hi ⟨v0, os, rfl, hD', hos, sm⟩
      have hlt : i < (bs.map fun w => V.ref w.1).length := (List.getElem?_eq_some_iff.mp hi).1
      have hil : i < bs.length := by rw [List.length_map] at hlt; exact hlt
      obtain ⟨z, hz⟩ := bounded_at hil
      rw [List.getElem?_map, hz] at hi
      have ey : V.ref z.1 = y := Option.some.inj hi
      subst ey
      have hm := List.mem_of_getElem? hz
      have he := hd.bk.each z hm
      have hzv : (bkv bs)[i]? = some (z.2.1, z.2.2.2) := by unfold bkv; rw [List.getElem?_map, hz]; rfl
      have hol : os.length ≤ 1000 := by rw [hos, List.length_map, List.length_take, hvl]; trivial
      refine nameT ?_
      refine ⟨_, rfl, z.1, z.2.2.1, z.2.1, z.2.2.2, rfl, sm _ _ he.1, sm _ _ he.2, hd.bl z hm, fun H4 s4 => ?_⟩
      refine ⟨D, _, _, rfl, rfl, s4 _ _ hD', fits_lt (by rw [List.length_map]; trivial), ?_⟩
      refine CW.next hlt ⟨_, os ++ [okW (z.2.1, z.2.2.2)], rfl, by rw [upd_same, List.map_append]; rfl, ?_, same_upd (sm.trans s4) _ hD⟩
      rw [hos, take_at hzv, List.map_append]; rfl
    rintro σ' H2 ⟨v0, os, rfl, hD2, hos, sm2⟩
    rw [List.length_map, ← hvl, List.take_length] at hos
    have hall : os.all id = (bkv bs).all okW := by rw [hos, List.all_map]; rfl
    have yes : ∀ H', Same H H' → Q (.bl ((bkv bs).all okW && okR p)) H' := fun H' s' => by
      have := hQ H' s'
      unfold msh at this
      rw [decide_eq_false h1, hvl, decide_eq_false h2, decide_eq_false h3] at this
      exact this
    refine ⟨D, _, rfl, SqL.of hD2, _, rfl, ?_⟩
    rw [hall]
    cases ha : (bkv bs).all okW with
    | false =>
      refine iteF ?_
      have := yes H2 sm2
      rw [ha] at this
      exact this
    | true =>
      refine iteT ?_
      refine ⟨_, rfl, Pp, p, rfl, sm2 _ _ hd.pp, by trivial, fun H' s' => ?_⟩
      have := yes H' (sm2.trans s')
      rw [ha, Bool.true_and] at this
      exact this
end
end K69
set_option Elab.async false
set_option linter.all false
set_option maxRecDepth 100000
set_option maxHeartbeats 4000000
namespace K69
open PySem L2 PySem.W PH
section
variable {P : Program} {w : World} {K : PySem.W.Frag} {mg : Str → Option Value} {base : Heap}
theorem sc_rtop : FnScope ["many", "first", "blocks", "paper", "rows", "known", "left", "begin", "behind", "width", "place", "told"] ["many", "first", "blocks", "paper"] (defScope s_rtop) := ⟨rfl, rfl, rfl, by decide +kernel, rfl, by decide +kernel, by decide +kernel⟩
theorem ok_rtop {f f_mix f_brow f_prows f_nextl f_lack : Addr} {fd d_mix d_brow d_prows d_nextl d_lack : FuncData} (F : Fun K "rows_to_top" "rows_to_top" s_rtop f fd) (B : Bls mg) (n_reversed : mg "reversed" = none) 
    (G_mix : FnOk P w K mg base (CXW P w) 1 f_mix d_mix ["row"] (spMix)) (b_mix : Binds K d_mix ["row"] []) (k_mix : keepIn K (.ref f_mix) = true) (m_mix : mg "mix" = some (.ref f_mix)) 
    (G_brow : FnOk P w K mg base (CXW P w) 1 f_brow d_brow ["block"] (spBRow)) (b_brow : Binds K d_brow ["block"] []) (k_brow : keepIn K (.ref f_brow) = true) (m_brow : mg "block_row" = some (.ref f_brow)) 
    (G_prows : FnOk P w K mg base (CXW P w) 1 f_prows d_prows ["level"] (spPRowsF)) (b_prows : Binds K d_prows ["level"] []) (k_prows : keepIn K (.ref f_prows) = true) (m_prows : mg "pair_rows" = some (.ref f_prows)) 
    (G_nextl : FnOk P w K mg base (CXW P w) 2 f_nextl d_nextl ["level"] (spNxt)) (b_nextl : Binds K d_nextl ["level"] []) (k_nextl : keepIn K (.ref f_nextl) = true) (m_nextl : mg "next_level" = some (.ref f_nextl)) 
    (G_lack : FnOk P w K mg base (CXW P w) 1 f_lack d_lack ["begin", "behind", "many"] (spLack)) (b_lack : Binds K d_lack ["begin", "behind", "many"] []) (k_lack : keepIn K (.ref f_lack) = true) (m_lack : mg "places_lacking" = some (.ref f_lack)) : FnOk P w K mg base (CXW P w) 3 f fd ["many", "first", "blocks", "paper"] (spRTopR) := by
  refine F.okN sc_rtop (fun vs H Q E h => ?_) (fun cdv A outer s H vs Q E hr h => ?_)
  · obtain ⟨Bq, Pp, bs, p0, b0, m, rfl, _⟩ := h
    rfl
  · obtain ⟨Bq, Pp, bs, p0, b0, m, rfl, hd, hne, hle, hm1, hQ1, hQ2⟩ := h
    refine ⟨_, (pss_cons (ps_setC (iy := 4) (N := ["block"]) (js := [none]) (g := (gName 0)) (tc := tTrue) (te := (tCall (spBRow) [] E0 (tCons (tVar 0) tNil))) sc_rtop.nd rfl rfl rfl (comp_scope (osc := defScope s_rtop) (XN := ["many", "first", "blocks", "paper", "rows", "known", "left", "begin", "behind", "width", "place", "told"]) rfl rfl rfl (by decide +kernel)) (pi_list (pv 2)) (fun _ _ _ _ => pg_name (i := 0) (show (["block"] : List Str).Nodup by decide +kernel) rfl (Or.inl rfl)) (fun _ _ _ _ => pif_nil) (fun _ _ _ _ => (pe_call G_brow (hr.mono (show 1 ≤ 2 by decide)) rfl m_brow k_brow b_brow .nil passN (pa_cons (pv 0) pa_nil))))
      (pss_cons (ps_setC (iy := 5) (N := ["row"]) (js := [none]) (g := (gName 0)) (tc := tTrue) (te := (tCall (spMix) [] E0 (tCons (tVar 0) tNil))) sc_rtop.nd rfl rfl rfl (comp_scope (osc := defScope s_rtop) (XN := ["many", "first", "blocks", "paper", "rows", "known", "left", "begin", "behind", "width", "place", "told"]) rfl rfl rfl (by decide +kernel)) (pi_list (pv 4)) (fun _ _ _ _ => pg_name (i := 0) (show (["row"] : List Str).Nodup by decide +kernel) rfl (Or.inl rfl)) (fun _ _ _ _ => pif_nil) (fun _ _ _ _ => (pe_call G_mix (hr.mono (show 1 ≤ 2 by decide)) rfl m_mix k_mix b_mix .nil passN (pa_cons (pv 0) pa_nil))))
      (pss_cons (ps_set (i := 6) sc_rtop.nd rfl (Or.inl rfl) (pe_listrev rfl n_reversed rfl B.list rfl (pa_cons (pv 3) pa_nil)))
      (pss_cons (ps_set (i := 7) sc_rtop.nd rfl (Or.inl rfl) (pv 1))
      (pss_cons (ps_set (i := 8) sc_rtop.nd rfl (Or.inl rfl) (pe_op op_add (pv 1) (pe_callB call_len_seq rfl B.len PySem.boot_len (pa_cons (pv 2) pa_nil))))
      (pss_cons (ps_set (i := 9) sc_rtop.nd rfl (Or.inl rfl) (pv 0))
      (pss_cons (ps_while PassesOwn.never (pt_cmpR op_gt (pv 9) pe_int (nomark _))
        (pss_cons (ps_for PassesOwn.never rfl (pi_list (pe_call G_lack (hr.mono (show 1 ≤ 2 by decide)) rfl m_lack k_lack b_lack .nil passN (pa_cons (pv 7) (pa_cons (pv 8) (pa_cons (pv 9) pa_nil))))) (pg_name (i := 10) sc_rtop.nd rfl (Or.inl rfl))
          (pss_cons (ps_if (pt_cmpR op_eq (pe_callB call_len_seq rfl B.len PySem.boot_len (pa_cons (pv 6) pa_nil)) pe_int (nomark _))
            (pss_one (ps_ret pe_non))
            pss_nil)
          (pss_cons (ps_set (i := 11) sc_rtop.nd rfl (Or.inl rfl) (pe_lst (pa_cons (pe_bm0 PySem.F.plainAttrs_list PySem.F.slot_list_pop PySem.F.type_list_pop mt_pop (pv 6)) pa_nil)))
          (pss_one (ps_set (i := 5) sc_rtop.nd rfl (Or.inl rfl) (pe_ifExp (pt_cmpR op_lt (pv 10) (pv 7) (nomark _)) (pe_op op_cat (pv 11) (pv 5)) (pe_op op_cat (pv 5) (pv 11))))))))
        (pss_cons (ps_expr (pe_bm PySem.F.plainAttrs_list PySem.F.slot_list_extend PySem.F.type_list_extend mt_extend (pv 4) (pa_cons (pe_call G_prows (hr.mono (show 1 ≤ 2 by decide)) rfl m_prows k_prows b_prows .nil passN (pa_cons (pv 5) pa_nil)) pa_nil)))
        (pss_cons (ps_set (i := 5) sc_rtop.nd rfl (Or.inl rfl) (pe_call G_nextl hr rfl m_nextl k_nextl b_nextl .nil passN (pa_cons (pv 5) pa_nil)))
        (pss_cons (ps_set (i := 7) sc_rtop.nd rfl (Or.inl rfl) (pe_op op_fdiv (pv 7) pe_int))
        (pss_cons (ps_set (i := 8) sc_rtop.nd rfl (Or.inl rfl) (pe_op op_fdiv (pe_op op_add (pv 8) pe_int) pe_int))
        (pss_one (ps_set (i := 9) sc_rtop.nd rfl (Or.inl rfl) (pe_op op_fdiv (pe_op op_add (pv 9) pe_int) pe_int)))))))))
      (pss_one (ps_ret (pe_ifExp (pt_cmpR op_eq (pe_callB call_len_seq rfl B.len PySem.boot_len (pa_cons (pv 6) pa_nil)) pe_int (nomark _)) (pe_tup (pa_cons (pv 4) (pa_cons (pe_ix ix_list (pv 5) pe_int (fun _ _ => rfl)) pa_nil))) pe_non)))))))))), ?_⟩
    have hbn := hd.bn
    have hpl0 := hd.plen
    refine ⟨_, rfl, Bq, rfl, ⟨_, SqL.of hd.bk.at_⟩, fun R hR => ?_⟩
    refine comp_lstQ (K := K) (a := Bq) (xs := bs.map fun w => V.ref w.1) (fun i σ' H' => ∃ (v0 : Option V) (as : List Addr), σ' = [v0] ∧ Lss H' R as (((bkv bs).take i).map brw) ∧ (∀ a ∈ as, a ≠ R) ∧ (∀ a ∈ as, H a = none) ∧ Same H H')
      ⟨none, [], rfl, by rw [List.take_zero]; exact Lss.nil upd_same, (fun a h => by cases h), (fun a h => by cases h), same_new hR _⟩ (fun i σ' H' _ ⟨_, _, _, _, _, _, e⟩ => SqL.of (e _ _ hd.bk.at_)) ?_ ?_
    · rintro i y σ' H' hi ⟨v0, as, rfl, ls, hn, hfr, sm⟩
      have hlt : i < (bs.map fun w => V.ref w.1).length := (List.getElem?_eq_some_iff.mp hi).1
      have hil : i < bs.length := by rw [List.length_map] at hlt; exact hlt
      obtain ⟨z, hz⟩ := bounded_at hil
      rw [List.getElem?_map, hz] at hi
      have ey : V.ref z.1 = y := Option.some.inj hi
      subst ey
      have hm := List.mem_of_getElem? hz
      have he := hd.bk.each z hm
      have hzv : (bkv bs)[i]? = some (z.2.1, z.2.2.2) := by unfold bkv; rw [List.getElem?_map, hz]; rfl
      have hal : as.length ≤ 1000 := by have := ls.len; rw [List.length_map, List.length_take, bkv_len] at this; trivial
      refine nameT ?_
      refine ⟨_, rfl, z.1, z.2.2.1, z.2.1, z.2.2.2, rfl, sm _ _ he.1, sm _ _ he.2, hd.bl z hm, fun q H4 s4 hqn hq => ?_⟩
      have ls4 := ls.same s4
      have nq : q ≠ R := fun e => by rw [e, ls.at_] at hqn; cases hqn
      refine ⟨R, _, _, rfl, rfl, ls4.at_, fits_lt (by rw [List.length_map]; trivial), ?_⟩
      refine CW.next hlt ⟨_, as ++ [q], rfl, ?_, ?_, ?_, same_upd (sm.trans s4) _ hR⟩
      · rw [take_at hzv, List.map_append]
        exact ls4.app hn hq nq
      · intro a ha
        rcases List.mem_append.mp ha with ha | ha
        · exact hn a ha
        · rw [List.mem_singleton.mp ha]; exact nq
      · intro a ha
        rcases List.mem_append.mp ha with ha | ha
        · exact hfr a ha
        · rw [List.mem_singleton.mp ha]; exact sm.free hqn
    rintro σ' H1 ⟨v0, as, rfl, ls, hn, hfr, s1⟩
    rw [List.length_map, show bs.length = (bkv bs).length from (bkv_len bs).symm, List.take_length] at ls
    have hal : as.length = bs.length := by rw [ls.len, List.length_map, bkv_len]
    refine ⟨_, rfl, R, rfl, ⟨_, SqL.of ls.at_⟩, fun Kn hKn => ?_⟩
    refine comp_lstQ (K := K) (a := R) (xs := as.map V.ref) (fun i σ' H' => ∃ (v0 : Option V), σ' = [v0] ∧ H' Kn = some (lsI (lv0 ((bkv bs).take i))) ∧ Same H1 H')
      ⟨none, rfl, by rw [List.take_zero]; exact upd_same, same_new hKn _⟩ (fun i σ' H' _ ⟨_, _, _, e⟩ => SqL.of (e _ _ ls.at_)) ?_ ?_
    · rintro i y σ' H' hi ⟨v0, rfl, hD', sm⟩
      have hlt : i < (as.map V.ref).length := (List.getElem?_eq_some_iff.mp hi).1
      have hil : i < as.length := by rw [List.length_map] at hlt; exact hlt
      obtain ⟨a, ha⟩ := bounded_at hil
      obtain ⟨z, hz⟩ := bounded_at (l := bs) (k := i) (by trivial)
      have hzv : (bkv bs)[i]? = some (z.2.1, z.2.2.2) := by unfold bkv; rw [List.getElem?_map, hz]; rfl
      have hzr : ((bkv bs).map brw)[i]? = some (brw (z.2.1, z.2.2.2)) := by rw [List.getElem?_map, hzv]; rfl
      rw [List.getElem?_map, ha] at hi
      have ey : V.ref a = y := Option.some.inj hi
      subst ey
      have ho := hd.bl z (List.mem_of_getElem? hz)
      refine nameT ?_
      refine ⟨_, rfl, a, _, rfl, sm _ _ (ls.each i a _ ha hzr), (by show z.2.2.2.length + 1 + 1 ≤ 100000; trivial), ?_⟩
      refine ⟨Kn, _, _, rfl, rfl, hD', fits_lt (by rw [List.length_map, lv0_len, List.length_take, bkv_len]; trivial), ?_⟩
      refine CW.next hlt ⟨_, rfl, ?_, same_upd sm _ hKn⟩
      rw [upd_same, lsI_app1, take_at hzv]
      unfold lv0
      rw [List.map_append]; rfl
    rintro σ' H2 ⟨v0', rfl, hK2, s2⟩
    rw [List.length_map, hal, show bs.length = (bkv bs).length from (bkv_len bs).symm, List.take_length] at hK2
    have ls2 := ls.same s2
    have s02 := s1.trans s2
    have nKR : Kn ≠ R := fun e => by rw [e, ls.at_] at hKn; cases hKn
    refine ⟨_, rfl, Pp, _, rfl, s02 _ _ hd.pp, fun Lf hLf => ?_⟩
    rw [← List.map_reverse]
    have u3 := same_new hLf (.lst (p0.reverse.map V.int))
    have eLf : upd H2 Lf (.lst (p0.reverse.map V.int)) Lf = some (lsI p0.reverse) := upd_same
    have nLR : Lf ≠ R := fun e => by rw [e, ls2.at_] at hLf; cases hLf
    have nKL : Kn ≠ Lf := fun e => by rw [← e, hK2] at hLf; cases hLf
    have haL : ∀ a ∈ as, a ≠ Lf := fun a ha e => by
      obtain ⟨i, hi⟩ := List.mem_iff_getElem?.mp ha
      obtain ⟨x, hx⟩ := bounded_at (l := (bkv bs).map brw) (k := i) (by have := (List.getElem?_eq_some_iff.mp hi).1; have := ls.len; trivial)
      have := ls2.each i a x hi hx
      rw [e, hLf] at this; cases this
    have ls3 := ls2.same u3
    have hK3 := u3 _ _ hK2
    have s03 := s02.trans u3
    have hLfH : H Lf = none := s02.free hLf
    generalize upd H2 Lf (.lst (p0.reverse.map V.int)) = H3 at u3 eLf ls3 hK3 s03 ⊢
    refine ⟨_, rfl, ?_⟩
    refine ⟨_, rfl, _, rfl, Bq, _, rfl, .inl (SqL.of (s03 _ _ hd.bk.at_)), _, _, rfl, rfl, ?_⟩
    refine gNz (v' := V.int ((b0 + bs.length : Nat) : Int)) (congrArg V.int (by rw [List.length_map]; trivial)) ?_
    refine ⟨_, rfl, ?_⟩
    refine ⟨fun mm σ H' => ∃ (Kn : Addr) (kn p : List Int) (b e w j : Nat) (as : List Addr) (rl : List (List Int)) (v10 v11 : Option V), mm = w ∧ σ = [some (.int (m : Int)), some (.int (b0 : Int)), some (.ref Bq), some (.ref Pp), some (.ref R), some (.ref Kn), some (.ref Lf), some (.int (b : Int)), some (.int (e : Int)), some (.int (w : Int)), v10, v11] ∧ Lss H' R as rl ∧ (∀ a ∈ as, a ≠ R) ∧ (∀ a ∈ as, H a = none) ∧ (∀ a ∈ as, a ≠ Lf) ∧ H' Kn = some (lsI kn) ∧ H' Lf = some (lsI p.reverse) ∧ Kn ≠ R ∧ Kn ≠ Lf ∧ b < e ∧ e ≤ w ∧ w ≤ 2 ^ j ∧ kn.length = e - b ∧ kn.length ≤ 150 ∧ clm kn b e w p = topV (bkv bs) p0 b0 m ∧ rl ++ rws kn b e w p = rowV (bkv bs) p0 b0 m ∧ as.length + 150 * j ≤ 15000 ∧ p.length ≤ 1000 ∧ Same H H',
      ⟨_, Kn, lv0 (bkv bs), p0, b0, b0 + bs.length, m, 62, as, (bkv bs).map brw, none, none, rfl, rfl, ls3, hn, hfr, haL, hK3, eLf, nKR, nKL, by trivial, hle, hm1, by rw [lv0_len, bkv_len]; trivial, by rw [lv0_len, bkv_len]; trivial, by unfold topV; rw [bkv_len], by unfold rowV; rw [bkv_len], by trivial, hpl0, s03⟩, ?_⟩
    clear ls3 hK3 eLf nKR nKL s03 u3 hLf ls2 hK2 s2 hKn ls hn hfr haL s1 s02 Kn as hal
    rintro mm σ H4 ⟨Kn, kn, p, b, e, w, j, as, rl, v10, v11, ew, rfl, ls4, hn, hfr, haL, hK4, hL4, nKR, nKL, hbe, hew, hw, hkl, hk150, hcl, hrw, hrv, hpl, sm⟩
    obtain rfl : w = mm := ew.symm
    refine ⟨_, rfl, _, _, rfl, rfl, _, rfl, ?_⟩
    by_cases h2 : 2 ≤ w
    rotate_left
    · rw [decide_eq_false (show ¬ (1 : Int) < ((w : Nat) : Int) by trivial)]
      refine iteF ?_
      rw [clm_one (by trivial)] at hcl
      rw [rws_one (by trivial), List.append_nil] at hrw
      refine ⟨_, rfl, Lf, _, rfl, .inl (SqL.of hL4), rfl, _, rfl, ?_⟩
      refine ite2 (fun c0 => ?_) (fun c0 => ?_)
      · have c0' := V.int.inj (of_decide_eq_true c0)
        rw [List.length_map, List.length_reverse] at c0'
        have ep : p = [] := List.length_eq_zero_iff.mp (by trivial)
        rw [if_pos ep] at hcl
        obtain ⟨x, hx⟩ := bounded_at (l := kn) (k := 0) (by trivial)
        have hh : kn.head? = some x := by rw [List.head?_eq_getElem?]; exact hx
        rw [hh] at hcl
        refine ⟨_, rfl, _, rfl, Kn, _, ((0 : Nat) : Int), _, rfl, rfl, SqL.of hK4, at_intsZ hx, (by show 2 ≤ sizeLine; decide), fun T hT => ?_⟩
        have u := same_new hT (.tup [V.ref R, V.int x])
        refine hQ2 x hcl.symm T R as _ (sm.trans u) upd_same ?_ hfr (by trivial)
        rw [← hrw]
        exact ls4.same u
      · have ep : ¬ p = [] := fun z => of_decide_ne c0 (congrArg V.int (by rw [List.length_map, List.length_reverse, z]; rfl))
        rw [if_neg ep] at hcl
        exact hQ1 hcl.symm H4 sm
    rw [decide_eq_true (show (1 : Int) < ((w : Nat) : Int) by trivial)]
    refine iteT ?_
    refine ⟨fun σ' H'' => ∃ m', m' < w ∧ ∃ (Kn : Addr) (kn p : List Int) (b e w j : Nat) (as : List Addr) (rl : List (List Int)) (v10 v11 : Option V), m' = w ∧ σ' = [some (.int (m : Int)), some (.int (b0 : Int)), some (.ref Bq), some (.ref Pp), some (.ref R), some (.ref Kn), some (.ref Lf), some (.int (b : Int)), some (.int (e : Int)), some (.int (w : Int)), v10, v11] ∧ Lss H'' R as rl ∧ (∀ a ∈ as, a ≠ R) ∧ (∀ a ∈ as, H a = none) ∧ (∀ a ∈ as, a ≠ Lf) ∧ H'' Kn = some (lsI kn) ∧ H'' Lf = some (lsI p.reverse) ∧ Kn ≠ R ∧ Kn ≠ Lf ∧ b < e ∧ e ≤ w ∧ w ≤ 2 ^ j ∧ kn.length = e - b ∧ kn.length ≤ 150 ∧ clm kn b e w p = topV (bkv bs) p0 b0 m ∧ rl ++ rws kn b e w p = rowV (bkv bs) p0 b0 m ∧ as.length + 150 * j ≤ 15000 ∧ p.length ≤ 1000 ∧ Same H H'', fun σ' H'' z => z, ?_⟩
    refine ⟨_, rfl, _, rfl, _, rfl, b, e, w, rfl, fun K0 H5 s5 hK0n hK0 => ?_⟩
    have nK0R : K0 ≠ R := fun z => by rw [z, ls4.at_] at hK0n; cases hK0n
    have nK0L : K0 ≠ Lf := fun z => by rw [z, hL4] at hK0n; cases hK0n
    have hlk := lack_len b e w
    refine ⟨K0, rfl, ⟨_, SqL.of hK0⟩, for_list (K := K) (a := K0) (xs := (lack b e w).map V.int) (fun i σ H' => ∃ (Kn : Addr) (k2 q : List Int) (v10 v11 : Option V), σ = [some (.int (m : Int)), some (.int (b0 : Int)), some (.ref Bq), some (.ref Pp), some (.ref R), some (.ref Kn), some (.ref Lf), some (.int (b : Int)), some (.int (e : Int)), some (.int (w : Int)), v10, v11] ∧ H' K0 = some (lsI (lack b e w)) ∧ Lss H' R as rl ∧ H' Kn = some (lsI k2) ∧ H' Lf = some (lsI q.reverse) ∧ Kn ≠ R ∧ Kn ≠ Lf ∧ prc (b : Int) ((lack b e w).drop i) k2 q = prc (b : Int) (lack b e w) kn p ∧ q.length ≤ 1000 ∧ k2.length ≤ 150 + i ∧ Same H H')
      ⟨Kn, kn, p, v10, v11, rfl, hK0, ls4.same s5, s5 _ _ hK4, s5 _ _ hL4, nKR, nKL, by rw [List.drop_zero], hpl, by trivial, sm.trans s5⟩ (fun i σ H' _ ⟨_, _, _, _, _, _, z, _⟩ => SqL.of z) ?_ ?_⟩
    · rintro i y σ H6 hi ⟨Kn, k2, q, v10, v11, rfl, hK06, ls6, hK6, hL6, nKR, nKL, hprc, hql, hk2, sm6⟩
      obtain ⟨k, rfl, hk⟩ := int_at hi
      have hil : i < (lack b e w).length := (List.getElem?_eq_some_iff.mp hk).1
      rw [drop_at hk] at hprc
      refine ⟨_, rfl, Lf, _, rfl, .inl (SqL.of hL6), rfl, _, rfl, ?_⟩
      refine ite2 (fun c0 => ?_) (fun c0 => ?_)
      · have c0' := V.int.inj (of_decide_eq_true c0)
        rw [List.length_map, List.length_reverse] at c0'
        have ep : q = [] := List.length_eq_zero_iff.mp (by trivial)
        rw [ep, prc] at hprc
        rw [clm_no h2 hprc.symm] at hcl
        exact hQ1 hcl.symm H6 sm6
      have ep : ¬ q = [] := fun z => of_decide_ne c0 (congrArg V.int (by rw [List.length_map, List.length_reverse, z]; rfl))
      obtain ⟨x, q', rfl⟩ : ∃ x q', q = x :: q' := by
        cases q with
        | nil => exact absurd rfl ep
        | cons x q' => exact ⟨x, q', rfl⟩
      rw [List.length_cons] at hql
      have hL6' : H6 Lf = some (.lst (q'.reverse.map V.int ++ [V.int x])) := by
        rw [hL6, List.reverse_cons]
        unfold lsI
        rw [List.map_append]
        rfl
      refine ⟨_, rfl, .inl ⟨rfl, _, SqL.of hL6'⟩, Lf, _, .int x, rfl, rfl, hL6', (by rw [List.length_append, List.length_singleton, Nat.add_sub_cancel, List.getElem?_append_right (Nat.le_refl _), Nat.sub_self]; rfl), (by show 1 ≤ sizeLine; decide), fun Tl hTl => ?_⟩
      rw [List.dropLast_concat] at hTl ⊢
      have hL7 : upd H6 Lf (.lst (q'.reverse.map V.int)) Lf = some (lsI q'.reverse) := upd_same
      have ls7 : Lss (upd H6 Lf (.lst (q'.reverse.map V.int))) R as rl := ⟨by rw [upd_ne (Ne.symm nLR)]; exact ls6.at_, ls6.len, fun i a x e1 e2 => by rw [upd_ne (haL a (List.mem_of_getElem? e1))]; exact ls6.each i a x e1 e2⟩
      have hK7 : upd H6 Lf (.lst (q'.reverse.map V.int)) Kn = some (lsI k2) := by rw [upd_ne nKL]; exact hK6
      have hK07 : upd H6 Lf (.lst (q'.reverse.map V.int)) K0 = some (lsI (lack b e w)) := by rw [upd_ne nK0L]; exact hK06
      have sm7 := same_upd sm6 (.lst (q'.reverse.map V.int)) hLfH
      generalize upd H6 Lf (.lst (q'.reverse.map V.int)) = H7 at hL7 ls7 hK7 hK07 sm7 hTl ⊢
      have u8 := same_new hTl (.lst [V.int x])
      have eTl : upd H7 Tl (.lst [V.int x]) Tl = some (lsI [x]) := upd_same
      generalize upd H7 Tl (.lst [V.int x]) = H8 at u8 eTl ⊢
      refine ⟨_, rfl, _, rfl, _, _, rfl, rfl, _, rfl, ?_⟩
      rw [prc] at hprc
      by_cases hkb : k < (b : Int)
      · rw [decide_eq_true hkb]
        refine iteT ?_
        rw [if_pos hkb] at hprc
        refine ⟨_, rfl, _, rfl, Tl, Kn, _, _, rfl, rfl, eTl, u8 _ _ hK7, fits (by rw [List.length_map, List.length_map]; show 1 + _ ≤ _; trivial), fun K2 hK2 => ?_⟩
        rw [lsI_cat]
        have u9 := same_new hK2 (lsI ([x] ++ k2))
        have u79 := u8.trans u9
        exact ⟨K2, x :: k2, q', _, _, rfl, u79 _ _ hK07, ls7.same u79, upd_same, u79 _ _ hL7, (fun z => by rw [z, u8 _ _ ls7.at_] at hK2; cases hK2), (fun z => by rw [z, u8 _ _ hL7] at hK2; cases hK2), hprc, by trivial, by rw [List.length_cons]; trivial, sm7.trans u79⟩
      · rw [decide_eq_false hkb]
        refine iteF ?_
        rw [if_neg hkb] at hprc
        refine ⟨_, rfl, _, rfl, Kn, Tl, _, _, rfl, rfl, u8 _ _ hK7, eTl, fits (by rw [List.length_map, List.length_map]; show _ + 1 ≤ _; trivial), fun K2 hK2 => ?_⟩
        rw [lsI_cat]
        have u9 := same_new hK2 (lsI (k2 ++ [x]))
        have u79 := u8.trans u9
        exact ⟨K2, k2 ++ [x], q', _, _, rfl, u79 _ _ hK07, ls7.same u79, upd_same, u79 _ _ hL7, (fun z => by rw [z, u8 _ _ ls7.at_] at hK2; cases hK2), (fun z => by rw [z, u8 _ _ hL7] at hK2; cases hK2), hprc, by trivial, by rw [List.length_append, List.length_singleton]; trivial, sm7.trans u79⟩
    · rintro σ H6 ⟨Kn, k2, q, v10, v11, rfl, hK06, ls6, hK6, hL6, nKR, nKL, hprc, hql, hk2, sm6⟩
      rw [List.length_map, List.drop_length, prc] at hprc
      rw [clm_on h2 hprc.symm] at hcl
      rw [rws_on h2 hprc.symm] at hrw
      have hput := put_of (w := w) hbe kn p
      rw [← hprc] at hput
      obtain ⟨l1, l2⟩ := put_len hput hbe hew hkl
      have l2' : (nxl k2).length = (e + 1) / 2 - b / 2 := l2
      have l3 := nxl_len k2
      have g := geo hbe hew
      rw [List.length_map] at hk2
      obtain ⟨j', rfl, hwj⟩ := pw_half hw h2
      refine ⟨_, rfl, .inl ⟨rfl, _, SqL.of ls6.at_⟩, _, rfl, Kn, k2, rfl, hK6, by trivial, fun D as2 H7 s7 hDn ls2 hfr2 => ?_⟩
      have hal : as2.length ≤ 76 := by have := ls2.len; rw [prs2_len] at this; trivial
      have hn2 : ∀ a ∈ as2, a ≠ R := fun a ha e => by have := hfr2 a ha; rw [e, ls6.at_] at this; cases this
      have hL2 : ∀ a ∈ as2, a ≠ Lf := fun a ha e => by have := hfr2 a ha; rw [e, hL6] at this; cases this
      refine ⟨R, D, _, _, rfl, rfl, s7 _ _ ls6.at_, ls2.at_, fits (by rw [List.length_map, List.length_map]; trivial), ?_⟩
      have hRH : H R = none := hR
      have sm8 := same_upd (sm6.trans s7) (.lst (as.map V.ref ++ as2.map V.ref)) hRH
      have ls8 := (ls6.same s7).ext hn ls2 hn2
      have hK8 : upd H7 R (.lst (as.map V.ref ++ as2.map V.ref)) Kn = some (lsI k2) := by rw [upd_ne nKR]; exact s7 _ _ hK6
      have hL8 : upd H7 R (.lst (as.map V.ref ++ as2.map V.ref)) Lf = some (lsI q.reverse) := by rw [upd_ne nLR]; exact s7 _ _ hL6
      generalize upd H7 R (.lst (as.map V.ref ++ as2.map V.ref)) = H8 at sm8 ls8 hK8 hL8 ⊢
      refine ⟨_, rfl, Kn, k2, rfl, hK8, by trivial, fun K2 H9 s9 hK2n hK2 => ?_⟩
      refine ⟨_, rfl, _, _, rfl, rfl, ⟨by decide, by decide⟩, ?_⟩
      refine gNz (v' := V.int ((b / 2 : Nat) : Int)) (congrArg V.int (by trivial)) ?_
      refine ⟨_, rfl, _, _, rfl, rfl, _, _, rfl, rfl, ⟨by decide, by decide⟩, ?_⟩
      refine gNz (v' := V.int (((e + 1) / 2 : Nat) : Int)) (congrArg V.int (by trivial)) ?_
      refine ⟨_, rfl, _, _, rfl, rfl, _, _, rfl, rfl, ⟨by decide, by decide⟩, ?_⟩
      refine gNz (v' := V.int (((w + 1) / 2 : Nat) : Int)) (congrArg V.int (by trivial)) ?_
      refine ⟨(w + 1) / 2, by trivial, K2, nxl k2, q, b / 2, (e + 1) / 2, (w + 1) / 2, j', as ++ as2, rl ++ prs2 k2, _, _, rfl, rfl, ls8.same s9, ?_, ?_, ?_, hK2, s9 _ _ hL8, (fun z => by rw [z, ls8.at_] at hK2n; cases hK2n), (fun z => by rw [z, hL8] at hK2n; cases hK2n), g.1, g.2, hwj, l2', by trivial, hcl, by rw [List.append_assoc]; exact hrw, by rw [List.length_append]; trivial, hql, sm8.trans s9⟩
      · intro a ha
        rcases List.mem_append.mp ha with ha | ha
        · exact hn a ha
        · exact hn2 a ha
      · intro a ha
        rcases List.mem_append.mp ha with ha | ha
        · exact hfr a ha
        · exact sm6.free (hfr2 a ha)
      · intro a ha
        rcases List.mem_append.mp ha with ha | ha
        · exact haL a ha
        · exact hL2 a ha
end
end K69
set_option Elab.async false
set_option linter.all false
set_option maxRecDepth 100000
set_option maxHeartbeats 4000000
namespace K69
open PySem L2 PySem.W PH
section
variable {P : Program} {w : World} {K : PySem.W.Frag} {mg : Str → Option Value} {base : Heap}
theorem sc_rmix : FnScope ["numbers", "first", "blocks", "paper", "found"] ["numbers", "first", "blocks", "paper"] (defScope s_rmix) := ⟨rfl, rfl, rfl, by decide +kernel, rfl, by decide +kernel, by decide +kernel⟩
theorem ok_rmix {f f_crow f_mayshow f_rtop : Addr} {fd d_crow d_mayshow d_rtop : FuncData} (F : Fun K "rows_mixed" "rows_mixed" s_rmix f fd) (B : Bls mg) 
    (G_crow : FnOk P w K mg base (CXW P w) 1 f_crow d_crow ["numbers", "top"] (spCRow)) (b_crow : Binds K d_crow ["numbers", "top"] []) (k_crow : keepIn K (.ref f_crow) = true) (m_crow : mg "container_row" = some (.ref f_crow)) 
    (G_mayshow : FnOk P w K mg base (CXW P w) 4 f_mayshow d_mayshow ["many", "first", "blocks", "paper"] (spMayShowR)) (b_mayshow : Binds K d_mayshow ["many", "first", "blocks", "paper"] []) (k_mayshow : keepIn K (.ref f_mayshow) = true) (m_mayshow : mg "may_show" = some (.ref f_mayshow)) 
    (G_rtop : FnOk P w K mg base (CXW P w) 3 f_rtop d_rtop ["many", "first", "blocks", "paper"] (spRTopR)) (b_rtop : Binds K d_rtop ["many", "first", "blocks", "paper"] []) (k_rtop : keepIn K (.ref f_rtop) = true) (m_rtop : mg "rows_to_top" = some (.ref f_rtop)) : FnOk P w K mg base (CXW P w) 5 f fd ["numbers", "first", "blocks", "paper"] (spRMixR) := by
  refine F.okN sc_rmix (fun vs H Q E h => ?_) (fun cdv A outer s H vs Q E hr h => ?_)
  · obtain ⟨N, Bq, Pp, bs, p, b, m, n0, n1, rfl, _⟩ := h
    rfl
  · obtain ⟨N, Bq, Pp, bs, p, b, m, n0, n1, rfl, hN, hd, hm2, hQ1, hQ2⟩ := h
    refine ⟨_, (pss_cons (ps_if (pt_not (pt_val (pe_call G_mayshow hr rfl m_mayshow k_mayshow b_mayshow .nil passN (pa_cons (pe_ix ix_tup (pv 0) pe_int (fun _ _ => rfl)) (pa_cons (pv 1) (pa_cons (pv 2) (pa_cons (pv 3) pa_nil)))))))
        (pss_one (ps_ret pe_non))
        pss_nil)
      (pss_cons (ps_set (i := 4) sc_rmix.nd rfl (Or.inl rfl) (pe_call G_rtop (hr.mono (show 3 ≤ 4 by decide)) rfl m_rtop k_rtop b_rtop .nil passN (pa_cons (pe_ix ix_tup (pv 0) pe_int (fun _ _ => rfl)) (pa_cons (pv 1) (pa_cons (pv 2) (pa_cons (pv 3) pa_nil))))))
      (pss_cons (ps_if (pt_cmp (pc_isN (pv 4)))
        (pss_one (ps_ret pe_non))
        pss_nil)
      (pss_one (ps_ret (pe_op op_cat (pe_ix ix_tup (pv 4) pe_int (fun _ _ => rfl)) (pe_lst (pa_cons (pe_call G_crow (hr.mono (show 1 ≤ 4 by decide)) rfl m_crow k_crow b_crow .nil passN (pa_cons (pv 0) (pa_cons (pe_ix ix_tup (pv 4) pe_int (fun _ _ => rfl)) pa_nil))) pa_nil)))))))), ?_⟩
    refine ⟨_, rfl, N, _, _, _, rfl, rfl, SqT.of hN, rfl, _, rfl, _, rfl, _, rfl, Bq, Pp, bs, p, b, m, rfl, hd, fun H1 s1 => ⟨_, rfl, ?_⟩⟩
    cases hms : msh m b (bkv bs) p with
    | false =>
      refine iteT ?_
      exact hQ1 (.inl hms) H1 s1
    | true =>
    refine iteF ?_
    obtain ⟨g1, g2, g3, _, _⟩ := msh_iff.mp hms
    rw [bkv_len] at g2 g3
    obtain ⟨b', rfl⟩ : ∃ b' : Nat, b = (b' : Int) := ⟨b.toNat, by trivial⟩
    obtain ⟨m', rfl⟩ : ∃ m' : Nat, m = (m' : Int) := ⟨m.toNat, by trivial⟩
    rw [Int.toNat_natCast, Int.toNat_natCast] at hQ1 hQ2
    have hd1 := hd.same s1
    refine ⟨_, rfl, N, _, _, _, rfl, rfl, SqT.of (s1 _ _ hN), rfl, _, rfl, _, rfl, _, rfl, Bq, Pp, bs, p, b', m', rfl, hd1, g2, by trivial, by trivial, (fun hn H2 s2 => ?_), fun t ht T R as H2 s2 hT ls hfr hal => ?_⟩
    · refine ⟨_, rfl, _, rfl, ?_⟩
      refine iteT ?_
      exact hQ1 (.inr hn) H2 (s1.trans s2)
    refine ⟨_, rfl, _, rfl, ?_⟩
    refine iteF ?_
    have hN2 := s2 _ _ (s1 _ _ hN)
    refine ⟨_, rfl, T, _, _, _, rfl, rfl, SqT.of hT, rfl, _, rfl, _, rfl, T, _, _, _, rfl, rfl, SqT.of hT, rfl, N, n0, n1, _, t, rfl, hN2, fun c H3 s3 hcn hc => ?_⟩
    refine ⟨(by show 1 ≤ sizeLine; decide), fun l hl => ?_⟩
    have u := same_new hl (.lst [V.ref c])
    have el : upd H3 l (.lst [V.ref c]) l = some (.lst [V.ref c]) := upd_same
    generalize upd H3 l (.lst [V.ref c]) = H4 at u el ⊢
    have s34 := s3.trans u
    have ls4 := ls.same s34
    refine ⟨R, l, _, _, rfl, rfl, ls4.at_, el, fits (by rw [List.length_map]; show _ + 1 ≤ _; trivial), fun D hD => ?_⟩
    have u5 := same_new hD (.lst (as.map V.ref ++ [V.ref c]))
    have lsD : Lss (upd H4 D (.lst (as.map V.ref ++ [V.ref c]))) D (as ++ [c]) (rowV (bkv bs) p b' m' ++ [[2, n0, n1, (m' : Int), t]]) := by
      refine ⟨by rw [upd_same, List.map_append]; rfl, by rw [List.length_append, List.length_append, ls.len]; rfl, fun i a y e1 e2 => u5 _ _ ?_⟩
      by_cases hi : i < as.length
      · rw [List.getElem?_append_left hi] at e1
        rw [List.getElem?_append_left (by rw [← ls.len]; exact hi)] at e2
        exact ls4.each i a y e1 e2
      · rw [List.getElem?_append_right (by trivial)] at e1
        rw [List.getElem?_append_right (by rw [← ls.len]; trivial), ← ls.len] at e2
        cases hk : i - as.length with
        | zero =>
          rw [hk] at e1 e2
          have a1 : c = a := Option.some.inj e1
          have a2 : [2, n0, n1, (m' : Int), t] = y := Option.some.inj e2
          rw [← a1, ← a2]
          exact u _ _ hc
        | succ k => rw [hk] at e1; cases e1
    refine hQ2 hms t ht D (as ++ [c]) _ (s1.trans (s2.trans (s34.trans u5))) lsD ?_ (by rw [List.length_append, List.length_singleton]; trivial)
    intro a ha
    rcases List.mem_append.mp ha with ha | ha
    · exact s1.free (hfr a ha)
    · rw [List.mem_singleton.mp ha]; exact (s1.trans s2).free hcn
end
end K69
set_option Elab.async false
set_option linter.all false
set_option maxRecDepth 100000
set_option maxHeartbeats 4000000
namespace K69
open PySem L2 PySem.W PH
section
variable {P : Program} {w : World} {K : PySem.W.Frag} {mg : Str → Option Value} {base : Heap}
theorem sc_shows : FnScope ["seal", "numbers", "first", "blocks", "paper", "rows"] ["seal", "numbers", "first", "blocks", "paper"] (defScope s_shows) := ⟨rfl, rfl, rfl, by decide +kernel, rfl, by decide +kernel, by decide +kernel⟩
theorem ok_shows {f f_mix f_rmix : Addr} {fd d_mix d_rmix : FuncData} (F : Fun K "paper_shows" "paper_shows" s_shows f fd) (B : Bls mg) 
    (G_mix : FnOk P w K mg base (CXW P w) 1 f_mix d_mix ["row"] (spMix)) (b_mix : Binds K d_mix ["row"] []) (k_mix : keepIn K (.ref f_mix) = true) (m_mix : mg "mix" = some (.ref f_mix)) 
    (G_rmix : FnOk P w K mg base (CXW P w) 5 f_rmix d_rmix ["numbers", "first", "blocks", "paper"] (spRMixR)) (b_rmix : Binds K d_rmix ["numbers", "first", "blocks", "paper"] []) (k_rmix : keepIn K (.ref f_rmix) = true) (m_rmix : mg "rows_mixed" = some (.ref f_rmix)) : FnOk P w K mg base (CXW P w) 6 f fd ["seal", "numbers", "first", "blocks", "paper"] (spShowsR) := by
  refine F.okN sc_shows (fun vs H Q E h => ?_) (fun cdv A outer s H vs Q E hr h => ?_)
  · obtain ⟨N, Bq, Pp, bs, p, b, m, n0, n1, sl, rfl, _⟩ := h
    rfl
  · obtain ⟨N, Bq, Pp, bs, p, b, m, n0, n1, sl, rfl, hN, hd, hm2, hQ⟩ := h
    refine ⟨_, (pss_cons (ps_set (i := 5) sc_shows.nd rfl (Or.inl rfl) (pe_call G_rmix hr rfl m_rmix k_rmix b_rmix .nil passN (pa_cons (pv 1) (pa_cons (pv 2) (pa_cons (pv 3) (pa_cons (pv 4) pa_nil))))))
      (pss_one (ps_ret (pe_and (pe_cmp (pc_notN (pv 5))) (pe_one (pe_cmpR op_eq (pe_call G_mix (hr.mono (show 1 ≤ 5 by decide)) rfl m_mix k_mix b_mix .nil passN (pa_cons (pe_ix ix_list (pv 5) (pe_un un_neg pe_int) (fun _ _ => rfl)) pa_nil)) (pv 0) (nomark _))))))), ?_⟩
    refine ⟨_, rfl, _, rfl, _, rfl, _, rfl, N, Bq, Pp, bs, p, b, m, n0, n1, rfl, hN, hd, hm2, (fun hn H2 s2 => ?_), fun hms t ht R as H2 s2 ls hfr hal => ?_⟩
    · refine ⟨_, rfl, _, rfl, ?_⟩
      refine iteF ?_
      have h := hQ H2 s2
      rw [shV_no hn] at h
      exact h
    refine ⟨_, rfl, _, rfl, ?_⟩
    refine iteT ?_
    obtain ⟨i, hi⟩ : ∃ i, as.length = i + 1 := ⟨as.length - 1, by have := ls.len; rw [List.length_append, List.length_singleton] at this; trivial⟩
    obtain ⟨c, hc⟩ := bounded_at (l := as) (k := i) (by trivial)
    have hrl : (rowV (bkv bs) p b.toNat m.toNat).length = i := by have := ls.len; rw [List.length_append, List.length_singleton] at this; trivial
    have hce := ls.each i c [2, n0, n1, m, t] hc (by rw [List.getElem?_append_right (by trivial), hrl, Nat.sub_self]; rfl)
    have hat : atI (as.map V.ref) (-1) = some (.ref c) := atI_neg (d := 1) rfl (by decide) (by rw [List.length_map]; trivial) (by rw [List.length_map, hi, Nat.add_sub_cancel, List.getElem?_map, hc]; rfl)
    refine ⟨_, rfl, _, rfl, R, _, _, _, rfl, rfl, SqL.of ls.at_, hat, c, _, rfl, hce, (by show 5 ≤ 100000; decide), _, rfl, rfl, ?_⟩
    have h := hQ H2 s2
    rw [shV_yes hms ht, ← decV_int] at h
    exact h
end
end K69
set_option Elab.async false
set_option linter.all false
set_option maxRecDepth 100000
set_option maxHeartbeats 4000000
namespace K69
open PySem L2 PySem.W PH
section
variable {P : Program} {w : World} {K : PySem.W.Frag} {mg : Str → Option Value} {base : Heap}
theorem sc_clash : FnScope ["numbers", "first", "blocks", "paper", "others", "other", "rows", "other_rows", "clashes"] ["numbers", "first", "blocks", "paper", "others", "other"] (defScope s_clash) := ⟨rfl, rfl, rfl, by decide +kernel, rfl, by decide +kernel, by decide +kernel⟩
theorem ok_clash {f f_mix f_rmix : Addr} {fd d_mix d_rmix : FuncData} (F : Fun K "clash_of" "clash_of" s_clash f fd) (B : Bls mg) (n_zip : mg "zip" = none) 
    (G_mix : FnOk P w K mg base (CXW P w) 1 f_mix d_mix ["row"] (spMix)) (b_mix : Binds K d_mix ["row"] []) (k_mix : keepIn K (.ref f_mix) = true) (m_mix : mg "mix" = some (.ref f_mix)) 
    (G_rmix : FnOk P w K mg base (CXW P w) 5 f_rmix d_rmix ["numbers", "first", "blocks", "paper"] (spRMixR)) (b_rmix : Binds K d_rmix ["numbers", "first", "blocks", "paper"] []) (k_rmix : keepIn K (.ref f_rmix) = true) (m_rmix : mg "rows_mixed" = some (.ref f_rmix)) : FnOk P w K mg base (CXW P w) 6 f fd ["numbers", "first", "blocks", "paper", "others", "other"] (spClash) := by
  refine F.okN sc_clash (fun vs H Q E h => ?_) (fun cdv A outer s H vs Q E hr h => ?_)
  · obtain ⟨N, Bq, Pp, Bq', Pp', bs, bs', p, p', b, m, n0, n1, rfl, _⟩ := h
    rfl
  · obtain ⟨N, Bq, Pp, Bq', Pp', bs, bs', p, p', b, m, n0, n1, rfl, hNu, hd, hd', hm2, hN, hS⟩ := h
    refine ⟨_, (pss_cons (ps_if (PW.pt (pw_or (pt_cmpR op_ne (pe_callB call_len_seq rfl B.len PySem.boot_len (pa_cons (pv 2) pa_nil)) (pe_callB call_len_seq rfl B.len PySem.boot_len (pa_cons (pv 4) pa_nil)) (nomark _)) (pw_or1 (pt_cmpR (op_eqD (units_of hr)) (pv 2) (pv 4) (nomark _)))))
        (pss_one (ps_ret pe_non))
        pss_nil)
      (pss_cons (ps_set (i := 6) sc_clash.nd rfl (Or.inl rfl) (pe_call G_rmix hr rfl m_rmix k_rmix b_rmix .nil passN (pa_cons (pv 0) (pa_cons (pv 1) (pa_cons (pv 2) (pa_cons (pv 3) pa_nil))))))
      (pss_cons (ps_set (i := 7) sc_clash.nd rfl (Or.inl rfl) (pe_call G_rmix hr rfl m_rmix k_rmix b_rmix .nil passN (pa_cons (pv 0) (pa_cons (pv 1) (pa_cons (pv 4) (pa_cons (pv 5) pa_nil))))))
      (pss_cons (ps_if (PW.pt (pw_or (pt_cmp (pc_isN (pv 6))) (pw_or (pt_cmp (pc_isN (pv 7))) (pw_or1 (pt_cmpR op_ne (pe_call G_mix (hr.mono (show 1 ≤ 5 by decide)) rfl m_mix k_mix b_mix .nil passN (pa_cons (pe_ix ix_list (pv 6) (pe_un un_neg pe_int) (fun _ _ => rfl)) pa_nil)) (pe_call G_mix (hr.mono (show 1 ≤ 5 by decide)) rfl m_mix k_mix b_mix .nil passN (pa_cons (pe_ix ix_list (pv 7) (pe_un un_neg pe_int) (fun _ _ => rfl)) pa_nil)) (nomark _))))))
        (pss_one (ps_ret pe_non))
        pss_nil)
      (pss_cons (ps_setC (iy := 8) (N := ["one", "two"]) (js := [none, none]) (g := (gTup K 2 (gCons (gName 0) (gCons (gName 1) gNil)))) (tc := (tAnd (tTest (tOp (rNeI K) (tVar 0) (tVar 1))) (tTest (tOp rEq (tCall (spMix) [] E0 (tCons (tVar 0) tNil)) (tCall (spMix) [] E0 (tCons (tVar 1) tNil)))))) (te := (tTup (tCons (tVar 0) (tCons (tVar 1) tNil)))) sc_clash.nd rfl rfl rfl (comp_scope (osc := defScope s_clash) (XN := ["numbers", "first", "blocks", "paper", "others", "other", "rows", "other_rows", "clashes"]) rfl rfl rfl (by decide +kernel)) (pi_zip rfl n_zip (pa_cons (pv 6) (pa_cons (pv 7) pa_nil))) (fun _ _ _ _ => (pg_tup rfl (pgs_cons (pg_name (i := 0) (show (["one", "two"] : List Str).Nodup by decide +kernel) rfl (Or.inl rfl)) (pgs_cons (pg_name (i := 1) (show (["one", "two"] : List Str).Nodup by decide +kernel) rfl (Or.inl rfl)) pgs_nil)))) (fun _ _ _ _ => (pif_one (PW.pt (pw_and (pt_cmpR (op_neL (units_of hr)) (pv 0) (pv 1) (nomark _)) (pw_and1 (pt_cmpR op_eq (pe_call G_mix (hr.mono (show 1 ≤ 5 by decide)) rfl m_mix k_mix b_mix .nil passN (pa_cons (pv 0) pa_nil)) (pe_call G_mix (hr.mono (show 1 ≤ 5 by decide)) rfl m_mix k_mix b_mix .nil passN (pa_cons (pv 1) pa_nil)) (nomark _))))))) (fun _ _ _ _ => (pe_tup (pa_cons (pv 0) (pa_cons (pv 1) pa_nil)))))
      (pss_one (ps_ret (pe_ix ix_list (pv 8) pe_int (fun _ _ => rfl))))))))), ?_⟩
    have hvl : (bkv bs).length = bs.length := bkv_len bs
    have hvl' : (bkv bs').length = bs'.length := bkv_len bs'
    refine ⟨_, rfl, Bq, _, rfl, .inl (SqL.of hd.bk.at_), _, rfl, Bq', _, rfl, .inl (SqL.of hd'.bk.at_), rfl, _, rfl, ?_⟩
    rw [List.length_map, List.length_map]
    by_cases h1 : bs.length = bs'.length
    rotate_left
    · rw [decide_eq_false (show ¬ V.int ((bs.length : Nat) : Int) = V.int ((bs'.length : Nat) : Int) from fun e => h1 (by have := V.int.inj e; trivial))]
      exact iteT (iteT (hN (cls_no fun h => h1 (by trivial)) H (Same.refl H)))
    rw [decide_eq_true (show V.int ((bs.length : Nat) : Int) = V.int ((bs'.length : Nat) : Int) by rw [h1])]
    refine iteF ?_
    refine ⟨_, rfl, _, rfl, _, _, hd.bk.deep, hd'.bk.deep, ht_wrD _, _, rfl, ?_⟩
    rw [show eqD (wrD (bs.map fun w => (w.2.1, w.2.2.2))) (wrD (bs'.map fun w => (w.2.1, w.2.2.2))) = decide (bkv bs = bkv bs') from eqD_wr (bkv bs) (bkv bs')]
    by_cases h2 : bkv bs = bkv bs'
    · rw [decide_eq_true h2]
      exact iteT (hN (cls_no fun h => h.2.1 h2) H (Same.refl H))
    rw [decide_eq_false h2]
    refine iteF ?_
    refine ⟨_, rfl, _, rfl, _, rfl, _, rfl, N, Bq, Pp, bs, p, b, m, n0, n1, rfl, hNu, hd, hm2, (fun hno H1 s1 => ?_), fun hms t ht R as H1 s1 ls hfr hal => ?_⟩
    · have hc : cls m b n0 n1 (bkv bs) p (bkv bs') p' = none := by
        rcases hno with h | h
        · exact cls_no fun z => by rw [h] at z; exact absurd z.2.2.1 (by decide)
        · exact cls_n1 h
      refine ⟨_, rfl, _, rfl, _, rfl, _, rfl, N, Bq', Pp', bs', p', b, m, n0, n1, rfl, s1 _ _ hNu, hd'.same s1, hm2, (fun hno2 H2 s2 => ?_), fun hms2 t2 ht2 R2 as2 H2 s2 ls2 hfr2 hal2 => ?_⟩
      · refine ⟨_, rfl, _, rfl, ?_⟩
        exact iteT (iteT (hN hc H2 (s1.trans s2)))
      · refine ⟨_, rfl, _, rfl, ?_⟩
        exact iteT (iteT (hN hc H2 (s1.trans s2)))
    refine ⟨_, rfl, _, rfl, _, rfl, _, rfl, N, Bq', Pp', bs', p', b, m, n0, n1, rfl, s1 _ _ hNu, hd'.same s1, hm2, (fun hno H2 s2 => ?_), fun hms' t' ht' R' as' H2 s2 ls' hfr' hal' => ?_⟩
    · have hc : cls m b n0 n1 (bkv bs) p (bkv bs') p' = none := by
        rcases hno with h | h
        · exact cls_no fun z => by rw [h] at z; exact absurd z.2.2.2 (by decide)
        · exact cls_n2 h
      refine ⟨_, rfl, _, rfl, ?_⟩
      refine iteF ?_
      refine ⟨_, rfl, _, rfl, ?_⟩
      exact iteT (iteT (hN hc H2 (s1.trans s2)))
    have s12 := s1.trans s2
    have ls2 := ls.same s2
    obtain ⟨g1, g2, g3, _, _⟩ := msh_iff.mp hms
    have hrl : (rowV (bkv bs) p b.toNat m.toNat).length = (rowV (bkv bs') p' b.toNat m.toNat).length := row_len (by trivial) g2 (by trivial) ht ht'
    have hll := ls.len
    have hll' := ls'.len
    rw [List.length_append, List.length_singleton] at hll hll'
    have hae : as'.length = as.length := by trivial
    obtain ⟨k, hk⟩ : ∃ k, as.length = k + 1 := ⟨as.length - 1, by trivial⟩
    have lastAt : ∀ {D : Addr} {cs : List Addr} {rl : List (List Int)} {l : List Int}, Lss H2 D cs (rl ++ [l]) → rl.length = k → cs.length = k + 1 → ∃ c, cs[k]? = some c ∧ H2 c = some (lsI l) ∧ atI (cs.map V.ref) (-1) = some (.ref c) := fun {D cs rl l} L hr hc => by
      obtain ⟨c, hck⟩ := bounded_at (l := cs) (k := k) (by trivial)
      refine ⟨c, hck, L.each k c l hck (by rw [List.getElem?_append_right (by trivial), hr, Nat.sub_self]; rfl), ?_⟩
      exact atI_neg (d := 1) rfl (by decide) (by rw [List.length_map]; trivial) (by rw [List.length_map, hc, Nat.add_sub_cancel, List.getElem?_map, hck]; rfl)
    obtain ⟨c, hck, hcv, hcat⟩ := lastAt ls2 (by trivial) hk
    obtain ⟨c', hck', hcv', hcat'⟩ := lastAt ls' (by trivial) (by trivial)
    refine ⟨_, rfl, _, rfl, ?_⟩
    refine iteF ?_
    refine ⟨_, rfl, _, rfl, ?_⟩
    refine iteF ?_
    refine ⟨_, rfl, _, rfl, R, _, _, _, rfl, rfl, SqL.of ls2.at_, hcat, c, _, rfl, hcv, (by show 5 ≤ 100000; decide), _, rfl, _, rfl, R', _, _, _, rfl, rfl, SqL.of ls'.at_, hcat', c', _, rfl, hcv', (by show 5 ≤ 100000; decide), rfl, _, rfl, ?_⟩
    by_cases hmx : mixN [2, n0, n1, m, t] = mixN [2, n0, n1, m, t']
    rotate_left
    · rw [decide_eq_false (fun e => hmx (V.int.inj e))]
      exact iteT (hN (cls_mix ht ht' hmx) H2 s12)
    rw [decide_eq_true (congrArg V.int hmx)]
    refine iteF ?_
    have hcy := cls_yes (n0 := n0) (n1 := n1) ⟨by trivial, h2, hms, hms'⟩ ht ht' hmx
    have hsR := row_short (bs := bs) (p := p) (b := b.toNat) (m := m.toNat) (l := [2, n0, n1, m, t]) rfl hd.bl
    have hsS := row_short (bs := bs') (p := p') (b := b.toNat) (m := m.toNat) (l := [2, n0, n1, m, t']) rfl hd'.bl
    have hex : ∃ q, fcl (rowV (bkv bs) p b.toNat m.toNat ++ [[2, n0, n1, m, t]]) (rowV (bkv bs') p' b.toNat m.toNat ++ [[2, n0, n1, m, t']]) = some q := by
      have := clash_ex (b := b.toNat) (m := m.toNat) (n0 := n0) (n1 := n1) (show (bkv bs).length = (bkv bs').length by trivial) g2 (by trivial) h2 ht ht' (by rw [Int.toNat_of_nonneg (by trivial)]; exact hmx)
      unfold rowF at this
      rw [Int.toNat_of_nonneg (show 0 ≤ m by trivial)] at this
      exact this
    have a12 : ∀ x ∈ as, ∀ y ∈ as', x ≠ y := fun x hx y hy e => by
      have h1 := hfr' y hy
      obtain ⟨i, hi⟩ := List.mem_iff_getElem?.mp hx
      obtain ⟨l, hl⟩ := bounded_at (l := rowV (bkv bs) p b.toNat m.toNat ++ [[2, n0, n1, m, t]]) (k := i) (by have := (List.getElem?_eq_some_iff.mp hi).1; rw [← ls.len]; exact this)
      rw [← e, ls.each i x l hi hl] at h1
      cases h1
    generalize rowV (bkv bs) p b.toNat m.toNat ++ [[2, n0, n1, m, t]] = Rl at ls2 hcy hsR hex
    generalize rowV (bkv bs') p' b.toNat m.toNat ++ [[2, n0, n1, m, t']] = Sl at ls' hcy hsS hex
    rw [hcy] at hS
    refine ⟨_, rfl, _, rfl, R, R', rfl, ⟨_, SqL.of ls2.at_⟩, ⟨_, SqL.of ls'.at_⟩, fun D hD => ?_⟩
    refine comp_zipR (K := K) (a := R) (b := R') (xs := as.map V.ref) (ys := as'.map V.ref) (by rw [List.length_map, List.length_map]; exact hae) (fun j σ' H' => ∃ (v0 v1 : Option V) (cs : List Addr), σ' = [v0, v1] ∧ H' D = some (.lst (cs.map V.ref)) ∧ cs.length ≤ j ∧ Same H2 H' ∧ FstC H2 H' D as as' cs (((Rl.zip Sl).take j).filter fun q => isC q.1 q.2))
      ⟨none, none, [], rfl, upd_same, Nat.le_refl _, same_new hD _, .inl ⟨rfl, rfl⟩⟩ (fun i σ' H' _ ⟨_, _, _, _, _, _, e, _⟩ => ⟨SqL.of (e _ _ ls2.at_), SqL.of (e _ _ ls'.at_)⟩) ?_ ?_
    · rintro j xv yv tt σ' H' hx hy ⟨v0, v1, cs, rfl, hD', hcl, sm, hf⟩ htt
      have hlt : j < (as.map V.ref).length := (List.getElem?_eq_some_iff.mp hx).1
      have hil : j < as.length := by rw [List.length_map] at hlt; exact hlt
      obtain ⟨x, hxa⟩ := bounded_at hil
      obtain ⟨y, hya⟩ := bounded_at (l := as') (k := j) (by trivial)
      rw [List.getElem?_map, hxa] at hx
      rw [List.getElem?_map, hya] at hy
      have ex : V.ref x = xv := Option.some.inj hx
      have ey : V.ref y = yv := Option.some.inj hy
      subst ex ey
      obtain ⟨rx, hrx⟩ := bounded_at (l := Rl) (k := j) (by rw [← ls2.len]; exact hil)
      obtain ⟨ry, hry⟩ := bounded_at (l := Sl) (k := j) (by rw [← ls'.len]; trivial)
      have hx2 := ls2.each j x rx hxa hrx
      have hy2 := ls'.each j y ry hya hry
      have hz : (Rl.zip Sl)[j]? = some (rx, ry) := by rw [List.getElem?_zip_eq_some]; exact ⟨hrx, hry⟩
      have lx := hsR rx (List.mem_of_getElem? hrx)
      have ly := hsS ry (List.mem_of_getElem? hry)
      have ut := same_new htt (.tup [V.ref x, V.ref y])
      have et : upd H' tt (.tup [V.ref x, V.ref y]) tt = some (.tup [V.ref x, V.ref y]) := upd_same
      generalize upd H' tt (.tup [V.ref x, V.ref y]) = H3 at ut et ⊢
      have sm2 := sm.trans ut
      have hD2 := ut _ _ hD'
      have hf2 := hf.same ut
      refine ⟨tt, _, rfl, SqT.of et, rfl, _, _, rfl, _, _, rfl, rfl, ?_⟩
      have hx3 := sm2 _ _ hx2
      have hy3 := sm2 _ _ hy2
      refine ⟨_, rfl, _, rfl, x, y, _, _, rfl, rfl, SqL.of hx3, SqL.of hy3, _, rfl, ?_⟩
      have stay : isC rx ry = false → ∃ m', m' < (as.map V.ref).length - j ∧ CW (as.map V.ref).length (fun j σ' H' => ∃ (v0 v1 : Option V) (cs : List Addr), σ' = [v0, v1] ∧ H' D = some (.lst (cs.map V.ref)) ∧ cs.length ≤ j ∧ Same H2 H' ∧ FstC H2 H' D as as' cs (((Rl.zip Sl).take j).filter fun q => isC q.1 q.2)) (j + 1) m' [some (.ref x), some (.ref y)] H3 := fun hno => by
        refine CW.next hlt ⟨_, _, cs, rfl, hD2, by trivial, sm2, ?_⟩
        rw [take_at hz, List.filter_append, List.filter_cons_of_neg (p := fun q : List Int × List Int => isC q.1 q.2) (by show ¬ isC rx ry = true; rw [hno]; decide), List.filter_nil, List.append_nil]
        exact hf2
      by_cases hne : rx = ry
      · refine iteNS hne ?_
        exact stay (by unfold isC; rw [decide_eq_false (fun h => h hne)]; rfl)
      refine iteNTG hne ?_
      refine ⟨_, rfl, x, rx, rfl, hx3, by trivial, _, rfl, y, ry, rfl, hy3, by trivial, rfl, _, rfl, ?_⟩
      by_cases hmm : mixN rx = mixN ry
      rotate_left
      · refine iteFD (fun e => hmm (V.int.inj e)) ?_
        exact stay (by unfold isC; rw [decide_eq_false hmm, Bool.and_false])
      refine iteTD (congrArg V.int hmm) ?_
      refine ⟨_, rfl, _, rfl, (by show 2 ≤ sizeLine; decide), fun t2 ht2 => ?_⟩
      have u2 := same_new ht2 (.tup [V.ref x, V.ref y])
      have e2 : upd H3 t2 (.tup [V.ref x, V.ref y]) t2 = some (.tup [V.ref x, V.ref y]) := upd_same
      have n2 : t2 ≠ D := fun e => by rw [e, hD2] at ht2; cases ht2
      generalize upd H3 t2 (.tup [V.ref x, V.ref y]) = H4 at u2 e2 ⊢
      refine ⟨D, _, _, rfl, rfl, u2 _ _ hD2, fits_lt (by rw [List.length_map]; trivial), ?_⟩
      refine CW.next hlt ⟨_, _, cs ++ [t2], rfl, by rw [upd_same, List.map_append]; rfl, by rw [List.length_append, List.length_singleton]; trivial, same_upd (sm2.trans u2) _ hD, ?_⟩
      have hyes : isC rx ry = true := by unfold isC; rw [decide_eq_true hne, decide_eq_true hmm]; rfl
      rw [take_at hz, List.filter_append, List.filter_cons_of_pos (p := fun q : List Int × List Int => isC q.1 q.2) hyes, List.filter_nil]
      exact (hf2.same u2).app n2 (List.mem_of_getElem? hxa) (List.mem_of_getElem? hya) e2 hx2 hy2 _
    rintro σ' H3 ⟨v0, v1, cs, rfl, hD3, hcl, sm, hf⟩
    rw [List.length_map, List.take_of_length_le (by rw [List.length_zip, ← ls2.len]; trivial)] at hf
    obtain ⟨q, hq⟩ := hex
    have hh : ((Rl.zip Sl).filter fun q => isC q.1 q.2).head? = some q := by rw [List.head?_filter]; exact hq
    rcases hf with ⟨_, e⟩ | ⟨c, cs', q', qs', x, y, rfl, e, nc, hxm, hym, hct, hx2, hy2⟩
    · rw [e] at hh; cases hh
    rw [e] at hh
    have eq : q' = q := Option.some.inj hh
    subst eq
    refine ⟨_, rfl, D, _, ((0 : Nat) : Int), V.ref c, rfl, rfl, SqL.of hD3, atI_nat rfl, ?_⟩
    exact hS q' hq c x y H3 (s12.trans sm) hct (sm _ _ hx2) (sm _ _ hy2) (hfr x hxm) (s1.free (hfr' y hym)) (a12 x hxm y hym)
end
end K69
set_option Elab.async false
set_option linter.all false
set_option maxRecDepth 100000
set_option maxHeartbeats 4000000
namespace K69
open PySem L2 PySem.W PH
section
variable {P : Program} {w : World} {K : PySem.W.Frag} {mg : Str → Option Value} {base : Heap}
theorem sc_cellat : FnScope ["script", "k"] ["script", "k"] (defScope s_cellat) := ⟨rfl, rfl, rfl, by decide +kernel, rfl, by decide +kernel, by decide +kernel⟩
theorem ok_cellat {f : Addr} {fd : FuncData} (F : Fun K "_law_cell_at" "_law_cell_at" s_cellat f fd) (B : Bls mg) : FnOk P w K mg base (CXW P w) 1 f fd ["script", "k"] (spCellAt K) := by
  refine F.okN sc_cellat (fun vs H Q E h => ?_) (fun cdv A outer s H vs Q E hr h => ?_)
  · obtain ⟨a, ns, k, rfl, _⟩ := h
    rfl
  · obtain ⟨a, ns, k, rfl, hS, hQ⟩ := h
    refine ⟨_, (pss_cons (ps_if (pt_cmpR op_lt (pv 1) (pe_callB call_len_seq rfl B.len PySem.boot_len (pa_cons (pv 0) pa_nil)) (nomark _))
        (pss_one (ps_ret (pe_ix ix_list (pv 0) (pv 1) (fun _ _ => rfl))))
        pss_nil)
      (pss_one (ps_ret pe_int))), ?_⟩
    refine ⟨_, rfl, _, rfl, a, _, rfl, .inl hS, _, _, rfl, rfl, _, rfl, ?_⟩
    refine ite2 (fun c => ?_) (fun c => ?_)
    · have hlt : k < ns.length := by
        have := of_decide_eq_true c
        rw [List.length_map] at this
        trivial
      obtain ⟨x, hx⟩ : ∃ x, ns[k]? = some x := ⟨_, List.getElem?_eq_getElem hlt⟩
      refine ⟨_, rfl, _, rfl, a, _, _, .int x, rfl, rfl, hS, at_intsZ hx, ?_⟩
      exact hQ x
    · exact hQ 0
theorem sc_lwhole : FnScope ["found"] ["found"] (defScope s_lwhole) := ⟨rfl, rfl, rfl, by decide +kernel, rfl, by decide +kernel, by decide +kernel⟩
theorem ok_lwhole {f : Addr} {fd : FuncData} (F : Fun K "_law_whole" "_law_whole" s_lwhole f fd) (B : Bls mg) : FnOk P w K mg base (CXW P w) 1 f fd ["found"] (spWh) := by
  refine F.okN sc_lwhole (fun vs H Q E h => ?_) (fun cdv A outer s H vs Q E hr h => ?_)
  · obtain ⟨n, rfl, _⟩ := h
    rfl
  · obtain ⟨n, rfl, q⟩ := h
    refine ⟨_, (pss_one (ps_ret (pe_and (pe_callB (r := rIsi K) call_isi rfl B.isi boot_isi (pa_cons (pv 0) (pa_cons (pe_bltn (v := .ty "int") rfl B.int boot_int' rfl) pa_nil))) (pe_one (pe_not (pe_callB (r := rIsi K) call_isi rfl B.isi boot_isi (pa_cons (pv 0) (pa_cons (pe_bltn (v := .ty "bool") rfl B.bool boot_bool' rfl) pa_nil)))))))), ?_⟩
    refine ⟨_, rfl, _, _, _, _, true, rfl, .of (.int n), rfl, kit_refl _ _, _, rfl, ?_⟩
    refine iteT ?_
    refine ⟨_, rfl, _, _, _, _, false, rfl, .of (.int n), rfl, kit_ib _, _, rfl, ?_⟩
    exact q
end
end K69
set_option Elab.async false
set_option linter.all false
set_option maxRecDepth 100000
set_option maxHeartbeats 4000000
namespace K69
open PySem L2 PySem.W PH
section
variable {P : Program} {w : World} {K : PySem.W.Frag} {mg : Str → Option Value} {base : Heap}
theorem sc_lbits : FnScope ["number", "found", "left"] ["number"] (defScope s_lbits) := ⟨rfl, rfl, rfl, by decide +kernel, rfl, by decide +kernel, by decide +kernel⟩
theorem ok_lbits {f : Addr} {fd : FuncData} (F : Fun K "_law_bits" "_law_bits" s_lbits f fd) (B : Bls mg) : FnOk P w K mg base (CXW P w) 1 f fd ["number"] (spBits68) := by
  refine F.okN sc_lbits (fun vs H Q E h => ?_) (fun cdv A outer s H vs Q E hr h => ?_)
  · obtain ⟨n, rfl, _⟩ := h
    rfl
  · obtain ⟨n, rfl, hQ⟩ := h
    refine ⟨_, (pss_cons (ps_set (i := 1) sc_lbits.nd rfl (Or.inl rfl) (pe_lst pa_nil))
      (pss_cons (ps_set (i := 2) sc_lbits.nd rfl (Or.inl rfl) (pe_op op_add (pe_op op_mod (pv 0) (pe_op op_pow pe_int pe_int)) pe_int))
      (pss_cons (ps_while PassesOwn.never (pt_cmpR op_gt (pv 2) pe_int (nomark _))
        (pss_cons (ps_expr (pe_bm PySem.F.plainAttrs_list PySem.F.slot_list_insert PySem.F.type_list_insert mt_insert0 (pv 1) (pa_cons pe_int (pa_cons (pe_op op_mod (pv 2) pe_int) pa_nil))))
        (pss_one (ps_set (i := 2) sc_lbits.nd rfl (Or.inl rfl) (pe_op op_fdiv (pv 2) pe_int)))))
      (pss_one (ps_ret (pv 1)))))), ?_⟩
    refine ⟨(by show 0 ≤ sizeLine; decide), fun F hF => ?_⟩
    have s1 := same_new hF (.lst [])
    have eF : upd H F (.lst []) F = some (lsI []) := upd_same
    generalize upd H F (.lst []) = H1 at s1 eF ⊢
    obtain ⟨m, em, hm1, hm2⟩ : ∃ m : Nat, n % 10 ^ (30 : Int).toNat + 1 = (m : Int) ∧ 1 ≤ m ∧ m ≤ 10 ^ 30 := by
      have r1 := Int.emod_nonneg n (show (10 ^ (30 : Int).toNat : Int) ≠ 0 by decide)
      have r2 := Int.emod_lt_of_pos n (show (0 : Int) < 10 ^ (30 : Int).toNat by decide)
      have r3 : (10 ^ (30 : Int).toNat : Int) = ((10 ^ 30 : Nat) : Int) := by decide
      exact ⟨(n % 10 ^ (30 : Int).toNat + 1).toNat, by trivial, by trivial, by trivial⟩
    refine ⟨_, rfl, _, _, rfl, rfl, ⟨by decide, by decide, by decide⟩, _, _, rfl, rfl, (by show (0 : Int) < 10 ^ (30 : Int).toNat; decide), _, _, rfl, rfl, ?_⟩
    refine gNz (v' := V.int (m : Int)) (congrArg V.int em.symm) ?_
    clear em
    refine ⟨fun mm σ H' => ∃ (m : Nat) (bs : List Int), mm = m ∧ σ = [some (.int n), some (.ref F), some (.int (m : Int))] ∧ H' F = some (lsI bs) ∧ 1 ≤ m ∧ m * 2 ^ bs.length ≤ 10 ^ 30 ∧ (∀ x ∈ bs, 0 ≤ x) ∧ Same H H',
      ⟨_, m, [], rfl, rfl, eF, hm1, by rw [List.length_nil, Nat.pow_zero, Nat.mul_one]; exact hm2, (fun x h => by cases h), s1⟩, ?_⟩
    clear hm1 hm2
    rintro mm σ H4 ⟨m, bs, em, rfl, hF4, hm1, hm2, hnn, sm⟩
    obtain rfl : m = mm := em.symm
    refine ⟨_, rfl, _, _, rfl, rfl, _, rfl, ?_⟩
    by_cases h2 : 2 ≤ m
    rotate_left
    · rw [decide_eq_false (show ¬ (1 : Int) < ((m : Nat) : Int) by trivial)]
      refine iteF ?_
      refine ⟨_, rfl, ?_⟩
      exact hQ F bs H4 sm hF hF4 (pw_len3 (Nat.le_trans (Nat.le_mul_of_pos_left _ (by trivial)) hm2)) hnn
    rw [decide_eq_true (show (1 : Int) < ((m : Nat) : Int) by trivial)]
    refine iteT ?_
    refine ⟨fun σ' H'' => ∃ m', m' < m ∧ ∃ (m : Nat) (bs : List Int), m' = m ∧ σ' = [some (.int n), some (.ref F), some (.int (m : Int))] ∧ H'' F = some (lsI bs) ∧ 1 ≤ m ∧ m * 2 ^ bs.length ≤ 10 ^ 30 ∧ (∀ x ∈ bs, 0 ≤ x) ∧ Same H H'', fun σ' H'' z => z, ?_⟩
    have hbl : bs.length ≤ 200 := pw_len3 (Nat.le_trans (Nat.le_mul_of_pos_left _ (by trivial)) hm2)
    refine ⟨_, rfl, .inl ⟨rfl, _, SqL.of hF4⟩, _, rfl, _, _, rfl, rfl, (by show (0 : Int) < 2; decide), F, _, _, rfl, rfl, hF4, fits_lt (by rw [List.length_map]; trivial), ?_⟩
    refine ⟨_, rfl, _, _, rfl, rfl, ⟨by decide, by decide⟩, ?_⟩
    refine gNz (v' := V.int ((m / 2 : Nat) : Int)) (congrArg V.int (by trivial)) ?_
    refine ⟨m / 2, by trivial, m / 2, ((m : Int) % 2) :: bs, rfl, rfl, upd_same, by trivial, ?_, ?_, same_upd sm _ hF⟩
    rotate_left
    · intro x hx
      rcases List.mem_cons.mp hx with e | hx
      · rw [e]; trivial
      · exact hnn x hx
    rw [List.length_cons, Nat.pow_succ, Nat.mul_comm (2 ^ bs.length) 2, ← Nat.mul_assoc]
    exact Nat.le_trans (Nat.mul_le_mul_right _ (by trivial)) hm2
end
end K69
set_option Elab.async false
set_option linter.all false
set_option maxRecDepth 100000
set_option maxHeartbeats 4000000
namespace K69
open PySem L2 PySem.W PH
section
variable {P : Program} {w : World} {K : PySem.W.Frag} {mg : Str → Option Value} {base : Heap}
theorem sc_lmix : FnScope ["row", "found", "number"] ["row"] (defScope s_lmix) := ⟨rfl, rfl, rfl, by decide +kernel, rfl, by decide +kernel, by decide +kernel⟩
theorem ok_lmix {f : Addr} {fd : FuncData} (F : Fun K "_law_mix" "_law_mix" s_lmix f fd) (B : Bls mg) : FnOk P w K mg base (CXW P w) 1 f fd ["row"] (spMix) := by
  refine F.okN sc_lmix (fun vs H Q E h => ?_) (fun cdv A outer s H vs Q E hr h => ?_)
  · obtain ⟨p, l, rfl, _⟩ := h
    rfl
  · obtain ⟨p, l, rfl, hp, hl, hQ⟩ := h
    refine ⟨_, (pss_cons (ps_set (i := 1) sc_lmix.nd rfl (Or.inl rfl) (pe_callB call_len_seq rfl B.len PySem.boot_len (pa_cons (pv 0) pa_nil)))
      (pss_cons (ps_for PassesOwn.never rfl (pi_list (pv 0)) (pg_name (i := 2) sc_lmix.nd rfl (Or.inl rfl))
        (pss_one (ps_set (i := 1) sc_lmix.nd rfl (Or.inl rfl) (pe_op op_mod (pe_op op_add (pe_op op_mul pe_int (pv 1)) (pv 2)) pe_int))))
      (pss_one (ps_ret (pv 1))))), ?_⟩
    refine ⟨_, rfl, p, _, rfl, .inl (SqL.of hp), ?_⟩
    refine gNz (v' := V.int ((l.length : Nat) : Int)) (congrArg (fun y : Nat => V.int (y : Int)) (List.length_map _).symm) ?_
    refine ⟨_, rfl, p, rfl, ⟨_, SqL.of hp⟩, for_list (K := K) (a := p) (xs := l.map V.int) (fun i σ H' => ∃ (m : Int) (v2 : Option V), σ = [some (.ref p), some (.int m), v2] ∧ H' = H ∧ m = (l.take i).foldl mxs (l.length : Int) ∧ 0 ≤ m ∧ m < 2305843009213693951)
      ⟨_, none, rfl, rfl, rfl, by trivial, by trivial⟩ (fun i σ H' _ ⟨_, _, _, e, _⟩ => by rw [e]; exact SqL.of hp) ?_ ?_⟩
    · rintro i y σ H' hi ⟨m, v2, rfl, rfl, hm, m0, m1⟩
      obtain ⟨z, rfl, hz⟩ := int_at hi
      refine ⟨_, rfl, _, _, rfl, rfl, .inr ⟨by trivial, by trivial⟩, _, rfl, _, _, rfl, rfl, _, _, rfl, rfl, (by show (0 : Int) < 2305843009213693951; decide), ?_⟩
      have b := mxs_nn m z
      refine gNz (v' := V.int (mxs m z)) (congrArg V.int (by unfold mxs; rw [Int.mul_comm m])) ?_
      exact ⟨mxs m z, _, rfl, rfl, by rw [take_at hz, List.foldl_append, ← hm]; rfl, b.1, b.2⟩
    · rintro σ H' ⟨m, v2, rfl, rfl, hm, _, _⟩
      rw [List.length_map, List.take_length] at hm
      refine ⟨_, rfl, ?_⟩
      rw [hm]; exact hQ
end
end K69
set_option Elab.async false
set_option linter.all false
set_option maxRecDepth 100000
set_option maxHeartbeats 4000000
namespace K69
open PySem L2 PySem.W PH
section
variable {P : Program} {w : World} {K : PySem.W.Frag} {mg : Str → Option Value} {base : Heap}
theorem sc_lcopy : FnScope ["blocks"] ["blocks"] (defScope s_lcopy) := ⟨rfl, rfl, rfl, by decide +kernel, rfl, by decide +kernel, by decide +kernel⟩
theorem ok_lcopy {f : Addr} {fd : FuncData} (F : Fun K "_law_copy" "_law_copy" s_lcopy f fd) (B : Bls mg) : FnOk P w K mg base (CXW P w) 1 f fd ["blocks"] (spCopy) := by
  refine F.okN sc_lcopy (fun vs H Q E h => ?_) (fun cdv A outer s H vs Q E hr h => ?_)
  · obtain ⟨Bq, bs, rfl, _⟩ := h
    rfl
  · obtain ⟨Bq, bs, rfl, wr, hl, hQ⟩ := h
    refine ⟨_, (pss_one (ps_ret (pe_comp (N := ["way", "bits"]) (js := [none, none]) (g := (gTup K 2 (gCons (gName 0) (gCons (gName 1) gNil)))) (tc := tTrue) (te := (tTup (tCons (tVar 0) (tCons (tCB (rListOf K) (tCons (tVar 1) tNil)) tNil)))) rfl (comp_scope (osc := defScope s_lcopy) (XN := ["blocks"]) rfl rfl rfl (by decide +kernel)) (pi_list (pv 0)) (fun _ _ _ _ => (pg_tup rfl (pgs_cons (pg_name (i := 0) (show (["way", "bits"] : List Str).Nodup by decide +kernel) rfl (Or.inl rfl)) (pgs_cons (pg_name (i := 1) (show (["way", "bits"] : List Str).Nodup by decide +kernel) rfl (Or.inl rfl)) pgs_nil)))) (fun _ _ _ _ => pif_nil) (fun _ _ _ _ => (pe_tup (pa_cons (pv 0) (pa_cons (pe_callTy call_list_of rfl B.list boot_list' (pa_cons (pv 1) pa_nil)) pa_nil))))))), ?_⟩
    refine ⟨_, rfl, Bq, rfl, ⟨_, SqL.of wr.at_⟩, fun D hD => ?_⟩
    refine comp_lstQ (K := K) (a := Bq) (xs := bs.map fun w => V.ref w.1) (fun i σ' H' => ∃ (v0 v1 : Option V) (cs : List BL), σ' = [v0, v1] ∧ Wrs H' D cs ∧ bkv cs = (bkv bs).take i ∧ (∀ b ∈ cs, H b.2.2.1 = none) ∧ (∀ b ∈ cs, b.2.2.1 ≠ D) ∧ (cs.map fun b => b.2.2.1).Nodup ∧ Same H H')
      ⟨none, none, [], rfl, ⟨upd_same, fun w hw => by cases hw⟩, rfl, (fun b h => by cases h), (fun b h => by cases h), List.nodup_nil, same_new hD _⟩ (fun i σ' H' _ ⟨_, _, _, _, _, _, _, _, _, e⟩ => SqL.of (e _ _ wr.at_)) ?_ ?_
    · rintro i y σ' H' hi ⟨v0, v1, cs, rfl, wc, hcs, hnw, hn2, hnd, sm'⟩
      have hlt : i < (bs.map fun w => V.ref w.1).length := (List.getElem?_eq_some_iff.mp hi).1
      have hil : i < bs.length := by rw [List.length_map] at hlt; exact hlt
      obtain ⟨z, hz⟩ := bounded_at hil
      rw [List.getElem?_map, hz] at hi
      have ey : V.ref z.1 = y := Option.some.inj hi
      subst ey
      have he := wr.each z (List.mem_of_getElem? hz)
      have hzv : (bkv bs)[i]? = some (z.2.1, z.2.2.2) := by unfold bkv; rw [List.getElem?_map, hz]; rfl
      have hcl2 : cs.length ≤ 100 := by
        have := congrArg List.length hcs
        rw [bkv_len, List.length_take, bkv_len] at this
        trivial
      refine ⟨z.1, _, rfl, SqT.of (sm' _ _ he.1), rfl, _, _, rfl, _, _, rfl, rfl, ?_⟩
      refine ifT ?_
      refine ⟨_, rfl, _, rfl, z.2.2.1, _, rfl, .inl (SqL.of (sm' _ _ he.2)), fun l hl2 => ?_⟩
      have u1 := same_new hl2 (.lst (z.2.2.2.map V.int))
      have el : upd H' l (.lst (z.2.2.2.map V.int)) l = some (lsI z.2.2.2) := upd_same
      have nl : l ≠ D := fun e => by rw [e, wc.at_] at hl2; cases hl2
      have hlH : H l = none := sm'.free hl2
      have nin : l ∉ cs.map (fun b => b.2.2.1) := fun hm => by
        obtain ⟨b, hb, e⟩ := List.mem_map.mp hm
        have := (wc.each b hb).2
        rw [e, hl2] at this; cases this
      generalize upd H' l (.lst (z.2.2.2.map V.int)) = Ha at u1 el ⊢
      refine ⟨(by show 2 ≤ sizeLine; decide), fun tb htb => ?_⟩
      have u2 := same_new htb (.tup [V.int z.2.1, V.ref l])
      have etb : upd Ha tb (.tup [V.int z.2.1, V.ref l]) tb = some (.tup [V.int z.2.1, V.ref l]) := upd_same
      generalize upd Ha tb (.tup [V.int z.2.1, V.ref l]) = Hb at u2 etb ⊢
      have u12 := u1.trans u2
      have wc2 := wc.same u12
      refine ⟨D, _, _, rfl, rfl, wc2.at_, fits_lt (by rw [List.length_map]; trivial), ?_⟩
      refine CW.next hlt ⟨_, _, cs ++ [(tb, z.2.1, l, z.2.2.2)], rfl, wc2.app hn2 etb (u2 _ _ el) nl, ?_, ?_, ?_, ?_, same_upd (sm'.trans u12) _ hD⟩
      · rw [take_at hzv, ← hcs]; unfold bkv; rw [List.map_append]; rfl
      · intro b hb
        rcases List.mem_append.mp hb with hb | hb
        · exact hnw b hb
        · rw [List.mem_singleton.mp hb]; exact hlH
      · intro b hb
        rcases List.mem_append.mp hb with hb | hb
        · exact hn2 b hb
        · rw [List.mem_singleton.mp hb]; exact nl
      · rw [List.map_append]
        exact nd_snoc hnd nin
    rintro σ' H2 ⟨v0', v1', cs, rfl, wc, hbkv, hnw, hn2, hnd, sm2⟩
    rw [List.length_map, show bs.length = (bkv bs).length from (bkv_len bs).symm, List.take_length] at hbkv
    exact hQ D cs H2 sm2 hD wc hbkv ⟨hnw, hn2, hnd⟩
end
end K69
set_option Elab.async false
set_option linter.all false
set_option maxRecDepth 100000
set_option maxHeartbeats 4000000
namespace K69
open PySem L2 PySem.W PH
section
variable {P : Program} {w : World} {K : PySem.W.Frag} {mg : Str → Option Value} {base : Heap}
theorem sc_lothers : FnScope ["shown", "cells", "found", "wide", "k", "block", "way", "bits", "cell", "kind"] ["shown", "cells"] (defScope s_lothers) := ⟨rfl, rfl, rfl, by decide +kernel, rfl, by decide +kernel, by decide +kernel⟩
theorem ok_lothers {f : Addr} {fd : FuncData} (F : Fun K "_law_others" "_law_others" s_lothers f fd) (B : Bls mg) (n_enumerate : mg "enumerate" = none) : FnOk P w K mg base (CXW P w) 1 f fd ["shown", "cells"] (spOthers) := by
  refine F.okN sc_lothers (fun vs H Q E h => ?_) (fun cdv A outer s H vs Q E hr h => ?_)
  · obtain ⟨Bq, C, bs, cs, rfl, _⟩ := h
    rfl
  · obtain ⟨Bq, C, bs, cs, rfl, bk, hbn, hC, hc1, hc2, hQ⟩ := h
    refine ⟨_, (pss_cons (ps_set (i := 2) sc_lothers.nd rfl (Or.inl rfl) (pe_lst pa_nil))
      (pss_cons (ps_set (i := 3) sc_lothers.nd rfl (Or.inr rfl) pe_int)
      (pss_cons (ps_for PassesOwn.never rfl (pi_enum rfl n_enumerate (pa_cons (pv 0) pa_nil)) (pg_tup rfl (pgs_cons (pg_name (i := 4) sc_lothers.nd rfl (Or.inl rfl)) (pgs_cons (pg_name (i := 5) sc_lothers.nd rfl (Or.inl rfl)) pgs_nil)))
        (pss_cons (ps_asg (pv 5) (pg_tup rfl (pgs_cons (pg_name (i := 6) sc_lothers.nd rfl (Or.inl rfl)) (pgs_cons (pg_name (i := 7) sc_lothers.nd rfl (Or.inl rfl)) pgs_nil))))
        (pss_cons (ps_set (i := 8) sc_lothers.nd rfl (Or.inr rfl) (pe_op op_fdiv (pe_ix ix_list (pv 1) (pe_op op_mod (pv 4) (pe_callB call_len_seq rfl B.len PySem.boot_len (pa_cons (pv 1) pa_nil))) (fun _ _ => rfl)) (pe_op op_add (pe_op op_fdiv (pv 4) (pe_callB call_len_seq rfl B.len PySem.boot_len (pa_cons (pv 1) pa_nil))) pe_int)))
        (pss_cons (ps_set (i := 9) sc_lothers.nd rfl (Or.inl rfl) (pe_op op_mod (pv 8) pe_int))
        (pss_cons (ps_if (pt_cmpR op_eq (pv 9) pe_int (nomark _))
          (pss_one (ps_set (i := 6) sc_lothers.nd rfl (Or.inl rfl) (pe_op op_add (pv 6) (pe_op op_mul (pv 3) (pe_op op_add pe_int (pe_op op_mod (pe_op op_fdiv (pv 8) pe_int) pe_int))))))
          pss_nil)
        (pss_cons (ps_if (pt_cmpR op_eq (pv 9) pe_int (nomark _))
          (pss_one (ps_setC (iy := 7) (N := ["n", "bit", "wide", "cell"]) (js := [none, none, some 3, some 8]) (g := (gTup K 2 (gCons (gName 0) (gCons (gName 1) gNil)))) (tc := tTrue) (te := (tOp (rI0 fun i j => .int (i + j)) (tVar 1) (tOp (rI CMul fun i j => .int (i * j)) (tVar 2) (tOp (rI (fun _ j => 0 < j) fun i j => .int (i % j)) (tOp (rI CDiv fun i j => .int (i / j)) (tVar 3) (tOp (rI0 fun i j => .int (i + j)) (tC (.int 4)) (tVar 0))) (tC (.int 3)))))) sc_lothers.nd rfl rfl rfl (comp_scope (osc := defScope s_lothers) (XN := ["shown", "cells", "found", "wide", "k", "block", "way", "bits", "cell", "kind"]) rfl rfl rfl (by decide +kernel)) (pi_enum rfl n_enumerate (pa_cons (pv 7) pa_nil)) (fun _ _ _ _ => (pg_tup rfl (pgs_cons (pg_name (i := 0) (show (["n", "bit", "wide", "cell"] : List Str).Nodup by decide +kernel) rfl (Or.inl rfl)) (pgs_cons (pg_name (i := 1) (show (["n", "bit", "wide", "cell"] : List Str).Nodup by decide +kernel) rfl (Or.inl rfl)) pgs_nil)))) (fun _ _ _ _ => pif_nil) (fun _ _ _ _ => (pe_op op_add (pv 1) (pe_op op_mul (pv 2) (pe_op op_mod (pe_op op_fdiv (pv 3) (pe_op op_add pe_int (pv 0))) pe_int))))))
          pss_nil)
        (pss_one (ps_expr (pe_bm PySem.F.plainAttrs_list PySem.F.slot_list_append PySem.F.type_list_append mt_append (pv 2) (pa_cons (pe_tup (pa_cons (pv 6) (pa_cons (pe_callTy call_list_of rfl B.list boot_list' (pa_cons (pv 7) pa_nil)) pa_nil))) pa_nil))))))))))
      (pss_one (ps_ret (pv 2)))))), ?_⟩
    refine ⟨(by show 0 ≤ sizeLine; decide), fun F hF => ?_⟩
    have s1 := same_new hF (.lst [])
    have eF : upd H F (.lst []) F = some (.lst []) := upd_same
    generalize upd H F (.lst []) = H1 at s1 eF ⊢
    refine ⟨_, rfl, Bq, rfl, ⟨_, SqL.of (s1 _ _ bk.1.at_)⟩, for_enum (K := K) (a := Bq) (xs := bs.map fun w => V.ref w.1) (fun i σ H' => ∃ (ds : List BL) (v4 v5 v6 v7 v8 v9 : Option V), σ = [some (.ref Bq), some (.ref C), some (.ref F), some (.int 2305843009213693951), v4, v5, v6, v7, v8, v9] ∧ Wrs H' F ds ∧ ds.length = i ∧ (∀ b ∈ ds, b.2.2.2.length ≤ 300) ∧ (∀ b ∈ ds, b.2.2.1 ≠ F) ∧ Same H H')
      ⟨[], none, none, none, none, none, none, rfl, ⟨eF, fun w hw => by cases hw⟩, rfl, (fun b h => by cases h), (fun b h => by cases h), s1⟩ (fun i σ H' _ ⟨_, _, _, _, _, _, _, _, _, _, _, _, e⟩ => SqL.of (e _ _ bk.1.at_)) ?_ ?_⟩
    · rintro i y t σ H' hi ⟨ds, v4, v5, v6, v7, v8, v9, rfl, wr, hdl, hdz, hdn, sm⟩ ht
      have hlt : i < (bs.map fun w => V.ref w.1).length := (List.getElem?_eq_some_iff.mp hi).1
      have hil : i < bs.length := by rw [List.length_map] at hlt; exact hlt
      obtain ⟨z, hz⟩ := bounded_at hil
      rw [List.getElem?_map, hz] at hi
      have ey : V.ref z.1 = y := Option.some.inj hi
      subst ey
      have hm := List.mem_of_getElem? hz
      have st := same_new ht (.tup [.int (i : Nat), V.ref z.1])
      have et : upd H' t (.tup [.int (i : Nat), V.ref z.1]) t = some (.tup [.int (i : Nat), V.ref z.1]) := upd_same
      generalize upd H' t (.tup [.int (i : Nat), V.ref z.1]) = H2 at st et ⊢
      have sm2 := sm.trans st
      have he := (bk.1.same sm2).each z hm
      have hC2 := sm2 _ _ hC
      have wr2 := wr.same st
      refine ⟨t, _, rfl, SqT.of et, rfl, _, _, rfl, _, _, rfl, rfl, ?_⟩
      refine ⟨_, rfl, z.1, _, rfl, SqT.of he.1, rfl, _, _, rfl, _, _, rfl, rfl, ?_⟩
      have hcp : (0 : Int) < (((cs.map V.int).length : Nat) : Int) := by rw [List.length_map]; trivial
      have hcl : (((cs.map V.int).length : Nat) : Int) ≤ 100 := by rw [List.length_map]; trivial
      obtain ⟨x, hat, _⟩ := list_atM (xs := cs) (k := (i : Int) % (((cs.map V.int).length : Nat) : Int)) (Int.emod_nonneg _ (by trivial)) (by have := Int.emod_lt_of_pos (i : Int) hcp; rw [List.length_map] at this ⊢; exact this)
      have hdv : 0 ≤ (i : Int) / (((cs.map V.int).length : Nat) : Int) ∧ (i : Int) / (((cs.map V.int).length : Nat) : Int) ≤ 100 := ⟨Int.ediv_nonneg (by trivial) (by trivial), Int.le_trans (Int.ediv_le_self _ (by trivial)) (by trivial)⟩
      refine ⟨_, rfl, _, rfl, _, rfl, C, _, rfl, .inl (SqL.of hC2), _, _, rfl, rfl, hcp, C, _, _, _, rfl, rfl, SqL.of hC2, hat, _, rfl, _, rfl, C, _, rfl, .inl (SqL.of hC2), _, _, rfl, rfl, ⟨hcp, by trivial⟩, _, _, rfl, rfl, _, _, rfl, rfl, ⟨by show (0 : Int) < (i : Int) / (((cs.map V.int).length : Nat) : Int) + 1; trivial, by show (i : Int) / (((cs.map V.int).length : Nat) : Int) + 1 < _; trivial⟩, ?_⟩
      obtain ⟨ce, ece⟩ : ∃ ce : Int, ce = x / ((i : Int) / (((cs.map V.int).length : Nat) : Int) + 1) := ⟨_, rfl⟩
      refine gNz (v' := V.int ce) (congrArg V.int ece) ?_
      clear ece
      refine ⟨_, rfl, _, _, rfl, rfl, (by show (0 : Int) < 4; decide), ?_⟩
      try dsimp only
      refine sqMidG (fun σ' H'' => ∃ (w : Int) (v4 v5 v9 : Option V), σ' = [some (.ref Bq), some (.ref C), some (.ref F), some (.int 2305843009213693951), v4, v5, some (.int w), some (.ref z.2.2.1), some (.int ce), v9] ∧ v9 = some (.int (ce % 4)) ∧ H'' = H2) ?_ ?_
      rotate_left
      · intro M hM
        refine ⟨_, rfl, rfl, _, rfl, ?_⟩
        refine ite2 (fun _ => ?_) (fun _ => hM _ _ ⟨_, _, _, _, rfl, rfl, rfl⟩)
        refine ⟨_, rfl, _, rfl, _, rfl, _, _, rfl, rfl, ⟨by decide, by decide⟩, _, _, rfl, rfl, (by show (0 : Int) < 3; decide), _, _, rfl, rfl, _, _, rfl, rfl, .inl ⟨by decide, by decide⟩, _, _, rfl, rfl, ?_⟩
        exact hM _ _ ⟨_, _, _, _, rfl, rfl, rfl⟩
      rintro σ' H2' ⟨w, v4, v5, v9, rfl, rfl, rfl⟩
      try dsimp only
      refine sqMidG (fun σ' H'' => ∃ (L2 : Addr) (l2 : List Int) (v4 v5 v9 : Option V), σ' = [some (.ref Bq), some (.ref C), some (.ref F), some (.int 2305843009213693951), v4, v5, some (.int w), some (.ref L2), some (.int ce), v9] ∧ H'' L2 = some (lsI l2) ∧ l2.length ≤ 300 ∧ Same H2' H'') ?_ ?_
      rotate_left
      · intro M hM
        have hbz := bk.2 z hm
        refine ⟨_, rfl, rfl, _, rfl, ?_⟩
        refine ite2 (fun _ => ?_) (fun _ => hM _ _ ⟨_, _, _, _, _, rfl, he.2, hbz, Same.refl _⟩)
        refine ⟨_, rfl, z.2.2.1, rfl, ⟨_, SqL.of he.2⟩, fun E hE => ?_⟩
        refine comp_enumQ (K := K) (a := z.2.2.1) (xs := z.2.2.2.map V.int) (fun j σ' H'' => ∃ (v0 v1 : Option V) (ks : List Int), σ' = [v0, v1, some (.int 2305843009213693951), some (.int ce)] ∧ H'' E = some (lsI ks) ∧ ks.length = j ∧ Same H2' H'')
          ⟨none, none, [], rfl, upd_same, rfl, same_new hE _⟩ (fun i σ' H' _ ⟨_, _, _, _, _, _, e⟩ => SqL.of (e _ _ he.2)) ?_ ?_
        · rintro j y t σ' H'' hj ⟨v0, v1, ks, rfl, hE', hkl, smj⟩ htj
          have hjt : j < (z.2.2.2.map V.int).length := (List.getElem?_eq_some_iff.mp hj).1
          have hjl : j < z.2.2.2.length := by rw [List.length_map] at hjt; exact hjt
          obtain ⟨x, rfl, hx⟩ := int_at hj
          have utj := same_new htj (.tup [.int (j : Nat), .int x])
          refine ⟨t, _, rfl, SqT.of upd_same, rfl, _, _, rfl, _, _, rfl, rfl, ?_⟩
          refine ifT ?_
          refine ⟨_, rfl, _, rfl, _, rfl, _, rfl, _, _, rfl, rfl, _, _, rfl, rfl, ⟨by show (0 : Int) < 4 + (j : Int); trivial, by show (4 : Int) + (j : Int) < _; trivial⟩, _, _, rfl, rfl, (by show (0 : Int) < 3; decide), _, _, rfl, rfl, .inl ⟨by decide, by decide⟩, _, _, rfl, rfl, ?_⟩
          refine ⟨E, _, _, rfl, rfl, utj _ _ hE', fits_lt (by rw [List.length_map]; trivial), ?_⟩
          refine CW.next hjt ⟨_, _, ks ++ [_], rfl, by rw [upd_same, lsI_app1], by rw [List.length_append, List.length_singleton]; trivial, same_upd (smj.trans utj) _ hE⟩
        rintro σ' H5 ⟨v0, v1, ks, rfl, hE5, hkl, sm5⟩
        rw [List.length_map] at hkl
        exact hM _ _ ⟨E, ks, _, _, _, rfl, hE5, by trivial, sm5⟩
      rintro σ' H3 ⟨L2, l2, v4, v5, v9, rfl, hL2, hl2, s3⟩
      have wr3 := wr2.same s3
      refine ⟨_, rfl, .inl ⟨rfl, _, SqL.of wr3.at_⟩, _, rfl, _, rfl, L2, _, rfl, .inl (SqL.of hL2), fun l hl => ?_⟩
      have ul := same_new hl (.lst (l2.map V.int))
      have el : upd H3 l (.lst (l2.map V.int)) l = some (lsI l2) := upd_same
      have nl : l ≠ F := fun e => by rw [e, wr3.at_] at hl; cases hl
      generalize upd H3 l (.lst (l2.map V.int)) = H4 at ul el ⊢
      refine ⟨(by show 2 ≤ sizeLine; decide), fun tb htb => ?_⟩
      have ub := same_new htb (.tup [V.int w, V.ref l])
      have eb : upd H4 tb (.tup [V.int w, V.ref l]) tb = some (.tup [V.int w, V.ref l]) := upd_same
      generalize upd H4 tb (.tup [V.int w, V.ref l]) = H5 at ub eb ⊢
      have s35 := ul.trans ub
      have wr5 := wr3.same s35
      refine ⟨F, _, _, rfl, rfl, wr5.at_, fits_lt (by rw [List.length_map]; trivial), ?_⟩
      refine ⟨ds ++ [(tb, w, l, l2)], _, _, _, _, _, _, rfl, wr5.app hdn eb (ub _ _ el) nl, by rw [List.length_append, hdl]; rfl, ?_, ?_, same_upd (sm2.trans (s3.trans s35)) _ hF⟩
      · intro b hb
        rcases List.mem_append.mp hb with hb | hb
        · exact hdz b hb
        · rw [List.mem_singleton.mp hb]; exact hl2
      · intro b hb
        rcases List.mem_append.mp hb with hb | hb
        · exact hdn b hb
        · rw [List.mem_singleton.mp hb]; exact nl
    · rintro σ H' ⟨ds, v4, v5, v6, v7, v8, v9, rfl, wr, hdl, hdz, hdn, sm⟩
      rw [List.length_map] at hdl
      refine ⟨_, rfl, ?_⟩
      exact hQ F ds H' sm ⟨wr, hdz⟩ hdl
end
end K69
set_option Elab.async false
set_option linter.all false
set_option maxRecDepth 100000
set_option maxHeartbeats 4000000
namespace K69
open PySem L2 PySem.W PH
section
variable {P : Program} {w : World} {K : PySem.W.Frag} {mg : Str → Option Value} {base : Heap}
theorem sc_lanother : FnScope ["shown", "cell", "cells"] ["shown", "cell", "cells"] (defScope s_lanother) := ⟨rfl, rfl, rfl, by decide +kernel, rfl, by decide +kernel, by decide +kernel⟩
theorem ok_lanother {f f_lbits f_lcopy f_lothers : Addr} {fd d_lbits d_lcopy d_lothers : FuncData} (F : Fun K "_law_another" "_law_another" s_lanother f fd) (B : Bls mg) (n_enumerate : mg "enumerate" = none) 
    (G_lbits : FnOk P w K mg base (CXW P w) 1 f_lbits d_lbits ["number"] (spBits68)) (b_lbits : Binds K d_lbits ["number"] []) (k_lbits : keepIn K (.ref f_lbits) = true) (m_lbits : mg "_law_bits" = some (.ref f_lbits)) 
    (G_lcopy : FnOk P w K mg base (CXW P w) 1 f_lcopy d_lcopy ["blocks"] (spCopy)) (b_lcopy : Binds K d_lcopy ["blocks"] []) (k_lcopy : keepIn K (.ref f_lcopy) = true) (m_lcopy : mg "_law_copy" = some (.ref f_lcopy)) 
    (G_lothers : FnOk P w K mg base (CXW P w) 1 f_lothers d_lothers ["shown", "cells"] (spOthers)) (b_lothers : Binds K d_lothers ["shown", "cells"] []) (k_lothers : keepIn K (.ref f_lothers) = true) (m_lothers : mg "_law_others" = some (.ref f_lothers)) : FnOk P w K mg base (CXW P w) 2 f fd ["shown", "cell", "cells"] (spAnother) := by
  refine F.okN sc_lanother (fun vs H Q E h => ?_) (fun cdv A outer s H vs Q E hr h => ?_)
  · obtain ⟨Bq, C, bs, cs, c, rfl, _⟩ := h
    rfl
  · obtain ⟨Bq, C, bs, cs, c, rfl, bk, hbn, hC, hc1, hc2, hQ⟩ := h
    refine ⟨_, (pss_cons (ps_if (pt_cmpR op_lt (pe_op op_mod (pv 1) pe_int) pe_int (nomark _))
        (pss_one (ps_ret (pe_call G_lcopy hr rfl m_lcopy k_lcopy b_lcopy .nil passN (pa_cons (pv 0) pa_nil))))
        pss_nil)
      (pss_cons (ps_if (pt_cmpR op_eq (pe_op op_mod (pv 1) pe_int) pe_int (nomark _))
        (pss_one (ps_ret (pe_ix ix_list (pe_lst (pa_cons (pe_slice sl_list (pe_call G_lcopy hr rfl m_lcopy k_lcopy b_lcopy .nil passN (pa_cons (pv 0) pa_nil)) po_none (po_some (pe_un un_neg pe_int))) (pa_cons (pe_op op_cat (pe_call G_lcopy hr rfl m_lcopy k_lcopy b_lcopy .nil passN (pa_cons (pv 0) pa_nil)) (pe_lst (pa_cons (pe_tup (pa_cons (pe_op op_mod (pe_op op_fdiv (pv 1) pe_int) pe_int) (pa_cons (pe_call G_lbits hr rfl m_lbits k_lbits b_lbits .nil passN (pa_cons (pe_op op_fdiv (pv 1) pe_int) pa_nil)) pa_nil))) pa_nil))) pa_nil))) (pe_op op_mod (pe_op op_fdiv (pv 1) pe_int) pe_int) (fun _ _ => rfl))))
        pss_nil)
      (pss_cons (ps_if (pt_cmpR op_lt (pe_op op_mod (pv 1) pe_int) pe_int (nomark _))
        (pss_one (ps_ret (pe_comp (N := ["k", "way", "bits", "cell"]) (js := [none, none, none, some 1]) (g := (gTup K 2 (gCons (gName 0) (gCons (gTup K 2 (gCons (gName 1) (gCons (gName 2) gNil))) gNil)))) (tc := tTrue) (te := (tTup (tCons (tVar 1) (tCons (tCall (spBits68) [] E0 (tCons (tOp (rI0 fun i j => .int (i + j)) (tOp (rI CDiv fun i j => .int (i / j)) (tVar 3) (tC (.int 9))) (tVar 0)) tNil)) tNil)))) rfl (comp_scope (osc := defScope s_lanother) (XN := ["shown", "cell", "cells"]) rfl rfl rfl (by decide +kernel)) (pi_enum rfl n_enumerate (pa_cons (pv 0) pa_nil)) (fun _ _ _ _ => (pg_tup rfl (pgs_cons (pg_name (i := 0) (show (["k", "way", "bits", "cell"] : List Str).Nodup by decide +kernel) rfl (Or.inl rfl)) (pgs_cons (pg_tup rfl (pgs_cons (pg_name (i := 1) (show (["k", "way", "bits", "cell"] : List Str).Nodup by decide +kernel) rfl (Or.inl rfl)) (pgs_cons (pg_name (i := 2) (show (["k", "way", "bits", "cell"] : List Str).Nodup by decide +kernel) rfl (Or.inl rfl)) pgs_nil))) pgs_nil)))) (fun _ _ _ _ => pif_nil) (fun _ _ _ _ => (pe_tup (pa_cons (pv 1) (pa_cons (pe_call G_lbits hr rfl m_lbits k_lbits b_lbits .nil passN (pa_cons (pe_op op_add (pe_op op_fdiv (pv 3) pe_int) (pv 0)) pa_nil)) pa_nil)))))))
        pss_nil)
      (pss_one (ps_ret (pe_call G_lothers hr rfl m_lothers k_lothers b_lothers .nil passN (pa_cons (pv 0) (pa_cons (pv 2) pa_nil)))))))), ?_⟩
    refine ⟨_, rfl, _, _, rfl, rfl, (by show (0 : Int) < 9; decide), _, _, rfl, rfl, _, rfl, ?_⟩
    refine ite2 (fun _ => ?_) (fun _ => ?_)
    · refine ⟨_, rfl, Bq, bs, rfl, bk.1, by trivial, fun D1 cs1 H1 s1 hD1 wc1 hbkv1 fs1 => ?_⟩
      have hl1 : cs1.length = bs.length := by have := congrArg List.length hbkv1; rw [bkv_len, bkv_len] at this; exact this
      have hz1 : ∀ x ∈ cs1, x.2.2.2.length ≤ 300 := fun x hx => by
        have h1 : (x.2.1, x.2.2.2) ∈ bkv bs := by rw [← hbkv1]; exact List.mem_map.mpr ⟨x, hx, rfl⟩
        obtain ⟨y, hy, e⟩ := List.mem_map.mp h1
        rw [← (Prod.mk.inj e).2]
        exact bk.2 y hy
      exact hQ D1 cs1 H1 s1 ⟨wc1, hz1⟩ (by trivial)
    refine ⟨_, rfl, _, _, rfl, rfl, (by show (0 : Int) < 9; decide), rfl, _, rfl, ?_⟩
    refine ite2 (fun _ => ?_) (fun _ => ?_)
    · refine ⟨_, rfl, Bq, bs, rfl, bk.1, by trivial, fun D1 cs1 H1 s1 hD1 wc1 hbkv1 fs1 => ?_⟩
      have hl1 : cs1.length = bs.length := by have := congrArg List.length hbkv1; rw [bkv_len, bkv_len] at this; exact this
      have hz1 : ∀ x ∈ cs1, x.2.2.2.length ≤ 300 := fun x hx => by
        have h1 : (x.2.1, x.2.2.2) ∈ bkv bs := by rw [← hbkv1]; exact List.mem_map.mpr ⟨x, hx, rfl⟩
        obtain ⟨y, hy, e⟩ := List.mem_map.mp h1
        rw [← (Prod.mk.inj e).2]
        exact bk.2 y hy
      refine ⟨1, rfl, _, rfl, D1, _, rfl, SqL.of wc1.at_, fun E1 hE1 => ?_⟩
      rw [cut_m1]
      have ue := same_new hE1 (.lst (cs1.map fun w => V.ref w.1).dropLast)
      have ee : upd H1 E1 (.lst (cs1.map fun w => V.ref w.1).dropLast) E1 = some (.lst (cs1.dropLast.map fun w => V.ref w.1)) := by rw [upd_same, List.map_dropLast]
      generalize upd H1 E1 (.lst (cs1.map fun w => V.ref w.1).dropLast) = H2 at ue ee ⊢
      have wE : Wrs H2 E1 cs1.dropLast := ⟨ee, fun w hw => (wc1.same ue).each w ((List.dropLast_sublist _).subset hw)⟩
      have t2 := s1.trans ue
      refine ⟨_, rfl, Bq, bs, rfl, (bk.same t2).1, by trivial, fun D3 cs3 H3 s3 hD3 wc3 hbkv3 fs3 => ?_⟩
      have hl3 : cs3.length = bs.length := by have := congrArg List.length hbkv3; rw [bkv_len, bkv_len] at this; exact this
      have hz3 : ∀ x ∈ cs3, x.2.2.2.length ≤ 300 := fun x hx => by
        have h1 : (x.2.1, x.2.2.2) ∈ bkv bs := by rw [← hbkv3]; exact List.mem_map.mpr ⟨x, hx, rfl⟩
        obtain ⟨y, hy, e⟩ := List.mem_map.mp h1
        rw [← (Prod.mk.inj e).2]
        exact bk.2 y hy
      refine ⟨_, rfl, _, _, rfl, rfl, ⟨by decide, by decide⟩, _, _, rfl, rfl, (by show (0 : Int) < 6; decide), _, rfl, _, _, rfl, rfl, ⟨by decide, by decide⟩, _, rfl, fun l bits H4 s4 hln hl hbl hnn => ?_⟩
      refine ⟨(by show 2 ≤ sizeLine; decide), fun tb htb => ?_⟩
      try simp only []
      obtain ⟨w, ew⟩ : ∃ w : Int, w = c / 9 % 6 := ⟨_, rfl⟩
      rw [← ew]
      have ub := same_new htb (.tup [V.int w, V.ref l])
      have eb : upd H4 tb (.tup [V.int w, V.ref l]) tb = some (.tup [V.int w, V.ref l]) := upd_same
      generalize upd H4 tb (.tup [V.int w, V.ref l]) = H5 at ub eb ⊢
      refine ⟨(by show 1 ≤ sizeLine; decide), fun l1 hl1 => ?_⟩
      have u1 := same_new hl1 (.lst [V.ref tb])
      have e1 : upd H5 l1 (.lst [V.ref tb]) l1 = some (.lst [V.ref tb]) := upd_same
      generalize upd H5 l1 (.lst [V.ref tb]) = H6 at u1 e1 ⊢
      have s36 := s4.trans (ub.trans u1)
      refine ⟨D3, l1, _, _, rfl, rfl, s36 _ _ wc3.at_, e1, fits (by rw [List.length_map]; show _ + 1 ≤ _; trivial), fun E2 hE2 => ?_⟩
      have u2 := same_new hE2 (.lst ((cs3.map fun w => V.ref w.1) ++ [V.ref tb]))
      have e2 : upd H6 E2 (.lst ((cs3.map fun w => V.ref w.1) ++ [V.ref tb])) E2 = some (.lst ((cs3 ++ [(tb, w, l, bits)]).map fun w => V.ref w.1)) := by rw [upd_same, List.map_append]; rfl
      generalize upd H6 E2 (.lst ((cs3.map fun w => V.ref w.1) ++ [V.ref tb])) = H7 at u2 e2 ⊢
      have s37 := s36.trans u2
      have wF : Wrs H7 E2 (cs3 ++ [(tb, w, l, bits)]) := ⟨e2, fun x hx => by
        rcases List.mem_append.mp hx with hx | hx
        · exact (wc3.same s37).each x hx
        · rw [List.mem_singleton.mp hx]
          exact ⟨(u1.trans u2) _ _ eb, (ub.trans (u1.trans u2)) _ _ hl⟩⟩
      refine ⟨(by show 2 ≤ sizeLine; decide), fun o ho => ?_⟩
      have uo := same_new ho (.lst [V.ref E1, V.ref E2])
      have eo : upd H7 o (.lst [V.ref E1, V.ref E2]) o = some (.lst [V.ref E1, V.ref E2]) := upd_same
      generalize upd H7 o (.lst [V.ref E1, V.ref E2]) = H8 at uo eo ⊢
      have s28 := s3.trans (s37.trans uo)
      have s08 := t2.trans s28
      have hr2 : c / 9 % 2 = 0 ∨ c / 9 % 2 = 1 := by trivial
      rcases hr2 with h | h
      · refine ⟨_, rfl, _, _, rfl, rfl, ⟨by decide, by decide⟩, _, _, rfl, rfl, (by show (0 : Int) < 2; decide), o, _, _, V.ref E1, rfl, rfl, SqL.of eo, by rw [h]; rfl, ?_⟩
        exact hQ E1 _ H8 s08 ⟨wE.same s28, fun x hx => hz1 x ((List.dropLast_sublist _).subset hx)⟩ (by rw [List.length_dropLast]; trivial)
      · refine ⟨_, rfl, _, _, rfl, rfl, ⟨by decide, by decide⟩, _, _, rfl, rfl, (by show (0 : Int) < 2; decide), o, _, _, V.ref E2, rfl, rfl, SqL.of eo, by rw [h]; rfl, ?_⟩
        refine hQ E2 _ H8 s08 ⟨wF.same uo, fun x hx => ?_⟩ (by rw [List.length_append, List.length_singleton]; trivial)
        rcases List.mem_append.mp hx with hx | hx
        · exact hz3 x hx
        · rw [List.mem_singleton.mp hx]; show bits.length ≤ 300; trivial
    refine ⟨_, rfl, _, _, rfl, rfl, (by show (0 : Int) < 9; decide), _, _, rfl, rfl, _, rfl, ?_⟩
    refine ite2 (fun _ => ?_) (fun _ => ?_)
    · refine ⟨_, rfl, Bq, rfl, ⟨_, SqL.of bk.1.at_⟩, fun F hF => ?_⟩
      refine comp_enumQ (K := K) (a := Bq) (xs := bs.map fun w => V.ref w.1) (fun i σ' H' => ∃ (v0 v1 v2 : Option V) (ds : List BL), σ' = [v0, v1, v2, some (.int c)] ∧ Wrs H' F ds ∧ ds.length = i ∧ (∀ b ∈ ds, b.2.2.2.length ≤ 300) ∧ (∀ b ∈ ds, b.2.2.1 ≠ F) ∧ Same H H')
        ⟨none, none, none, [], rfl, ⟨upd_same, fun w hw => by cases hw⟩, rfl, (fun b h => by cases h), (fun b h => by cases h), same_new hF _⟩ (fun i σ' H' _ ⟨_, _, _, _, _, _, _, _, _, e⟩ => SqL.of (e _ _ bk.1.at_)) ?_ ?_
      · rintro i y t σ' H' hi ⟨v0, v1, v2, ds, rfl, wr, hdl, hdz, hdn, sm⟩ ht
        have hlt : i < (bs.map fun w => V.ref w.1).length := (List.getElem?_eq_some_iff.mp hi).1
        have hil : i < bs.length := by rw [List.length_map] at hlt; exact hlt
        obtain ⟨z, hz⟩ := bounded_at hil
        rw [List.getElem?_map, hz] at hi
        have ey : V.ref z.1 = y := Option.some.inj hi
        subst ey
        have st := same_new ht (.tup [.int (i : Nat), V.ref z.1])
        have et : upd H' t (.tup [.int (i : Nat), V.ref z.1]) t = some (.tup [.int (i : Nat), V.ref z.1]) := upd_same
        generalize upd H' t (.tup [.int (i : Nat), V.ref z.1]) = H2 at st et ⊢
        have he := (bk.1.same (sm.trans st)).each z (List.mem_of_getElem? hz)
        refine ⟨t, _, rfl, SqT.of et, rfl, _, _, rfl, _, _, rfl, z.1, _, rfl, SqT.of he.1, rfl, _, _, rfl, _, _, rfl, rfl, rfl, ?_⟩
        refine ifT ?_
        refine ⟨_, rfl, _, rfl, _, _, rfl, rfl, ⟨by decide, by decide⟩, _, rfl, _, _, rfl, rfl, _, rfl, fun l bits H4 s4 hln hl hbl hnn => ?_⟩
        have wr4 := wr.same (st.trans s4)
        have nl : l ≠ F := fun e => by rw [e, st _ _ wr.at_] at hln; cases hln
        refine ⟨(by show 2 ≤ sizeLine; decide), fun tb htb => ?_⟩
        have ub := same_new htb (.tup [V.int z.2.1, V.ref l])
        have eb : upd H4 tb (.tup [V.int z.2.1, V.ref l]) tb = some (.tup [V.int z.2.1, V.ref l]) := upd_same
        generalize upd H4 tb (.tup [V.int z.2.1, V.ref l]) = H5 at ub eb ⊢
        have wr5 := wr4.same ub
        refine ⟨F, _, _, rfl, rfl, wr5.at_, fits_lt (by rw [List.length_map]; trivial), ?_⟩
        refine CW.next hlt ⟨_, _, _, ds ++ [(tb, z.2.1, l, bits)], rfl, wr5.app hdn eb (ub _ _ hl) nl, by rw [List.length_append, hdl]; rfl, ?_, ?_, same_upd (sm.trans (st.trans (s4.trans ub))) _ hF⟩
        · intro b hb
          rcases List.mem_append.mp hb with hb | hb
          · exact hdz b hb
          · rw [List.mem_singleton.mp hb]; show bits.length ≤ 300; trivial
        · intro b hb
          rcases List.mem_append.mp hb with hb | hb
          · exact hdn b hb
          · rw [List.mem_singleton.mp hb]; exact nl
      rintro σ' H2 ⟨v0, v1, v2, ds, rfl, wr, hdl, hdz, hdn, sm⟩
      rw [List.length_map] at hdl
      exact hQ F ds H2 sm ⟨wr, hdz⟩ (by trivial)
    refine ⟨_, rfl, _, rfl, Bq, C, bs, cs, rfl, bk, hbn, hC, hc1, hc2, fun D ds H' s' wd hdl => ?_⟩
    exact hQ D ds H' s' wd (by trivial)
end
end K69
set_option Elab.async false
set_option linter.all false
set_option maxRecDepth 100000
set_option maxHeartbeats 4000000
namespace K69
open PySem L2 PySem.W PH
section
variable {P : Program} {w : World} {K : PySem.W.Frag} {mg : Str → Option Value} {base : Heap}
theorem sc_lspoilt : FnScope ["blocks", "paper", "cell", "wide", "way", "spot", "one", "old", "bits", "place"] ["blocks", "paper", "cell"] (defScope s_lspoilt) := ⟨rfl, rfl, rfl, by decide +kernel, rfl, by decide +kernel, by decide +kernel⟩
theorem ok_lspoilt {f f_lcopy : Addr} {fd d_lcopy : FuncData} (F : Fun K "_law_spoilt" "_law_spoilt" s_lspoilt f fd) (B : Bls mg) 
    (G_lcopy : FnOk P w K mg base (CXW P w) 1 f_lcopy d_lcopy ["blocks"] (spCopy)) (b_lcopy : Binds K d_lcopy ["blocks"] []) (k_lcopy : keepIn K (.ref f_lcopy) = true) (m_lcopy : mg "_law_copy" = some (.ref f_lcopy)) : FnOk P w K mg base (CXW P w) 2 f fd ["blocks", "paper", "cell"] (spSpoilt69) := by
  refine F.okN sc_lspoilt (fun vs H Q E h => ?_) (fun cdv A outer s H vs Q E hr h => ?_)
  · obtain ⟨Bq, Pp, bs, p, c, rfl, _⟩ := h
    rfl
  · obtain ⟨Bq, Pp, bs, p, c, rfl, bk, hbn, hP, hpl, hQ⟩ := h
    refine ⟨_, (pss_cons (ps_set (i := 3) sc_lspoilt.nd rfl (Or.inl rfl) pe_int)
      (pss_cons (ps_set (i := 0) sc_lspoilt.nd rfl (Or.inl rfl) (pe_call G_lcopy hr rfl m_lcopy k_lcopy b_lcopy .nil passN (pa_cons (pv 0) pa_nil)))
      (pss_cons (ps_set (i := 1) sc_lspoilt.nd rfl (Or.inl rfl) (pe_callTy call_list_of rfl B.list boot_list' (pa_cons (pv 1) pa_nil)))
      (pss_cons (ps_set (i := 4) sc_lspoilt.nd rfl (Or.inl rfl) (pe_op op_mod (pv 2) pe_int))
      (pss_cons (ps_if (pt_cmpR op_eq (pv 4) pe_int (nomark _))
        (pss_one (ps_expr (pe_bm PySem.F.plainAttrs_list PySem.F.slot_list_append PySem.F.type_list_append mt_append (pv 1) (pa_cons (pe_op op_mod (pe_op op_fdiv (pv 2) pe_int) (pv 3)) pa_nil))))
        pss_nil)
      (pss_cons (ps_if (PW.pt (pw_and (pt_cmpR op_lt (pv 4) pe_int (nomark _)) (pw_and1 (pt_cmpR (op_neL (units_of hr)) (pv 1) (pe_lst pa_nil) (nomark _)))))
        (pss_cons (ps_set (i := 5) sc_lspoilt.nd rfl (Or.inl rfl) (pe_op op_mod (pe_op op_fdiv (pv 2) pe_int) (pe_callB call_len_seq rfl B.len PySem.boot_len (pa_cons (pv 1) pa_nil))))
        (pss_cons (ps_set (i := 6) sc_lspoilt.nd rfl (Or.inl rfl) (pe_ix ix_list (pv 1) (pv 5) (fun _ _ => rfl)))
        (pss_one (ps_asg (pe_ix ix_list (pe_lst (pa_cons (pv 6) (pa_cons (pe_op op_add (pv 6) (pv 3)) (pa_cons (pe_op op_sub (pv 6) (pv 3)) (pa_cons (pe_op op_sub (pe_op op_sub pe_int pe_int) (pe_op op_mod (pe_op op_fdiv (pv 2) pe_int) pe_int)) pa_nil))))) (pv 4) (fun _ _ => rfl)) (pg_sub (pv 1) (pv 5) set_list)))))
        pss_nil)
      (pss_cons (ps_if (pt_cmpR op_eq (pv 4) pe_int (nomark _))
        (pss_one (ps_set (i := 1) sc_lspoilt.nd rfl (Or.inl rfl) (pe_slice sl_list (pv 1) po_none (po_some (pe_un un_neg pe_int)))))
        pss_nil)
      (pss_cons (ps_if (PW.pt (pw_and (pt_cmpR op_gt (pv 4) pe_int (nomark _)) (pw_and1 (pt_cmpR (op_neD (units_of hr)) (pv 0) (pe_lst pa_nil) (nomark _)))))
        (pss_cons (ps_set (i := 5) sc_lspoilt.nd rfl (Or.inl rfl) (pe_op op_mod (pe_op op_fdiv (pv 2) pe_int) (pe_callB call_len_seq rfl B.len PySem.boot_len (pa_cons (pv 0) pa_nil))))
        (pss_cons (ps_asg (pe_ix ix_list (pv 0) (pv 5) (fun _ _ => rfl)) (pg_tup rfl (pgs_cons (pg_name (i := 7) sc_lspoilt.nd rfl (Or.inl rfl)) (pgs_cons (pg_name (i := 8) sc_lspoilt.nd rfl (Or.inl rfl)) pgs_nil))))
        (pss_cons (ps_if (PW.pt (pw_or (pt_cmpR op_eq (pv 4) pe_int (nomark _)) (pw_or1 (pt_cmpR (op_eqL (units_of hr)) (pv 8) (pe_lst pa_nil) (nomark _)))))
          (pss_one (ps_asg (pe_tup (pa_cons (pe_op op_sub (pv 7) (pv 3)) (pa_cons (pv 8) pa_nil))) (pg_sub (pv 0) (pv 5) set_list)))
          pss_nil)
        (pss_one (ps_if (PW.pt (pw_and (pt_cmpR op_eq (pv 4) pe_int (nomark _)) (pw_and1 (pt_cmpR (op_neL (units_of hr)) (pv 8) (pe_lst pa_nil) (nomark _)))))
          (pss_cons (ps_set (i := 9) sc_lspoilt.nd rfl (Or.inl rfl) (pe_op op_mod (pe_op op_fdiv (pv 2) pe_int) (pe_callB call_len_seq rfl B.len PySem.boot_len (pa_cons (pv 8) pa_nil))))
          (pss_one (ps_asg (pe_op op_sub (pe_ix ix_list (pv 8) (pv 9) (fun _ _ => rfl)) (pv 3)) (pg_sub (pv 8) (pv 9) set_list))))
          pss_nil)))))
        pss_nil)
      (pss_one (ps_ret (pe_tup (pa_cons (pv 0) (pa_cons (pv 1) pa_nil))))))))))))), ?_⟩
    refine ⟨_, rfl, Bq, bs, rfl, bk.1, by trivial, fun D cs H1 s1 hD wc hbkv fs => ?_⟩
    have hcl : cs.length = bs.length := by have := congrArg List.length hbkv; rw [bkv_len, bkv_len] at this; exact this
    have hcz : ∀ x ∈ cs, x.2.2.2.length ≤ 300 := fun x hx => by
      have h1 : (x.2.1, x.2.2.2) ∈ bkv bs := by rw [← hbkv]; exact List.mem_map.mpr ⟨x, hx, rfl⟩
      obtain ⟨y, hy, e⟩ := List.mem_map.mp h1
      rw [← (Prod.mk.inj e).2]
      exact bk.2 y hy
    refine ⟨_, rfl, Pp, _, rfl, .inl (SqL.of (s1 _ _ hP)), fun P2 hP2 => ?_⟩
    have u2 := same_new hP2 (.lst (p.map V.int))
    have e2 : upd H1 P2 (.lst (p.map V.int)) P2 = some (lsI p) := upd_same
    have sp0 : Spl H (upd H1 P2 (.lst (p.map V.int))) D P2 cs p bs.length (p.length + 1) := ⟨wc.same u2, hcz, hcl, fs.new, fs.ne, fs.nd, hD, e2, s1.free hP2, Nat.le_succ _, (fun e => by rw [e, wc.at_] at hP2; cases hP2), (fun b hb e => by rw [← e, (wc.each b hb).2] at hP2; cases hP2), s1.trans u2⟩
    generalize upd H1 P2 (.lst (p.map V.int)) = H2 at u2 e2 sp0 ⊢
    obtain ⟨wy, ewy⟩ : ∃ wy : Int, wy = c % 6 := ⟨_, rfl⟩
    have hwy : 0 ≤ wy ∧ wy < 6 := by trivial
    refine ⟨_, rfl, _, _, rfl, rfl, (by show (0 : Int) < 6; decide), ?_⟩
    refine gNz (v' := V.int wy) (congrArg V.int ewy) ?_
    clear ewy
    try dsimp only
    refine sqMidG (fun σ' H'' => ∃ (B2 P2 : Addr) (ds : List BL) (p2 : List Int) (v5 v6 v7 v8 v9 : Option V), σ' = [some (.ref B2), some (.ref P2), some (.int c), some (.int 2305843009213693951), some (.int wy), v5, v6, v7, v8, v9] ∧ Spl H H'' B2 P2 ds p2 bs.length (p.length + 1)) ?_ ?_
    rotate_left
    · intro M hM
      refine ⟨_, rfl, rfl, _, rfl, ?_⟩
      refine ite2 (fun _ => ?_) (fun _ => hM _ _ ⟨_, _, _, _, _, _, _, _, _, rfl, sp0⟩)
      refine ⟨_, rfl, .inl ⟨rfl, _, SqL.of sp0.pp⟩, _, rfl, _, _, rfl, rfl, ⟨by decide, by decide⟩, _, rfl, _, _, rfl, rfl, (by show (0 : Int) < 2305843009213693951; decide), P2, _, _, rfl, rfl, sp0.pp, fits_lt (by rw [List.length_map]; trivial), ?_⟩
      rw [lsI_app1]
      exact hM _ _ ⟨_, _, _, _, _, _, _, _, _, rfl, sp0.pap (by rw [List.length_append, List.length_singleton]; trivial)⟩
    clear sp0 e2 u2 hP2 P2 hcz hcl fs hbkv wc hD s1 D cs
    rintro σ' H3 ⟨B2, P2, ds, p2, v5, v6, v7, v8, v9, rfl, sp⟩
    try dsimp only
    refine sqMidG (fun σ' H'' => ∃ (B2 P2 : Addr) (ds : List BL) (p2 : List Int) (v5 v6 v7 v8 v9 : Option V), σ' = [some (.ref B2), some (.ref P2), some (.int c), some (.int 2305843009213693951), some (.int wy), v5, v6, v7, v8, v9] ∧ Spl H H'' B2 P2 ds p2 bs.length (p.length + 1)) ?_ ?_
    rotate_left
    · intro M hM
      have pl := sp.pl
      refine ⟨_, rfl, _, _, rfl, rfl, _, rfl, ?_⟩
      by_cases h1 : wy < 4
      rotate_left
      · rw [decide_eq_false h1]
        exact iteF (iteF (hM _ _ ⟨_, _, _, _, _, _, _, _, _, rfl, sp⟩))
      rw [decide_eq_true h1]
      refine iteT ?_
      refine ⟨_, rfl, ?_⟩
      refine ⟨(by show 0 ≤ sizeLine; decide), fun e1 he1 => ?_⟩
      have ue1 := same_new he1 (.lst [])
      have ee1 : upd H3 e1 (.lst []) e1 = some (lsI []) := upd_same
      generalize upd H3 e1 (.lst []) = H4 at ue1 ee1 ⊢
      refine ⟨P2, e1, _, [], rfl, rfl, SqL.of (ue1 _ _ sp.pp), SqL.of ee1, _, rfl, ?_⟩
      have sp4 := sp.same ue1
      by_cases h2 : p2 = []
      · refine iteNS h2 ?_
        exact hM _ _ ⟨_, _, _, _, _, _, _, _, _, rfl, sp4⟩
      refine iteNTG h2 ?_
      have hpp : 0 < p2.length := List.length_pos_iff.mpr h2
      have hml : (0 : Int) < (((p2.map V.int).length : Nat) : Int) := by rw [List.length_map]; trivial
      obtain ⟨k, ek, hk⟩ : ∃ k : Nat, c / 6 % (((p2.map V.int).length : Nat) : Int) = (k : Int) ∧ k < p2.length := by
        have r1 := Int.emod_nonneg (c / 6) (show (((p2.map V.int).length : Nat) : Int) ≠ 0 by trivial)
        have r2 := Int.emod_lt_of_pos (c / 6) hml
        rw [List.length_map] at r1 r2
        refine ⟨(c / 6 % (((p2.map V.int).length : Nat) : Int)).toNat, ?_, ?_⟩ <;> rw [List.length_map] <;> trivial
      refine ⟨_, rfl, _, _, rfl, rfl, ⟨by decide, by decide⟩, _, rfl, P2, _, rfl, .inl (SqL.of sp4.pp), _, _, rfl, rfl, hml, ?_⟩
      refine gNz (v' := V.int (k : Int)) (congrArg V.int ek.symm) ?_
      obtain ⟨x, hx⟩ := bounded_at hk
      refine ⟨_, rfl, _, rfl, P2, _, _, _, rfl, rfl, SqL.of sp4.pp, at_intsZ hx, ?_⟩
      refine ⟨_, rfl, _, rfl, _, rfl, _, _, rfl, rfl, _, rfl, _, rfl, _, _, rfl, rfl, _, _, rfl, rfl, _, rfl, _, _, rfl, rfl, ⟨by decide, by decide⟩, _, _, rfl, rfl, (by show (0 : Int) < 9; decide), _, _, rfl, rfl, (by show 4 ≤ sizeLine; decide), fun l hl => ?_⟩
      try dsimp -proj only
      obtain ⟨y, hat, _⟩ := list_at4 (a := x) (b := x + 2305843009213693951) (c := x - 2305843009213693951) (d := 0 - 1 - c / 6 % 9) (p := fun _ => True) (k := wy) trivial trivial trivial trivial (by trivial) (by trivial)
      have ul := same_new hl (.lst [V.int x, V.int (x + 2305843009213693951), V.int (x - 2305843009213693951), V.int (0 - 1 - c / 6 % 9)])
      have el : upd H4 l (.lst [V.int x, V.int (x + 2305843009213693951), V.int (x - 2305843009213693951), V.int (0 - 1 - c / 6 % 9)]) l = some (.lst [V.int x, V.int (x + 2305843009213693951), V.int (x - 2305843009213693951), V.int (0 - 1 - c / 6 % 9)]) := upd_same
      generalize upd H4 l (.lst [V.int x, V.int (x + 2305843009213693951), V.int (x - 2305843009213693951), V.int (0 - 1 - c / 6 % 9)]) = H5 at ul el ⊢
      have sp5 := sp4.same ul
      refine ⟨_, rfl, l, _, _, _, rfl, rfl, SqL.of el, hat, _, rfl, _, rfl, P2, _, _, k, rfl, rfl, sp5.pp, ixN_at (by rw [List.length_map]; trivial), ?_⟩
      have es : HO.lst ((p2.map V.int).set k (V.int y)) = lsI (p2.set k y) := by unfold lsI; rw [List.map_set]
      rw [es]
      exact hM _ _ ⟨_, _, _, _, _, _, _, _, _, rfl, sp5.pap (by rw [List.length_set]; exact pl)⟩
    clear sp v5 v6 v7 v8 v9 p2 ds B2 P2 H3
    rintro σ' H3 ⟨B2, P2, ds, p2, v5, v6, v7, v8, v9, rfl, sp⟩
    try dsimp only
    refine sqMidG (fun σ' H'' => ∃ (B2 P2 : Addr) (ds : List BL) (p2 : List Int) (v5 v6 v7 v8 v9 : Option V), σ' = [some (.ref B2), some (.ref P2), some (.int c), some (.int 2305843009213693951), some (.int wy), v5, v6, v7, v8, v9] ∧ Spl H H'' B2 P2 ds p2 bs.length (p.length + 1)) ?_ ?_
    rotate_left
    · intro M hM
      refine ⟨_, rfl, rfl, _, rfl, ?_⟩
      refine ite2 (fun _ => ?_) (fun _ => hM _ _ ⟨_, _, _, _, _, _, _, _, _, rfl, sp⟩)
      have pl := sp.pl
      refine ⟨_, rfl, 1, rfl, _, rfl, P2, _, rfl, SqL.of sp.pp, fun P3 hP3 => ?_⟩
      have ec : HO.lst (cutV (p2.map V.int) none (some (-1))) = lsI p2.dropLast := by unfold lsI; rw [cut_m1, List.map_dropLast]
      rw [ec]
      have u3 := same_new hP3 (lsI p2.dropLast)
      have bk3 := sp.bk.same u3
      refine hM _ _ ⟨B2, P3, ds, p2.dropLast, _, _, _, _, _, rfl, ⟨bk3, sp.bz, sp.bn, sp.new, sp.ne, sp.nd, sp.bH, upd_same, sp.sm.free hP3, by rw [List.length_dropLast]; trivial, (fun e => by rw [e, sp.bk.at_] at hP3; cases hP3), (fun b hb e => by rw [← e, (sp.bk.each b hb).2] at hP3; cases hP3), sp.sm.trans u3⟩⟩
    clear sp v5 v6 v7 v8 v9 p2 ds B2 P2 H3
    rintro σ' H3 ⟨B2, P2, ds, p2, v5, v6, v7, v8, v9, rfl, sp⟩
    try dsimp only
    refine sqMidG (fun σ' H'' => ∃ (B2 P2 : Addr) (ds : List BL) (p2 : List Int) (v5 v6 v7 v8 v9 : Option V), σ' = [some (.ref B2), some (.ref P2), some (.int c), some (.int 2305843009213693951), some (.int wy), v5, v6, v7, v8, v9] ∧ Spl H H'' B2 P2 ds p2 bs.length (p.length + 1)) ?_ ?_
    · clear sp v5 v6 v7 v8 v9 p2 ds B2 P2 H3
      rintro σ' H4 ⟨B2, P2, ds, p2, v5, v6, v7, v8, v9, rfl, sp⟩
      refine ⟨_, rfl, _, rfl, (by show 2 ≤ sizeLine; decide), fun t ht => ?_⟩
      have ut := same_new ht (.tup [V.ref B2, V.ref P2])
      have sp5 := sp.same ut
      exact hQ t B2 P2 ds p2 _ sp5.sm upd_same ⟨sp5.bk, sp5.bz⟩ sp5.pp sp5.bn sp5.pl
    intro M hM
    have stay : M [some (.ref B2), some (.ref P2), some (.int c), some (.int 2305843009213693951), some (.int wy), v5, v6, v7, v8, v9] H3 := hM _ _ ⟨_, _, _, _, _, _, _, _, _, rfl, sp⟩
    refine ⟨_, rfl, _, _, rfl, rfl, _, rfl, ?_⟩
    by_cases h1 : (3 : Int) < wy
    rotate_left
    · rw [decide_eq_false h1]
      exact iteF (iteF stay)
    rw [decide_eq_true h1]
    refine iteT ?_
    clear stay
    refine ⟨_, rfl, (by show 0 ≤ sizeLine; decide), fun e0 he0 => ?_⟩
    have ue := same_new he0 (.lst [])
    have ee : upd H3 e0 (.lst []) e0 = some (.lst []) := upd_same
    generalize upd H3 e0 (.lst []) = H4 at ue ee ⊢
    have sp4 := sp.same ue
    refine ⟨_, _, sp4.bk.deep, .lst (SqL.of ee) .nil, ht_wrD _, _, rfl, ?_⟩
    rw [eqD_wnil]
    by_cases h2 : bkv ds = []
    · refine iteNS h2 ?_
      exact hM _ _ ⟨_, _, _, _, _, _, _, _, _, rfl, sp4⟩
    refine iteNTG h2 ?_
    have hdp : 0 < ds.length := by rw [← bkv_len]; exact List.length_pos_iff.mpr h2
    have hml : (0 : Int) < (((ds.map fun w => V.ref w.1).length : Nat) : Int) := by rw [List.length_map]; trivial
    obtain ⟨k, ek, hk⟩ : ∃ k : Nat, c / 6 % (((ds.map fun w => V.ref w.1).length : Nat) : Int) = (k : Int) ∧ k < ds.length := by
      have r1 := Int.emod_nonneg (c / 6) (show (((ds.map fun w => V.ref w.1).length : Nat) : Int) ≠ 0 by trivial)
      have r2 := Int.emod_lt_of_pos (c / 6) hml
      rw [List.length_map] at r1 r2
      refine ⟨(c / 6 % (((ds.map fun w => V.ref w.1).length : Nat) : Int)).toNat, ?_, ?_⟩ <;> rw [List.length_map] <;> trivial
    refine ⟨_, rfl, _, _, rfl, rfl, ⟨by decide, by decide⟩, _, rfl, B2, _, rfl, .inl (SqL.of sp4.bk.at_), _, _, rfl, rfl, hml, ?_⟩
    refine gNz (v' := V.int (k : Int)) (congrArg V.int ek.symm) ?_
    obtain ⟨z, hz⟩ := bounded_at hk
    have hm := List.mem_of_getElem? hz
    have he := sp4.bk.each z hm
    have hzr : (ds.map fun w => V.ref w.1)[k]? = some (V.ref z.1) := by rw [List.getElem?_map, hz]; rfl
    refine ⟨_, rfl, _, rfl, B2, _, _, _, rfl, rfl, SqL.of sp4.bk.at_, atI_nat hzr, ?_⟩
    refine ⟨z.1, _, rfl, SqT.of he.1, rfl, _, _, rfl, _, _, rfl, rfl, ?_⟩
    try dsimp only
    refine sqMidG (fun σ' H'' => ∃ (ds2 : List BL) (v6 v9 : Option V), σ' = [some (.ref B2), some (.ref P2), some (.int c), some (.int 2305843009213693951), some (.int wy), some (.int (k : Int)), v6, some (.int z.2.1), some (.ref z.2.2.1), v9] ∧ Spl H H'' B2 P2 ds2 p2 bs.length (p.length + 1) ∧ (∃ z2, ds2[k]? = some z2 ∧ z2.2.2.1 = z.2.2.1 ∧ z2.2.2.2 = z.2.2.2)) ?_ ?_
    rotate_left
    · intro M2 hM2
      have put1 : ∀ H5 : Hp, Spl H H5 B2 P2 ds p2 bs.length (p.length + 1) → ∀ t : Addr, H5 t = none → Spl H (upd (upd H5 t (.tup [V.int (z.2.1 - 2305843009213693951), V.ref z.2.2.1])) B2 (.lst ((ds.map fun w => V.ref w.1).set k (V.ref t)))) B2 P2 (ds.set k (t, z.2.1 - 2305843009213693951, z.2.2.1, z.2.2.2)) p2 bs.length (p.length + 1) := fun H5 sp5 t ht => by
        have ut := same_new ht (.tup [V.int (z.2.1 - 2305843009213693951), V.ref z.2.2.1])
        have sp6 := sp5.same ut
        have he6 := sp6.bk.each z hm
        have sub : ∀ {P : BL → Prop}, (∀ b ∈ ds, P b) → P (t, z.2.1 - 2305843009213693951, z.2.2.1, z.2.2.2) → ∀ b ∈ ds.set k (t, z.2.1 - 2305843009213693951, z.2.2.1, z.2.2.2), P b := fun h1 h2 b hb => by
          rcases List.mem_or_eq_of_mem_set hb with hb | hb
          · exact h1 b hb
          · rw [hb]; exact h2
        have em : (ds.set k (t, z.2.1 - 2305843009213693951, z.2.2.1, z.2.2.2)).map (fun b => b.2.2.1) = ds.map fun b => b.2.2.1 := by
          rw [List.map_set]
          have h1 : (ds.map fun b => b.2.2.1)[k]? = some z.2.2.1 := by rw [List.getElem?_map, hz]; rfl
          obtain ⟨h2, h3⟩ := List.getElem?_eq_some_iff.mp h1
          show (ds.map fun b => b.2.2.1).set k z.2.2.1 = _
          rw [← h3, List.set_getElem_self]
        exact ⟨sp6.bk.put (k := k) (e := (t, z.2.1 - 2305843009213693951, z.2.2.1, z.2.2.2)) sp6.ne upd_same he6.2 (sp6.ne z hm), sub sp6.bz (sp6.bz z hm), by rw [List.length_set]; exact sp6.bn, sub sp6.new (sp6.new z hm), sub sp6.ne (sp6.ne z hm), by rw [em]; exact sp6.nd, sp6.bH, by rw [upd_ne sp6.pne]; exact sp6.pp, sp6.pH, sp6.pl, sp6.pne, sub sp6.pbn (sp6.pbn z hm), same_upd sp6.sm _ sp6.bH⟩
      refine ⟨_, rfl, rfl, _, rfl, ?_⟩
      by_cases h4 : wy = 4
      · refine iteTD (congrArg V.int h4) (iteT ?_)
        refine ⟨_, rfl, _, rfl, _, _, rfl, rfl, _, rfl, (by show 2 ≤ sizeLine; decide), fun t ht => ?_⟩
        try dsimp -proj only
        have at6 := (same_new ht (.tup [V.int (z.2.1 - 2305843009213693951), V.ref z.2.2.1])) _ _ sp4.bk.at_
        refine ⟨_, rfl, _, rfl, B2, _, _, k, rfl, rfl, at6, ixN_at (by rw [List.length_map]; trivial), ?_⟩
        exact hM2 _ _ ⟨_, _, _, rfl, put1 _ sp4 t ht, (t, z.2.1 - 2305843009213693951, z.2.2.1, z.2.2.2), by rw [List.getElem?_set_self hk], rfl, rfl⟩
      refine iteFD (fun e => h4 (V.int.inj e)) ?_
      refine ⟨_, rfl, (by show 0 ≤ sizeLine; decide), fun e1 he1 => ?_⟩
      have ue1 := same_new he1 (.lst [])
      have ee1 : upd H4 e1 (.lst []) e1 = some (lsI []) := upd_same
      generalize upd H4 e1 (.lst []) = H5 at ue1 ee1 ⊢
      have sp5 := sp4.same ue1
      refine ⟨z.2.2.1, e1, _, [], rfl, rfl, SqL.of (ue1 _ _ he.2), SqL.of ee1, _, rfl, ?_⟩
      by_cases hb0 : z.2.2.2 = []
      · refine iteTD hb0 ?_
        refine ⟨_, rfl, _, rfl, _, _, rfl, rfl, _, rfl, (by show 2 ≤ sizeLine; decide), fun t ht => ?_⟩
        try dsimp -proj only
        have at6 := (same_new ht (.tup [V.int (z.2.1 - 2305843009213693951), V.ref z.2.2.1])) _ _ sp5.bk.at_
        refine ⟨_, rfl, _, rfl, B2, _, _, k, rfl, rfl, at6, ixN_at (by rw [List.length_map]; trivial), ?_⟩
        exact hM2 _ _ ⟨_, _, _, rfl, put1 _ sp5 t ht, (t, z.2.1 - 2305843009213693951, z.2.2.1, z.2.2.2), by rw [List.getElem?_set_self hk], rfl, rfl⟩
      refine iteFD hb0 ?_
      exact hM2 _ _ ⟨_, _, _, rfl, sp5, z, hz, rfl, rfl⟩
    clear he sp4 sp ue ee
    rintro σ' H5 ⟨ds2, v6, v9, rfl, sp5, z2, hz2, ea, eb⟩
    have hm2 := List.mem_of_getElem? hz2
    have he := sp5.bk.each z2 hm2
    have hbz := sp5.bz z2 hm2
    rw [ea, eb] at he
    rw [eb] at hbz
    have hnew := sp5.new z2 hm2
    have hpb := sp5.pbn z2 hm2
    have hnb := sp5.ne z2 hm2
    rw [ea] at hnew hpb hnb
    have stay : ∀ v9, M [some (.ref B2), some (.ref P2), some (.int c), some (.int 2305843009213693951), some (.int wy), some (.int (k : Int)), v6, some (.int z.2.1), some (.ref z.2.2.1), v9] H5 := fun v9 => hM _ _ ⟨_, _, _, _, _, _, _, _, _, rfl, sp5⟩
    refine ⟨_, rfl, rfl, _, rfl, ?_⟩
    by_cases h5 : wy = 5
    rotate_left
    · refine iteFD (fun e => h5 (V.int.inj e)) ?_
      exact iteF (stay _)
    refine iteTD (congrArg V.int h5) ?_
    refine ⟨_, rfl, ?_⟩
    refine ⟨(by show 0 ≤ sizeLine; decide), fun e2 he2 => ?_⟩
    have ue2 := same_new he2 (.lst [])
    have ee2 : upd H5 e2 (.lst []) e2 = some (lsI []) := upd_same
    generalize upd H5 e2 (.lst []) = H6 at ue2 ee2 ⊢
    refine ⟨z.2.2.1, e2, _, [], rfl, rfl, SqL.of (ue2 _ _ he.2), SqL.of ee2, _, rfl, ?_⟩
    have sp6 := sp5.same ue2
    by_cases hb0 : z.2.2.2 = []
    · refine iteNS hb0 ?_
      exact hM _ _ ⟨_, _, _, _, _, _, _, _, _, rfl, sp6⟩
    refine iteNTG hb0 ?_
    have hbp : 0 < z.2.2.2.length := List.length_pos_iff.mpr hb0
    have hbl : (0 : Int) < (((z.2.2.2.map V.int).length : Nat) : Int) := by rw [List.length_map]; trivial
    obtain ⟨j, ej, hj⟩ : ∃ j : Nat, c / 99 % (((z.2.2.2.map V.int).length : Nat) : Int) = (j : Int) ∧ j < z.2.2.2.length := by
      have r1 := Int.emod_nonneg (c / 99) (show (((z.2.2.2.map V.int).length : Nat) : Int) ≠ 0 by trivial)
      have r2 := Int.emod_lt_of_pos (c / 99) hbl
      rw [List.length_map] at r1 r2
      refine ⟨(c / 99 % (((z.2.2.2.map V.int).length : Nat) : Int)).toNat, ?_, ?_⟩ <;> rw [List.length_map] <;> trivial
    have he6 := ue2 _ _ he.2
    refine ⟨_, rfl, _, _, rfl, rfl, ⟨by decide, by decide⟩, _, rfl, z.2.2.1, _, rfl, .inl (SqL.of he6), _, _, rfl, rfl, hbl, ?_⟩
    refine gNz (v' := V.int (j : Int)) (congrArg V.int ej.symm) ?_
    obtain ⟨x, hx⟩ := bounded_at hj
    refine ⟨_, rfl, _, rfl, z.2.2.1, _, _, _, rfl, rfl, SqL.of he6, at_intsZ hx, _, rfl, _, _, rfl, rfl, _, rfl, _, rfl, z.2.2.1, _, _, j, rfl, rfl, he6, ixN_at (by rw [List.length_map]; trivial), ?_⟩
    have es : HO.lst ((z.2.2.2.map V.int).set j (V.int (x - 2305843009213693951))) = lsI (z.2.2.2.set j (x - 2305843009213693951)) := by unfold lsI; rw [List.map_set]
    try dsimp -proj only
    rw [es]
    have wd := sp6.bk.put2 (k := k) (y := z2) hz2 sp6.ne sp6.nd (z.2.2.2.set j (x - 2305843009213693951))
    rw [ea] at wd
    have sub : ∀ {P : BL → Prop}, (∀ b ∈ ds2, P b) → P (z2.1, z2.2.1, z.2.2.1, z.2.2.2.set j (x - 2305843009213693951)) → ∀ b ∈ ds2.set k (z2.1, z2.2.1, z.2.2.1, z.2.2.2.set j (x - 2305843009213693951)), P b := fun h1 h2 b hb => by
      rcases List.mem_or_eq_of_mem_set hb with hb | hb
      · exact h1 b hb
      · rw [hb]; exact h2
    have em : (ds2.set k (z2.1, z2.2.1, z.2.2.1, z.2.2.2.set j (x - 2305843009213693951))).map (fun b => b.2.2.1) = ds2.map fun b => b.2.2.1 := by
      rw [List.map_set]
      have h1 : (ds2.map fun b => b.2.2.1)[k]? = some z.2.2.1 := by rw [List.getElem?_map, hz2, ← ea]; rfl
      obtain ⟨h2, h3⟩ := List.getElem?_eq_some_iff.mp h1
      show (ds2.map fun b => b.2.2.1).set k z.2.2.1 = _
      rw [← h3, List.set_getElem_self]
    refine hM _ _ ⟨B2, P2, _, p2, _, _, _, _, _, rfl, ⟨wd, sub sp6.bz (by show (z.2.2.2.set j _).length ≤ 300; rw [List.length_set]; exact hbz), by rw [List.length_set]; exact sp6.bn, sub sp6.new hnew, sub sp6.ne hnb, by rw [em]; exact sp6.nd, sp6.bH, by rw [upd_ne (Ne.symm hpb)]; exact sp6.pp, sp6.pH, sp6.pl, sp6.pne, sub sp6.pbn hpb, same_upd sp6.sm _ hnew⟩⟩
end
end K69
set_option Elab.async false
set_option linter.all false
set_option maxRecDepth 100000
set_option maxHeartbeats 4000000
namespace K69
open PySem L2 PySem.W PH
section
variable {P : Program} {w : World} {K : PySem.W.Frag} {mg : Str → Option Value} {base : Heap}
theorem sc_lrows : FnScope ["numbers", "first", "blocks", "paper", "known", "rows", "size", "total", "many", "left", "count", "low", "pairs"] ["numbers", "first", "blocks", "paper"] (defScope s_lrows) := ⟨rfl, rfl, rfl, by decide +kernel, rfl, by decide +kernel, by decide +kernel⟩
theorem ok_lrows {f f_lmix : Addr} {fd d_lmix : FuncData} (F : Fun K "_law_rows" "_law_rows" s_lrows f fd) (B : Bls mg) 
    (G_lmix : FnOk P w K mg base (CXW P w) 1 f_lmix d_lmix ["row"] (spMix)) (b_lmix : Binds K d_lmix ["row"] []) (k_lmix : keepIn K (.ref f_lmix) = true) (m_lmix : mg "_law_mix" = some (.ref f_lmix)) : FnOk P w K mg base (CXW P w) 2 f fd ["numbers", "first", "blocks", "paper"] (spRows69) := by
  refine F.okN sc_lrows (fun vs H Q E h => ?_) (fun cdv A outer s H vs Q E hr h => ?_)
  · obtain ⟨N, Bq, Pp, bs, p, b0, m, n0, n1, rfl, _⟩ := h
    rfl
  · obtain ⟨N, Bq, Pp, bs, p, b0, m, n0, n1, rfl, hN, hd, hne, hle, hm1, hpw, hQ⟩ := h
    refine ⟨_, (pss_cons (ps_set (i := 4) sc_lrows.nd rfl (Or.inr rfl) (pe_comp (N := ["way", "bits"]) (js := [none, none]) (g := (gTup K 2 (gCons (gName 0) (gCons (gName 1) gNil)))) (tc := tTrue) (te := (tCall (spMix) [] E0 (tCons (tOp rCat (tLst (tCons (tC (.int 0)) (tCons (tVar 0) tNil))) (tVar 1)) tNil))) rfl (comp_scope (osc := defScope s_lrows) (XN := ["numbers", "first", "blocks", "paper", "known", "rows", "size", "total", "many", "left", "count", "low", "pairs"]) rfl rfl rfl (by decide +kernel)) (pi_list (pv 2)) (fun _ _ _ _ => (pg_tup rfl (pgs_cons (pg_name (i := 0) (show (["way", "bits"] : List Str).Nodup by decide +kernel) rfl (Or.inl rfl)) (pgs_cons (pg_name (i := 1) (show (["way", "bits"] : List Str).Nodup by decide +kernel) rfl (Or.inl rfl)) pgs_nil)))) (fun _ _ _ _ => pif_nil) (fun _ _ _ _ => (pe_call G_lmix hr rfl m_lmix k_lmix b_lmix .nil passN (pa_cons (pe_op op_cat (pe_lst (pa_cons pe_int (pa_cons (pv 0) pa_nil))) (pv 1)) pa_nil)))))
      (pss_cons (ps_setC (iy := 5) (N := ["way", "bits"]) (js := [none, none]) (g := (gTup K 2 (gCons (gName 0) (gCons (gName 1) gNil)))) (tc := tTrue) (te := (tOp rCat (tLst (tCons (tC (.int 0)) (tCons (tVar 0) tNil))) (tVar 1))) sc_lrows.nd rfl rfl rfl (comp_scope (osc := defScope s_lrows) (XN := ["numbers", "first", "blocks", "paper", "known", "rows", "size", "total", "many", "left", "count", "low", "pairs"]) rfl rfl rfl (by decide +kernel)) (pi_list (pv 2)) (fun _ _ _ _ => (pg_tup rfl (pgs_cons (pg_name (i := 0) (show (["way", "bits"] : List Str).Nodup by decide +kernel) rfl (Or.inl rfl)) (pgs_cons (pg_name (i := 1) (show (["way", "bits"] : List Str).Nodup by decide +kernel) rfl (Or.inl rfl)) pgs_nil)))) (fun _ _ _ _ => pif_nil) (fun _ _ _ _ => (pe_op op_cat (pe_lst (pa_cons pe_int (pa_cons (pv 0) pa_nil))) (pv 1))))
      (pss_cons (ps_asg (pv 0) (pg_tup rfl (pgs_cons (pg_name (i := 6) sc_lrows.nd rfl (Or.inl rfl)) (pgs_cons (pg_name (i := 7) sc_lrows.nd rfl (Or.inl rfl)) (pgs_cons (pg_name (i := 8) sc_lrows.nd rfl (Or.inl rfl)) pgs_nil)))))
      (pss_cons (ps_set (i := 9) sc_lrows.nd rfl (Or.inl rfl) (pe_callTy call_list_of rfl B.list boot_list' (pa_cons (pv 3) pa_nil)))
      (pss_cons (ps_set (i := 10) sc_lrows.nd rfl (Or.inl rfl) (pv 8))
      (pss_cons (ps_set (i := 11) sc_lrows.nd rfl (Or.inl rfl) (pv 1))
      (pss_cons (ps_while PassesOwn.never (pt_cmpR op_gt (pv 10) pe_int (nomark _))
        (pss_cons (ps_if (pt_cmpR op_eq (pe_op op_mod (pv 11) pe_int) pe_int (nomark _))
          (pss_cons (ps_expr (pe_bm PySem.F.plainAttrs_list PySem.F.slot_list_insert PySem.F.type_list_insert mt_insert0 (pv 4) (pa_cons pe_int (pa_cons (pe_bm PySem.F.plainAttrs_list PySem.F.slot_list_pop PySem.F.type_list_pop mt_popAt (pv 9) (pa_cons pe_int pa_nil)) pa_nil))))
          (pss_one (ps_set (i := 11) sc_lrows.nd rfl (Or.inl rfl) (pe_op op_sub (pv 11) pe_int))))
          pss_nil)
        (pss_cons (ps_if (PW.pt (pw_and (pt_cmpR op_eq (pe_op op_mod (pe_callB call_len_seq rfl B.len PySem.boot_len (pa_cons (pv 4) pa_nil)) pe_int) pe_int (nomark _)) (pw_and1 (pt_cmpR op_lt (pe_op op_add (pv 11) (pe_callB call_len_seq rfl B.len PySem.boot_len (pa_cons (pv 4) pa_nil))) (pv 10) (nomark _)))))
          (pss_one (ps_expr (pe_bm PySem.F.plainAttrs_list PySem.F.slot_list_append PySem.F.type_list_append mt_append (pv 4) (pa_cons (pe_bm PySem.F.plainAttrs_list PySem.F.slot_list_pop PySem.F.type_list_pop mt_popAt (pv 9) (pa_cons pe_int pa_nil)) pa_nil))))
          pss_nil)
        (pss_cons (ps_setC (iy := 12) (N := ["k", "known"]) (js := [none, some 4]) (g := (gName 0)) (tc := tTrue) (te := (tLst (tCons (tC (.int 1)) (tCons (tOp (rIxL K) (tVar 1) (tOp (rI0 fun i j => .int (i - j)) (tVar 0) (tC (.int 1)))) (tCons (tOp (rIxL K) (tVar 1) (tVar 0)) tNil))))) sc_lrows.nd rfl rfl rfl (comp_scope (osc := defScope s_lrows) (XN := ["numbers", "first", "blocks", "paper", "known", "rows", "size", "total", "many", "left", "count", "low", "pairs"]) rfl rfl rfl (by decide +kernel)) (pi_range3 rfl B.range (pa_cons pe_int (pa_cons (pe_callB call_len_seq rfl B.len PySem.boot_len (pa_cons (pv 4) pa_nil)) (pa_cons pe_int pa_nil)))) (fun _ _ _ _ => pg_name (i := 0) (show (["k", "known"] : List Str).Nodup by decide +kernel) rfl (Or.inl rfl)) (fun _ _ _ _ => pif_nil) (fun _ _ _ _ => (pe_lst (pa_cons pe_int (pa_cons (pe_ix ix_list (pv 1) (pe_op op_sub (pv 0) pe_int) (fun _ _ => rfl)) (pa_cons (pe_ix ix_list (pv 1) (pv 0) (fun _ _ => rfl)) pa_nil))))))
        (pss_cons (ps_set (i := 5) sc_lrows.nd rfl (Or.inl rfl) (pe_op op_cat (pv 5) (pv 12)))
        (pss_cons (ps_set (i := 4) sc_lrows.nd rfl (Or.inr rfl) (pe_op op_cat (pe_comp (N := ["row"]) (js := [none]) (g := (gName 0)) (tc := tTrue) (te := (tCall (spMix) [] E0 (tCons (tVar 0) tNil))) rfl (comp_scope (osc := defScope s_lrows) (XN := ["numbers", "first", "blocks", "paper", "known", "rows", "size", "total", "many", "left", "count", "low", "pairs"]) rfl rfl rfl (by decide +kernel)) (pi_list (pv 12)) (fun _ _ _ _ => pg_name (i := 0) (show (["row"] : List Str).Nodup by decide +kernel) rfl (Or.inl rfl)) (fun _ _ _ _ => pif_nil) (fun _ _ _ _ => (pe_call G_lmix hr rfl m_lmix k_lmix b_lmix .nil passN (pa_cons (pv 0) pa_nil)))) (pe_slice sl_list (pv 4) (po_some (pe_op op_mul (pe_callB call_len_seq rfl B.len PySem.boot_len (pa_cons (pv 12) pa_nil)) pe_int)) po_none)))
        (pss_cons (ps_set (i := 11) sc_lrows.nd rfl (Or.inl rfl) (pe_op op_fdiv (pv 11) pe_int))
        (pss_one (ps_set (i := 10) sc_lrows.nd rfl (Or.inl rfl) (pe_op op_fdiv (pe_op op_add (pv 10) pe_int) pe_int))))))))))
      (pss_one (ps_ret (pe_op op_cat (pv 5) (pe_lst (pa_cons (pe_lst (pa_cons pe_int (pa_cons (pv 6) (pa_cons (pv 7) (pa_cons (pv 8) (pa_cons (pe_ix ix_list (pv 4) pe_int (fun _ _ => rfl)) pa_nil)))))) pa_nil)))))))))))), ?_⟩
    have hbn := hd.bn
    have hpl0 := hd.plen
    have bk := hd.bk
    have hbl := hd.bl
    refine ⟨_, rfl, Bq, rfl, ⟨_, SqL.of bk.at_⟩, fun D hD => ?_⟩
    refine comp_lstQ (K := K) (a := Bq) (xs := bs.map fun w => V.ref w.1) (fun i σ' H' => ∃ (v0 v1 : Option V), σ' = [v0, v1] ∧ H' D = some (lsI (lv0 ((bkv bs).take i))) ∧ Same H H')
      ⟨none, none, rfl, by rw [List.take_zero]; exact upd_same, same_new hD _⟩ (fun i σ' H' _ ⟨_, _, _, _, e⟩ => SqL.of (e _ _ bk.at_)) ?_ ?_
    · rintro i y σ' H' hi ⟨v0, v1, rfl, hD', sm⟩
      have hlt : i < (bs.map fun w => V.ref w.1).length := (List.getElem?_eq_some_iff.mp hi).1
      have hil : i < bs.length := by rw [List.length_map] at hlt; exact hlt
      obtain ⟨z, hz⟩ := bounded_at hil
      rw [List.getElem?_map, hz] at hi
      have ey : V.ref z.1 = y := Option.some.inj hi
      subst ey
      have hm := List.mem_of_getElem? hz
      have he := bk.each z hm
      have hzv : (bkv bs)[i]? = some (z.2.1, z.2.2.2) := by unfold bkv; rw [List.getElem?_map, hz]; rfl
      refine ⟨z.1, _, rfl, SqT.of (sm _ _ he.1), rfl, _, _, rfl, _, _, rfl, rfl, ?_⟩
      refine ifT ?_
      refine ⟨_, rfl, (by show 2 ≤ sizeLine; decide), fun q hq => ?_⟩
      have u := same_new hq (.lst [V.int 0, V.int z.2.1])
      have eq : upd H' q (.lst [V.int 0, V.int z.2.1]) q = some (lsI [0, z.2.1]) := upd_same
      generalize upd H' q (.lst [V.int 0, V.int z.2.1]) = H2 at u eq ⊢
      have hzl := hbl z hm
      refine ⟨_, rfl, q, z.2.2.1, _, _, rfl, rfl, eq, u _ _ (sm _ _ he.2), fits (by rw [List.length_map, List.length_map]; show 2 + _ ≤ _; trivial), fun q2 hq2 => ?_⟩
      rw [lsI_cat]
      have u2 := same_new hq2 (lsI ([0, z.2.1] ++ z.2.2.2))
      have eq2 : upd H2 q2 (lsI ([0, z.2.1] ++ z.2.2.2)) q2 = some (lsI (brw (z.2.1, z.2.2.2))) := upd_same
      generalize upd H2 q2 (lsI ([0, z.2.1] ++ z.2.2.2)) = H4 at u2 eq2 ⊢
      have s4 := u.trans u2
      refine ⟨q2, _, rfl, eq2, (by show z.2.2.2.length + 1 + 1 ≤ 100000; trivial), ?_⟩
      refine ⟨D, _, _, rfl, rfl, s4 _ _ hD', fits_lt (by rw [List.length_map, lv0_len, List.length_take, bkv_len]; trivial), ?_⟩
      refine CW.next hlt ⟨_, _, rfl, ?_, same_upd (sm.trans s4) _ hD⟩
      rw [upd_same, lsI_app1, take_at hzv]
      unfold lv0
      rw [List.map_append]; rfl
    rintro σ' H2 ⟨v0, v1, rfl, hD2, sm2⟩
    rw [List.length_map, show bs.length = (bkv bs).length from (bkv_len bs).symm, List.take_length] at hD2
    have bk2 := bk.same sm2
    refine ⟨_, rfl, Bq, rfl, ⟨_, SqL.of bk2.at_⟩, fun R hR => ?_⟩
    refine comp_lstQ (K := K) (a := Bq) (xs := bs.map fun w => V.ref w.1) (fun i σ' H' => ∃ (v0 v1 : Option V) (as : List Addr), σ' = [v0, v1] ∧ Lss H' R as (((bkv bs).take i).map brw) ∧ (∀ a ∈ as, a ≠ R ∧ H2 a = none) ∧ Same H2 H')
      ⟨none, none, [], rfl, by rw [List.take_zero]; exact Lss.nil upd_same, (fun a h => by cases h), same_new hR _⟩ (fun i σ' H' _ ⟨_, _, _, _, _, _, e⟩ => SqL.of (e _ _ bk2.at_)) ?_ ?_
    · rintro i y σ' H' hi ⟨v0, v1, as, rfl, ls, hn, sm⟩
      have hlt : i < (bs.map fun w => V.ref w.1).length := (List.getElem?_eq_some_iff.mp hi).1
      have hil : i < bs.length := by rw [List.length_map] at hlt; exact hlt
      obtain ⟨z, hz⟩ := bounded_at hil
      rw [List.getElem?_map, hz] at hi
      have ey : V.ref z.1 = y := Option.some.inj hi
      subst ey
      have hm := List.mem_of_getElem? hz
      have he := bk2.each z hm
      have hzv : (bkv bs)[i]? = some (z.2.1, z.2.2.2) := by unfold bkv; rw [List.getElem?_map, hz]; rfl
      have hal : as.length ≤ 1000 := by have := ls.len; rw [List.length_map, List.length_take, bkv_len] at this; trivial
      refine ⟨z.1, _, rfl, SqT.of (sm _ _ he.1), rfl, _, _, rfl, _, _, rfl, rfl, ?_⟩
      refine ifT ?_
      refine ⟨_, rfl, (by show 2 ≤ sizeLine; decide), fun q hq => ?_⟩
      have u := same_new hq (.lst [V.int 0, V.int z.2.1])
      have eq : upd H' q (.lst [V.int 0, V.int z.2.1]) q = some (lsI [0, z.2.1]) := upd_same
      generalize upd H' q (.lst [V.int 0, V.int z.2.1]) = H3 at u eq ⊢
      have hzl := hbl z hm
      refine ⟨_, rfl, q, z.2.2.1, _, _, rfl, rfl, eq, u _ _ (sm _ _ he.2), fits (by rw [List.length_map, List.length_map]; show 2 + _ ≤ _; trivial), fun q2 hq2 => ?_⟩
      rw [lsI_cat]
      have u2 := same_new hq2 (lsI ([0, z.2.1] ++ z.2.2.2))
      have eq2 : upd H3 q2 (lsI ([0, z.2.1] ++ z.2.2.2)) q2 = some (lsI (brw (z.2.1, z.2.2.2))) := upd_same
      generalize upd H3 q2 (lsI ([0, z.2.1] ++ z.2.2.2)) = H4 at u2 eq2 ⊢
      have s4 := u.trans u2
      have ls4 := ls.same s4
      have nq : q2 ≠ R := fun e => by rw [e, u _ _ ls.at_] at hq2; cases hq2
      refine ⟨R, _, _, rfl, rfl, ls4.at_, fits_lt (by rw [List.length_map]; trivial), ?_⟩
      refine CW.next hlt ⟨_, _, as ++ [q2], rfl, ?_, ?_, same_upd (sm.trans s4) _ hR⟩
      · rw [take_at hzv, List.map_append]
        exact ls4.app (fun a ha => (hn a ha).1) eq2 nq
      · intro a ha
        rcases List.mem_append.mp ha with ha | ha
        · exact hn a ha
        · rw [List.mem_singleton.mp ha]; exact ⟨nq, (sm.trans u).free hq2⟩
    rintro σ' H3 ⟨v0', v1', as, rfl, ls, hn, s3⟩
    rw [List.length_map, show bs.length = (bkv bs).length from (bkv_len bs).symm, List.take_length] at ls
    have hal : as.length = bs.length := by rw [ls.len, List.length_map, bkv_len]
    have s03 := sm2.trans s3
    refine ⟨_, rfl, N, _, rfl, SqT.of (s03 _ _ hN), rfl, _, _, rfl, _, _, rfl, _, _, rfl, rfl, ?_⟩
    refine ⟨_, rfl, Pp, _, rfl, .inl (SqL.of (s03 _ _ hd.pp)), fun Lf hLf => ?_⟩
    have u4 := same_new hLf (.lst (p.map V.int))
    have eL : upd H3 Lf (.lst (p.map V.int)) Lf = some (lsI p) := upd_same
    have hD3 := s3 _ _ hD2
    have nDL : D ≠ Lf := fun e => by rw [← e, hD3] at hLf; cases hLf
    have nRL : R ≠ Lf := fun e => by rw [← e, ls.at_] at hLf; cases hLf
    have nRD : R ≠ D := fun e => by rw [e, hD2] at hR; cases hR
    have hLH : H Lf = none := s03.free hLf
    have haL : ∀ a ∈ as, a ≠ D ∧ a ≠ Lf := fun a ha => by
      refine ⟨fun e => ?_, fun e => ?_⟩
      · have := (hn a ha).2
        rw [e, hD2] at this; cases this
      · obtain ⟨i, hi⟩ := List.mem_iff_getElem?.mp ha
        obtain ⟨x, hx⟩ := bounded_at (l := (bkv bs).map brw) (k := i) (by have := (List.getElem?_eq_some_iff.mp hi).1; have := ls.len; trivial)
        have := ls.each i a x hi hx
        rw [e, hLf] at this; cases this
    have ls4 := ls.same u4
    have hD4 := u4 _ _ hD3
    have s04 := s03.trans u4
    generalize upd H3 Lf (.lst (p.map V.int)) = H4 at u4 eL ls4 hD4 s04 ⊢
    refine ⟨_, rfl, ?_⟩
    refine ⟨_, rfl, ?_⟩
    refine ⟨fun mm σ H' => ∃ (Kn R : Addr) (kn lf : List Int) (as : List Addr) (rl : List (List Int)) (b e w : Nat) (v12 : Option V), mm = w ∧ σ = [some (.ref N), some (.int (b0 : Int)), some (.ref Bq), some (.ref Pp), some (.ref Kn), some (.ref R), some (.int n0), some (.int n1), some (.int (m : Int)), some (.ref Lf), some (.int (w : Int)), some (.int (b : Int)), v12] ∧ H' Kn = some (lsI kn) ∧ Lss H' R as rl ∧ H' Lf = some (lsI lf) ∧ Kn ≠ Lf ∧ R ≠ Kn ∧ R ≠ Lf ∧ H Kn = none ∧ (∀ a ∈ as, a ≠ Kn ∧ a ≠ Lf) ∧ b < e ∧ e ≤ w ∧ w ≤ 100 ∧ kn.length = e - b ∧ lf.length = wnt b e w ∧ clm kn b e w lf = topV (bkv bs) p b0 m ∧ rl ++ rws kn b e w lf = rowV (bkv bs) p b0 m ∧ as.length + 100 * w ≤ 20000 ∧ Same H H',
      ⟨_, D, R, lv0 (bkv bs), p, as, (bkv bs).map brw, b0, b0 + bs.length, m, none, rfl, rfl, hD4, ls4, eL, nDL, nRD, nRL, hD, haL, by trivial, hle, hm1, by rw [lv0_len, bkv_len]; trivial, hpw, by unfold topV; rw [bkv_len], by unfold rowV; rw [bkv_len], by trivial, s04⟩, ?_⟩
    clear hD4 eL nDL s04 u4 hLf hD3 nRL nRD haL ls4 hal ls hn s3 s03 hR R as hD2 sm2 bk2 hD D
    rintro mm σ H4 ⟨Kn, R, kn, lf, as, rl, b, e, w, v12, ew, rfl, hK4, ls4, hL4, nKL, nRK, nRL, hKH, haL, hbe, hew, hw, hkl, hlw, hcl, hrw, has, sm⟩
    obtain rfl : w = mm := ew.symm
    refine ⟨_, rfl, _, _, rfl, rfl, _, rfl, ?_⟩
    by_cases h2 : 2 ≤ w
    rotate_left
    · rw [decide_eq_false (show ¬ (1 : Int) < ((w : Nat) : Int) by trivial)]
      refine iteF ?_
      rw [wnt_one (by trivial)] at hlw
      have elf : lf = [] := List.length_eq_zero_iff.mp hlw
      rw [clm_one (by trivial), if_pos elf] at hcl
      rw [rws_one (by trivial), List.append_nil] at hrw
      obtain ⟨x, hx⟩ := bounded_at (l := kn) (k := 0) (by trivial)
      have hh : kn.head? = some x := by rw [List.head?_eq_getElem?]; exact hx
      rw [hh] at hcl
      refine ⟨_, rfl, _, rfl, _, rfl, _, rfl, _, rfl, Kn, _, ((0 : Nat) : Int), _, rfl, rfl, SqL.of hK4, at_intsZ hx, (by show 5 ≤ sizeLine; decide), fun c hc => ?_⟩
      have uc := same_new hc (.lst [V.int 2, V.int n0, V.int n1, V.int (m : Int), V.int x])
      have ec : upd H4 c (.lst [V.int 2, V.int n0, V.int n1, V.int (m : Int), V.int x]) c = some (lsI [2, n0, n1, (m : Int), x]) := upd_same
      generalize upd H4 c (.lst [V.int 2, V.int n0, V.int n1, V.int (m : Int), V.int x]) = H5 at uc ec ⊢
      refine ⟨(by show 1 ≤ sizeLine; decide), fun l hl => ?_⟩
      have ul := same_new hl (.lst [V.ref c])
      have el : upd H5 l (.lst [V.ref c]) l = some (.lst [V.ref c]) := upd_same
      generalize upd H5 l (.lst [V.ref c]) = H6 at ul el ⊢
      have s46 := uc.trans ul
      have ls6 := ls4.same s46
      refine ⟨R, l, _, _, rfl, rfl, ls6.at_, el, fits (by rw [List.length_map]; show _ + 1 ≤ _; trivial), fun D hD => ?_⟩
      have uD := same_new hD (.lst (as.map V.ref ++ [V.ref c]))
      refine hQ D (as ++ [c]) x _ (sm.trans (s46.trans uD)) hcl.symm ?_ (by rw [List.length_append, List.length_singleton]; trivial)
      rw [← hrw]
      refine ⟨by rw [upd_same, List.map_append]; rfl, by rw [List.length_append, List.length_append, ls4.len]; rfl, fun i a y e1 e2 => uD _ _ ?_⟩
      by_cases hi : i < as.length
      · rw [List.getElem?_append_left hi] at e1
        rw [List.getElem?_append_left (by rw [← ls4.len]; exact hi)] at e2
        exact ls6.each i a y e1 e2
      · rw [List.getElem?_append_right (by trivial)] at e1
        rw [List.getElem?_append_right (by rw [← ls4.len]; trivial), ← ls4.len] at e2
        cases hk : i - as.length with
        | zero =>
          rw [hk] at e1 e2
          have a1 : c = a := Option.some.inj e1
          have a2 : [2, n0, n1, (m : Int), x] = y := Option.some.inj e2
          rw [← a1, ← a2]
          exact ul _ _ ec
        | succ k => rw [hk] at e1; cases e1
    rw [decide_eq_true (show (1 : Int) < ((w : Nat) : Int) by trivial)]
    refine iteT ?_
    refine ⟨fun σ' H'' => ∃ m', m' < w ∧ ∃ (Kn R : Addr) (kn lf : List Int) (as : List Addr) (rl : List (List Int)) (b e w : Nat) (v12 : Option V), m' = w ∧ σ' = [some (.ref N), some (.int (b0 : Int)), some (.ref Bq), some (.ref Pp), some (.ref Kn), some (.ref R), some (.int n0), some (.int n1), some (.int (m : Int)), some (.ref Lf), some (.int (w : Int)), some (.int (b : Int)), v12] ∧ H'' Kn = some (lsI kn) ∧ Lss H'' R as rl ∧ H'' Lf = some (lsI lf) ∧ Kn ≠ Lf ∧ R ≠ Kn ∧ R ≠ Lf ∧ H Kn = none ∧ (∀ a ∈ as, a ≠ Kn ∧ a ≠ Lf) ∧ b < e ∧ e ≤ w ∧ w ≤ 100 ∧ kn.length = e - b ∧ lf.length = wnt b e w ∧ clm kn b e w lf = topV (bkv bs) p b0 m ∧ rl ++ rws kn b e w lf = rowV (bkv bs) p b0 m ∧ as.length + 100 * w ≤ 20000 ∧ Same H H'', fun σ' H'' z => z, ?_⟩
    have hlk := lack_cnt b e w
    rw [wnt_more h2] at hlw
    have hput := put_of (w := w) hbe kn lf
    obtain ⟨s, hs⟩ : ∃ s, prc (b : Int) (lack b e w) kn lf = some s := by
      cases q : prc (b : Int) (lack b e w) kn lf with
      | none =>
        rw [q] at hput
        cases hput with
        | no h => trivial
      | some s => exact ⟨s, rfl⟩
    rw [hs] at hput
    obtain ⟨l1, l2⟩ := put_len hput hbe hew hkl
    obtain ⟨c1, c2⟩ := lc_put hbe hkl hput
    have g := geo hbe hew
    rw [clm_on h2 hs] at hcl
    rw [rws_on h2 hs] at hrw
    obtain ⟨ln1, ln2, _⟩ := lc1_len (b : Int) kn lf
    try dsimp only
    refine sqMidG (fun σ' H' => ∃ v12 : Option V, σ' = [some (.ref N), some (.int (b0 : Int)), some (.ref Bq), some (.ref Pp), some (.ref Kn), some (.ref R), some (.int n0), some (.int n1), some (.int (m : Int)), some (.ref Lf), some (.int (w : Int)), some (.int (lc1 (b : Int) kn lf).1), v12] ∧ H' Kn = some (lsI (lc1 (b : Int) kn lf).2.1) ∧ H' Lf = some (lsI (lc1 (b : Int) kn lf).2.2) ∧ Lss H' R as rl ∧ Same H H') ?_ ?_
    rotate_left
    · intro M hM
      refine ⟨_, rfl, _, _, rfl, rfl, (by show (0 : Int) < 2; decide), rfl, _, rfl, ?_⟩
      by_cases h1 : (b : Int) % 2 = 1
      rotate_left
      · refine iteFD (fun z => h1 (V.int.inj z)) ?_
        refine hM _ _ ⟨v12, ?_, ?_, ?_, ls4, sm⟩ <;> rw [lc1_no h1]
        · exact hK4
        · exact hL4
      refine iteTD (congrArg V.int h1) ?_
      rw [if_pos (show b % 2 = 1 by trivial)] at hlk
      obtain ⟨x, r, rfl⟩ : ∃ x r, lf = x :: r := by
        cases lf with
        | nil => rw [List.length_nil] at hlw; trivial
        | cons x r => exact ⟨x, r, rfl⟩
      refine ⟨_, rfl, .inl ⟨rfl, _, SqL.of hK4⟩, _, rfl, .inl ⟨rfl, _, SqL.of hL4⟩, Lf, _, 0, 0, _, rfl, rfl, hL4, by decide, by decide, by rw [List.length_map, List.length_cons]; unfold seqIndex?; simp, rfl, ?_⟩
      have eer : (HO.lst (((x :: r).map V.int).eraseIdx 0) : HO) = lsI r := rfl
      rw [eer]
      have hL5 : upd H4 Lf (lsI r) Lf = some (lsI r) := upd_same
      have hK5 : upd H4 Lf (lsI r) Kn = some (lsI kn) := by rw [upd_ne nKL]; exact hK4
      have ls5 : Lss (upd H4 Lf (lsI r)) R as rl := ⟨by rw [upd_ne nRL]; exact ls4.at_, ls4.len, fun i a x e1 e2 => by rw [upd_ne (haL a (List.mem_of_getElem? e1)).2]; exact ls4.each i a x e1 e2⟩
      have sm5 := same_upd sm (lsI r) hLH
      generalize upd H4 Lf (lsI r) = H5 at hL5 hK5 ls5 sm5 ⊢
      refine ⟨Kn, _, _, rfl, rfl, hK5, fits_lt (by rw [List.length_map]; trivial), ?_⟩
      refine ⟨_, rfl, _, _, rfl, rfl, ?_⟩
      have e1 := lc1_yes (kn := kn) (lf := x :: r) h1
      refine hM _ _ ⟨_, by rw [e1]; rfl, by rw [e1, upd_same]; rfl, by rw [e1, upd_ne (Ne.symm nKL)]; exact hL5, ⟨by rw [upd_ne nRK]; exact ls5.at_, ls5.len, fun i a x e1 e2 => by rw [upd_ne (haL a (List.mem_of_getElem? e1)).1]; exact ls5.each i a x e1 e2⟩, same_upd sm5 _ hKH⟩
    clear hK4 hL4 ls4 sm H4
    rintro σ' H4 ⟨v12, rfl, hK4, hL4, ls4, sm⟩
    have hc1 : (lc1 (b : Int) kn lf).2.2.length + (if b % 2 = 1 then 1 else 0) = lf.length ∧ ((lc1 (b : Int) kn lf).1 + (((lc1 (b : Int) kn lf).2.1.length : Nat) : Int) = (e : Int)) ∧ (lc1 (b : Int) kn lf).1 % 2 = 0 := by
      by_cases h1 : b % 2 = 1
      · rw [lc1_yes (show (b : Int) % 2 = 1 by trivial), if_pos h1]
        rw [if_pos h1] at hlk
        refine ⟨by show lf.tail.length + 1 = _; rw [List.length_tail]; trivial, by show ((b : Int) - 1) + (((lf.headD 0 :: kn).length : Nat) : Int) = _; rw [List.length_cons]; trivial, by show ((b : Int) - 1) % 2 = 0; trivial⟩
      · rw [lc1_no (show ¬ (b : Int) % 2 = 1 by trivial), if_neg h1]
        exact ⟨rfl, by show (b : Int) + ((kn.length : Nat) : Int) = _; trivial, by show (b : Int) % 2 = 0; trivial⟩
    obtain ⟨lo1, elo⟩ : ∃ x, x = (lc1 (b : Int) kn lf).1 := ⟨_, rfl⟩
    obtain ⟨kn1, ekn⟩ : ∃ x, x = (lc1 (b : Int) kn lf).2.1 := ⟨_, rfl⟩
    obtain ⟨lf1, elf⟩ : ∃ x, x = (lc1 (b : Int) kn lf).2.2 := ⟨_, rfl⟩
    rw [← elo, ← ekn, ← elf] at hc1 c1
    rw [← ekn] at hK4 ln1
    rw [← elf] at hL4 ln2
    rw [← elo] at c2 ⊢
    clear elo ekn elf
    obtain ⟨ln3, ln4, ln5⟩ := lc2_len (w : Int) lo1 kn1 lf1
    try dsimp only
    refine sqMidG (fun σ' H' => ∃ v12 : Option V, σ' = [some (.ref N), some (.int (b0 : Int)), some (.ref Bq), some (.ref Pp), some (.ref Kn), some (.ref R), some (.int n0), some (.int n1), some (.int (m : Int)), some (.ref Lf), some (.int (w : Int)), some (.int lo1), v12] ∧ H' Kn = some (lsI (lc2 (w : Int) lo1 kn1 lf1).1) ∧ H' Lf = some (lsI (lc2 (w : Int) lo1 kn1 lf1).2) ∧ Lss H' R as rl ∧ Same H H') ?_ ?_
    rotate_left
    · intro M hM
      have no : ¬ (((kn1.length : Nat) : Int) % 2 = 1 ∧ lo1 + ((kn1.length : Nat) : Int) < (w : Int)) → M [some (.ref N), some (.int (b0 : Int)), some (.ref Bq), some (.ref Pp), some (.ref Kn), some (.ref R), some (.int n0), some (.int n1), some (.int (m : Int)), some (.ref Lf), some (.int (w : Int)), some (.int lo1), v12] H4 := fun h => by
        refine hM _ _ ⟨v12, rfl, ?_, ?_, ls4, sm⟩ <;> rw [lc2_no h]
        · exact hK4
        · exact hL4
      refine ⟨_, rfl, Kn, _, rfl, .inl (SqL.of hK4), _, _, rfl, rfl, (by show (0 : Int) < 2; decide), rfl, _, rfl, ?_⟩
      rw [List.length_map]
      by_cases h1 : ((kn1.length : Nat) : Int) % 2 = 1
      rotate_left
      · refine iteFD (fun z => h1 (V.int.inj z)) ?_
        exact iteF (no fun h => h1 h.1)
      refine iteTD (congrArg V.int h1) ?_
      refine ⟨_, rfl, _, rfl, Kn, _, rfl, .inl (SqL.of hK4), _, _, rfl, rfl, _, rfl, _, _, rfl, rfl, _, rfl, ?_⟩
      rw [List.length_map]
      by_cases h3 : lo1 + ((kn1.length : Nat) : Int) < (w : Int)
      rotate_left
      · rw [decide_eq_false h3]
        exact iteF (no fun h => h3 h.2)
      rw [decide_eq_true h3]
      refine iteT ?_
      rw [if_pos (show e % 2 = 1 ∧ e < w from ⟨by trivial, by trivial⟩)] at hlk
      obtain ⟨x, r, rfl⟩ : ∃ x r, lf1 = x :: r := by
        cases lf1 with
        | nil => rw [List.length_nil] at hc1; trivial
        | cons x r => exact ⟨x, r, rfl⟩
      refine ⟨_, rfl, .inl ⟨rfl, _, SqL.of hK4⟩, _, rfl, .inl ⟨rfl, _, SqL.of hL4⟩, Lf, _, 0, 0, _, rfl, rfl, hL4, by decide, by decide, by rw [List.length_map, List.length_cons]; unfold seqIndex?; simp, rfl, ?_⟩
      have eer : (HO.lst (((x :: r).map V.int).eraseIdx 0) : HO) = lsI r := rfl
      rw [eer]
      have hL5 : upd H4 Lf (lsI r) Lf = some (lsI r) := upd_same
      have hK5 : upd H4 Lf (lsI r) Kn = some (lsI kn1) := by rw [upd_ne nKL]; exact hK4
      have ls5 : Lss (upd H4 Lf (lsI r)) R as rl := ⟨by rw [upd_ne nRL]; exact ls4.at_, ls4.len, fun i a x e1 e2 => by rw [upd_ne (haL a (List.mem_of_getElem? e1)).2]; exact ls4.each i a x e1 e2⟩
      have sm5 := same_upd sm (lsI r) hLH
      generalize upd H4 Lf (lsI r) = H5 at hL5 hK5 ls5 sm5 ⊢
      refine ⟨Kn, _, _, rfl, rfl, hK5, fits_lt (by rw [List.length_map]; trivial), ?_⟩
      have e2 := lc2_yes (lf := x :: r) ⟨h1, h3⟩
      refine hM _ _ ⟨_, rfl, by rw [e2, upd_same, lsI_app1]; rfl, by rw [e2, upd_ne (Ne.symm nKL)]; exact hL5, ⟨by rw [upd_ne nRK]; exact ls5.at_, ls5.len, fun i a x e1 e2 => by rw [upd_ne (haL a (List.mem_of_getElem? e1)).1]; exact ls5.each i a x e1 e2⟩, same_upd sm5 _ hKH⟩
    clear hK4 hL4 ls4 sm H4
    rintro σ' H4 ⟨v12, rfl, hK4, hL4, ls4, sm⟩
    rw [c1] at hK4 hL4 ln3 ln4 ln5
    obtain ⟨l, el⟩ : ∃ x, x = s.1 := ⟨_, rfl⟩
    obtain ⟨lf2, elf⟩ : ∃ x, x = s.2 := ⟨_, rfl⟩
    rw [← el] at hK4 ln3 ln5 hcl hrw l2
    rw [← elf] at hL4 ln4 hcl hrw l1
    have hll : l.length ≤ 102 := by trivial
    refine ⟨_, rfl, Kn, _, rfl, .inl (SqL.of hK4), 1, ((l.length : Nat) : Int), 2, by rw [List.length_map], ⟨by decide, by decide⟩, small_step (by decide) (by decide) (by trivial) (by trivial) (by decide) (by decide), fun E hE => ?_⟩
    rw [rsz_one]
    refine comp_rngSQ (fun i σ' H' => ∃ (v0 : Option V) (as2 : List Addr), σ' = [v0, some (.ref Kn)] ∧ Lss H' E as2 ((prs2 l).take i) ∧ (∀ a ∈ as2, a ≠ E ∧ H4 a = none) ∧ Same H4 H')
      ⟨none, [], rfl, by rw [List.take_zero]; exact Lss.nil upd_same, (fun a h => by cases h), same_new hE _⟩ ?_ ?_
    · rintro i σ' H' hi ⟨v0, as2, rfl, lse, hn, smi⟩
      rw [show (1 : Int) + ((i : Nat) : Int) * 2 = ((2 * i + 1 : Nat) : Int) by trivial]
      obtain ⟨x, hx⟩ := bounded_at (l := l) (k := 2 * i) (by trivial)
      obtain ⟨y, hy⟩ := bounded_at (l := l) (k := 2 * i + 1) (by trivial)
      have hK' := smi _ _ hK4
      refine nameT ?_
      refine ⟨_, rfl, _, rfl, _, _, rfl, rfl, Kn, _, ((2 * i : Nat) : Int), _, rfl, congrArg V.int (by trivial), SqL.of hK', at_intsZ hx, _, rfl, _, rfl, Kn, _, _, _, rfl, rfl, SqL.of hK', at_intsZ hy, (by show 3 ≤ sizeLine; decide), fun q hq => ?_⟩
      have u := same_new hq (.lst [V.int 1, V.int x, V.int y])
      have eq : upd H' q (.lst [V.int 1, V.int x, V.int y]) q = some (lsI [1, x, y]) := upd_same
      generalize upd H' q (.lst [V.int 1, V.int x, V.int y]) = H5 at u eq ⊢
      have ls2 := lse.same u
      have nq : q ≠ E := fun e => by rw [e, lse.at_] at hq; cases hq
      have hal : as2.length ≤ 1000 := by have := lse.len; rw [List.length_take, prs2_len] at this; trivial
      refine ⟨E, _, _, rfl, rfl, ls2.at_, fits_lt (by rw [List.length_map]; trivial), ?_⟩
      refine CW.next hi ⟨_, as2 ++ [q], rfl, ?_, ?_, same_upd (smi.trans u) _ hE⟩
      · rw [take_at (prs2_at l i x y hx hy)]
        exact ls2.app (fun a ha => (hn a ha).1) eq nq
      · intro a ha
        rcases List.mem_append.mp ha with ha | ha
        · exact hn a ha
        · rw [List.mem_singleton.mp ha]; exact ⟨nq, smi.free hq⟩
    rintro σ' H5 ⟨v0, as2, rfl, lsE, hn2, s5⟩
    rw [show l.length / 2 = (prs2 l).length from (prs2_len l).symm, List.take_length] at lsE
    have hal2 : as2.length = l.length / 2 := by rw [lsE.len, prs2_len]
    have ls5 := ls4.same s5
    refine ⟨_, rfl, _, rfl, R, E, _, _, rfl, rfl, ls5.at_, lsE.at_, fits (by rw [List.length_map, List.length_map]; trivial), fun R2 hR2 => ?_⟩
    have u6 := same_new hR2 (.lst (as.map V.ref ++ as2.map V.ref))
    have ls6 : Lss (upd H5 R2 (.lst (as.map V.ref ++ as2.map V.ref))) R2 (as ++ as2) (rl ++ prs2 l) := by
      refine ⟨by rw [upd_same, List.map_append], by rw [List.length_append, List.length_append, ls4.len, lsE.len], fun i a y e1 e2 => u6 _ _ ?_⟩
      by_cases hi : i < as.length
      · rw [List.getElem?_append_left hi] at e1
        rw [List.getElem?_append_left (by rw [← ls4.len]; exact hi)] at e2
        exact ls5.each i a y e1 e2
      · rw [List.getElem?_append_right (by trivial)] at e1
        rw [List.getElem?_append_right (by rw [← ls4.len]; trivial), ← ls4.len] at e2
        exact lsE.each _ a y e1 e2
    have nR2L : R2 ≠ Lf := fun z => by rw [z, s5 _ _ hL4] at hR2; cases hR2
    have lsE6 := lsE.same u6
    have hK6 := u6 _ _ (s5 _ _ hK4)
    have hL6 := u6 _ _ (s5 _ _ hL4)
    have sm6 := sm.trans (s5.trans u6)
    generalize upd H5 R2 (.lst (as.map V.ref ++ as2.map V.ref)) = H6 at u6 ls6 lsE6 hK6 hL6 sm6 ⊢
    refine ⟨_, rfl, E, rfl, ⟨_, SqL.of lsE6.at_⟩, fun G hG => ?_⟩
    refine comp_lstQ (K := K) (a := E) (xs := as2.map V.ref) (fun i σ' H' => ∃ (v0 : Option V), σ' = [v0] ∧ H' G = some (lsI (((prs2 l).take i).map mixN)) ∧ Same H6 H')
      ⟨none, rfl, upd_same, same_new hG _⟩ (fun i σ' H' _ ⟨_, _, _, e⟩ => SqL.of (e _ _ lsE6.at_)) ?_ ?_
    · rintro i y σ' H' hi ⟨v0, rfl, hG', smi⟩
      have hlt : i < (as2.map V.ref).length := (List.getElem?_eq_some_iff.mp hi).1
      have hil : i < as2.length := by rw [List.length_map] at hlt; exact hlt
      obtain ⟨a, ha⟩ := bounded_at hil
      obtain ⟨x, hx⟩ := bounded_at (l := prs2 l) (k := i) (by rw [prs2_len]; trivial)
      rw [List.getElem?_map, ha] at hi
      have ey : V.ref a = y := Option.some.inj hi
      subst ey
      have hx3 : x.length = 3 := prs2_three l i x hx
      refine nameT ?_
      refine ⟨_, rfl, a, x, rfl, smi _ _ (lsE6.each i a x ha hx), by trivial, ?_⟩
      refine ⟨G, _, _, rfl, rfl, hG', fits_lt (by rw [List.length_map, List.length_map, List.length_take, prs2_len]; trivial), ?_⟩
      refine CW.next hlt ⟨_, rfl, ?_, same_upd smi _ hG⟩
      rw [upd_same, take_at hx, List.map_append, lsI_app1]; rfl
    rintro σ' H7 ⟨v0, rfl, hG7, s7⟩
    rw [List.length_map, lsE.len, List.take_length] at hG7
    have hK7 := s7 _ _ hK6
    refine ⟨_, rfl, _, rfl, E, _, rfl, .inl (SqL.of (s7 _ _ lsE6.at_)), _, _, rfl, rfl, .inr ⟨by decide, by decide⟩, _, rfl, Kn, _, rfl, SqL.of hK7, fun c hc => ?_⟩
    have ecut : HO.lst (cutV (l.map V.int) (some ((((as2.map V.ref).length : Nat) : Int) * 2)) none) = lsI (l.drop (l.length - l.length % 2)) := by
      rw [List.length_map, hal2, show ((l.length / 2 : Nat) : Int) * 2 = ((l.length - l.length % 2 : Nat) : Int) by trivial, cut_from']
    try dsimp -proj only
    rw [ecut]
    have uc := same_new hc (lsI (l.drop (l.length - l.length % 2)))
    have ec : upd H7 c (lsI (l.drop (l.length - l.length % 2))) c = some (lsI (l.drop (l.length - l.length % 2))) := upd_same
    generalize upd H7 c (lsI (l.drop (l.length - l.length % 2))) = H8 at uc ec ⊢
    have hb := nxl_len l
    rw [nxl_eq, List.length_append] at hb
    refine ⟨G, c, _, _, rfl, rfl, uc _ _ hG7, ec, fits (by simp only [List.length_map] at hb ⊢; trivial), fun K2 hK2 => ?_⟩
    rw [lsI_cat, ← nxl_eq]
    have uK := same_new hK2 (lsI (nxl l))
    have s68 := s7.trans uc
    have nKL2 : K2 ≠ Lf := fun z => by rw [z, s68 _ _ hL6] at hK2; cases hK2
    have nRK2 : R2 ≠ K2 := fun z => by rw [← z, s68 _ _ ls6.at_] at hK2; cases hK2
    have haL2 : ∀ a ∈ as ++ as2, a ≠ K2 ∧ a ≠ Lf := fun a ha => by
      refine ⟨fun z => ?_, ?_⟩
      · obtain ⟨i, hi⟩ := List.mem_iff_getElem?.mp ha
        obtain ⟨x, hx⟩ := bounded_at (l := rl ++ prs2 l) (k := i) (by have := (List.getElem?_eq_some_iff.mp hi).1; have := ls6.len; trivial)
        have := s68 _ _ (ls6.each i a x hi hx)
        rw [z, hK2] at this; cases this
      · rcases List.mem_append.mp ha with ha | ha
        · exact (haL a ha).2
        · intro z
          have := (hn2 a ha).2
          rw [z, hL4] at this; cases this
    have s6b := s68.trans uK
    have ls9 := ls6.same s6b
    have hL9 := s6b _ _ hL6
    have hK9 : upd H8 K2 (lsI (nxl l)) K2 = some (lsI (nxl l)) := upd_same
    have hK2H : H K2 = none := (sm6.trans s68).free hK2
    have sm9 := sm6.trans s6b
    generalize upd H8 K2 (lsI (nxl l)) = H9 at ls9 hL9 hK9 sm9 ⊢
    refine ⟨_, rfl, _, _, rfl, rfl, ⟨by decide, by decide⟩, ?_⟩
    refine gNz (v' := V.int ((b / 2 : Nat) : Int)) (congrArg V.int c2.symm) ?_
    refine ⟨_, rfl, _, _, rfl, rfl, _, _, rfl, rfl, ⟨by decide, by decide⟩, ?_⟩
    refine gNz (v' := V.int (((w + 1) / 2 : Nat) : Int)) (congrArg V.int (by trivial)) ?_
    exact ⟨(w + 1) / 2, by trivial, K2, R2, nxl l, lf2, as ++ as2, rl ++ prs2 l, b / 2, (e + 1) / 2, (w + 1) / 2, _, rfl, rfl, hK9, ls9, hL9, nKL2, nRK2, nR2L, hK2H, haL2, g.1, g.2, by trivial, l2, by trivial, hcl, by rw [List.append_assoc]; exact hrw, by rw [List.length_append]; trivial, sm9⟩
end
end K69
set_option Elab.async false
set_option linter.all false
set_option maxRecDepth 100000
set_option maxHeartbeats 4000000
namespace K69
open PySem L2 PySem.W PH
section
variable {P : Program} {w : World} {K : PySem.W.Frag} {mg : Str → Option Value} {base : Heap}
theorem sc_lpaper : FnScope ["numbers", "first", "shown", "paper", "others", "cell", "wide", "other", "half", "top", "far"] ["numbers", "first", "shown", "paper", "others", "cell"] (defScope s_lpaper) := ⟨rfl, rfl, rfl, by decide +kernel, rfl, by decide +kernel, by decide +kernel⟩
theorem ok_lpaper {f f_lrows : Addr} {fd d_lrows : FuncData} (F : Fun K "_law_paper" "_law_paper" s_lpaper f fd) (B : Bls mg) (n_enumerate : mg "enumerate" = none) 
    (G_lrows : FnOk P w K mg base (CXW P w) 2 f_lrows d_lrows ["numbers", "first", "blocks", "paper"] (spRows69)) (b_lrows : Binds K d_lrows ["numbers", "first", "blocks", "paper"] []) (k_lrows : keepIn K (.ref f_lrows) = true) (m_lrows : mg "_law_rows" = some (.ref f_lrows)) : FnOk P w K mg base (CXW P w) 3 f fd ["numbers", "first", "shown", "paper", "others", "cell"] (spPaper69) := by
  refine F.okN sc_lpaper (fun vs H Q E h => ?_) (fun cdv A outer s H vs Q E hr h => ?_)
  · obtain ⟨N, Sh, Pp, Ot, bs, os, p, b, m, n0, n1, c, rfl, _⟩ := h
    rfl
  · obtain ⟨N, Sh, Pp, Ot, bs, os, p, b, m, n0, n1, c, rfl, hN, hd, bo, hol, hne, hle, hm1, hpw, hQ⟩ := h
    refine ⟨_, (pss_cons (ps_set (i := 6) sc_lpaper.nd rfl (Or.inr rfl) pe_int)
      (pss_cons (ps_set (i := 7) sc_lpaper.nd rfl (Or.inl rfl) (pe_callTy call_list_of rfl B.list boot_list' (pa_cons (pv 3) pa_nil)))
      (pss_cons (ps_if (PW.pt (pw_or (pt_cmpR op_eq (pe_op op_mod (pv 5) pe_int) pe_int (nomark _)) (pw_or (pt_cmpR op_ne (pe_callB call_len_seq rfl B.len PySem.boot_len (pa_cons (pv 4) pa_nil)) (pe_callB call_len_seq rfl B.len PySem.boot_len (pa_cons (pv 2) pa_nil)) (nomark _)) (pw_or (pt_cmpR (op_eqD (units_of hr)) (pv 4) (pe_lst pa_nil) (nomark _)) (pw_or1 (pt_cmpR (op_eqL (units_of hr)) (pv 3) (pe_lst pa_nil) (nomark _)))))))
        (pss_one (ps_ret (pv 7)))
        pss_nil)
      (pss_cons (ps_setC (iy := 7) (N := ["k", "one", "cell", "wide"]) (js := [none, none, some 5, some 6]) (g := (gTup K 2 (gCons (gName 0) (gCons (gName 1) gNil)))) (tc := tTrue) (te := (tOp (rI (fun _ j => 0 < j) fun i j => .int (i % j)) (tOp (rI0 fun i j => .int (i + j)) (tVar 1) (tOp (rI CDiv fun i j => .int (i / j)) (tOp (rI CDiv fun i j => .int (i / j)) (tVar 2) (tC (.int 3))) (tOp (rI0 fun i j => .int (i + j)) (tVar 0) (tC (.int 1))))) (tVar 3))) sc_lpaper.nd rfl rfl rfl (comp_scope (osc := defScope s_lpaper) (XN := ["numbers", "first", "shown", "paper", "others", "cell", "wide", "other", "half", "top", "far"]) rfl rfl rfl (by decide +kernel)) (pi_enum rfl n_enumerate (pa_cons (pv 3) pa_nil)) (fun _ _ _ _ => (pg_tup rfl (pgs_cons (pg_name (i := 0) (show (["k", "one", "cell", "wide"] : List Str).Nodup by decide +kernel) rfl (Or.inl rfl)) (pgs_cons (pg_name (i := 1) (show (["k", "one", "cell", "wide"] : List Str).Nodup by decide +kernel) rfl (Or.inl rfl)) pgs_nil)))) (fun _ _ _ _ => pif_nil) (fun _ _ _ _ => (pe_op op_mod (pe_op op_add (pv 1) (pe_op op_fdiv (pe_op op_fdiv (pv 2) pe_int) (pe_op op_add (pv 0) pe_int))) (pv 3))))
      (pss_cons (ps_set (i := 8) sc_lpaper.nd rfl (Or.inl rfl) pe_int)
      (pss_cons (ps_while PassesOwn.never (pt_cmpR op_lt (pe_op op_mul pe_int (pv 8)) (pe_ix ix_tup (pv 0) pe_int (fun _ _ => rfl)) (nomark _))
        (pss_one (ps_set (i := 8) sc_lpaper.nd rfl (Or.inl rfl) (pe_op op_mul pe_int (pv 8)))))
      (pss_cons (ps_if (PW.pt (pw_and (pt_cmpR op_eq (pe_op op_mod (pv 5) pe_int) pe_int (nomark _)) (pw_and1 (pt_cmpR op_le (pe_op op_add (pv 1) (pe_callB call_len_seq rfl B.len PySem.boot_len (pa_cons (pv 2) pa_nil))) (pv 8) (nomark _)))))
        (pss_cons (ps_set (i := 9) sc_lpaper.nd rfl (Or.inl rfl) (pe_ix ix_list (pe_ix ix_list (pe_call G_lrows hr rfl m_lrows k_lrows b_lrows .nil passN (pa_cons (pv 0) (pa_cons (pv 1) (pa_cons (pv 2) (pa_cons (pv 3) pa_nil))))) (pe_un un_neg pe_int) (fun _ _ => rfl)) (pe_un un_neg pe_int) (fun _ _ => rfl)))
        (pss_cons (ps_set (i := 10) sc_lpaper.nd rfl (Or.inl rfl) (pe_ix ix_list (pe_ix ix_list (pe_call G_lrows hr rfl m_lrows k_lrows b_lrows .nil passN (pa_cons (pv 0) (pa_cons (pv 1) (pa_cons (pv 4) (pa_cons (pv 7) pa_nil))))) (pe_un un_neg pe_int) (fun _ _ => rfl)) (pe_un un_neg pe_int) (fun _ _ => rfl)))
        (pss_one (ps_asg (pe_op op_mod (pe_op op_sub (pe_op op_add (pe_ix ix_list (pv 7) (pe_un un_neg pe_int) (fun _ _ => rfl)) (pv 9)) (pv 10)) (pv 6)) (pg_sub (pv 7) (pe_un un_neg pe_int) set_list)))))
        pss_nil)
      (pss_one (ps_ret (pv 7)))))))))), ?_⟩
    have hpl := hd.plen
    have hbn := hd.bn
    refine ⟨_, rfl, Pp, _, rfl, .inl (SqL.of hd.pp), fun D0 hD0 => ?_⟩
    have u1 := same_new hD0 (.lst (p.map V.int))
    have e1 : upd H D0 (.lst (p.map V.int)) D0 = some (lsI p) := upd_same
    generalize upd H D0 (.lst (p.map V.int)) = H1 at u1 e1 ⊢
    have hd1 := hd.same u1
    have bo1 := bo.same u1
    have fin : ∀ H', Same H1 H' → Q (.ref D0) H' := fun H' s' => hQ D0 p H' (u1.trans s') (s' _ _ e1) rfl
    refine ⟨_, rfl, _, _, rfl, rfl, (by show (0 : Int) < 3; decide), rfl, _, rfl, ?_⟩
    by_cases h1 : c % 3 = 0
    · refine iteTD (congrArg V.int h1) (iteT ?_)
      exact ⟨_, rfl, fin H1 (Same.refl H1)⟩
    refine iteFD (fun e => h1 (V.int.inj e)) ?_
    refine ⟨_, rfl, Ot, _, rfl, .inl (SqL.of bo1.1.at_), _, rfl, Sh, _, rfl, .inl (SqL.of hd1.bk.at_), rfl, _, rfl, ?_⟩
    rw [List.length_map, List.length_map]
    by_cases h2 : os.length = bs.length
    rotate_left
    · refine iteNTG (fun e => h2 (by have := V.int.inj e; trivial)) (iteT ?_)
      exact ⟨_, rfl, fin H1 (Same.refl H1)⟩
    refine iteNS (show V.int ((os.length : Nat) : Int) = V.int ((bs.length : Nat) : Int) by rw [h2]) ?_
    refine ⟨_, rfl, (by show 0 ≤ sizeLine; decide), fun e0 he0 => ?_⟩
    have ue := same_new he0 (.lst [])
    have ee : upd H1 e0 (.lst []) e0 = some (.lst []) := upd_same
    generalize upd H1 e0 (.lst []) = H2 at ue ee ⊢
    refine ⟨_, _, (bo1.same ue).1.deep, .lst (SqL.of ee) .nil, ht_wrD _, _, rfl, ?_⟩
    rw [eqD_wnil]
    have hon : ¬ bkv os = [] := fun e => by have := congrArg List.length e; rw [bkv_len, List.length_nil] at this; trivial
    refine iteFD hon ?_
    refine ⟨_, rfl, (by show 0 ≤ sizeLine; decide), fun e2 he2 => ?_⟩
    have ue2 := same_new he2 (.lst [])
    have ee2 : upd H2 e2 (.lst []) e2 = some (lsI []) := upd_same
    generalize upd H2 e2 (.lst []) = H3 at ue2 ee2 ⊢
    have s13 := ue.trans ue2
    have hd3 := hd1.same s13
    refine ⟨Pp, e2, _, [], rfl, rfl, SqL.of hd3.pp, SqL.of ee2, _, rfl, ?_⟩
    by_cases h4 : p = []
    · refine iteTD h4 ?_
      exact ⟨_, rfl, fin H3 s13⟩
    refine iteFD h4 ?_
    clear fin
    have hpp : 0 < p.length := List.length_pos_iff.mpr h4
    refine ⟨_, rfl, Pp, rfl, ⟨_, SqL.of hd3.pp⟩, fun E hE => ?_⟩
    refine comp_enumQ (K := K) (a := Pp) (xs := p.map V.int) (fun j σ' H'' => ∃ (v0 v1 : Option V) (ks : List Int), σ' = [v0, v1, some (.int c), some (.int 2305843009213693951)] ∧ H'' E = some (lsI ks) ∧ ks.length = j ∧ Same H3 H'')
      ⟨none, none, [], rfl, upd_same, rfl, same_new hE _⟩ (fun i σ' H' _ ⟨_, _, _, _, _, _, e⟩ => SqL.of (e _ _ hd3.pp)) ?_ ?_
    · rintro j y t σ' H'' hj ⟨v0, v1, ks, rfl, hE', hkl, smj⟩ htj
      have hjt : j < (p.map V.int).length := (List.getElem?_eq_some_iff.mp hj).1
      have hjl : j < p.length := by rw [List.length_map] at hjt; exact hjt
      obtain ⟨x, rfl, hx⟩ := int_at hj
      have utj := same_new htj (.tup [.int (j : Nat), .int x])
      refine ⟨t, _, rfl, SqT.of upd_same, rfl, _, _, rfl, _, _, rfl, rfl, ?_⟩
      refine ifT ?_
      refine ⟨_, rfl, _, rfl, _, _, rfl, rfl, ⟨by decide, by decide⟩, _, rfl, _, _, rfl, rfl, _, _, rfl, rfl, ⟨by show (0 : Int) < (j : Int) + 1; trivial, by show (j : Int) + 1 < _; trivial⟩, _, _, rfl, rfl, _, rfl, _, _, rfl, rfl, (by show (0 : Int) < 2305843009213693951; decide), ?_⟩
      refine ⟨E, _, _, rfl, rfl, utj _ _ hE', fits_lt (by rw [List.length_map]; trivial), ?_⟩
      exact CW.next hjt ⟨_, _, ks ++ [_], rfl, by rw [upd_same, lsI_app1], by rw [List.length_append, List.length_singleton]; trivial, same_upd (smj.trans utj) _ hE⟩
    rintro σ' H4 ⟨v0, v1, q, rfl, hE4, hql, s4⟩
    rw [List.length_map] at hql
    have s14 := s13.trans s4
    have hd4 := hd1.same s14
    have bo4 := bo1.same s14
    have hN4 := (u1.trans s14) _ _ hN
    have hEH : H E = none := (u1.trans s13).free hE
    try dsimp only
    refine sqMidG (fun σ' H' => σ' = [some (.ref N), some (.int (b : Int)), some (.ref Sh), some (.ref Pp), some (.ref Ot), some (.int c), some (.int 2305843009213693951), some (.ref E), some (.int 1), none, none] ∧ H' = H4) ?_ (fun M hM => hM _ _ ⟨rfl, rfl⟩)
    rintro σ' H4' ⟨rfl, rfl⟩
    try dsimp only
    refine sqMidG (fun σ' H' => ∃ hf : Nat, σ' = [some (.ref N), some (.int (b : Int)), some (.ref Sh), some (.ref Pp), some (.ref Ot), some (.int c), some (.int 2305843009213693951), some (.ref E), some (.int (hf : Int)), none, none] ∧ H' = H4') ?_ ?_
    rotate_left
    · intro M hM
      refine ⟨fun mm σ H' => ∃ hf : Nat, mm = m - hf ∧ 1 ≤ hf ∧ σ = [some (.ref N), some (.int (b : Int)), some (.ref Sh), some (.ref Pp), some (.ref Ot), some (.int c), some (.int 2305843009213693951), some (.ref E), some (.int (hf : Int)), none, none] ∧ H' = H4', ⟨_, 1, rfl, Nat.le_refl _, rfl, rfl⟩, ?_⟩
      rintro mm σ H' ⟨hf, rfl, hf1, rfl, rfl⟩
      refine ⟨_, rfl, _, _, rfl, rfl, .inl ⟨by decide, by decide⟩, _, rfl, N, _, _, _, rfl, rfl, SqT.of hN4, rfl, _, _, rfl, rfl, _, rfl, ?_⟩
      by_cases hlt : 2 * (hf : Int) < (m : Int)
      rotate_left
      · rw [decide_eq_false hlt]
        exact iteF (hM _ _ ⟨hf, rfl, rfl⟩)
      rw [decide_eq_true hlt]
      refine iteT ?_
      refine ⟨fun σ' H'' => ∃ m', m' < m - hf ∧ ∃ hf : Nat, m' = m - hf ∧ 1 ≤ hf ∧ σ' = [some (.ref N), some (.int (b : Int)), some (.ref Sh), some (.ref Pp), some (.ref Ot), some (.int c), some (.int 2305843009213693951), some (.ref E), some (.int (hf : Int)), none, none] ∧ H'' = H', fun σ' H'' z => z, ?_⟩
      refine ⟨_, rfl, _, _, rfl, rfl, .inl ⟨by decide, by decide⟩, ?_⟩
      refine gNz (v' := V.int ((2 * hf : Nat) : Int)) (congrArg V.int (by trivial)) ?_
      exact ⟨m - 2 * hf, by trivial, 2 * hf, rfl, by trivial, rfl, rfl⟩
    rintro σ' H4'' ⟨hf, rfl, rfl⟩
    have fin : ∀ H', Same H4'' H' → Q (.ref E) H' := fun H' s' => hQ E q H' ((u1.trans s14).trans s') (s' _ _ hE4) hql
    refine ⟨_, rfl, _, _, rfl, rfl, (by show (0 : Int) < 3; decide), rfl, _, rfl, ?_⟩
    by_cases h5 : c % 3 = 1
    rotate_left
    · refine iteFD (fun e => h5 (V.int.inj e)) ?_
      exact iteF ⟨_, rfl, fin _ (Same.refl _)⟩
    refine iteTD (congrArg V.int h5) ?_
    refine ⟨_, rfl, _, rfl, Sh, _, rfl, .inl (SqL.of hd4.bk.at_), _, _, rfl, rfl, _, rfl, _, _, rfl, rfl, _, rfl, ?_⟩
    refine ite2 (fun _ => ?_) (fun _ => ⟨_, rfl, fin _ (Same.refl _)⟩)
    clear fin
    refine ⟨_, rfl, _, rfl, _, rfl, _, rfl, N, Sh, Pp, bs, p, b, m, n0, n1, rfl, hN4, hd4, by trivial, by trivial, hm1, hpw, fun R5 as5 t5 H5 s5 ht5 ls5 hal5 => ?_⟩
    obtain ⟨k5, hk5⟩ : ∃ k, as5.length = k + 1 := ⟨as5.length - 1, by have := ls5.len; rw [List.length_append, List.length_singleton] at this; trivial⟩
    obtain ⟨c5, hck5⟩ := bounded_at (l := as5) (k := k5) (by trivial)
    have hce5 := ls5.each k5 c5 [2, n0, n1, (m : Int), t5] hck5 (by have := ls5.len; rw [List.length_append, List.length_singleton] at this; rw [List.getElem?_append_right (by trivial), show k5 - (rowV (bkv bs) p b m).length = 0 by trivial]; rfl)
    have hat5 : atI (as5.map V.ref) (-1) = some (.ref c5) := atI_neg (d := 1) rfl (by decide) (by rw [List.length_map]; trivial) (by rw [List.length_map, hk5, Nat.add_sub_cancel, List.getElem?_map, hck5]; rfl)
    refine ⟨1, rfl, R5, _, -1, _, rfl, rfl, SqL.of ls5.at_, hat5, 1, rfl, c5, _, -1, .int t5, rfl, rfl, SqL.of hce5, rfl, ?_⟩
    have hd5 : Hnd H5 Ot E os q := ⟨(bo4.same s5).1, s5 _ _ hE4, fun x hx => by have := bo.2 x hx; trivial, by trivial, by trivial⟩
    have hN5 := s5 _ _ hN4
    refine ⟨_, rfl, _, rfl, _, rfl, _, rfl, N, Ot, E, os, q, b, m, n0, n1, rfl, hN5, hd5, by trivial, by trivial, hm1, (by rw [hql, h2]; exact hpw), fun R6 as6 t6 H6 s6 ht6 ls6 hal6 => ?_⟩
    obtain ⟨k6, hk6⟩ : ∃ k, as6.length = k + 1 := ⟨as6.length - 1, by have := ls6.len; rw [List.length_append, List.length_singleton] at this; trivial⟩
    obtain ⟨c6, hck6⟩ := bounded_at (l := as6) (k := k6) (by trivial)
    have hce6 := ls6.each k6 c6 [2, n0, n1, (m : Int), t6] hck6 (by have := ls6.len; rw [List.length_append, List.length_singleton] at this; rw [List.getElem?_append_right (by trivial), show k6 - (rowV (bkv os) q b m).length = 0 by trivial]; rfl)
    have hat6 : atI (as6.map V.ref) (-1) = some (.ref c6) := atI_neg (d := 1) rfl (by decide) (by rw [List.length_map]; trivial) (by rw [List.length_map, hk6, Nat.add_sub_cancel, List.getElem?_map, hck6]; rfl)
    refine ⟨1, rfl, R6, _, -1, _, rfl, rfl, SqL.of ls6.at_, hat6, 1, rfl, c6, _, -1, .int t6, rfl, rfl, SqL.of hce6, rfl, ?_⟩
    have hE6 := s6 _ _ hd5.pp
    obtain ⟨x, hx⟩ := bounded_at (l := q) (k := q.length - 1) (by trivial)
    have hatE : atI (q.map V.int) (-1) = some (.int x) := atI_neg (d := 1) rfl (by decide) (by rw [List.length_map]; trivial) (by rw [List.length_map, List.getElem?_map, hx]; rfl)
    refine ⟨_, rfl, 1, rfl, E, _, -1, _, rfl, rfl, SqL.of hE6, hatE, _, rfl, _, _, rfl, rfl, _, rfl, _, _, rfl, rfl, _, rfl, _, _, rfl, rfl, (by show (0 : Int) < 2305843009213693951; decide), _, rfl, 1, rfl, E, _, -1, q.length - 1, rfl, rfl, hE6, by rw [List.length_map]; exact ixN_last (by trivial), ?_⟩
    obtain ⟨y, ey⟩ : ∃ y : Int, y = (x + t5 - t6) % 2305843009213693951 := ⟨_, rfl⟩
    have es : HO.lst ((q.map V.int).set (q.length - 1) (V.int ((x + t5 - t6) % 2305843009213693951))) = lsI (q.set (q.length - 1) y) := by rw [← ey]; unfold lsI; rw [List.map_set]
    try dsimp -proj only
    rw [es]
    refine ⟨_, rfl, ?_⟩
    exact hQ E _ _ (same_upd ((u1.trans s14).trans (s5.trans s6)) _ hEH) upd_same (by rw [List.length_set]; exact hql)
end
end K69
set_option Elab.async false
set_option linter.all false
set_option maxRecDepth 100000
set_option maxHeartbeats 4000000
namespace K69
open PySem L2 PySem.W PH
section
variable {P : Program} {w : World} {K : PySem.W.Frag} {mg : Str → Option Value} {base : Heap}
theorem sc_lclash : FnScope ["found", "rows", "twins", "row"] ["found", "rows", "twins"] (defScope s_lclash) := ⟨rfl, rfl, rfl, by decide +kernel, rfl, by decide +kernel, by decide +kernel⟩
theorem ok_lclash {f f_lwhole f_lmix : Addr} {fd d_lwhole d_lmix : FuncData} (F : Fun K "_law_clash" "_law_clash" s_lclash f fd) (B : Bls mg) 
    (G_lwhole : FnOk P w K mg base (CXW P w) 1 f_lwhole d_lwhole ["found"] (spWh)) (b_lwhole : Binds K d_lwhole ["found"] []) (k_lwhole : keepIn K (.ref f_lwhole) = true) (m_lwhole : mg "_law_whole" = some (.ref f_lwhole)) 
    (G_lmix : FnOk P w K mg base (CXW P w) 1 f_lmix d_lmix ["row"] (spMix)) (b_lmix : Binds K d_lmix ["row"] []) (k_lmix : keepIn K (.ref f_lmix) = true) (m_lmix : mg "_law_mix" = some (.ref f_lmix)) : FnOk P w K mg base (CXW P w) 2 f fd ["found", "rows", "twins"] (spLClash) := by
  refine F.okN sc_lclash (fun vs H Q E h => ?_) (fun cdv A outer s H vs Q E hr h => ?_)
  · obtain ⟨T, a1, a2, R, S, r1, r2, as, bs, Rl, Sl, rfl, _⟩ := h
    rfl
  · obtain ⟨T, a1, a2, R, S, r1, r2, as, bs, Rl, Sl, rfl, hT, ha1, ha2, lsR, lsS, hl1, hl2, hr1, hr2, hne, hmx, hQ⟩ := h
    refine ⟨_, (pss_cons (ps_if (PW.pt (pw_or (pt_not (pt_val (pe_callB (r := rIsi K) call_isi rfl B.isi boot_isi (pa_cons (pv 0) (pa_cons (pe_bltn (v := .ty "tuple") rfl B.tuple boot_tuple' rfl) pa_nil))))) (pw_or1 (pt_cmpR op_ne (pe_callB call_len_seq rfl B.len PySem.boot_len (pa_cons (pv 0) pa_nil)) pe_int (nomark _)))))
        (pss_one (ps_ret pe_bl))
        pss_nil)
      (pss_cons (ps_for PassesOwn.never rfl (pi_tup (pv 0)) (pg_name (i := 3) sc_lclash.nd rfl (Or.inl rfl))
        (pss_one (ps_if (PW.pt (pw_or (pt_not (pt_val (pe_callB (r := rIsi K) call_isi rfl B.isi boot_isi (pa_cons (pv 3) (pa_cons (pe_bltn (v := .ty "list") rfl B.list boot_list' rfl) pa_nil))))) (pw_or1 (pt_cmpR (op_neL (units_of hr)) (pe_comp (N := ["number"]) (js := [none]) (g := (gName 0)) (tc := (tNot (tB (tCall (spWh) [] E0 (tCons (tVar 0) tNil))))) (te := (tVar 0)) rfl (comp_scope (osc := defScope s_lclash) (XN := ["found", "rows", "twins", "row"]) rfl rfl rfl (by decide +kernel)) (pi_list (pv 3)) (fun _ _ _ _ => pg_name (i := 0) (show (["number"] : List Str).Nodup by decide +kernel) rfl (Or.inl rfl)) (fun _ _ _ _ => (pif_one (pt_not (pt_val (pe_call G_lwhole hr rfl m_lwhole k_lwhole b_lwhole .nil passN (pa_cons (pv 0) pa_nil)))))) (fun _ _ _ _ => (pv 0))) (pe_lst pa_nil) (nomark _)))))
          (pss_one (ps_ret pe_bl))
          pss_nil)))
      (pss_cons (ps_if (PW.pt (pw_or (pt_cmpR (op_eqL (units_of hr)) (pe_ix ix_tup (pv 0) pe_int (fun _ _ => rfl)) (pe_ix ix_tup (pv 0) pe_int (fun _ _ => rfl)) (nomark _)) (pw_or1 (pt_cmpR op_ne (pe_call G_lmix hr rfl m_lmix k_lmix b_lmix .nil passN (pa_cons (pe_ix ix_tup (pv 0) pe_int (fun _ _ => rfl)) pa_nil)) (pe_call G_lmix hr rfl m_lmix k_lmix b_lmix .nil passN (pa_cons (pe_ix ix_tup (pv 0) pe_int (fun _ _ => rfl)) pa_nil)) (nomark _)))))
        (pss_one (ps_ret pe_bl))
        pss_nil)
      (pss_one (ps_ret (pe_and (pe_cmpR (op_inLL (units_of hr)) (pe_ix ix_tup (pv 0) pe_int (fun _ _ => rfl)) (pv 1) (by with_unfolding_all rfl)) (pe_one (pe_cmpR (op_inLL (units_of hr)) (pe_ix ix_tup (pv 0) pe_int (fun _ _ => rfl)) (pv 2) (by with_unfolding_all rfl))))))))), ?_⟩
    have zsOf : ∀ {R : Addr} {as : List Addr} {Rl : List (List Int)}, Lss H R as Rl → (as.zip Rl).map (fun z => V.ref z.1) = as.map V.ref ∧ (as.zip Rl).map (·.2) = Rl ∧ ∀ z ∈ as.zip Rl, H z.1 = some (lsI z.2) := fun {R as Rl} L => by
      refine ⟨?_, ?_, fun z hz => ?_⟩
      · have := List.map_fst_zip (l₁ := as) (l₂ := Rl) (Nat.le_of_eq L.len)
        rw [show ((as.zip Rl).map fun z => V.ref z.1) = ((as.zip Rl).map Prod.fst).map V.ref by rw [List.map_map]; rfl, this]
      · exact List.map_snd_zip (l₁ := as) (l₂ := Rl) (Nat.le_of_eq L.len.symm)
      · obtain ⟨i, hi⟩ := List.mem_iff_getElem?.mp hz
        rw [List.getElem?_zip_eq_some] at hi
        exact L.each i _ _ hi.1 hi.2
    obtain ⟨z1, z2, z3⟩ := zsOf lsR
    obtain ⟨y1, y2, y3⟩ := zsOf lsS
    refine ⟨_, rfl, _, _, _, _, true, rfl, .of (.tup hT), rfl, kit_refl _ _, _, rfl, ?_⟩
    refine iteF ?_
    refine ⟨_, rfl, T, _, rfl, .inr (SqT.of hT), rfl, _, rfl, ?_⟩
    refine iteNS rfl ?_
    refine ⟨_, rfl, T, rfl, ⟨_, SqT.of hT⟩, for_tup (K := K) (a := T) (xs := [V.ref a1, V.ref a2]) (fun i σ H' => ∃ (v3 : Option V), σ = [some (.ref T), some (.ref R), some (.ref S), v3] ∧ Same H H')
      ⟨none, rfl, Same.refl H⟩ (fun i σ H' _ ⟨_, _, e⟩ => SqT.of (e _ _ hT)) ?_ ?_⟩
    · rintro i y σ H' hi ⟨v3, rfl, sm⟩
      obtain ⟨a, r, rfl, har, hrl⟩ : ∃ a r, y = V.ref a ∧ H a = some (lsI r) ∧ r.length ≤ 10002 := by
        match i, hi with
        | 0, hi => exact ⟨a1, r1, (Option.some.inj hi).symm, ha1, hl1⟩
        | 1, hi => exact ⟨a2, r2, (Option.some.inj hi).symm, ha2, hl2⟩
        | _ + 2, hi => cases hi
      have ha' := sm _ _ har
      refine ⟨_, rfl, _, _, _, _, true, rfl, .of (.lst ha'), rfl, kit_refl _ _, _, rfl, ?_⟩
      refine iteF ?_
      refine ⟨_, rfl, a, rfl, ⟨_, SqL.of ha'⟩, fun D hD => ?_⟩
      refine comp_lstQ (K := K) (a := a) (xs := r.map V.int) (fun j σ' H'' => ∃ (v0 : Option V), σ' = [v0] ∧ H'' D = some (lsI []) ∧ Same H' H'')
        ⟨none, rfl, upd_same, same_new hD _⟩ (fun i σ' H' _ ⟨_, _, _, e⟩ => SqL.of (e _ _ ha')) ?_ ?_
      · rintro j v σ' H'' hj ⟨v0, rfl, hD', smj⟩
        have hjt := (List.getElem?_eq_some_iff.mp hj).1
        obtain ⟨z, rfl, hz⟩ := int_at hj
        refine ⟨_, rfl, z, rfl, _, rfl, ?_⟩
        refine iteF ?_
        exact CW.next hjt ⟨_, rfl, hD', smj⟩
      rintro σ' H5 ⟨v0, rfl, hD5, s5⟩
      refine ⟨(by show 0 ≤ sizeLine; decide), fun e1 he1 => ?_⟩
      have ue1 := same_new he1 (.lst [])
      have ee1 : upd H5 e1 (.lst []) e1 = some (lsI []) := upd_same
      generalize upd H5 e1 (.lst []) = H6 at ue1 ee1 ⊢
      refine ⟨D, e1, _, [], rfl, rfl, SqL.of (ue1 _ _ hD5), SqL.of ee1, _, rfl, ?_⟩
      refine iteNS rfl ?_
      exact ⟨_, rfl, sm.trans (s5.trans ue1)⟩
    · rintro σ H1 ⟨v3, rfl, s1⟩
      have hT1 := s1 _ _ hT
      have h11 := s1 _ _ ha1
      have h21 := s1 _ _ ha2
      refine ⟨_, rfl, T, _, _, _, rfl, rfl, SqT.of hT1, rfl, _, rfl, T, _, _, _, rfl, rfl, SqT.of hT1, rfl, a1, a2, _, _, rfl, rfl, SqL.of h11, SqL.of h21, _, rfl, ?_⟩
      refine iteFD hne ?_
      refine ⟨_, rfl, T, _, _, _, rfl, rfl, SqT.of hT1, rfl, a1, r1, rfl, h11, by trivial, _, rfl, T, _, _, _, rfl, rfl, SqT.of hT1, rfl, a2, r2, rfl, h21, by trivial, rfl, _, rfl, ?_⟩
      refine iteNS (congrArg V.int hmx) ?_
      refine ⟨_, rfl, T, _, _, _, rfl, rfl, SqT.of hT1, rfl, _, rfl, a1, R, as.zip Rl, r1, rfl, rfl, (by rw [z1]; exact SqL.of (lsR.same s1).at_), (fun z hz => SqL.of (s1 _ _ (z3 z hz))), SqL.of h11, _, rfl, ?_⟩
      rw [z2, decide_eq_true hr1]
      refine iteT ?_
      refine ⟨_, rfl, T, _, _, _, rfl, rfl, SqT.of hT1, rfl, _, rfl, a2, S, bs.zip Sl, r2, rfl, rfl, (by rw [y1]; exact SqL.of (lsS.same s1).at_), (fun z hz => SqL.of (s1 _ _ (y3 z hz))), SqL.of h21, ?_⟩
      rw [y2, decide_eq_true hr2]
      exact hQ H1 s1
end
end K69
set_option Elab.async false
set_option linter.all false
set_option maxRecDepth 100000
set_option maxHeartbeats 4000000
namespace K69
open PySem L2 PySem.W PH
section
variable {P : Program} {w : World} {K : PySem.W.Frag} {mg : Str → Option Value} {base : Heap}
theorem sc_llong : FnScope ["first", "count", "many", "found", "low", "high"] ["first", "count", "many"] (defScope s_llong) := ⟨rfl, rfl, rfl, by decide +kernel, rfl, by decide +kernel, by decide +kernel⟩
theorem ok_llong {f : Addr} {fd : FuncData} (F : Fun K "_law_long" "_law_long" s_llong f fd) (B : Bls mg) : FnOk P w K mg base (CXW P w) 1 f fd ["first", "count", "many"] (spLong67) := by
  refine F.okN sc_llong (fun vs H Q E h => ?_) (fun cdv A outer s H vs Q E hr h => ?_)
  · obtain ⟨f, c, m, rfl, _⟩ := h
    rfl
  · obtain ⟨f, c, m, rfl, hc, hfm, hQ⟩ := h
    refine ⟨_, (pss_cons (ps_set (i := 3) sc_llong.nd rfl (Or.inl rfl) pe_int)
      (pss_cons (ps_set (i := 4) sc_llong.nd rfl (Or.inl rfl) (pv 0))
      (pss_cons (ps_set (i := 5) sc_llong.nd rfl (Or.inl rfl) (pe_op op_sub (pe_op op_add (pv 0) (pv 1)) pe_int))
      (pss_cons (ps_while PassesOwn.never (pt_cmpR op_gt (pv 2) pe_int (nomark _))
        (pss_cons (ps_set (i := 3) sc_llong.nd rfl (Or.inl rfl) (pe_op op_add (pe_op op_add (pv 3) (pe_op op_mod (pv 4) pe_int)) (pe_callTy call_int1 rfl B.int boot_int' (pa_cons (pe_and (pe_cmpR op_eq (pe_op op_mod (pv 5) pe_int) pe_int (nomark _)) (pe_one (pe_cmpR op_lt (pv 5) (pe_op op_sub (pv 2) pe_int) (nomark _)))) pa_nil))))
        (pss_cons (ps_set (i := 4) sc_llong.nd rfl (Or.inl rfl) (pe_op op_fdiv (pv 4) pe_int))
        (pss_cons (ps_set (i := 5) sc_llong.nd rfl (Or.inl rfl) (pe_op op_fdiv (pv 5) pe_int))
        (pss_one (ps_set (i := 2) sc_llong.nd rfl (Or.inl rfl) (pe_op op_fdiv (pe_op op_add (pv 2) pe_int) pe_int)))))))
      (pss_one (ps_ret (pv 3))))))), ?_⟩
    refine ⟨_, rfl, ?_⟩
    refine ⟨_, rfl, _, rfl, _, _, rfl, rfl, _, _, rfl, rfl, ?_⟩
    refine gNz (v' := V.int (((f + c : Nat) : Int) - 1)) (congrArg V.int (by trivial)) ?_
    refine ⟨fun mm σ H' => ∃ (b e w fd : Nat), mm = w ∧ σ = [some (.int (f : Int)), some (.int (c : Int)), some (.int (w : Int)), some (.int (fd : Nat)), some (.int (b : Nat)), some (.int ((e : Int) - 1))] ∧ b < e ∧ e ≤ w ∧ fd + wnt b e w = wnt f (f + c) m ∧ H' = H,
      ⟨_, f, f + c, m, 0, rfl, rfl, by trivial, hfm, by trivial, rfl⟩, ?_⟩
    rintro mm σ H' ⟨b, e, w, fd, ew, rfl, hbe, hew, hwn, rfl⟩
    obtain rfl : w = mm := ew.symm
    refine ⟨_, rfl, _, _, rfl, rfl, _, rfl, ?_⟩
    by_cases h2 : 2 ≤ w
    rotate_left
    · rw [decide_eq_false (show ¬ (1 : Int) < ((w : Nat) : Int) by trivial)]
      refine iteF ?_
      rw [wnt_one (by trivial), Nat.add_zero] at hwn
      refine ⟨_, rfl, ?_⟩
      rw [hwn]
      exact hQ
    rw [decide_eq_true (show (1 : Int) < ((w : Nat) : Int) by trivial)]
    refine iteT ?_
    refine ⟨fun σ' H'' => ∃ m', m' < w ∧ ∃ (b e w fd : Nat), m' = w ∧ σ' = [some (.int (f : Int)), some (.int (c : Int)), some (.int (w : Int)), some (.int (fd : Nat)), some (.int (b : Nat)), some (.int ((e : Int) - 1))] ∧ b < e ∧ e ≤ w ∧ fd + wnt b e w = wnt f (f + c) m ∧ H'' = H', fun σ' H'' z => z, ?_⟩
    refine ⟨_, rfl, _, rfl, _, _, rfl, rfl, (by show (0 : Int) < 2; decide), _, _, rfl, rfl, _, rfl, _, _, rfl, rfl, (by show (0 : Int) < 2; decide), rfl, _, rfl, ?_⟩
    by_cases hp : ((e : Int) - 1) % 2 = 0
    · refine iteTD (congrArg V.int hp) ?_
      refine ⟨_, rfl, _, rfl, _, _, rfl, rfl, _, _, rfl, rfl, .inr ⟨_, rfl, _, _, rfl, rfl, ?_⟩⟩
      have eA : ((fd + ((if b % 2 = 1 then 1 else 0) + (if e % 2 = 1 ∧ e < w then 1 else 0)) : Nat) : Int) = (fd : Int) + (b : Int) % 2 + (if decide ((e : Int) - 1 < (w : Int) - 1) = true then (1 : Int) else 0) := by
        by_cases hq : (e : Int) - 1 < (w : Int) - 1
        · rw [if_pos (decide_eq_true hq)]; split <;> split <;> trivial
        · rw [if_neg (show ¬ decide ((e : Int) - 1 < (w : Int) - 1) = true by rw [decide_eq_false hq]; decide)]; split <;> split <;> trivial
      refine gNz (v' := V.int ((fd + ((if b % 2 = 1 then 1 else 0) + (if e % 2 = 1 ∧ e < w then 1 else 0)) : Nat) : Int)) (congrArg V.int eA) ?_
      refine ⟨_, rfl, _, _, rfl, rfl, ⟨by decide, by decide⟩, ?_⟩
      refine gNz (v' := V.int ((b / 2 : Nat) : Int)) (congrArg V.int (by trivial)) ?_
      refine ⟨_, rfl, _, _, rfl, rfl, ⟨by decide, by decide⟩, ?_⟩
      refine gNz (v' := V.int ((((e + 1) / 2 : Nat) : Int) - 1)) (congrArg V.int (by trivial)) ?_
      refine ⟨_, rfl, _, _, rfl, rfl, _, _, rfl, rfl, ⟨by decide, by decide⟩, ?_⟩
      refine gNz (v' := V.int (((w + 1) / 2 : Nat) : Int)) (congrArg V.int (by trivial)) ?_
      exact ⟨(w + 1) / 2, by trivial, b / 2, (e + 1) / 2, (w + 1) / 2, _, rfl, rfl, by trivial, by trivial, wnt_step h2 hwn, rfl⟩
    · refine iteFD (fun z => hp (V.int.inj z)) ?_
      refine .inr ⟨_, rfl, _, _, rfl, rfl, ?_⟩
      have eA : ((fd + ((if b % 2 = 1 then 1 else 0) + (if e % 2 = 1 ∧ e < w then 1 else 0)) : Nat) : Int) = (fd : Int) + (b : Int) % 2 + (if false = true then (1 : Int) else 0) := by
        rw [if_neg (show ¬ false = true by decide)]; split <;> split <;> trivial
      refine gNz (v' := V.int ((fd + ((if b % 2 = 1 then 1 else 0) + (if e % 2 = 1 ∧ e < w then 1 else 0)) : Nat) : Int)) (congrArg V.int eA) ?_
      refine ⟨_, rfl, _, _, rfl, rfl, ⟨by decide, by decide⟩, ?_⟩
      refine gNz (v' := V.int ((b / 2 : Nat) : Int)) (congrArg V.int (by trivial)) ?_
      refine ⟨_, rfl, _, _, rfl, rfl, ⟨by decide, by decide⟩, ?_⟩
      refine gNz (v' := V.int ((((e + 1) / 2 : Nat) : Int) - 1)) (congrArg V.int (by trivial)) ?_
      refine ⟨_, rfl, _, _, rfl, rfl, _, _, rfl, rfl, ⟨by decide, by decide⟩, ?_⟩
      refine gNz (v' := V.int (((w + 1) / 2 : Nat) : Int)) (congrArg V.int (by trivial)) ?_
      exact ⟨(w + 1) / 2, by trivial, b / 2, (e + 1) / 2, (w + 1) / 2, _, rfl, rfl, by trivial, by trivial, wnt_step h2 hwn, rfl⟩
end
end K69
set_option Elab.async false
set_option linter.all false
set_option maxRecDepth 100000
set_option maxHeartbeats 4000000
namespace K69
open PySem L2 PySem.W PH
section
variable {P : Program} {w : World} {K : PySem.W.Frag} {mg : Str → Option Value} {base : Heap}
theorem sc_lfits : FnScope ["numbers", "first", "blocks", "paper"] ["numbers", "first", "blocks", "paper"] (defScope s_lfits) := ⟨rfl, rfl, rfl, by decide +kernel, rfl, by decide +kernel, by decide +kernel⟩
theorem ok_lfits {f f_llong : Addr} {fd d_llong : FuncData} (F : Fun K "_law_fits" "_law_fits" s_lfits f fd) (B : Bls mg) 
    (G_llong : FnOk P w K mg base (CXW P w) 1 f_llong d_llong ["first", "count", "many"] (spLong67)) (b_llong : Binds K d_llong ["first", "count", "many"] []) (k_llong : keepIn K (.ref f_llong) = true) (m_llong : mg "_law_long" = some (.ref f_llong)) : FnOk P w K mg base (CXW P w) 2 f fd ["numbers", "first", "blocks", "paper"] (spFits67) := by
  refine F.okN sc_lfits (fun vs H Q E h => ?_) (fun cdv A outer s H vs Q E hr h => ?_)
  · obtain ⟨N, Bq, Pp, bs, p, b, m, n0, n1, rfl, _⟩ := h
    rfl
  · obtain ⟨N, Bq, Pp, bs, p, b, m, n0, n1, rfl, hN, hd, hQ⟩ := h
    refine ⟨_, (pss_cons (ps_if (PW.pt (pw_or (pt_cmpR (op_eqD (units_of hr)) (pv 2) (pe_lst pa_nil) (nomark _)) (pw_or (pt_cmpR op_lt (pv 1) pe_int (nomark _)) (pw_or1 (pt_cmpR op_gt (pe_op op_add (pv 1) (pe_callB call_len_seq rfl B.len PySem.boot_len (pa_cons (pv 2) pa_nil))) (pe_ix ix_tup (pv 0) pe_int (fun _ _ => rfl)) (nomark _))))))
        (pss_one (ps_ret pe_bl))
        pss_nil)
      (pss_cons (ps_if (pt_cmpR (op_neL (units_of hr)) (pe_comp (N := ["way", "bits"]) (js := [none, none]) (g := (gTup K 2 (gCons (gName 0) (gCons (gName 1) gNil)))) (tc := (tOr (tTest (tOp (rI0 fun i j => .bl (decide (i < j))) (tVar 0) (tC (.int 0)))) (tTest (tOp (rNeI K) (tComp [none] (iList K (tVar 1)) (gName 0) (tTest (tOp (rI0 fun i j => .bl (decide (i < j))) (tVar 0) (tC (.int 0)))) (tVar 0)) (tLst tNil))))) (te := (tC (.int 1))) rfl (comp_scope (osc := defScope s_lfits) (XN := ["numbers", "first", "blocks", "paper"]) rfl rfl rfl (by decide +kernel)) (pi_list (pv 2)) (fun _ _ _ _ => (pg_tup rfl (pgs_cons (pg_name (i := 0) (show (["way", "bits"] : List Str).Nodup by decide +kernel) rfl (Or.inl rfl)) (pgs_cons (pg_name (i := 1) (show (["way", "bits"] : List Str).Nodup by decide +kernel) rfl (Or.inl rfl)) pgs_nil)))) (fun _ _ _ _ => (pif_one (PW.pt (pw_or (pt_cmpR op_lt (pv 0) pe_int (nomark _)) (pw_or1 (pt_cmpR (op_neL (units_of hr)) (pe_comp (N := ["bit"]) (js := [none]) (g := (gName 0)) (tc := (tTest (tOp (rI0 fun i j => .bl (decide (i < j))) (tVar 0) (tC (.int 0))))) (te := (tVar 0)) rfl (comp_scope (osc := { kind := .function, names := [(".0", .local), ("way", .local), ("bits", .local)], isGenerator := false, isCoroutine := false }) (XN := ["way", "bits"]) rfl rfl rfl (by decide +kernel)) (pi_list (pv 1)) (fun _ _ _ _ => pg_name (i := 0) (show (["bit"] : List Str).Nodup by decide +kernel) rfl (Or.inl rfl)) (fun _ _ _ _ => (pif_one (pt_cmpR op_lt (pv 0) pe_int (nomark _)))) (fun _ _ _ _ => (pv 0))) (pe_lst pa_nil) (nomark _))))))) (fun _ _ _ _ => pe_int)) (pe_lst pa_nil) (nomark _))
        (pss_one (ps_ret pe_bl))
        pss_nil)
      (pss_cons (ps_if (pt_cmpR (op_neL (units_of hr)) (pe_comp (N := ["one"]) (js := [none]) (g := (gName 0)) (tc := (tOr (tTest (tOp (rI0 fun i j => .bl (decide (i < j))) (tVar 0) (tC (.int 0)))) (tTest (tOp (rI0 fun i j => .bl (decide (j ≤ i))) (tVar 0) (tC (.int 2305843009213693951)))))) (te := (tVar 0)) rfl (comp_scope (osc := defScope s_lfits) (XN := ["numbers", "first", "blocks", "paper"]) rfl rfl rfl (by decide +kernel)) (pi_list (pv 3)) (fun _ _ _ _ => pg_name (i := 0) (show (["one"] : List Str).Nodup by decide +kernel) rfl (Or.inl rfl)) (fun _ _ _ _ => (pif_one (PW.pt (pw_or (pt_cmpR op_lt (pv 0) pe_int (nomark _)) (pw_or1 (pt_cmpR op_ge (pv 0) pe_int (nomark _))))))) (fun _ _ _ _ => (pv 0))) (pe_lst pa_nil) (nomark _))
        (pss_one (ps_ret pe_bl))
        pss_nil)
      (pss_one (ps_ret (pe_cmpR op_eq (pe_callB call_len_seq rfl B.len PySem.boot_len (pa_cons (pv 3) pa_nil)) (pe_call G_llong hr rfl m_llong k_llong b_llong .nil passN (pa_cons (pv 1) (pa_cons (pe_callB call_len_seq rfl B.len PySem.boot_len (pa_cons (pv 2) pa_nil)) (pa_cons (pe_ix ix_tup (pv 0) pe_int (fun _ _ => rfl)) pa_nil)))) (nomark _))))))), ?_⟩
    have hbn := hd.bn
    have hpl := hd.plen
    have bk := hd.bk
    have hvl : (bkv bs).length = bs.length := bkv_len bs
    have no : ¬ (0 ≤ b ∧ 1 ≤ (bkv bs).length ∧ b + ((bkv bs).length : Nat) ≤ m ∧ (bkv bs).all okW = true ∧ okR p = true) → ∀ H', Same H H' → Q (.bl false) H' := fun h H' s => by
      have := hQ H' s
      unfold fitV at this
      rw [show msh m b (bkv bs) p = false from Bool.eq_false_iff.mpr fun e => h (msh_iff.mp e)] at this
      exact this
    refine ⟨_, rfl, (by show 0 ≤ sizeLine; decide), fun e0 he0 => ?_⟩
    have ue := same_new he0 (.lst [])
    have ee : upd H e0 (.lst []) e0 = some (.lst []) := upd_same
    generalize upd H e0 (.lst []) = H1 at ue ee ⊢
    refine ⟨_, _, (bk.same ue).deep, .lst (SqL.of ee) .nil, ht_wrD _, _, rfl, ?_⟩
    rw [eqD_wnil]
    by_cases h1 : bkv bs = []
    · refine iteTD h1 (iteT ?_)
      exact no (fun h => by rw [h1] at h; exact absurd h.2.1 (by decide)) H1 ue
    refine iteFD h1 ?_
    have hne : 1 ≤ bs.length := by
      rw [← hvl]
      exact List.length_pos_iff.mpr h1
    refine ⟨_, rfl, _, _, rfl, rfl, _, rfl, ?_⟩
    by_cases h2 : b < 0
    · rw [decide_eq_true h2]
      exact iteT (iteT (no (fun h => by trivial) H1 ue))
    rw [decide_eq_false h2]
    refine iteF ?_
    refine ⟨_, rfl, _, rfl, Bq, _, rfl, .inl (SqL.of (ue _ _ bk.at_)), _, _, rfl, rfl, _, rfl, N, _, _, _, rfl, rfl, SqT.of (ue _ _ hN), rfl, _, _, rfl, rfl, _, rfl, ?_⟩
    rw [List.length_map]
    by_cases h3 : m < b + ((bs.length : Nat) : Int)
    · rw [decide_eq_true h3]
      exact iteT (no (fun h => by trivial) H1 ue)
    rw [decide_eq_false h3]
    refine iteF ?_
    have bk1 := bk.same ue
    refine ⟨_, rfl, Bq, rfl, ⟨_, SqL.of bk1.at_⟩, fun D hD => ?_⟩
    refine comp_lstQ (K := K) (a := Bq) (xs := bs.map fun w => V.ref w.1) (fun i σ' H' => ∃ (v0 v1 : Option V) (ks : List Int), σ' = [v0, v1] ∧ H' D = some (lsI ks) ∧ ks.length ≤ i ∧ (ks = [] ↔ ((bkv bs).take i).all okW = true) ∧ Same H1 H')
      ⟨none, none, [], rfl, upd_same, Nat.le_refl _, ⟨fun _ => rfl, fun _ => rfl⟩, same_new hD _⟩ (fun i σ' H' _ ⟨_, _, _, _, _, _, _, e⟩ => SqL.of (e _ _ bk1.at_)) ?_ ?_
    · rintro i y σ' H' hi ⟨v0, v1, ks, rfl, hD', hkl, hks, sm⟩
      have hlt : i < (bs.map fun w => V.ref w.1).length := (List.getElem?_eq_some_iff.mp hi).1
      have hil : i < bs.length := by rw [List.length_map] at hlt; exact hlt
      obtain ⟨z, hz⟩ := bounded_at hil
      rw [List.getElem?_map, hz] at hi
      have ey : V.ref z.1 = y := Option.some.inj hi
      subst ey
      have hm := List.mem_of_getElem? hz
      have he := bk1.each z hm
      have hzv : (bkv bs)[i]? = some (z.2.1, z.2.2.2) := by unfold bkv; rw [List.getElem?_map, hz]; rfl
      have hall : ((bkv bs).take (i + 1)).all okW = (((bkv bs).take i).all okW && okW (z.2.1, z.2.2.2)) := by rw [take_at hzv, List.all_append, List.all_cons, List.all_nil, Bool.and_true]
      have bad : okW (z.2.1, z.2.2.2) = false → (ks ++ [1] = [] ↔ ((bkv bs).take (i + 1)).all okW = true) := fun h => by
        rw [hall, h, Bool.and_false]
        exact ⟨(fun e => by simp at e), (fun e => by cases e)⟩
      refine ⟨z.1, _, rfl, SqT.of (sm _ _ he.1), rfl, _, _, rfl, _, _, rfl, rfl, ?_⟩
      refine ⟨_, rfl, _, _, rfl, rfl, _, rfl, ?_⟩
      by_cases hw : z.2.1 < 0
      · rw [decide_eq_true hw]
        refine iteT (iteT ?_)
        refine ⟨D, _, _, rfl, rfl, hD', fits_lt (by rw [List.length_map]; trivial), ?_⟩
        exact CW.next hlt ⟨_, _, ks ++ [1], rfl, by rw [upd_same, lsI_app1], by rw [List.length_append, List.length_singleton]; trivial, bad (by unfold okW; rw [show decide (0 ≤ (z.2.1, z.2.2.2).1) = false from decide_eq_false (by show ¬ 0 ≤ z.2.1; trivial)]; rfl), same_upd sm _ hD⟩
      rw [decide_eq_false hw]
      refine iteF ?_
      have hbz := hd.bl z hm
      have hl' := sm _ _ he.2
      refine ⟨_, rfl, z.2.2.1, rfl, ⟨_, SqL.of hl'⟩, fun E hE => ?_⟩
      refine comp_lstQ (K := K) (a := z.2.2.1) (xs := z.2.2.2.map V.int) (fun j σ' H'' => ∃ (v0 : Option V) (qs : List Int), σ' = [v0] ∧ H'' E = some (lsI qs) ∧ qs.length ≤ j ∧ (qs = [] ↔ (z.2.2.2.take j).all (fun x => decide (0 ≤ x)) = true) ∧ Same H' H'')
        ⟨none, [], rfl, upd_same, Nat.le_refl _, ⟨fun _ => rfl, fun _ => rfl⟩, same_new hE _⟩ (fun i σ' H' _ ⟨_, _, _, _, _, _, e⟩ => SqL.of (e _ _ hl')) ?_ ?_
      · rintro j y σ' H'' hj ⟨v0, qs, rfl, hE', hql, hqs, smj⟩
        have hjt : j < (z.2.2.2.map V.int).length := (List.getElem?_eq_some_iff.mp hj).1
        have hjl : j < z.2.2.2.length := by rw [List.length_map] at hjt; exact hjt
        obtain ⟨x, rfl, hx⟩ := int_at hj
        have hallj : (z.2.2.2.take (j + 1)).all (fun x => decide (0 ≤ x)) = ((z.2.2.2.take j).all (fun x => decide (0 ≤ x)) && decide (0 ≤ x)) := by rw [take_at hx, List.all_append, List.all_cons, List.all_nil, Bool.and_true]
        refine ⟨_, rfl, _, _, rfl, rfl, _, rfl, ?_⟩
        by_cases hx0 : x < 0
        · rw [decide_eq_true hx0]
          refine iteT ?_
          refine ⟨_, rfl, E, _, _, rfl, rfl, hE', fits_lt (by rw [List.length_map]; trivial), ?_⟩
          refine CW.next hjt ⟨_, qs ++ [x], rfl, by rw [upd_same, lsI_app1], by rw [List.length_append, List.length_singleton]; trivial, ?_, same_upd smj _ hE⟩
          rw [hallj, decide_eq_false (show ¬ 0 ≤ x by trivial), Bool.and_false]
          exact ⟨(fun e => by simp at e), (fun e => by cases e)⟩
        · rw [decide_eq_false hx0]
          refine iteF ?_
          refine CW.next hjt ⟨_, qs, rfl, hE', by trivial, ?_, smj⟩
          rw [hallj, decide_eq_true (show 0 ≤ x by trivial), Bool.and_true]
          exact hqs
      rintro σ' H5 ⟨v0', qs, rfl, hE5, hql, hqs, sm5⟩
      rw [List.length_map, List.take_length] at hqs
      refine ⟨(by show 0 ≤ sizeLine; decide), fun e1 he1 => ?_⟩
      have ue1 := same_new he1 (.lst [])
      have ee1 : upd H5 e1 (.lst []) e1 = some (lsI []) := upd_same
      generalize upd H5 e1 (.lst []) = H6 at ue1 ee1 ⊢
      refine ⟨E, e1, _, [], rfl, rfl, SqL.of (ue1 _ _ hE5), SqL.of ee1, _, rfl, ?_⟩
      have s06 := sm5.trans ue1
      have hokw : okW (z.2.1, z.2.2.2) = z.2.2.2.all (fun x => decide (0 ≤ x)) := by
        unfold okW
        rw [show decide (0 ≤ (z.2.1, z.2.2.2).1) = true from decide_eq_true (by show 0 ≤ z.2.1; trivial), Bool.true_and]
      by_cases hq0 : qs = []
      · refine iteNS hq0 ?_
        refine CW.next hlt ⟨_, _, ks, rfl, s06 _ _ hD', by trivial, ?_, sm.trans s06⟩
        rw [hall, hokw, hqs.mp hq0, Bool.and_true]
        exact hks
      · refine iteNTG hq0 ?_
        refine ⟨D, _, _, rfl, rfl, s06 _ _ hD', fits_lt (by rw [List.length_map]; trivial), ?_⟩
        refine CW.next hlt ⟨_, _, ks ++ [1], rfl, by rw [upd_same, lsI_app1], by rw [List.length_append, List.length_singleton]; trivial, bad ?_, same_upd (sm.trans s06) _ hD⟩
        rw [hokw]
        exact Bool.eq_false_iff.mpr fun e => hq0 (hqs.mpr e)
    rintro σ' H2 ⟨v0, v1, ks, rfl, hD2, hkl, hks, sm2⟩
    rw [List.length_map, ← hvl, List.take_length] at hks
    refine ⟨(by show 0 ≤ sizeLine; decide), fun e2 he2 => ?_⟩
    have ue2 := same_new he2 (.lst [])
    have ee2 : upd H2 e2 (.lst []) e2 = some (lsI []) := upd_same
    generalize upd H2 e2 (.lst []) = H3 at ue2 ee2 ⊢
    refine ⟨D, e2, _, [], rfl, rfl, SqL.of (ue2 _ _ hD2), SqL.of ee2, _, rfl, ?_⟩
    have s3 := ue.trans (sm2.trans ue2)
    by_cases hk0 : ks = []
    rotate_left
    · refine iteNTG hk0 ?_
      exact no (fun h => hk0 (hks.mpr h.2.2.2.1)) H3 s3
    refine iteNS hk0 ?_
    have hpp := s3 _ _ hd.pp
    refine ⟨_, rfl, Pp, rfl, ⟨_, SqL.of hpp⟩, fun E hE => ?_⟩
    refine comp_lstQ (K := K) (a := Pp) (xs := p.map V.int) (fun j σ' H'' => ∃ (v0 : Option V) (qs : List Int), σ' = [v0] ∧ H'' E = some (lsI qs) ∧ qs.length ≤ j ∧ (qs = [] ↔ okR (p.take j) = true) ∧ Same H3 H'')
      ⟨none, [], rfl, upd_same, Nat.le_refl _, ⟨fun _ => rfl, fun _ => rfl⟩, same_new hE _⟩ (fun i σ' H' _ ⟨_, _, _, _, _, _, e⟩ => SqL.of (e _ _ hpp)) ?_ ?_
    · rintro j y σ' H'' hj ⟨v0, qs, rfl, hE', hql, hqs, smj⟩
      have hjt : j < (p.map V.int).length := (List.getElem?_eq_some_iff.mp hj).1
      have hjl : j < p.length := by rw [List.length_map] at hjt; exact hjt
      obtain ⟨x, rfl, hx⟩ := int_at hj
      have hallj : okR (p.take (j + 1)) = (okR (p.take j) && (decide (0 ≤ x) && decide (x < 2305843009213693951))) := by
        unfold okR
        rw [take_at hx, List.all_append, List.all_cons, List.all_nil, Bool.and_true]
      have bad : (decide (0 ≤ x) && decide (x < 2305843009213693951)) = false → (qs ++ [x] = [] ↔ okR (p.take (j + 1)) = true) := fun h => by
        rw [hallj, h, Bool.and_false]
        exact ⟨(fun e => by simp at e), (fun e => by cases e)⟩
      refine ⟨_, rfl, _, _, rfl, rfl, _, rfl, ?_⟩
      by_cases hx0 : x < 0
      · rw [decide_eq_true hx0]
        refine iteT (iteT ?_)
        refine ⟨_, rfl, E, _, _, rfl, rfl, hE', fits_lt (by rw [List.length_map]; trivial), ?_⟩
        exact CW.next hjt ⟨_, qs ++ [x], rfl, by rw [upd_same, lsI_app1], by rw [List.length_append, List.length_singleton]; trivial, bad (by rw [decide_eq_false (show ¬ 0 ≤ x by trivial)]; rfl), same_upd smj _ hE⟩
      rw [decide_eq_false hx0]
      refine iteF ?_
      refine ⟨_, rfl, _, _, rfl, rfl, _, rfl, ?_⟩
      by_cases hx1 : (2305843009213693951 : Int) ≤ x
      · rw [decide_eq_true hx1]
        refine iteT ?_
        refine ⟨_, rfl, E, _, _, rfl, rfl, hE', fits_lt (by rw [List.length_map]; trivial), ?_⟩
        exact CW.next hjt ⟨_, qs ++ [x], rfl, by rw [upd_same, lsI_app1], by rw [List.length_append, List.length_singleton]; trivial, bad (by rw [decide_eq_false (show ¬ x < 2305843009213693951 by trivial), Bool.and_false]), same_upd smj _ hE⟩
      rw [decide_eq_false hx1]
      refine iteF ?_
      refine CW.next hjt ⟨_, qs, rfl, hE', by trivial, ?_, smj⟩
      rw [hallj, decide_eq_true (show 0 ≤ x by trivial), decide_eq_true (show x < 2305843009213693951 by trivial), Bool.true_and, Bool.and_true]
      exact hqs
    rintro σ' H5 ⟨v0', qs, rfl, hE5, hql, hqs, sm5⟩
    rw [List.length_map, List.take_length] at hqs
    refine ⟨(by show 0 ≤ sizeLine; decide), fun e3 he3 => ?_⟩
    have ue3 := same_new he3 (.lst [])
    have ee3 : upd H5 e3 (.lst []) e3 = some (lsI []) := upd_same
    generalize upd H5 e3 (.lst []) = H6 at ue3 ee3 ⊢
    refine ⟨E, e3, _, [], rfl, rfl, SqL.of (ue3 _ _ hE5), SqL.of ee3, _, rfl, ?_⟩
    have s6 := s3.trans (sm5.trans ue3)
    by_cases hq0 : qs = []
    rotate_left
    · refine iteNTG hq0 ?_
      exact no (fun h => hq0 (hqs.mpr h.2.2.2.2)) H6 s6
    refine iteNS hq0 ?_
    have yes : msh m b (bkv bs) p = true := msh_iff.mpr ⟨by trivial, by trivial, by trivial, hks.mp hk0, hqs.mp hq0⟩
    obtain ⟨b', rfl⟩ : ∃ b' : Nat, b = (b' : Int) := ⟨b.toNat, by trivial⟩
    obtain ⟨m', rfl⟩ : ∃ m' : Nat, m = (m' : Int) := ⟨m.toNat, by trivial⟩
    refine ⟨_, rfl, Pp, _, rfl, .inl (SqL.of (s6 _ _ hd.pp)), _, rfl, _, rfl, Bq, _, rfl, .inl (SqL.of (s6 _ _ bk.at_)), _, rfl, N, _, _, _, rfl, rfl, SqT.of (s6 _ _ hN), rfl, b', bs.length, m', congrArg (fun y : Nat => [V.int (b' : Int), V.int (y : Int), V.int (m' : Int)]) (List.length_map _), hne, by trivial, rfl, ?_⟩
    have h := hQ H6 s6
    unfold fitV at h
    rw [yes, Bool.true_and, Int.toNat_natCast, Int.toNat_natCast, hvl] at h
    rw [List.length_map]
    have ed : decide (V.int ((p.length : Nat) : Int) = V.int ((wnt b' (b' + bs.length) m' : Nat) : Int)) = decide (p.length = wnt b' (b' + bs.length) m') := decide_eq_decide.mpr ⟨fun e => by have := V.int.inj e; trivial, fun e => by rw [e]⟩
    rw [ed]
    exact h
end
end K69
set_option Elab.async false
set_option linter.all false
set_option maxRecDepth 100000
set_option maxHeartbeats 4000000
namespace K69
open PySem L2 PySem.W PH
section
variable {P : Program} {w : World} {K : PySem.W.Frag} {mg : Str → Option Value} {base : Heap}
theorem sc_ldrawn : FnScope ["script", "blocks", "many", "size", "numbers", "first", "last", "shown", "paper", "others", "other", "cell"] ["script"] (defScope s_ldrawn) := ⟨rfl, rfl, rfl, by decide +kernel, rfl, by decide +kernel, by decide +kernel⟩
theorem ok_ldrawn {f c_NoPlace f_paper f_cellat f_lbits f_lcopy f_lanother f_lspoilt f_lpaper : Addr} {fd d_paper d_cellat d_lbits d_lcopy d_lanother d_lspoilt d_lpaper : FuncData} (F : Fun K "_law_drawn" "_law_drawn" s_ldrawn f fd) (B : Bls mg) 
    (G_paper : FnOk P w K mg base (CXW P w) 6 f_paper d_paper ["container", "first", "last"] (spPaper c_NoPlace)) (b_paper : Binds K d_paper ["container", "first", "last"] []) (k_paper : keepIn K (.ref f_paper) = true) (m_paper : mg "paper_of" = some (.ref f_paper)) 
    (G_cellat : FnOk P w K mg base (CXW P w) 1 f_cellat d_cellat ["script", "k"] (spCellAt K)) (b_cellat : Binds K d_cellat ["script", "k"] []) (k_cellat : keepIn K (.ref f_cellat) = true) (m_cellat : mg "_law_cell_at" = some (.ref f_cellat)) 
    (G_lbits : FnOk P w K mg base (CXW P w) 1 f_lbits d_lbits ["number"] (spBits68)) (b_lbits : Binds K d_lbits ["number"] []) (k_lbits : keepIn K (.ref f_lbits) = true) (m_lbits : mg "_law_bits" = some (.ref f_lbits)) 
    (G_lcopy : FnOk P w K mg base (CXW P w) 1 f_lcopy d_lcopy ["blocks"] (spCopy)) (b_lcopy : Binds K d_lcopy ["blocks"] []) (k_lcopy : keepIn K (.ref f_lcopy) = true) (m_lcopy : mg "_law_copy" = some (.ref f_lcopy)) 
    (G_lanother : FnOk P w K mg base (CXW P w) 2 f_lanother d_lanother ["shown", "cell", "cells"] (spAnother)) (b_lanother : Binds K d_lanother ["shown", "cell", "cells"] []) (k_lanother : keepIn K (.ref f_lanother) = true) (m_lanother : mg "_law_another" = some (.ref f_lanother)) 
    (G_lspoilt : FnOk P w K mg base (CXW P w) 2 f_lspoilt d_lspoilt ["blocks", "paper", "cell"] (spSpoilt69)) (b_lspoilt : Binds K d_lspoilt ["blocks", "paper", "cell"] []) (k_lspoilt : keepIn K (.ref f_lspoilt) = true) (m_lspoilt : mg "_law_spoilt" = some (.ref f_lspoilt)) 
    (G_lpaper : FnOk P w K mg base (CXW P w) 3 f_lpaper d_lpaper ["numbers", "first", "shown", "paper", "others", "cell"] (spPaper69)) (b_lpaper : Binds K d_lpaper ["numbers", "first", "shown", "paper", "others", "cell"] []) (k_lpaper : keepIn K (.ref f_lpaper) = true) (m_lpaper : mg "_law_paper" = some (.ref f_lpaper)) : FnOk P w K mg base (CXW P w) 7 f fd ["script"] (spDrawn69 K) := by
  refine F.okN sc_ldrawn (fun vs H Q E h => ?_) (fun cdv A outer s H vs Q E hr h => ?_)
  · obtain ⟨a, ns, rfl, _⟩ := h
    rfl
  · obtain ⟨a, ns, rfl, hS, h63, hQ⟩ := h
    refine ⟨_, (pss_cons (ps_setC (iy := 1) (N := ["cell"]) (js := [none]) (g := (gName 0)) (tc := tTrue) (te := (tTup (tCons (tOp (rI (fun _ j => 0 < j) fun i j => .int (i % j)) (tVar 0) (tC (.int 6))) (tCons (tCall (spBits68) [] E0 (tCons (tOp (rI CDiv fun i j => .int (i / j)) (tVar 0) (tC (.int 6))) tNil)) tNil)))) sc_ldrawn.nd rfl rfl rfl (comp_scope (osc := defScope s_ldrawn) (XN := ["script", "blocks", "many", "size", "numbers", "first", "last", "shown", "paper", "others", "other", "cell"]) rfl rfl rfl (by decide +kernel)) (pi_list (pe_op op_cat (pe_slice sl_list (pv 0) (po_some pe_int) (po_some pe_int)) (pe_lst (pa_cons (pe_call G_cellat (hr.mono (show 1 ≤ 6 by decide)) rfl m_cellat k_cellat b_cellat .nil passN (pa_cons (pv 0) (pa_cons pe_int pa_nil))) pa_nil)))) (fun _ _ _ _ => pg_name (i := 0) (show (["cell"] : List Str).Nodup by decide +kernel) rfl (Or.inl rfl)) (fun _ _ _ _ => pif_nil) (fun _ _ _ _ => (pe_tup (pa_cons (pe_op op_mod (pv 0) pe_int) (pa_cons (pe_call G_lbits (hr.mono (show 1 ≤ 6 by decide)) rfl m_lbits k_lbits b_lbits .nil passN (pa_cons (pe_op op_fdiv (pv 0) pe_int) pa_nil)) pa_nil)))))
      (pss_cons (ps_set (i := 2) sc_ldrawn.nd rfl (Or.inl rfl) (pe_callB call_len_seq rfl B.len PySem.boot_len (pa_cons (pv 1) pa_nil)))
      (pss_cons (ps_set (i := 3) sc_ldrawn.nd rfl (Or.inl rfl) (pe_op op_add pe_int (pe_op op_mod (pe_call G_cellat (hr.mono (show 1 ≤ 6 by decide)) rfl m_cellat k_cellat b_cellat .nil passN (pa_cons (pv 0) (pa_cons pe_int pa_nil))) (pe_callB (call_min2 rfl) rfl B.min boot_min' (pa_cons pe_int (pa_cons (pe_op op_fdiv pe_int (pv 2)) pa_nil))))))
      (pss_cons (ps_set (i := 4) sc_ldrawn.nd rfl (Or.inl rfl) (pe_tup (pa_cons (pv 3) (pa_cons (pe_op op_add (pe_op op_add (pe_op op_mul (pe_op op_sub (pv 2) pe_int) (pv 3)) pe_int) (pe_op op_mod (pe_call G_cellat (hr.mono (show 1 ≤ 6 by decide)) rfl m_cellat k_cellat b_cellat .nil passN (pa_cons (pv 0) (pa_cons pe_int pa_nil))) (pv 3))) (pa_cons (pv 2) pa_nil)))))
      (pss_cons (ps_set (i := 5) sc_ldrawn.nd rfl (Or.inl rfl) (pe_op op_mod (pe_call G_cellat (hr.mono (show 1 ≤ 6 by decide)) rfl m_cellat k_cellat b_cellat .nil passN (pa_cons (pv 0) (pa_cons pe_int pa_nil))) (pv 2)))
      (pss_cons (ps_set (i := 6) sc_ldrawn.nd rfl (Or.inl rfl) (pe_op op_add (pe_op op_add (pv 5) pe_int) (pe_op op_mod (pe_call G_cellat (hr.mono (show 1 ≤ 6 by decide)) rfl m_cellat k_cellat b_cellat .nil passN (pa_cons (pv 0) (pa_cons pe_int pa_nil))) (pe_op op_sub (pv 2) (pv 5)))))
      (pss_cons (ps_set (i := 7) sc_ldrawn.nd rfl (Or.inl rfl) (pe_slice sl_list (pv 1) (po_some (pv 5)) (po_some (pv 6))))
      (pss_cons (ps_set (i := 8) sc_ldrawn.nd rfl (Or.inl rfl) (pe_call G_paper hr rfl m_paper k_paper b_paper .nil passN (pa_cons (pe_tup (pa_cons (pv 3) (pa_cons (pe_ix ix_tup (pv 4) pe_int (fun _ _ => rfl)) (pa_cons (pe_call G_lcopy (hr.mono (show 1 ≤ 6 by decide)) rfl m_lcopy k_lcopy b_lcopy .nil passN (pa_cons (pv 1) pa_nil)) pa_nil)))) (pa_cons (pv 5) (pa_cons (pv 6) pa_nil)))))
      (pss_cons (ps_set (i := 9) sc_ldrawn.nd rfl (Or.inl rfl) (pe_call G_lanother (hr.mono (show 2 ≤ 6 by decide)) rfl m_lanother k_lanother b_lanother .nil passN (pa_cons (pv 7) (pa_cons (pe_call G_cellat (hr.mono (show 1 ≤ 6 by decide)) rfl m_cellat k_cellat b_cellat .nil passN (pa_cons (pv 0) (pa_cons pe_int pa_nil))) (pa_cons (pe_comp (N := ["k", "script"]) (js := [none, some 0]) (g := (gName 0)) (tc := tTrue) (te := (tCall (spCellAt K) [] E0 (tCons (tVar 1) (tCons (tVar 0) tNil)))) rfl (comp_scope (osc := defScope s_ldrawn) (XN := ["script", "blocks", "many", "size", "numbers", "first", "last", "shown", "paper", "others", "other", "cell"]) rfl rfl rfl (by decide +kernel)) (pi_range2 rfl B.range (pa_cons pe_int (pa_cons pe_int pa_nil))) (fun _ _ _ _ => pg_name (i := 0) (show (["k", "script"] : List Str).Nodup by decide +kernel) rfl (Or.inl rfl)) (fun _ _ _ _ => pif_nil) (fun _ _ _ _ => (pe_call G_cellat (hr.mono (show 1 ≤ 6 by decide)) rfl m_cellat k_cellat b_cellat .nil passN (pa_cons (pv 1) (pa_cons (pv 0) pa_nil))))) pa_nil)))))
      (pss_cons (ps_set (i := 10) sc_ldrawn.nd rfl (Or.inl rfl) (pe_call G_lpaper (hr.mono (show 3 ≤ 6 by decide)) rfl m_lpaper k_lpaper b_lpaper .nil passN (pa_cons (pv 4) (pa_cons (pv 5) (pa_cons (pv 7) (pa_cons (pv 8) (pa_cons (pv 9) (pa_cons (pe_call G_cellat (hr.mono (show 1 ≤ 6 by decide)) rfl m_cellat k_cellat b_cellat .nil passN (pa_cons (pv 0) (pa_cons pe_int pa_nil))) pa_nil))))))))
      (pss_cons (ps_set (i := 11) sc_ldrawn.nd rfl (Or.inl rfl) (pe_call G_cellat (hr.mono (show 1 ≤ 6 by decide)) rfl m_cellat k_cellat b_cellat .nil passN (pa_cons (pv 0) (pa_cons pe_int pa_nil))))
      (pss_cons (ps_if (pt_cmpR op_eq (pe_op op_mod (pv 11) pe_int) pe_int (nomark _))
        (pss_one (ps_asg (pe_call G_lspoilt (hr.mono (show 2 ≤ 6 by decide)) rfl m_lspoilt k_lspoilt b_lspoilt .nil passN (pa_cons (pv 9) (pa_cons (pv 10) (pa_cons (pe_op op_fdiv (pv 11) pe_int) pa_nil)))) (pg_tup rfl (pgs_cons (pg_name (i := 9) sc_ldrawn.nd rfl (Or.inl rfl)) (pgs_cons (pg_name (i := 10) sc_ldrawn.nd rfl (Or.inl rfl)) pgs_nil)))))
        pss_nil)
      (pss_cons (ps_if (pt_cmpR op_eq (pe_op op_mod (pv 11) pe_int) pe_int (nomark _))
        (pss_one (ps_asg (pe_call G_lspoilt (hr.mono (show 2 ≤ 6 by decide)) rfl m_lspoilt k_lspoilt b_lspoilt .nil passN (pa_cons (pv 7) (pa_cons (pv 8) (pa_cons (pe_op op_fdiv (pv 11) pe_int) pa_nil)))) (pg_tup rfl (pgs_cons (pg_name (i := 7) sc_ldrawn.nd rfl (Or.inl rfl)) (pgs_cons (pg_name (i := 8) sc_ldrawn.nd rfl (Or.inl rfl)) pgs_nil)))))
        pss_nil)
      (pss_cons (ps_set (i := 5) sc_ldrawn.nd rfl (Or.inl rfl) (pe_ix ix_list (pe_lst (pa_cons (pv 5) (pa_cons (pe_un un_neg pe_int) pa_nil))) (pe_callTy call_int1 rfl B.int boot_int' (pa_cons (pe_cmpR op_eq (pe_op op_mod (pv 11) pe_int) pe_int (nomark _)) pa_nil)) (fun _ _ => rfl)))
      (pss_cons (ps_set (i := 4) sc_ldrawn.nd rfl (Or.inl rfl) (pe_tup (pa_cons (pv 3) (pa_cons (pe_ix ix_tup (pv 4) pe_int (fun _ _ => rfl)) (pa_cons (pe_ix ix_list (pe_lst (pa_cons (pv 2) (pa_cons (pe_op op_sub (pv 6) pe_int) pa_nil))) (pe_callTy call_int1 rfl B.int boot_int' (pa_cons (pe_cmpR op_eq (pe_op op_mod (pv 11) pe_int) pe_int (nomark _)) pa_nil)) (fun _ _ => rfl)) pa_nil)))))
      (pss_one (ps_ret (pe_tup (pa_cons (pv 4) (pa_cons (pv 5) (pa_cons (pe_lst (pa_cons (pv 7) (pa_cons (pv 8) (pa_cons (pv 9) (pa_cons (pv 10) pa_nil))))) pa_nil))))))))))))))))))))), ?_⟩
    refine ⟨_, rfl, _, rfl, _, rfl, a, _, rfl, hS, fun c hc => ?_⟩
    have ecut : HO.lst (cutV (ns.map V.int) (some 9) (some 63)) = lsI ((ns.drop 9).take 54) := congrArg HO.lst (cut_two ns 9 63)
    rw [ecut]
    obtain ⟨ce, ece⟩ : ∃ ce, ce = (ns.drop 9).take 54 := ⟨_, rfl⟩
    have hcl : ce.length ≤ 54 := by rw [ece, List.length_take]; trivial
    rw [← ece]
    clear ece ecut
    have uc := same_new hc (lsI ce)
    have ec : upd H c (lsI ce) c = some (lsI ce) := upd_same
    generalize upd H c (lsI ce) = H1 at uc ec ⊢
    refine ⟨_, rfl, a, ns, 8, rfl, uc.seq hS, fun x7 => ⟨(by show 1 ≤ sizeLine; decide), fun l hl7 => ?_⟩⟩
    have ul := same_new hl7 (.lst [V.int x7])
    have el : upd H1 l (.lst [V.int x7]) l = some (lsI [x7]) := upd_same
    generalize upd H1 l (.lst [V.int x7]) = H2 at ul el ⊢
    refine ⟨c, l, _, _, rfl, rfl, ul _ _ ec, el, fits (by rw [List.length_map, List.length_map]; show _ + 1 ≤ _; trivial), fun d hd => ?_⟩
    rw [lsI_cat]
    obtain ⟨cc, ecc⟩ : ∃ cc, cc = ce ++ [x7] := ⟨_, rfl⟩
    have hccl : 1 ≤ cc.length ∧ cc.length ≤ 55 := by rw [ecc, List.length_append, List.length_singleton]; trivial
    rw [← ecc]
    have ud := same_new hd (lsI cc)
    have ed : upd H2 d (lsI cc) d = some (lsI cc) := upd_same
    generalize upd H2 d (lsI cc) = H3 at ud ed ⊢
    refine ⟨d, rfl, ⟨_, SqL.of ed⟩, fun Bk hBk => ?_⟩
    refine comp_lstQ (K := K) (a := d) (xs := cc.map V.int) (fun i σ' H' => ∃ (v0 : Option V) (bs : List BL), σ' = [v0] ∧ Wrs H' Bk bs ∧ bs.length = i ∧ (∀ b ∈ bs, 0 ≤ b.2.1 ∧ b.2.2.2.length ≤ 200 ∧ ∀ y ∈ b.2.2.2, 0 ≤ y) ∧ (∀ b ∈ bs, b.2.2.1 ≠ Bk) ∧ Same H3 H')
      ⟨none, [], rfl, ⟨upd_same, fun w hw => by cases hw⟩, rfl, (fun b h => by cases h), (fun b h => by cases h), same_new hBk _⟩ (fun i σ' H' _ ⟨_, _, _, _, _, _, _, e⟩ => SqL.of (e _ _ ed)) ?_ ?_
    · rintro i y σ' H' hi ⟨v0, bs, rfl, wr, hbl, hg, hn, sm⟩
      have hlt : i < (cc.map V.int).length := (List.getElem?_eq_some_iff.mp hi).1
      have hil : i < cc.length := by rw [List.length_map] at hlt; exact hlt
      obtain ⟨z, rfl, hz⟩ := int_at hi
      refine nameT ?_
      refine ⟨_, rfl, _, _, rfl, rfl, (by show (0 : Int) < 6; decide), _, rfl, _, _, rfl, rfl, ⟨by decide, by decide⟩, _, rfl, fun l bits H4 s4 hln hl hbl2 hnn => ?_⟩
      have wr4 := wr.same s4
      have nl : l ≠ Bk := fun e => by rw [e, wr.at_] at hln; cases hln
      refine ⟨(by show 2 ≤ sizeLine; decide), fun tb htb => ?_⟩
      try simp only []
      have hz6 : 0 ≤ z % 6 := by trivial
      generalize z % 6 = w at hz6 ⊢
      have ub := same_new htb (.tup [V.int w, V.ref l])
      have eb : upd H4 tb (.tup [V.int w, V.ref l]) tb = some (.tup [V.int w, V.ref l]) := upd_same
      generalize upd H4 tb (.tup [V.int w, V.ref l]) = H5 at ub eb ⊢
      have wr5 := wr4.same ub
      refine ⟨Bk, _, _, rfl, rfl, wr5.at_, fits_lt (by rw [List.length_map]; trivial), ?_⟩
      refine CW.next hlt ⟨_, bs ++ [(tb, w, l, bits)], rfl, wr5.app hn eb (ub _ _ hl) nl, by rw [List.length_append, hbl]; rfl, ?_, ?_, same_upd (sm.trans (s4.trans ub)) _ hBk⟩
      · intro b hb
        rcases List.mem_append.mp hb with hb | hb
        · exact hg b hb
        · rw [List.mem_singleton.mp hb]; exact ⟨hz6, hbl2, hnn⟩
      · intro b hb
        rcases List.mem_append.mp hb with hb | hb
        · exact hn b hb
        · rw [List.mem_singleton.mp hb]; exact nl
    rintro σ' H4 ⟨v0, bs, rfl, wr, hbl, hg, hn, sm4⟩
    rw [List.length_map] at hbl
    have s0 := uc.trans (ul.trans (ud.trans sm4))
    have hS0 := s0.seq hS
    obtain ⟨n, hbn⟩ : ∃ n, bs.length = n := ⟨_, rfl⟩
    have hn1 : 1 ≤ n ∧ n ≤ 55 := by trivial
    refine ⟨_, rfl, Bk, _, rfl, .inl (SqL.of wr.at_), ?_⟩
    refine gNz (v' := V.int (n : Int)) (congrArg V.int (by rw [List.length_map, hbn])) ?_
    refine ⟨_, rfl, a, ns, 0, rfl, hS0, fun x0 => ?_⟩
    obtain ⟨mx, emx, hmx1, hmx2, hmx3⟩ : ∃ mx : Int, mx = (if (400 : Int) / (n : Int) < 64 then (400 : Int) / (n : Int) else 64) ∧ 1 ≤ mx ∧ mx ≤ 64 ∧ mx * (n : Int) ≤ 400 := by
      refine ⟨_, rfl, ?_⟩
      have h1 : (400 : Int) / (n : Int) * (n : Int) ≤ 400 := Int.ediv_mul_le _ (by trivial)
      have h2 : 1 ≤ (400 : Int) / (n : Int) := (Int.le_ediv_iff_mul_le (by trivial)).mpr (by trivial)
      split
      · exact ⟨h2, by trivial, h1⟩
      · rename_i h3
        refine ⟨by trivial, by trivial, ?_⟩
        have : (64 : Int) * (n : Int) ≤ (400 : Int) / (n : Int) * (n : Int) := Int.mul_le_mul_of_nonneg_right (by trivial) (by trivial)
        trivial
    refine ⟨_, rfl, _, _, rfl, rfl, ⟨by trivial, by trivial⟩, _, _, rfl, _, _, rfl, rfl, (by rw [← emx]; trivial), _, _, rfl, rfl, ?_⟩
    obtain ⟨sz, esz⟩ : ∃ sz : Int, sz = 1 + x0 % mx := ⟨_, rfl⟩
    have hsz : 1 ≤ sz ∧ sz ≤ 64 ∧ sz * (n : Int) ≤ 400 := by
      have r1 := Int.emod_nonneg x0 (show mx ≠ 0 by trivial)
      have r2 := Int.emod_lt_of_pos x0 (show (0 : Int) < mx by trivial)
      refine ⟨by trivial, by trivial, ?_⟩
      have : sz * (n : Int) ≤ mx * (n : Int) := Int.mul_le_mul_of_nonneg_right (by trivial) (by trivial)
      trivial
    refine gNz (v' := V.int sz) (congrArg V.int (by rw [esz, emx])) ?_
    clear esz emx
    refine ⟨_, rfl, _, rfl, _, _, rfl, rfl, _, rfl, _, _, rfl, rfl, .inr ⟨by trivial, by trivial⟩, _, _, rfl, rfl, _, rfl, a, ns, 1, rfl, hS0, fun x1 => ⟨_, rfl, _, _, rfl, rfl, (by trivial), _, _, rfl, rfl, _, rfl, (by show 3 ≤ sizeLine; decide), fun N hN0 => ?_⟩⟩
    try dsimp -proj only
    obtain ⟨t0, t4, tm⟩ := sizes_ok (n := n) (sz := sz) (r := x1 % sz) hn1.1 hsz.1 hsz.2.2 (Int.emod_nonneg _ (by trivial)) (Int.emod_lt_of_pos _ (by trivial))
    generalize ((n : Int) - 1) * sz + 1 + x1 % sz = tot at t0 t4 tm ⊢
    have uN := same_new hN0 (.tup [V.int sz, V.int tot, V.int (n : Int)])
    have eN : upd H4 N (.tup [V.int sz, V.int tot, V.int (n : Int)]) N = some (.tup [V.int sz, V.int tot, V.int (n : Int)]) := upd_same
    generalize upd H4 N (.tup [V.int sz, V.int tot, V.int (n : Int)]) = H5 at uN eN ⊢
    have wr5 := wr.same uN
    have hS5 := uN.seq hS0
    refine ⟨_, rfl, a, ns, 2, rfl, hS5, fun x2 => ?_⟩
    obtain ⟨A, eA, hA⟩ : ∃ A : Nat, x2 % (n : Int) = (A : Int) ∧ A < n := by
      have r1 := Int.emod_nonneg x2 (show (n : Int) ≠ 0 by trivial)
      have r2 := Int.emod_lt_of_pos x2 (show (0 : Int) < (n : Int) by trivial)
      exact ⟨(x2 % (n : Int)).toNat, by trivial, by trivial⟩
    refine ⟨_, rfl, _, _, rfl, rfl, (by trivial), ?_⟩
    refine gNz (v' := V.int (A : Int)) (congrArg V.int eA.symm) ?_
    refine ⟨_, rfl, _, _, rfl, rfl, _, rfl, a, ns, 3, rfl, hS5, fun x3 => ?_⟩
    obtain ⟨B, eB, hAB, hBn⟩ : ∃ B : Nat, (A : Int) + 1 + x3 % ((n : Int) - (A : Int)) = (B : Int) ∧ A < B ∧ B ≤ n := by
      have r1 := Int.emod_nonneg x3 (show (n : Int) - (A : Int) ≠ 0 by trivial)
      have r2 := Int.emod_lt_of_pos x3 (show (0 : Int) < (n : Int) - (A : Int) by trivial)
      exact ⟨((A : Int) + 1 + x3 % ((n : Int) - (A : Int))).toNat, by trivial, by trivial, by trivial⟩
    refine ⟨_, rfl, _, rfl, _, _, rfl, rfl, _, _, rfl, rfl, (by trivial), _, _, rfl, rfl, ?_⟩
    refine gNz (v' := V.int (B : Int)) (congrArg V.int eB.symm) ?_
    refine ⟨_, rfl, _, rfl, _, rfl, _, rfl, _, rfl, Bk, _, rfl, SqL.of wr5.at_, fun Sh hSh => ?_⟩
    have ecut2 : HO.lst (cutV (bs.map fun w => V.ref w.1) (some (A : Int)) (some (B : Int))) = .lst (((bs.take B).drop A).map fun w => V.ref w.1) := congrArg HO.lst (cut_ref _ bs (by trivial) (by trivial))
    rw [ecut2]
    have wq := wr5.slice hSh A B
    have uq := same_new hSh (.lst (((bs.take B).drop A).map fun w => V.ref w.1))
    generalize upd H5 Sh (.lst (((bs.take B).drop A).map fun w => V.ref w.1)) = H6 at wq uq ⊢
    obtain ⟨ss, ess⟩ : ∃ ss, ss = (bs.take B).drop A := ⟨_, rfl⟩
    rw [← ess] at wq
    have hssb : bkv ss = ((bkv bs).take B).drop A := by rw [ess, bkv_take]
    have hssl : ss.length = B - A := sl_len hbn hAB hBn hssb
    have hssz : ∀ x ∈ ss, x.2.2.2.length ≤ 200 := fun x hx => by rw [ess] at hx; exact (hg x (List.mem_of_mem_take (List.mem_of_mem_drop hx))).2.1
    clear ess
    have wr6 := wr5.same uq
    have eN6 := uq _ _ eN
    refine ⟨_, rfl, _, rfl, N, _, _, _, rfl, rfl, SqT.of eN6, rfl, _, rfl, Bk, bs, rfl, wr6, by trivial, fun D cs H7 s7 hDn wc hbkv fs => ?_⟩
    refine ⟨(by show 3 ≤ sizeLine; decide), fun C hC => ?_⟩
    have uC := same_new hC (.tup [V.int sz, V.int tot, V.ref D])
    have eC : upd H7 C (.tup [V.int sz, V.int tot, V.ref D]) C = some (.tup [V.int sz, V.int tot, V.ref D]) := upd_same
    generalize upd H7 C (.tup [V.int sz, V.int tot, V.ref D]) = H8 at uC eC ⊢
    have hcsl : cs.length = n := by have := congrArg List.length hbkv; rw [bkv_len, bkv_len] at this; trivial
    have cn : Con H8 C sz tot D cs := ⟨eC, wc.same uC, hsz.1, hsz.2.1, t0, t4, by rw [hcsl]; exact tm, by trivial, fun b hb => by
      have h1 : (b.2.1, b.2.2.2) ∈ bkv bs := by rw [← hbkv]; exact List.mem_map.mpr ⟨b, hb, rfl⟩
      obtain ⟨y, hy, e⟩ := List.mem_map.mp h1
      have := hg y hy
      rw [← (Prod.mk.inj e).1, ← (Prod.mk.inj e).2]
      exact ⟨this.1, by trivial⟩⟩
    refine ⟨_, rfl, _, rfl, C, D, sz, tot, cs, (A : Int), (B : Int), rfl, cn, (fun hno => absurd ⟨by trivial, by trivial, by trivial⟩ hno), fun _ Pp H9 s9 hPn hP0 => ?_⟩
    rw [hbkv, Int.toNat_natCast, Int.toNat_natCast] at hP0
    obtain ⟨pp, epp⟩ : ∃ pp, pp = pap (lv0 (bkv bs)) A B := ⟨_, rfl⟩
    rw [← epp] at hP0
    have hplen : pp.length ≤ 200 := by have := pap_len (lv0 (bkv bs)) A B; rw [← epp, lv0_len, bkv_len] at this; trivial
    have hpw : pp.length = wnt A (A + ss.length) n := by
      have h1 := top_right hbn hAB hBn hssb
      rw [← epp] at h1
      unfold top0 at h1
      rcases Nat.decEq pp.length (wnt A (A + ss.length) n) with h | h
      · rw [clm_bad n A (A + ss.length) _ _ (by trivial) (by trivial) (by rw [lv0_len, bkv_len]; trivial) h] at h1
        cases h1
      · exact h
    have s69 := s7.trans (uC.trans s9)
    have wq9 := wq.same s69
    have eN9 := s69 _ _ eN6
    have s59 := uq.trans s69
    have hS9 := s59.seq hS5
    refine ⟨_, rfl, _, rfl, a, ns, 7, rfl, hS9, fun x4 => ?_⟩
    refine ⟨4, 8, rfl, ⟨by trivial, by trivial, by trivial, by trivial⟩, fun E hE => ?_⟩
    rw [show ((8 : Int) - 4).toNat = 4 by decide]
    refine comp_rngQ (fun i σ' H' => ∃ (v0 : Option V) (ks : List Int), σ' = [v0, some (.ref a)] ∧ H' E = some (lsI ks) ∧ ks.length = i ∧ Same H9 H')
      ⟨none, [], rfl, upd_same, rfl, same_new hE _⟩ ?_ ?_
    · rintro i σ' H' hi ⟨v0, ks, rfl, hE', hkl, smi⟩
      refine nameT ?_
      refine ⟨_, rfl, _, rfl, a, ns, 4 + i, rfl, smi.seq hS9, fun y => ?_⟩
      refine ⟨E, _, _, rfl, rfl, hE', fits_lt (by rw [List.length_map]; trivial), ?_⟩
      exact CW.next hi ⟨_, ks ++ [y], rfl, by rw [upd_same, lsI_app1], by rw [List.length_append, List.length_singleton]; trivial, same_upd smi _ hE⟩
    rintro σ' Hb ⟨v0, ks, rfl, hEb, hkl, sb⟩
    have wqb := wq9.same sb
    refine ⟨Sh, E, ss, ks, x4, rfl, ⟨wqb, fun x hx => by have := hssz x hx; trivial⟩, by trivial, hEb, by trivial, by trivial, fun Ot os Hc sc bo hol => ?_⟩
    have sbc := sb.trans sc
    have hSc := sbc.seq hS9
    have wqc := wqb.same sc
    have hPc := sbc _ _ hP0
    refine ⟨_, rfl, _, rfl, _, rfl, _, rfl, _, rfl, _, rfl, a, ns, 6, rfl, hSc, fun x5 => ?_⟩
    refine ⟨N, Sh, Pp, Ot, ss, os, pp, A, n, sz, tot, x5, rfl, sbc _ _ eN9, ⟨wqc, hPc, fun x hx => by have := hssz x hx; trivial, by trivial, by trivial⟩, bo, by trivial, by trivial, by trivial, by trivial, hpw, fun Oq qq HA sA hOq hql => ?_⟩
    have sN9A := sbc.trans sA
    refine ⟨_, rfl, a, ns, 5, rfl, sN9A.seq hS9, fun c5 => ?_⟩
    have s0A := (s0.trans (uN.trans s59)).trans sN9A
    have eNA := sN9A _ _ eN9
    have b1 : Bks HA Sh ss := ⟨(wqc.same sA), fun x hx => by have := hssz x hx; trivial⟩
    have b2 := bo.same sA
    have hPA := sA _ _ hPc
    try dsimp only
    refine sqMidG (fun σ' H'' => ∃ (S2 P2 O2 Q2 : Addr) (ss os : List BL) (pp qq : List Int), σ' = [some (.ref a), some (.ref Bk), some (.int (n : Int)), some (.int sz), some (.ref N), some (.int (A : Int)), some (.int (B : Int)), some (.ref S2), some (.ref P2), some (.ref O2), some (.ref Q2), some (.int c5)] ∧ Bks H'' S2 ss ∧ ss.length ≤ 91 ∧ H'' P2 = some (lsI pp) ∧ pp.length ≤ 200 ∧ Bks H'' O2 os ∧ os.length ≤ 91 ∧ H'' Q2 = some (lsI qq) ∧ qq.length ≤ 500 ∧ Same HA H'') ?_ ?_
    rotate_left
    · intro M hM
      refine ⟨_, rfl, _, _, rfl, rfl, (by show (0 : Int) < 9; decide), rfl, _, rfl, ?_⟩
      refine ite2 (fun _ => ?_) (fun _ => hM _ _ ⟨Sh, Pp, Ot, Oq, ss, os, pp, qq, rfl, b1, by trivial, hPA, hplen, b2, by trivial, hOq, by trivial, Same.refl _⟩)
      refine ⟨_, rfl, _, rfl, _, rfl, _, _, rfl, rfl, ⟨by decide, by decide⟩, Ot, Oq, os, qq, _, rfl, b2, by trivial, hOq, by trivial, fun t B3 P3 ds p3 Hd sd ht bd hp3 hdl hpl3 => ?_⟩
      refine ⟨t, _, rfl, SqT.of ht, rfl, _, _, rfl, _, _, rfl, rfl, ?_⟩
      exact hM _ _ ⟨Sh, Pp, B3, P3, ss, ds, pp, p3, rfl, b1.same sd, by trivial, sd _ _ hPA, hplen, bd, by trivial, hp3, by trivial, sd⟩
    clear b1 b2 hPA hOq hql hPc wqc wqb wq9 wq hP0 hplen hpw epp pp Pp hPn
    rintro σ' Hd ⟨S2, P2, O2, Q2, ss2, os2, pp2, qq2, rfl, b1, hs2, hP2, hpl2, b2, ho2, hQ2, hql2, sd⟩
    try dsimp only
    refine sqMidG (fun σ' H'' => ∃ (S2 P2 O2 Q2 : Addr) (ss os : List BL) (pp qq : List Int), σ' = [some (.ref a), some (.ref Bk), some (.int (n : Int)), some (.int sz), some (.ref N), some (.int (A : Int)), some (.int (B : Int)), some (.ref S2), some (.ref P2), some (.ref O2), some (.ref Q2), some (.int c5)] ∧ Bks H'' S2 ss ∧ ss.length ≤ 91 ∧ H'' P2 = some (lsI pp) ∧ pp.length ≤ 500 ∧ Bks H'' O2 os ∧ os.length ≤ 91 ∧ H'' Q2 = some (lsI qq) ∧ qq.length ≤ 500 ∧ Same HA H'') ?_ ?_
    rotate_left
    · intro M hM
      refine ⟨_, rfl, _, _, rfl, rfl, (by show (0 : Int) < 9; decide), rfl, _, rfl, ?_⟩
      refine ite2 (fun _ => ?_) (fun _ => hM _ _ ⟨S2, P2, O2, Q2, ss2, os2, pp2, qq2, rfl, b1, hs2, hP2, by trivial, b2, ho2, hQ2, hql2, sd⟩)
      refine ⟨_, rfl, _, rfl, _, rfl, _, _, rfl, rfl, ⟨by decide, by decide⟩, S2, P2, ss2, pp2, _, rfl, b1, hs2, hP2, by trivial, fun t B3 P3 ds p3 He se ht bd hp3 hdl hpl3 => ?_⟩
      refine ⟨t, _, rfl, SqT.of ht, rfl, _, _, rfl, _, _, rfl, rfl, ?_⟩
      exact hM _ _ ⟨B3, P3, O2, Q2, ds, os2, p3, qq2, rfl, bd, by trivial, hp3, by trivial, b2.same se, ho2, se _ _ hQ2, hql2, sd.trans se⟩
    clear b1 hs2 hP2 hpl2 b2 ho2 hQ2 hql2 sd Hd S2 P2 O2 Q2 ss2 os2 pp2 qq2
    rintro σ' Hd ⟨S2, P2, O2, Q2, ss2, os2, pp2, qq2, rfl, b1, hs2, hP2, hpl2, b2, ho2, hQ2, hql2, sd⟩
    refine ⟨_, rfl, 1, rfl, (by show 2 ≤ sizeLine; decide), fun l1 hl1 => ?_⟩
    have u1 := same_new hl1 (.lst [V.int (A : Int), V.int (-1)])
    have e1 : upd Hd l1 (.lst [V.int (A : Int), V.int (-1)]) l1 = some (lsI [(A : Int), -1]) := upd_same
    generalize upd Hd l1 (.lst [V.int (A : Int), V.int (-1)]) = He at u1 e1 ⊢
    refine ⟨_, rfl, _, _, rfl, rfl, (by show (0 : Int) < 18; decide), rfl, .inr ⟨_, rfl, ?_⟩⟩
    obtain ⟨f, hatf, _⟩ := list_atM (xs := [(A : Int), -1]) (k := if decide (V.int (c5 % 18) = V.int 3) = true then 1 else 0) (by split <;> trivial) (by show _ < (2 : Int); split <;> trivial)
    refine ⟨l1, _, _, _, rfl, rfl, SqL.of e1, hatf, ?_⟩
    have eNe := u1 _ _ (sd _ _ eNA)
    refine ⟨_, rfl, _, rfl, N, _, _, _, rfl, rfl, SqT.of eNe, rfl, _, rfl, _, rfl, _, _, rfl, rfl, (by show 2 ≤ sizeLine; decide), fun l2 hl2 => ?_⟩
    try dsimp -proj only
    have u2 := same_new hl2 (.lst [V.int (n : Int), V.int ((B : Int) - 1)])
    have e2 : upd He l2 (.lst [V.int (n : Int), V.int ((B : Int) - 1)]) l2 = some (lsI [(n : Int), (B : Int) - 1]) := upd_same
    generalize upd He l2 (.lst [V.int (n : Int), V.int ((B : Int) - 1)]) = Hf at u2 e2 ⊢
    refine ⟨_, rfl, _, _, rfl, rfl, (by show (0 : Int) < 18; decide), rfl, .inr ⟨_, rfl, ?_⟩⟩
    obtain ⟨m, hatm, hm0⟩ := list_atM (xs := [(n : Int), (B : Int) - 1]) (k := if decide (V.int (c5 % 18) = V.int 12) = true then 1 else 0) (by split <;> trivial) (by show _ < (2 : Int); split <;> trivial)
    have hm100 : m ≤ 100 := by
      simp only [List.mem_cons, List.not_mem_nil, or_false] at hm0
      trivial
    refine ⟨l2, _, _, _, rfl, rfl, SqL.of e2, hatm, (by show 3 ≤ sizeLine; decide), fun N2 hN2 => ?_⟩
    have u3 := same_new hN2 (.tup [V.int sz, V.int tot, V.int m])
    have e3 : upd Hf N2 (.tup [V.int sz, V.int tot, V.int m]) N2 = some (.tup [V.int sz, V.int tot, V.int m]) := upd_same
    generalize upd Hf N2 (.tup [V.int sz, V.int tot, V.int m]) = Hg at u3 e3 ⊢
    refine ⟨_, rfl, _, rfl, _, rfl, _, rfl, _, rfl, _, rfl, (by show 4 ≤ sizeLine; decide), fun L hL => ?_⟩
    have u4 := same_new hL (.lst [V.ref S2, V.ref P2, V.ref O2, V.ref Q2])
    have e4 : upd Hg L (.lst [V.ref S2, V.ref P2, V.ref O2, V.ref Q2]) L = some (.lst [V.ref S2, V.ref P2, V.ref O2, V.ref Q2]) := upd_same
    generalize upd Hg L (.lst [V.ref S2, V.ref P2, V.ref O2, V.ref Q2]) = Hh at u4 e4 ⊢
    refine ⟨(by show 3 ≤ sizeLine; decide), fun T hT => ?_⟩
    have u5 := same_new hT (.tup [V.ref N2, V.int f, V.ref L])
    have sdh := u1.trans (u2.trans (u3.trans (u4.trans u5)))
    refine hQ T N2 L S2 P2 O2 Q2 sz tot m f ss2 pp2 os2 qq2 _ (s0A.trans (sd.trans sdh)) upd_same ⟨(u4.trans u5) _ _ e3, u5 _ _ e4, ⟨(b1.same sdh).1, sdh _ _ hP2, fun x hx => by have := b1.2 x hx; trivial, by trivial, by trivial⟩, ⟨(b2.same sdh).1, sdh _ _ hQ2, fun x hx => by have := b2.2 x hx; trivial, by trivial, by trivial⟩, hm100⟩
end
end K69
set_option Elab.async false
set_option linter.all false
set_option maxRecDepth 100000
set_option maxHeartbeats 4000000
namespace K69
open PySem L2 PySem.W PH
section
variable {P : Program} {w : World} {K : PySem.W.Frag} {mg : Str → Option Value} {base : Heap}
theorem sc_law : FnScope ["script", "numbers", "first", "some", "shown", "paper", "others", "other", "handed", "found", "fit", "rows", "twins", "seal", "kept", "again"] ["script"] (defScope s_law) := ⟨rfl, rfl, rfl, by decide +kernel, rfl, by decide +kernel, by decide +kernel⟩
theorem ok_law {f f_shows f_clash f_lmix f_lcopy f_lrows f_lclash f_lfits f_ldrawn : Addr} {fd d_shows d_clash d_lmix d_lcopy d_lrows d_lclash d_lfits d_ldrawn : FuncData} (F : Fun K "law" "law" s_law f fd) (B : Bls mg) 
    (G_shows : FnOk P w K mg base (CXW P w) 6 f_shows d_shows ["seal", "numbers", "first", "blocks", "paper"] (spShowsR)) (b_shows : Binds K d_shows ["seal", "numbers", "first", "blocks", "paper"] []) (k_shows : keepIn K (.ref f_shows) = true) (m_shows : mg "paper_shows" = some (.ref f_shows)) 
    (G_clash : FnOk P w K mg base (CXW P w) 6 f_clash d_clash ["numbers", "first", "blocks", "paper", "others", "other"] (spClash)) (b_clash : Binds K d_clash ["numbers", "first", "blocks", "paper", "others", "other"] []) (k_clash : keepIn K (.ref f_clash) = true) (m_clash : mg "clash_of" = some (.ref f_clash)) 
    (G_lmix : FnOk P w K mg base (CXW P w) 1 f_lmix d_lmix ["row"] (spMix)) (b_lmix : Binds K d_lmix ["row"] []) (k_lmix : keepIn K (.ref f_lmix) = true) (m_lmix : mg "_law_mix" = some (.ref f_lmix)) 
    (G_lcopy : FnOk P w K mg base (CXW P w) 1 f_lcopy d_lcopy ["blocks"] (spCopy)) (b_lcopy : Binds K d_lcopy ["blocks"] []) (k_lcopy : keepIn K (.ref f_lcopy) = true) (m_lcopy : mg "_law_copy" = some (.ref f_lcopy)) 
    (G_lrows : FnOk P w K mg base (CXW P w) 2 f_lrows d_lrows ["numbers", "first", "blocks", "paper"] (spRows69)) (b_lrows : Binds K d_lrows ["numbers", "first", "blocks", "paper"] []) (k_lrows : keepIn K (.ref f_lrows) = true) (m_lrows : mg "_law_rows" = some (.ref f_lrows)) 
    (G_lclash : FnOk P w K mg base (CXW P w) 2 f_lclash d_lclash ["found", "rows", "twins"] (spLClash)) (b_lclash : Binds K d_lclash ["found", "rows", "twins"] []) (k_lclash : keepIn K (.ref f_lclash) = true) (m_lclash : mg "_law_clash" = some (.ref f_lclash)) 
    (G_lfits : FnOk P w K mg base (CXW P w) 2 f_lfits d_lfits ["numbers", "first", "blocks", "paper"] (spFits67)) (b_lfits : Binds K d_lfits ["numbers", "first", "blocks", "paper"] []) (k_lfits : keepIn K (.ref f_lfits) = true) (m_lfits : mg "_law_fits" = some (.ref f_lfits)) 
    (G_ldrawn : FnOk P w K mg base (CXW P w) 7 f_ldrawn d_ldrawn ["script"] (spDrawn69 K)) (b_ldrawn : Binds K d_ldrawn ["script"] []) (k_ldrawn : keepIn K (.ref f_ldrawn) = true) (m_ldrawn : mg "_law_drawn" = some (.ref f_ldrawn)) : FnOk P w K mg base (CXW P w) 8 f fd ["script"] (spLaw K) := by
  refine F.okN sc_law (fun vs H Q E h => ?_) (fun cdv A outer s H vs Q E hr h => ?_)
  · obtain ⟨a, ns, rfl, _⟩ := h
    rfl
  · obtain ⟨a, ns, rfl, hS, h63, hQ⟩ := h
    refine ⟨_, (pss_cons (ps_asg (pe_call G_ldrawn hr rfl m_ldrawn k_ldrawn b_ldrawn .nil passN (pa_cons (pv 0) pa_nil)) (pg_tup rfl (pgs_cons (pg_name (i := 1) sc_law.nd rfl (Or.inl rfl)) (pgs_cons (pg_name (i := 2) sc_law.nd rfl (Or.inl rfl)) (pgs_cons (pg_name (i := 3) sc_law.nd rfl (Or.inl rfl)) pgs_nil)))))
      (pss_cons (ps_asg (pv 3) (pg_lst rfl (pgs_cons (pg_name (i := 4) sc_law.nd rfl (Or.inl rfl)) (pgs_cons (pg_name (i := 5) sc_law.nd rfl (Or.inl rfl)) (pgs_cons (pg_name (i := 6) sc_law.nd rfl (Or.inl rfl)) (pgs_cons (pg_name (i := 7) sc_law.nd rfl (Or.inl rfl)) pgs_nil))))))
      (pss_cons (ps_set (i := 8) sc_law.nd rfl (Or.inl rfl) (pe_lst (pa_cons (pe_call G_lcopy (hr.mono (show 1 ≤ 7 by decide)) rfl m_lcopy k_lcopy b_lcopy .nil passN (pa_cons (pv 4) pa_nil)) (pa_cons (pe_callTy call_list_of rfl B.list boot_list' (pa_cons (pv 5) pa_nil)) (pa_cons (pe_call G_lcopy (hr.mono (show 1 ≤ 7 by decide)) rfl m_lcopy k_lcopy b_lcopy .nil passN (pa_cons (pv 6) pa_nil)) (pa_cons (pe_callTy call_list_of rfl B.list boot_list' (pa_cons (pv 7) pa_nil)) pa_nil))))))
      (pss_cons (ps_set (i := 9) sc_law.nd rfl (Or.inl rfl) (pe_call G_clash (hr.mono (show 6 ≤ 7 by decide)) rfl m_clash k_clash b_clash .nil passN (pa_cons (pv 1) (pa_cons (pv 2) (pa_cons (pe_ix ix_list (pv 8) pe_int (fun _ _ => rfl)) (pa_cons (pe_ix ix_list (pv 8) pe_int (fun _ _ => rfl)) (pa_cons (pe_ix ix_list (pv 8) pe_int (fun _ _ => rfl)) (pa_cons (pe_ix ix_list (pv 8) pe_int (fun _ _ => rfl)) pa_nil))))))))
      (pss_cons (ps_if (pt_cmpR (op_neD (units_of hr)) (pv 8) (pv 3) (nomark _))
        (pss_one (ps_ret pe_bl))
        pss_nil)
      (pss_cons (ps_set (i := 10) sc_law.nd rfl (Or.inl rfl) (pe_and (pe_call G_lfits (hr.mono (show 2 ≤ 7 by decide)) rfl m_lfits k_lfits b_lfits .nil passN (pa_cons (pv 1) (pa_cons (pv 2) (pa_cons (pv 4) (pa_cons (pv 5) pa_nil))))) (pe_one (pe_call G_lfits (hr.mono (show 2 ≤ 7 by decide)) rfl m_lfits k_lfits b_lfits .nil passN (pa_cons (pv 1) (pa_cons (pv 2) (pa_cons (pv 6) (pa_cons (pv 7) pa_nil))))))))
      (pss_cons (ps_if (PW.pt (pw_or (pt_not (pt_val (pv 10))) (pw_or (pt_cmpR op_ne (pe_callB call_len_seq rfl B.len PySem.boot_len (pa_cons (pv 6) pa_nil)) (pe_callB call_len_seq rfl B.len PySem.boot_len (pa_cons (pv 4) pa_nil)) (nomark _)) (pw_or1 (pt_cmpR (op_eqD (units_of hr)) (pv 6) (pv 4) (nomark _))))))
        (pss_one (ps_ret (pe_cmp (pc_isN (pv 9)))))
        pss_nil)
      (pss_cons (ps_set (i := 11) sc_law.nd rfl (Or.inl rfl) (pe_call G_lrows (hr.mono (show 2 ≤ 7 by decide)) rfl m_lrows k_lrows b_lrows .nil passN (pa_cons (pv 1) (pa_cons (pv 2) (pa_cons (pv 4) (pa_cons (pv 5) pa_nil))))))
      (pss_cons (ps_set (i := 12) sc_law.nd rfl (Or.inl rfl) (pe_call G_lrows (hr.mono (show 2 ≤ 7 by decide)) rfl m_lrows k_lrows b_lrows .nil passN (pa_cons (pv 1) (pa_cons (pv 2) (pa_cons (pv 6) (pa_cons (pv 7) pa_nil))))))
      (pss_cons (ps_set (i := 13) sc_law.nd rfl (Or.inl rfl) (pe_call G_lmix (hr.mono (show 1 ≤ 7 by decide)) rfl m_lmix k_lmix b_lmix .nil passN (pa_cons (pe_ix ix_list (pv 11) (pe_un un_neg pe_int) (fun _ _ => rfl)) pa_nil)))
      (pss_cons (ps_if (pt_not (pt_val (pe_call G_shows (hr.mono (show 6 ≤ 7 by decide)) rfl m_shows k_shows b_shows .nil passN (pa_cons (pv 13) (pa_cons (pv 1) (pa_cons (pv 2) (pa_cons (pe_ix ix_list (pv 8) pe_int (fun _ _ => rfl)) (pa_cons (pe_ix ix_list (pv 8) pe_int (fun _ _ => rfl)) pa_nil))))))))
        (pss_one (ps_ret pe_bl))
        pss_nil)
      (pss_cons (ps_if (pt_cmpR op_ne (pe_call G_lmix (hr.mono (show 1 ≤ 7 by decide)) rfl m_lmix k_lmix b_lmix .nil passN (pa_cons (pe_ix ix_list (pv 12) (pe_un un_neg pe_int) (fun _ _ => rfl)) pa_nil)) (pv 13) (nomark _))
        (pss_one (ps_ret (pe_and (pe_cmp (pc_isN (pv 9))) (pe_one (pe_not (pe_call G_shows (hr.mono (show 6 ≤ 7 by decide)) rfl m_shows k_shows b_shows .nil passN (pa_cons (pv 13) (pa_cons (pv 1) (pa_cons (pv 2) (pa_cons (pe_ix ix_list (pv 8) pe_int (fun _ _ => rfl)) (pa_cons (pe_ix ix_list (pv 8) pe_int (fun _ _ => rfl)) pa_nil)))))))))))
        pss_nil)
      (pss_cons (ps_if (PW.pt (pw_or (pt_not (pt_val (pe_call G_lclash (hr.mono (show 2 ≤ 7 by decide)) rfl m_lclash k_lclash b_lclash .nil passN (pa_cons (pv 9) (pa_cons (pv 11) (pa_cons (pv 12) pa_nil)))))) (pw_or1 (pt_not (pt_val (pe_call G_shows (hr.mono (show 6 ≤ 7 by decide)) rfl m_shows k_shows b_shows .nil passN (pa_cons (pv 13) (pa_cons (pv 1) (pa_cons (pv 2) (pa_cons (pe_ix ix_list (pv 8) pe_int (fun _ _ => rfl)) (pa_cons (pe_ix ix_list (pv 8) pe_int (fun _ _ => rfl)) pa_nil)))))))))))
        (pss_one (ps_ret pe_bl))
        pss_nil)
      (pss_cons (ps_set (i := 14) sc_law.nd rfl (Or.inl rfl) (pe_tup (pa_cons (pe_callTy call_list_of rfl B.list boot_list' (pa_cons (pe_ix ix_tup (pv 9) pe_int (fun _ _ => rfl)) pa_nil)) (pa_cons (pe_callTy call_list_of rfl B.list boot_list' (pa_cons (pe_ix ix_tup (pv 9) pe_int (fun _ _ => rfl)) pa_nil)) pa_nil))))
      (pss_cons (ps_expr (pe_bm PySem.F.plainAttrs_list PySem.F.slot_list_append PySem.F.type_list_append mt_append (pe_ix ix_tup (pv 9) pe_int (fun _ _ => rfl)) (pa_cons pe_int pa_nil)))
      (pss_cons (ps_expr (pe_bm0 PySem.F.plainAttrs_list PySem.F.slot_list_clear PySem.F.type_list_clear mt_clear (pe_ix ix_tup (pv 9) pe_int (fun _ _ => rfl))))
      (pss_cons (ps_set (i := 15) sc_law.nd rfl (Or.inl rfl) (pe_call G_clash (hr.mono (show 6 ≤ 7 by decide)) rfl m_clash k_clash b_clash .nil passN (pa_cons (pv 1) (pa_cons (pv 2) (pa_cons (pe_ix ix_list (pv 8) pe_int (fun _ _ => rfl)) (pa_cons (pe_ix ix_list (pv 8) pe_int (fun _ _ => rfl)) (pa_cons (pe_ix ix_list (pv 8) pe_int (fun _ _ => rfl)) (pa_cons (pe_ix ix_list (pv 8) pe_int (fun _ _ => rfl)) pa_nil))))))))
      (pss_one (ps_ret (pe_and (pe_cmpR (op_eqD (units_of hr)) (pv 15) (pv 14) (nomark _)) (pe_one (pe_cmpR (op_eqD (units_of hr)) (pv 8) (pv 3) (nomark _))))))))))))))))))))))), ?_⟩
    refine ⟨_, rfl, a, ns, rfl, hS, h63, fun T0 N L Sh Pp Ot Oq n0 n1 m f bs p os q H1 s1 hT dr => ?_⟩
    refine ⟨T0, _, rfl, SqT.of hT, rfl, _, _, rfl, _, _, rfl, _, _, rfl, rfl, ?_⟩
    refine ⟨_, rfl, L, _, rfl, SqL.of dr.ls, rfl, _, _, rfl, _, _, rfl, _, _, rfl, _, _, rfl, rfl, ?_⟩
    have hm62 : m ≤ 2 ^ 62 := Int.le_trans dr.m1 (by decide)
    have d1 := dr.h1
    have d2 := dr.h2
    have db1 := d1.bn
    have db2 := d2.bn
    have dp1 := d1.plen
    have dp2 := d2.plen
    refine ⟨_, rfl, Sh, bs, rfl, d1.bk, db1, fun X xs H2 s2 hXn wx hxs fx => ?_⟩
    have d12 := d1.same s2
    have d22 := d2.same s2
    refine ⟨_, rfl, Pp, _, rfl, .inl (SqL.of d12.pp), fun Y hY => ?_⟩
    have u3 := same_new hY (.lst (p.map V.int))
    have eY : upd H2 Y (.lst (p.map V.int)) Y = some (lsI p) := upd_same
    generalize upd H2 Y (.lst (p.map V.int)) = H3 at u3 eY ⊢
    have d23 := d22.same u3
    refine ⟨_, rfl, Ot, os, rfl, d23.bk, db2, fun Z zs H4 s4 hZn wz hzs fz => ?_⟩
    have d24 := d23.same s4
    refine ⟨_, rfl, Oq, _, rfl, .inl (SqL.of d24.pp), fun W hW => ?_⟩
    have u5 := same_new hW (.lst (q.map V.int))
    have eW : upd H4 W (.lst (q.map V.int)) W = some (lsI q) := upd_same
    generalize upd H4 W (.lst (q.map V.int)) = H5 at u5 eW ⊢
    refine ⟨(by show 4 ≤ sizeLine; decide), fun hl hhl => ?_⟩
    have u6 := same_new hhl (.lst [V.ref X, V.ref Y, V.ref Z, V.ref W])
    have eh : upd H5 hl (.lst [V.ref X, V.ref Y, V.ref Z, V.ref W]) hl = some (.lst [V.ref X, V.ref Y, V.ref Z, V.ref W]) := upd_same
    generalize upd H5 hl (.lst [V.ref X, V.ref Y, V.ref Z, V.ref W]) = H6 at u6 eh ⊢
    have s46 := u5.trans u6
    have s36 := s4.trans s46
    have s26 := u3.trans s36
    have s16 := s2.trans s26
    have dr6 := dr.same s16
    have bl_of : ∀ {us ws : List BL}, bkv us = bkv ws → (∀ x ∈ ws, x.2.2.2.length ≤ 10000) → ∀ x ∈ us, x.2.2.2.length ≤ 10000 := fun {us ws} h hw x hx => by
      have h1 : (x.2.1, x.2.2.2) ∈ bkv ws := by rw [← h]; exact List.mem_map.mpr ⟨x, hx, rfl⟩
      obtain ⟨y, hy, e⟩ := List.mem_map.mp h1
      rw [← (Prod.mk.inj e).2]
      exact hw y hy
    have len_of : ∀ {us ws : List BL}, bkv us = bkv ws → us.length = ws.length := fun {us ws} h => by have := congrArg List.length h; rw [bkv_len, bkv_len] at this; exact this
    have hx6 : Hnd H6 X Y xs p := ⟨wx.same s26, s36 _ _ eY, bl_of hxs d1.bl, by rw [len_of hxs]; exact db1, dp1⟩
    have hz6 : Hnd H6 Z W zs q := ⟨wz.same s46, u6 _ _ eW, bl_of hzs d2.bl, by rw [len_of hzs]; exact db2, dp2⟩
    obtain ⟨o, eo⟩ : ∃ o, o = cls m f n0 n1 (bkv bs) p (bkv os) q := ⟨_, rfl⟩
    try dsimp only
    refine sqMidG (fun σ' H' => ∃ v9 : V, σ' = [some (.ref a), some (.ref N), some (.int f), some (.ref L), some (.ref Sh), some (.ref Pp), some (.ref Ot), some (.ref Oq), some (.ref hl), some v9, none, none, none, none, none, none] ∧ Same H6 H' ∧ Tld H6 H' v9 o) ?_ ?_
    rotate_left
    · intro M hM
      refine ⟨_, rfl, _, rfl, _, rfl, hl, _, 0, _, rfl, rfl, SqL.of eh, rfl, _, rfl, hl, _, 1, _, rfl, rfl, SqL.of eh, rfl, _, rfl, hl, _, 2, _, rfl, rfl, SqL.of eh, rfl, _, rfl, hl, _, 3, _, rfl, rfl, SqL.of eh, rfl, N, X, Y, Z, W, xs, zs, p, q, f, m, n0, n1, rfl, dr6.nu, hx6, hz6, hm62, (fun hno H7 s7 => ?_), fun qq hyes T a1 a2 H7 s7 h1 h2 h3 h4 h5 h6 => ?_⟩
      · rw [hxs, hzs, ← eo] at hno
        exact hM _ _ ⟨_, rfl, s7, .inl ⟨rfl, hno⟩⟩
      · rw [hxs, hzs, ← eo] at hyes
        exact hM _ _ ⟨_, rfl, s7, .inr ⟨T, a1, a2, qq, rfl, hyes, h1, h2, h3, h4, h5, h6⟩⟩
    rintro σ' H7 ⟨v9, rfl, s7, tl⟩
    have dH : ∀ {H' : Hp}, Same H6 H' → Deep K H' (.ref hl) (hdD (bkv bs) p (bkv os) q) := fun {H'} s => by
      have := deep_hd (K := K) (s _ _ eh) (hx6.same s) (hz6.same s)
      rwa [hxs, hzs] at this
    have dS : ∀ {H' : Hp}, Same H6 H' → Deep K H' (.ref L) (hdD (bkv bs) p (bkv os) q) := fun {H'} s => deep_hd (s _ _ dr6.ls) (dr6.h1.same s) (dr6.h2.same s)
    refine ⟨_, rfl, _, rfl, _, _, dH s7, dS s7, ht_hdD _ _ _ _, _, rfl, ?_⟩
    rw [eqD_refl]
    refine iteF ?_
    obtain ⟨ft, eft⟩ : ∃ ft, ft = (fitV m f (bkv bs) p && fitV m f (bkv os) q) := ⟨_, rfl⟩
    try unfold tNext
    try dsimp only
    refine sqMidG (fun σ' H' => σ' = [some (.ref a), some (.ref N), some (.int f), some (.ref L), some (.ref Sh), some (.ref Pp), some (.ref Ot), some (.ref Oq), some (.ref hl), some v9, some (.bl ft), none, none, none, none, none] ∧ Same H7 H') ?_ ?_
    rotate_left
    · intro M hM
      have dr7 := dr6.same s7
      refine ⟨_, rfl, _, rfl, _, rfl, _, rfl, N, Sh, Pp, bs, p, f, m, n0, n1, rfl, dr7.nu, dr7.h1, fun H8 s8 => ⟨_, rfl, ?_⟩⟩
      cases hf : fitV m f (bkv bs) p with
      | false =>
        refine iteF ?_
        rw [hf, Bool.false_and] at eft
        subst eft
        exact hM _ _ ⟨rfl, s8⟩
      | true =>
        refine iteT ?_
        rw [hf, Bool.true_and] at eft
        have dr8 := dr7.same s8
        refine ⟨_, rfl, _, rfl, _, rfl, _, rfl, N, Ot, Oq, os, q, f, m, n0, n1, rfl, dr8.nu, dr8.h2, fun H9 s9 => ?_⟩
        rw [← eft]
        exact hM _ _ ⟨rfl, s8.trans s9⟩
    rintro σ' H8 ⟨rfl, s8⟩
    have s68 := s7.trans s8
    have tl8 := tl.same s8
    have dr8 := dr6.same s68
    have isN : ∀ {H' : Hp}, Same H8 H' → o = none → tRet (tIsN (tVar 9)) { nx := fun _ H' => Q V.non H', rt := Q } [some (.ref a), some (.ref N), some (.int f), some (.ref L), some (.ref Sh), some (.ref Pp), some (.ref Ot), some (.ref Oq), some (.ref hl), some v9, some (.bl ft), none, none, none, none, none] H' := fun {H'} s ho => by
      rcases tl8 with ⟨rfl, _⟩ | ⟨T, a1, a2, qq, _, h, _⟩
      · exact ⟨_, rfl, hQ _⟩
      · rw [ho] at h; cases h
    have noC : ¬ (ft = true ∧ (bkv os).length = (bkv bs).length ∧ bkv os ≠ bkv bs) → o = none := fun h => by
      cases ho : o with
      | none => rfl
      | some qq =>
        rw [eo] at ho
        obtain ⟨c1, c2, c3, c4⟩ := cls_some ho
        exact absurd ⟨by rw [eft, c3, c4]; rfl, c1.symm, fun e => c2 e.symm⟩ h
    refine ⟨_, rfl, _, rfl, ?_⟩
    by_cases hft : ft = true
    rotate_left
    · rw [Bool.eq_false_iff.mpr hft]
      exact iteT (iteT (by
        have := isN (Same.refl H8) (noC fun h => hft h.1)
        rw [Bool.eq_false_iff.mpr hft] at this
        exact this))
    subst hft
    refine iteF ?_
    refine ⟨_, rfl, Ot, _, rfl, .inl (SqL.of dr8.h2.bk.at_), _, rfl, Sh, _, rfl, .inl (SqL.of dr8.h1.bk.at_), rfl, _, rfl, ?_⟩
    rw [List.length_map, List.length_map]
    by_cases hlen : os.length = bs.length
    rotate_left
    · rw [decide_eq_false (show ¬ V.int ((os.length : Nat) : Int) = V.int ((bs.length : Nat) : Int) from fun e => hlen (by have := V.int.inj e; trivial))]
      exact iteT (iteT (isN (Same.refl H8) (noC fun h => hlen (by rw [bkv_len, bkv_len] at h; exact h.2.1))))
    rw [decide_eq_true (show V.int ((os.length : Nat) : Int) = V.int ((bs.length : Nat) : Int) by rw [hlen])]
    refine iteF ?_
    refine ⟨_, rfl, _, rfl, _, _, dr8.h2.bk.deep, dr8.h1.bk.deep, ht_wrD _, _, rfl, ?_⟩
    rw [show eqD (wrD (os.map fun w => (w.2.1, w.2.2.2))) (wrD (bs.map fun w => (w.2.1, w.2.2.2))) = decide (bkv os = bkv bs) from eqD_wr (bkv os) (bkv bs)]
    by_cases hsame : bkv os = bkv bs
    · rw [decide_eq_true hsame]
      exact iteT (isN (Same.refl H8) (noC fun h => h.2.2 hsame))
    rw [decide_eq_false hsame]
    refine iteF ?_
    clear isN noC
    have hfits := (Bool.and_eq_true _ _).mp eft.symm
    obtain ⟨ms1, pw1⟩ := fit_msh hfits.1
    obtain ⟨ms2, pw2⟩ := fit_msh hfits.2
    obtain ⟨g1, g2, g3, _, _⟩ := msh_iff.mp ms1
    rw [bkv_len] at g2 g3 pw1 pw2
    obtain ⟨f', rfl⟩ : ∃ f' : Nat, f = (f' : Int) := ⟨f.toNat, by trivial⟩
    obtain ⟨m', rfl⟩ : ∃ m' : Nat, m = (m' : Int) := ⟨m.toNat, by trivial⟩
    have hm100 := dr.m1
    rw [Int.toNat_natCast, Int.toNat_natCast] at pw1 pw2
    refine ⟨_, rfl, _, rfl, _, rfl, _, rfl, N, Sh, Pp, bs, p, f', m', n0, n1, rfl, dr8.nu, dr8.h1, by trivial, by trivial, by trivial, pw1, fun R as t H9 s9 ht ls hal => ?_⟩
    have dr9 := dr8.same s9
    refine ⟨_, rfl, _, rfl, _, rfl, _, rfl, N, Ot, Oq, os, q, f', m', n0, n1, rfl, dr9.nu, dr9.h2, by trivial, by trivial, by trivial, pw2, fun R' as' t' Ha sa ht' ls' hal' => ?_⟩
    have lsa := ls.same sa
    have s8a := s9.trans sa
    have tla := tl8.same s8a
    have s6a := s68.trans s8a
    have lastAt : ∀ {H' : Hp} {D : Addr} {cs : List Addr} {rl : List (List Int)} {l : List Int}, Lss H' D cs (rl ++ [l]) → ∃ c, H' c = some (lsI l) ∧ atI (cs.map V.ref) (-1) = some (.ref c) := fun {H' D cs rl l} Lx => by
      have hlx := Lx.len
      rw [List.length_append, List.length_singleton] at hlx
      obtain ⟨c, hck⟩ := bounded_at (l := cs) (k := rl.length) (by trivial)
      refine ⟨c, Lx.each rl.length c l hck (by rw [List.getElem?_append_right (Nat.le_refl _), Nat.sub_self]; rfl), ?_⟩
      exact atI_neg (d := 1) rfl (by decide) (by rw [List.length_map]; trivial) (by rw [List.length_map, hlx, Nat.add_sub_cancel, List.getElem?_map, hck]; rfl)
    obtain ⟨c1, hc1, hat1⟩ := lastAt lsa
    obtain ⟨c2, hc2, hat2⟩ := lastAt ls'
    refine ⟨_, rfl, 1, rfl, R, _, -1, _, rfl, rfl, SqL.of lsa.at_, hat1, c1, _, rfl, hc1, (by show 5 ≤ 100000; decide), ?_⟩
    have tpb : topV (bkv bs) p ((f' : Int)).toNat ((m' : Int)).toNat = some t := by rw [Int.toNat_natCast, Int.toNat_natCast]; exact ht
    have tpo : topV (bkv os) q ((f' : Int)).toNat ((m' : Int)).toNat = some t' := by rw [Int.toNat_natCast, Int.toNat_natCast]; exact ht'
    have sh1 : ∀ s : Int, shV s n0 n1 (m' : Int) (f' : Int) (bkv xs) p = decide (mixN [2, n0, n1, (m' : Int), t] = s) := fun s => by rw [hxs]; exact shV_yes ms1 tpb
    have sh2 : ∀ s : Int, shV s n0 n1 (m' : Int) (f' : Int) (bkv zs) q = decide (mixN [2, n0, n1, (m' : Int), t'] = s) := fun s => by rw [hzs]; exact shV_yes ms2 tpo
    have ea := s6a _ _ eh
    refine ⟨_, rfl, _, rfl, _, rfl, _, rfl, hl, _, 0, _, rfl, rfl, SqL.of ea, rfl, _, rfl, hl, _, 1, _, rfl, rfl, SqL.of ea, rfl, N, X, Y, xs, p, _, _, n0, n1, _, rfl, (s6a _ _ dr6.nu), (hx6.same s6a), hm62, fun Hb sb => ⟨_, rfl, ?_⟩⟩
    rw [sh1, decide_eq_true rfl]
    refine iteF ?_
    have s6b := s6a.trans sb
    have tlb := tla.same sb
    have lsb := lsa.same sb
    have lsb' := ls'.same sb
    refine ⟨_, rfl, 1, rfl, R', _, -1, _, rfl, rfl, SqL.of lsb'.at_, hat2, c2, _, rfl, sb _ _ hc2, (by show 5 ≤ 100000; decide), _, rfl, rfl, _, rfl, ?_⟩
    have eb := s6b _ _ eh
    by_cases hmx : mixN [2, n0, n1, (m' : Int), t'] = mixN [2, n0, n1, (m' : Int), t]
    rotate_left
    · refine iteNTG (fun e => hmx (V.int.inj e)) ?_
      have ho : o = none := by rw [eo]; exact cls_mix tpb tpo fun e => hmx e.symm
      rcases tlb with ⟨rfl, _⟩ | ⟨T, a1, a2, qq, _, h, _⟩
      · refine ⟨_, rfl, _, rfl, ?_⟩
        refine iteT ?_
        refine ⟨_, rfl, _, rfl, _, rfl, _, rfl, hl, _, 2, _, rfl, rfl, SqL.of eb, rfl, _, rfl, hl, _, 3, _, rfl, rfl, SqL.of eb, rfl, N, Z, W, zs, q, _, _, n0, n1, _, rfl, (s6b _ _ dr6.nu), (hz6.same s6b), hm62, fun Hc sc => ⟨_, rfl, ?_⟩⟩
        rw [sh2, decide_eq_false hmx]
        exact hQ _
      · rw [ho] at h; cases h
    refine iteNS (congrArg V.int hmx) ?_
    have hcy := cls_yes (n0 := n0) (n1 := n1) ⟨(show (bkv bs).length = (bkv os).length by rw [bkv_len, bkv_len]; exact hlen.symm), (fun e => hsame e.symm), ms1, ms2⟩ tpb tpo hmx.symm
    rw [Int.toNat_natCast, Int.toNat_natCast] at hcy
    obtain ⟨qq, hqq⟩ := clash_ex (b := f') (m := m') (n0 := n0) (n1 := n1) (show (bkv bs).length = (bkv os).length by rw [bkv_len, bkv_len]; exact hlen.symm) (by rw [bkv_len]; exact g2) (by rw [bkv_len]; trivial) (fun e => hsame e.symm) ht ht' hmx.symm
    unfold rowF at hqq
    rw [hqq, ← eo] at hcy
    obtain ⟨k1, k2, k3, k4⟩ := fcl_some hqq
    rcases tlb with ⟨_, h⟩ | ⟨T, a1, a2, q', rfl, h, hTb, ha1, ha2, na1, na2, n12⟩
    · rw [h] at hcy; cases hcy
    rw [h] at hcy
    have eqq : q' = qq := Option.some.inj hcy
    subst eqq
    have hs1 := row_short (bs := bs) (p := p) (b := f') (m := m') (l := [2, n0, n1, (m' : Int), t]) rfl d1.bl _ k1
    have hs2 := row_short (bs := os) (p := q) (b := f') (m := m') (l := [2, n0, n1, (m' : Int), t']) rfl d2.bl _ k2
    refine ⟨_, rfl, _, rfl, _, rfl, T, a1, a2, R, R', q'.1, q'.2, as, as', _, _, rfl, hTb, ha1, ha2, lsb, lsb', hs1, hs2, k1, k2, k3, k4, fun Hc sc => ⟨_, rfl, ?_⟩⟩
    refine iteF ?_
    have s6c := s6b.trans sc
    have ec := s6c _ _ eh
    refine ⟨_, rfl, _, rfl, _, rfl, _, rfl, hl, _, 2, _, rfl, rfl, SqL.of ec, rfl, _, rfl, hl, _, 3, _, rfl, rfl, SqL.of ec, rfl, N, Z, W, zs, q, _, _, n0, n1, _, rfl, (s6c _ _ dr6.nu), (hz6.same s6c), hm62, fun Hd sd => ⟨_, rfl, ?_⟩⟩
    rw [sh2, decide_eq_true hmx]
    refine iteF ?_
    have sbd := sc.trans sd
    have s6d := s6b.trans sbd
    have hTd := sbd _ _ hTb
    have ha1d := sbd _ _ ha1
    have ha2d := sbd _ _ ha2
    refine ⟨_, rfl, T, _, _, _, rfl, rfl, SqT.of hTd, rfl, a1, _, rfl, .inl (SqL.of ha1d), fun K1 hK1 => ?_⟩
    have v1 := same_new hK1 (.lst (q'.1.map V.int))
    have eK1 : upd Hd K1 (.lst (q'.1.map V.int)) K1 = some (lsI q'.1) := upd_same
    have nK1a : K1 ≠ a1 := fun e => by rw [e, ha1d] at hK1; cases hK1
    have nK1b : K1 ≠ a2 := fun e => by rw [e, ha2d] at hK1; cases hK1
    generalize upd Hd K1 (.lst (q'.1.map V.int)) = He at v1 eK1 ⊢
    refine ⟨_, rfl, T, _, _, _, rfl, rfl, SqT.of (v1 _ _ hTd), rfl, a2, _, rfl, .inl (SqL.of (v1 _ _ ha2d)), fun K2 hK2 => ?_⟩
    have v2 := same_new hK2 (.lst (q'.2.map V.int))
    have eK2 : upd He K2 (.lst (q'.2.map V.int)) K2 = some (lsI q'.2) := upd_same
    have nK2a : K2 ≠ a1 := fun e => by rw [e, v1 _ _ ha1d] at hK2; cases hK2
    have nK2b : K2 ≠ a2 := fun e => by rw [e, v1 _ _ ha2d] at hK2; cases hK2
    generalize upd He K2 (.lst (q'.2.map V.int)) = Hf at v2 eK2 ⊢
    refine ⟨(by show 2 ≤ sizeLine; decide), fun kp hkp => ?_⟩
    have v3 := same_new hkp (.tup [V.ref K1, V.ref K2])
    have ekp : upd Hf kp (.tup [V.ref K1, V.ref K2]) kp = some (.tup [V.ref K1, V.ref K2]) := upd_same
    generalize upd Hf kp (.tup [V.ref K1, V.ref K2]) = Hg at v3 ekp ⊢
    have sdg := v1.trans (v2.trans v3)
    have hTg := sdg _ _ hTd
    have ha1g := sdg _ _ ha1d
    have ha2g := sdg _ _ ha2d
    have eK1g := (v2.trans v3) _ _ eK1
    have eK2g := v3 _ _ eK2
    have s6g := s6d.trans sdg
    refine ⟨_, rfl, T, _, _, _, rfl, rfl, SqT.of hTg, rfl, .inl ⟨rfl, _, SqL.of ha1g⟩, a1, _, _, rfl, rfl, ha1g, fits_lt (by rw [List.length_map]; trivial), ?_⟩
    have nt : ∀ b xs, Hg b = some (.tup xs) → ∀ c l, Hg c = some (lsI l) → b ≠ c := fun b xs e1 c l e2 e => by rw [e, e2] at e1; cases e1
    have hTh : upd Hg a1 (.lst (q'.1.map V.int ++ [V.int 1])) T = some (.tup [.ref a1, .ref a2]) := by rw [upd_ne (nt _ _ hTg _ _ ha1g)]; exact hTg
    have ha2h : upd Hg a1 (.lst (q'.1.map V.int ++ [V.int 1])) a2 = some (lsI q'.2) := by rw [upd_ne (Ne.symm n12)]; exact ha2g
    have eK1h : upd Hg a1 (.lst (q'.1.map V.int ++ [V.int 1])) K1 = some (lsI q'.1) := by rw [upd_ne nK1a]; exact eK1g
    have eK2h : upd Hg a1 (.lst (q'.1.map V.int ++ [V.int 1])) K2 = some (lsI q'.2) := by rw [upd_ne nK2a]; exact eK2g
    have ekph : upd Hg a1 (.lst (q'.1.map V.int ++ [V.int 1])) kp = some (.tup [V.ref K1, V.ref K2]) := by rw [upd_ne (nt _ _ ekp _ _ ha1g)]; exact ekp
    have nkp2 : kp ≠ a2 := nt _ _ ekp _ _ ha2g
    have s6h := same_upd s6g (.lst (q'.1.map V.int ++ [V.int 1])) na1
    generalize upd Hg a1 (.lst (q'.1.map V.int ++ [V.int 1])) = Hh at hTh ha2h eK1h eK2h ekph s6h ⊢
    refine ⟨_, rfl, T, _, _, _, rfl, rfl, SqT.of hTh, rfl, .inl ⟨rfl, _, SqL.of ha2h⟩, a2, _, rfl, rfl, ha2h, ?_⟩
    have eK1i : upd Hh a2 (.lst []) K1 = some (lsI q'.1) := by rw [upd_ne nK1b]; exact eK1h
    have eK2i : upd Hh a2 (.lst []) K2 = some (lsI q'.2) := by rw [upd_ne nK2b]; exact eK2h
    have ekpi : upd Hh a2 (.lst []) kp = some (.tup [V.ref K1, V.ref K2]) := by rw [upd_ne nkp2]; exact ekph
    have s6i := same_upd s6h (.lst []) na2
    generalize upd Hh a2 (.lst []) = Hi at eK1i eK2i ekpi s6i ⊢
    have ei := s6i _ _ eh
    have hcx : cls (m' : Int) (f' : Int) n0 n1 (bkv xs) p (bkv zs) q = some q' := by rw [hxs, hzs, ← eo]; exact h
    refine ⟨_, rfl, _, rfl, _, rfl, hl, _, 0, _, rfl, rfl, SqL.of ei, rfl, _, rfl, hl, _, 1, _, rfl, rfl, SqL.of ei, rfl, _, rfl, hl, _, 2, _, rfl, rfl, SqL.of ei, rfl, _, rfl, hl, _, 3, _, rfl, rfl, SqL.of ei, rfl, N, X, Y, Z, W, xs, zs, p, q, (f' : Int), (m' : Int), n0, n1, rfl, s6i _ _ dr6.nu, hx6.same s6i, hz6.same s6i, hm62, (fun hno => by rw [hcx] at hno; cases hno), fun q2 hyes T2 b1 b2 Hj sj hT2 hb1 hb2 _ _ _ => ?_⟩
    rw [hcx] at hyes
    have e2 : q' = q2 := Option.some.inj hyes
    subst e2
    have s6j := s6i.trans sj
    refine ⟨_, rfl, _, rfl, .tup [.lst (q'.1.map DV.int), .lst (q'.2.map DV.int)], .tup [.lst (q'.1.map DV.int), .lst (q'.2.map DV.int)], .tup (SqT.of hT2) (.cons (.lst (SqL.of hb1) (Deeps.ints _)) (.cons (.lst (SqL.of hb2) (Deeps.ints _)) .nil)), .tup (SqT.of (sj _ _ ekpi)) (.cons (.lst (SqL.of (sj _ _ eK1i)) (Deeps.ints _)) (.cons (.lst (SqL.of (sj _ _ eK2i)) (Deeps.ints _)) .nil)), ?_, _, rfl, ?_⟩
    · rw [ht_tup]
      unfold hts hts hts
      have h2 : ∀ p : List Int, L2.ht (.lst (p.map DV.int)) = 1 := fun p => by rw [ht_lst, hts_dints]
      rw [h2, h2]
      decide
    rw [eqD_refl]
    refine iteT ?_
    refine ⟨_, rfl, _, rfl, _, _, dH s6j, dS s6j, ht_hdD _ _ _ _, ?_⟩
    rw [eqD_refl]
    exact hQ _
end
end K69
set_option Elab.async false
set_option linter.all false
set_option maxRecDepth 100000
set_option maxHeartbeats 4000000
namespace K69
open PySem L2 PySem.W PH
theorem len_1 {α : Type} : ∀ {us : List α}, us.length = 1 → ∃ x0, us = [x0]
  | [x0], _ => ⟨x0, rfl⟩
theorem len_2 {α : Type} : ∀ {us : List α}, us.length = 2 → ∃ x0 x1, us = [x0, x1]
  | [x0, x1], _ => ⟨x0, x1, rfl⟩
theorem len_3 {α : Type} : ∀ {us : List α}, us.length = 3 → ∃ x0 x1 x2, us = [x0, x1, x2]
  | [x0, x1, x2], _ => ⟨x0, x1, x2, rfl⟩
theorem len_4 {α : Type} : ∀ {us : List α}, us.length = 4 → ∃ x0 x1 x2 x3, us = [x0, x1, x2, x3]
  | [x0, x1, x2, x3], _ => ⟨x0, x1, x2, x3, rfl⟩
theorem len_5 {α : Type} : ∀ {us : List α}, us.length = 5 → ∃ x0 x1 x2 x3 x4, us = [x0, x1, x2, x3, x4]
  | [x0, x1, x2, x3, x4], _ => ⟨x0, x1, x2, x3, x4, rfl⟩
theorem len_6 {α : Type} : ∀ {us : List α}, us.length = 6 → ∃ x0 x1 x2 x3 x4 x5, us = [x0, x1, x2, x3, x4, x5]
  | [x0, x1, x2, x3, x4, x5], _ => ⟨x0, x1, x2, x3, x4, x5, rfl⟩
section
theorem all_mk {l : PySem.W.OpenLaw} {w : World} {K : PySem.W.Frag} {h : Heap} {mg : Str → Option Value} {fa f1 f2 f3 f4 f5 f6 f7 f8 f9 f10 f11 f12 f13 f14 f15 f16 f17 f18 f19 f20 f21 f22 f23 f24 f25 f26 f27 f28 f29 f30 f31 f32 f33 f34 f35 f36 f37 f38 f39 c_PackError c_Broken c_NoPlace : Addr} (X : K.In h) (G : h.Ns mainGlobals mg) (hfa : mg "law" = some (.ref fa))
    {od1 an1 od2 an2 od3 an3 od4 an4 od5 an5 od6 an6 od7 an7 od8 an8 od9 an9 od10 an10 od11 an11 od12 an12 od13 an13 od14 an14 od15 an15 od16 an16 od17 an17 od18 an18 od19 an19 od20 an20 od21 an21 od22 an22 od23 an23 od24 an24 od25 an25 od26 an26 od27 an27 od28 an28 od29 an29 od30 an30 od31 an31 od32 an32 od33 an33 od34 an34 od35 an35 od36 an36 od37 an37 od38 an38 od39 an39 : Option Addr} {sl1 sl2 sl3 sl4 sl5 sl6 sl7 sl8 sl9 sl10 sl11 sl12 sl13 sl14 sl15 sl16 sl17 sl18 sl19 sl20 sl21 sl22 sl23 sl24 sl25 sl26 sl27 sl28 sl29 sl30 sl31 sl32 sl33 sl34 sl35 sl36 sl37 sl38 sl39 : Array (Option Value)} {oc1 kV1 dc1 pm1 cd1 ct1 oc2 kV2 dc2 pm2 cd2 ct2 oc3 kV3 dc3 pm3 cd3 ct3 oc4 kV4 dc4 pm4 cd4 ct4 oc5 kV5 dc5 pm5 cd5 ct5 oc6 kV6 dc6 pm6 cd6 ct6 oc7 kV7 dc7 pm7 cd7 ct7 oc8 kV8 dc8 pm8 cd8 ct8 oc9 kV9 dc9 pm9 cd9 ct9 oc10 kV10 dc10 pm10 cd10 ct10 oc11 kV11 dc11 pm11 cd11 ct11 oc12 kV12 dc12 pm12 cd12 ct12 oc13 kV13 dc13 pm13 cd13 ct13 oc14 kV14 dc14 pm14 cd14 ct14 oc15 kV15 dc15 pm15 cd15 ct15 oc16 kV16 dc16 pm16 cd16 ct16 oc17 kV17 dc17 pm17 cd17 ct17 oc18 kV18 dc18 pm18 cd18 ct18 oc19 kV19 dc19 pm19 cd19 ct19 oc20 kV20 dc20 pm20 cd20 ct20 oc21 kV21 dc21 pm21 cd21 ct21 oc22 kV22 dc22 pm22 cd22 ct22 oc23 kV23 dc23 pm23 cd23 ct23 oc24 kV24 dc24 pm24 cd24 ct24 oc25 kV25 dc25 pm25 cd25 ct25 oc26 kV26 dc26 pm26 cd26 ct26 oc27 kV27 dc27 pm27 cd27 ct27 oc28 kV28 dc28 pm28 cd28 ct28 oc29 kV29 dc29 pm29 cd29 ct29 oc30 kV30 dc30 pm30 cd30 ct30 oc31 kV31 dc31 pm31 cd31 ct31 oc32 kV32 dc32 pm32 cd32 ct32 oc33 kV33 dc33 pm33 cd33 ct33 oc34 kV34 dc34 pm34 cd34 ct34 oc35 kV35 dc35 pm35 cd35 ct35 oc36 kV36 dc36 pm36 cd36 ct36 oc37 kV37 dc37 pm37 cd37 ct37 oc38 kV38 dc38 pm38 cd38 ct38 oc39 kV39 dc39 pm39 cd39 ct39 : Value}
    {tk_FACTOR tk_MODULUS tk_OF_BLOCK tk_OF_PAIR tk_OF_CONTAINER tk_GREATEST_SIZE tk_MOST_SIGNS : Tok}
    (a1 : PySem.W.nsIn K mainGlobals "is_whole" = some (some (.ref f1))) (l1 : K.lookup f1 = some ⟨oc1, od1, .func (PySem.W.fnOf "is_whole" "is_whole" (defArgs s_whole) (defBody s_whole) (defScope s_whole) .none kV1 dc1 pm1 an1 cd1 ct1), sl1⟩) (cc1 : PySem.W.codeIn K cd1 "is_whole" = true) (k1 : PySem.W.keepIn K (.ref f1) = true)
    (a2 : PySem.W.nsIn K mainGlobals "refuse_no_stretch" = some (some (.ref f2))) (l2 : K.lookup f2 = some ⟨oc2, od2, .func (PySem.W.fnOf "refuse_no_stretch" "refuse_no_stretch" (defArgs s_nostr) (defBody s_nostr) (defScope s_nostr) .none kV2 dc2 pm2 an2 cd2 ct2), sl2⟩) (cc2 : PySem.W.codeIn K cd2 "refuse_no_stretch" = true) (k2 : PySem.W.keepIn K (.ref f2) = true)
    (a3 : PySem.W.nsIn K mainGlobals "is_size" = some (some (.ref f3))) (l3 : K.lookup f3 = some ⟨oc3, od3, .func (PySem.W.fnOf "is_size" "is_size" (defArgs s_size) (defBody s_size) (defScope s_size) .none kV3 dc3 pm3 an3 cd3 ct3), sl3⟩) (cc3 : PySem.W.codeIn K cd3 "is_size" = true) (k3 : PySem.W.keepIn K (.ref f3) = true)
    (a4 : PySem.W.nsIn K mainGlobals "is_total" = some (some (.ref f4))) (l4 : K.lookup f4 = some ⟨oc4, od4, .func (PySem.W.fnOf "is_total" "is_total" (defArgs s_total) (defBody s_total) (defScope s_total) .none kV4 dc4 pm4 an4 cd4 ct4), sl4⟩) (cc4 : PySem.W.codeIn K cd4 "is_total" = true) (k4 : PySem.W.keepIn K (.ref f4) = true)
    (a5 : PySem.W.nsIn K mainGlobals "is_block" = some (some (.ref f5))) (l5 : K.lookup f5 = some ⟨oc5, od5, .func (PySem.W.fnOf "is_block" "is_block" (defArgs s_isbk) (defBody s_isbk) (defScope s_isbk) .none kV5 dc5 pm5 an5 cd5 ct5), sl5⟩) (cc5 : PySem.W.codeIn K cd5 "is_block" = true) (k5 : PySem.W.keepIn K (.ref f5) = true)
    (a6 : PySem.W.nsIn K mainGlobals "are_blocks" = some (some (.ref f6))) (l6 : K.lookup f6 = some ⟨oc6, od6, .func (PySem.W.fnOf "are_blocks" "are_blocks" (defArgs s_arebk) (defBody s_arebk) (defScope s_arebk) .none kV6 dc6 pm6 an6 cd6 ct6), sl6⟩) (cc6 : PySem.W.codeIn K cd6 "are_blocks" = true) (k6 : PySem.W.keepIn K (.ref f6) = true)
    (a7 : PySem.W.nsIn K mainGlobals "blocks_needed" = some (some (.ref f7))) (l7 : K.lookup f7 = some ⟨oc7, od7, .func (PySem.W.fnOf "blocks_needed" "blocks_needed" (defArgs s_need) (defBody s_need) (defScope s_need) .none kV7 dc7 pm7 an7 cd7 ct7), sl7⟩) (cc7 : PySem.W.codeIn K cd7 "blocks_needed" = true) (k7 : PySem.W.keepIn K (.ref f7) = true)
    (a8 : PySem.W.nsIn K mainGlobals "is_container" = some (some (.ref f8))) (l8 : K.lookup f8 = some ⟨oc8, od8, .func (PySem.W.fnOf "is_container" "is_container" (defArgs s_iscon) (defBody s_iscon) (defScope s_iscon) .none kV8 dc8 pm8 an8 cd8 ct8), sl8⟩) (cc8 : PySem.W.codeIn K cd8 "is_container" = true) (k8 : PySem.W.keepIn K (.ref f8) = true)
    (a9 : PySem.W.nsIn K mainGlobals "refuse_no_container" = some (some (.ref f9))) (l9 : K.lookup f9 = some ⟨oc9, od9, .func (PySem.W.fnOf "refuse_no_container" "refuse_no_container" (defArgs s_nocon) (defBody s_nocon) (defScope s_nocon) .none kV9 dc9 pm9 an9 cd9 ct9), sl9⟩) (cc9 : PySem.W.codeIn K cd9 "refuse_no_container" = true) (k9 : PySem.W.keepIn K (.ref f9) = true)
    (a10 : PySem.W.nsIn K mainGlobals "mix" = some (some (.ref f10))) (l10 : K.lookup f10 = some ⟨oc10, od10, .func (PySem.W.fnOf "mix" "mix" (defArgs s_mix) (defBody s_mix) (defScope s_mix) .none kV10 dc10 pm10 an10 cd10 ct10), sl10⟩) (cc10 : PySem.W.codeIn K cd10 "mix" = true) (k10 : PySem.W.keepIn K (.ref f10) = true)
    (a11 : PySem.W.nsIn K mainGlobals "block_row" = some (some (.ref f11))) (l11 : K.lookup f11 = some ⟨oc11, od11, .func (PySem.W.fnOf "block_row" "block_row" (defArgs s_brow) (defBody s_brow) (defScope s_brow) .none kV11 dc11 pm11 an11 cd11 ct11), sl11⟩) (cc11 : PySem.W.codeIn K cd11 "block_row" = true) (k11 : PySem.W.keepIn K (.ref f11) = true)
    (a12 : PySem.W.nsIn K mainGlobals "block_seal" = some (some (.ref f12))) (l12 : K.lookup f12 = some ⟨oc12, od12, .func (PySem.W.fnOf "block_seal" "block_seal" (defArgs s_bseal) (defBody s_bseal) (defScope s_bseal) .none kV12 dc12 pm12 an12 cd12 ct12), sl12⟩) (cc12 : PySem.W.codeIn K cd12 "block_seal" = true) (k12 : PySem.W.keepIn K (.ref f12) = true)
    (a13 : PySem.W.nsIn K mainGlobals "pair_rows" = some (some (.ref f13))) (l13 : K.lookup f13 = some ⟨oc13, od13, .func (PySem.W.fnOf "pair_rows" "pair_rows" (defArgs s_prows) (defBody s_prows) (defScope s_prows) .none kV13 dc13 pm13 an13 cd13 ct13), sl13⟩) (cc13 : PySem.W.codeIn K cd13 "pair_rows" = true) (k13 : PySem.W.keepIn K (.ref f13) = true)
    (a14 : PySem.W.nsIn K mainGlobals "next_level" = some (some (.ref f14))) (l14 : K.lookup f14 = some ⟨oc14, od14, .func (PySem.W.fnOf "next_level" "next_level" (defArgs s_nextl) (defBody s_nextl) (defScope s_nextl) .none kV14 dc14 pm14 an14 cd14 ct14), sl14⟩) (cc14 : PySem.W.codeIn K cd14 "next_level" = true) (k14 : PySem.W.keepIn K (.ref f14) = true)
    (a15 : PySem.W.nsIn K mainGlobals "container_row" = some (some (.ref f15))) (l15 : K.lookup f15 = some ⟨oc15, od15, .func (PySem.W.fnOf "container_row" "container_row" (defArgs s_crow) (defBody s_crow) (defScope s_crow) .none kV15 dc15 pm15 an15 cd15 ct15), sl15⟩) (cc15 : PySem.W.codeIn K cd15 "container_row" = true) (k15 : PySem.W.keepIn K (.ref f15) = true)
    (a16 : PySem.W.nsIn K mainGlobals "places_lacking" = some (some (.ref f16))) (l16 : K.lookup f16 = some ⟨oc16, od16, .func (PySem.W.fnOf "places_lacking" "places_lacking" (defArgs s_lack) (defBody s_lack) (defScope s_lack) .none kV16 dc16 pm16 an16 cd16 ct16), sl16⟩) (cc16 : PySem.W.codeIn K cd16 "places_lacking" = true) (k16 : PySem.W.keepIn K (.ref f16) = true)
    (a17 : PySem.W.nsIn K mainGlobals "paper_of" = some (some (.ref f17))) (l17 : K.lookup f17 = some ⟨oc17, od17, .func (PySem.W.fnOf "paper_of" "paper_of" (defArgs s_paper) (defBody s_paper) (defScope s_paper) .none kV17 dc17 pm17 an17 cd17 ct17), sl17⟩) (cc17 : PySem.W.codeIn K cd17 "paper_of" = true) (k17 : PySem.W.keepIn K (.ref f17) = true)
    (a18 : PySem.W.nsIn K mainGlobals "may_be_sealed" = some (some (.ref f18))) (l18 : K.lookup f18 = some ⟨oc18, od18, .func (PySem.W.fnOf "may_be_sealed" "may_be_sealed" (defArgs s_mayseal) (defBody s_mayseal) (defScope s_mayseal) .none kV18 dc18 pm18 an18 cd18 ct18), sl18⟩) (cc18 : PySem.W.codeIn K cd18 "may_be_sealed" = true) (k18 : PySem.W.keepIn K (.ref f18) = true)
    (a19 : PySem.W.nsIn K mainGlobals "are_seals" = some (some (.ref f19))) (l19 : K.lookup f19 = some ⟨oc19, od19, .func (PySem.W.fnOf "are_seals" "are_seals" (defArgs s_aresl) (defBody s_aresl) (defScope s_aresl) .none kV19 dc19 pm19 an19 cd19 ct19), sl19⟩) (cc19 : PySem.W.codeIn K cd19 "are_seals" = true) (k19 : PySem.W.keepIn K (.ref f19) = true)
    (a20 : PySem.W.nsIn K mainGlobals "may_show" = some (some (.ref f20))) (l20 : K.lookup f20 = some ⟨oc20, od20, .func (PySem.W.fnOf "may_show" "may_show" (defArgs s_mayshow) (defBody s_mayshow) (defScope s_mayshow) .none kV20 dc20 pm20 an20 cd20 ct20), sl20⟩) (cc20 : PySem.W.codeIn K cd20 "may_show" = true) (k20 : PySem.W.keepIn K (.ref f20) = true)
    (a21 : PySem.W.nsIn K mainGlobals "rows_to_top" = some (some (.ref f21))) (l21 : K.lookup f21 = some ⟨oc21, od21, .func (PySem.W.fnOf "rows_to_top" "rows_to_top" (defArgs s_rtop) (defBody s_rtop) (defScope s_rtop) .none kV21 dc21 pm21 an21 cd21 ct21), sl21⟩) (cc21 : PySem.W.codeIn K cd21 "rows_to_top" = true) (k21 : PySem.W.keepIn K (.ref f21) = true)
    (a22 : PySem.W.nsIn K mainGlobals "rows_mixed" = some (some (.ref f22))) (l22 : K.lookup f22 = some ⟨oc22, od22, .func (PySem.W.fnOf "rows_mixed" "rows_mixed" (defArgs s_rmix) (defBody s_rmix) (defScope s_rmix) .none kV22 dc22 pm22 an22 cd22 ct22), sl22⟩) (cc22 : PySem.W.codeIn K cd22 "rows_mixed" = true) (k22 : PySem.W.keepIn K (.ref f22) = true)
    (a23 : PySem.W.nsIn K mainGlobals "paper_shows" = some (some (.ref f23))) (l23 : K.lookup f23 = some ⟨oc23, od23, .func (PySem.W.fnOf "paper_shows" "paper_shows" (defArgs s_shows) (defBody s_shows) (defScope s_shows) .none kV23 dc23 pm23 an23 cd23 ct23), sl23⟩) (cc23 : PySem.W.codeIn K cd23 "paper_shows" = true) (k23 : PySem.W.keepIn K (.ref f23) = true)
    (a24 : PySem.W.nsIn K mainGlobals "clash_of" = some (some (.ref f24))) (l24 : K.lookup f24 = some ⟨oc24, od24, .func (PySem.W.fnOf "clash_of" "clash_of" (defArgs s_clash) (defBody s_clash) (defScope s_clash) .none kV24 dc24 pm24 an24 cd24 ct24), sl24⟩) (cc24 : PySem.W.codeIn K cd24 "clash_of" = true) (k24 : PySem.W.keepIn K (.ref f24) = true)
    (a25 : PySem.W.nsIn K mainGlobals "_law_cell_at" = some (some (.ref f25))) (l25 : K.lookup f25 = some ⟨oc25, od25, .func (PySem.W.fnOf "_law_cell_at" "_law_cell_at" (defArgs s_cellat) (defBody s_cellat) (defScope s_cellat) .none kV25 dc25 pm25 an25 cd25 ct25), sl25⟩) (cc25 : PySem.W.codeIn K cd25 "_law_cell_at" = true) (k25 : PySem.W.keepIn K (.ref f25) = true)
    (a26 : PySem.W.nsIn K mainGlobals "_law_whole" = some (some (.ref f26))) (l26 : K.lookup f26 = some ⟨oc26, od26, .func (PySem.W.fnOf "_law_whole" "_law_whole" (defArgs s_lwhole) (defBody s_lwhole) (defScope s_lwhole) .none kV26 dc26 pm26 an26 cd26 ct26), sl26⟩) (cc26 : PySem.W.codeIn K cd26 "_law_whole" = true) (k26 : PySem.W.keepIn K (.ref f26) = true)
    (a27 : PySem.W.nsIn K mainGlobals "_law_bits" = some (some (.ref f27))) (l27 : K.lookup f27 = some ⟨oc27, od27, .func (PySem.W.fnOf "_law_bits" "_law_bits" (defArgs s_lbits) (defBody s_lbits) (defScope s_lbits) .none kV27 dc27 pm27 an27 cd27 ct27), sl27⟩) (cc27 : PySem.W.codeIn K cd27 "_law_bits" = true) (k27 : PySem.W.keepIn K (.ref f27) = true)
    (a28 : PySem.W.nsIn K mainGlobals "_law_mix" = some (some (.ref f28))) (l28 : K.lookup f28 = some ⟨oc28, od28, .func (PySem.W.fnOf "_law_mix" "_law_mix" (defArgs s_lmix) (defBody s_lmix) (defScope s_lmix) .none kV28 dc28 pm28 an28 cd28 ct28), sl28⟩) (cc28 : PySem.W.codeIn K cd28 "_law_mix" = true) (k28 : PySem.W.keepIn K (.ref f28) = true)
    (a29 : PySem.W.nsIn K mainGlobals "_law_copy" = some (some (.ref f29))) (l29 : K.lookup f29 = some ⟨oc29, od29, .func (PySem.W.fnOf "_law_copy" "_law_copy" (defArgs s_lcopy) (defBody s_lcopy) (defScope s_lcopy) .none kV29 dc29 pm29 an29 cd29 ct29), sl29⟩) (cc29 : PySem.W.codeIn K cd29 "_law_copy" = true) (k29 : PySem.W.keepIn K (.ref f29) = true)
    (a30 : PySem.W.nsIn K mainGlobals "_law_others" = some (some (.ref f30))) (l30 : K.lookup f30 = some ⟨oc30, od30, .func (PySem.W.fnOf "_law_others" "_law_others" (defArgs s_lothers) (defBody s_lothers) (defScope s_lothers) .none kV30 dc30 pm30 an30 cd30 ct30), sl30⟩) (cc30 : PySem.W.codeIn K cd30 "_law_others" = true) (k30 : PySem.W.keepIn K (.ref f30) = true)
    (a31 : PySem.W.nsIn K mainGlobals "_law_another" = some (some (.ref f31))) (l31 : K.lookup f31 = some ⟨oc31, od31, .func (PySem.W.fnOf "_law_another" "_law_another" (defArgs s_lanother) (defBody s_lanother) (defScope s_lanother) .none kV31 dc31 pm31 an31 cd31 ct31), sl31⟩) (cc31 : PySem.W.codeIn K cd31 "_law_another" = true) (k31 : PySem.W.keepIn K (.ref f31) = true)
    (a32 : PySem.W.nsIn K mainGlobals "_law_spoilt" = some (some (.ref f32))) (l32 : K.lookup f32 = some ⟨oc32, od32, .func (PySem.W.fnOf "_law_spoilt" "_law_spoilt" (defArgs s_lspoilt) (defBody s_lspoilt) (defScope s_lspoilt) .none kV32 dc32 pm32 an32 cd32 ct32), sl32⟩) (cc32 : PySem.W.codeIn K cd32 "_law_spoilt" = true) (k32 : PySem.W.keepIn K (.ref f32) = true)
    (a33 : PySem.W.nsIn K mainGlobals "_law_rows" = some (some (.ref f33))) (l33 : K.lookup f33 = some ⟨oc33, od33, .func (PySem.W.fnOf "_law_rows" "_law_rows" (defArgs s_lrows) (defBody s_lrows) (defScope s_lrows) .none kV33 dc33 pm33 an33 cd33 ct33), sl33⟩) (cc33 : PySem.W.codeIn K cd33 "_law_rows" = true) (k33 : PySem.W.keepIn K (.ref f33) = true)
    (a34 : PySem.W.nsIn K mainGlobals "_law_paper" = some (some (.ref f34))) (l34 : K.lookup f34 = some ⟨oc34, od34, .func (PySem.W.fnOf "_law_paper" "_law_paper" (defArgs s_lpaper) (defBody s_lpaper) (defScope s_lpaper) .none kV34 dc34 pm34 an34 cd34 ct34), sl34⟩) (cc34 : PySem.W.codeIn K cd34 "_law_paper" = true) (k34 : PySem.W.keepIn K (.ref f34) = true)
    (a35 : PySem.W.nsIn K mainGlobals "_law_clash" = some (some (.ref f35))) (l35 : K.lookup f35 = some ⟨oc35, od35, .func (PySem.W.fnOf "_law_clash" "_law_clash" (defArgs s_lclash) (defBody s_lclash) (defScope s_lclash) .none kV35 dc35 pm35 an35 cd35 ct35), sl35⟩) (cc35 : PySem.W.codeIn K cd35 "_law_clash" = true) (k35 : PySem.W.keepIn K (.ref f35) = true)
    (a36 : PySem.W.nsIn K mainGlobals "_law_long" = some (some (.ref f36))) (l36 : K.lookup f36 = some ⟨oc36, od36, .func (PySem.W.fnOf "_law_long" "_law_long" (defArgs s_llong) (defBody s_llong) (defScope s_llong) .none kV36 dc36 pm36 an36 cd36 ct36), sl36⟩) (cc36 : PySem.W.codeIn K cd36 "_law_long" = true) (k36 : PySem.W.keepIn K (.ref f36) = true)
    (a37 : PySem.W.nsIn K mainGlobals "_law_fits" = some (some (.ref f37))) (l37 : K.lookup f37 = some ⟨oc37, od37, .func (PySem.W.fnOf "_law_fits" "_law_fits" (defArgs s_lfits) (defBody s_lfits) (defScope s_lfits) .none kV37 dc37 pm37 an37 cd37 ct37), sl37⟩) (cc37 : PySem.W.codeIn K cd37 "_law_fits" = true) (k37 : PySem.W.keepIn K (.ref f37) = true)
    (a38 : PySem.W.nsIn K mainGlobals "_law_drawn" = some (some (.ref f38))) (l38 : K.lookup f38 = some ⟨oc38, od38, .func (PySem.W.fnOf "_law_drawn" "_law_drawn" (defArgs s_ldrawn) (defBody s_ldrawn) (defScope s_ldrawn) .none kV38 dc38 pm38 an38 cd38 ct38), sl38⟩) (cc38 : PySem.W.codeIn K cd38 "_law_drawn" = true) (k38 : PySem.W.keepIn K (.ref f38) = true)
    (a39 : PySem.W.nsIn K mainGlobals "law" = some (some (.ref f39))) (l39 : K.lookup f39 = some ⟨oc39, od39, .func (PySem.W.fnOf "law" "law" (defArgs s_law) (defBody s_law) (defScope s_law) .none kV39 dc39 pm39 an39 cd39 ct39), sl39⟩) (cc39 : PySem.W.codeIn K cd39 "law" = true) (k39 : PySem.W.keepIn K (.ref f39) = true)
    (z_isinstance : PySem.W.nsIn K mainGlobals "isinstance" = some none)
    (z_list : PySem.W.nsIn K mainGlobals "list" = some none)
    (z_int : PySem.W.nsIn K mainGlobals "int" = some none)
    (z_bool : PySem.W.nsIn K mainGlobals "bool" = some none)
    (z_len : PySem.W.nsIn K mainGlobals "len" = some none)
    (z_range : PySem.W.nsIn K mainGlobals "range" = some none)
    (z_max : PySem.W.nsIn K mainGlobals "max" = some none)
    (z_ValueError : PySem.W.nsIn K mainGlobals "ValueError" = some none)
    (z_tuple : PySem.W.nsIn K mainGlobals "tuple" = some none)
    (z_min : PySem.W.nsIn K mainGlobals "min" = some none)
    (z_sorted : PySem.W.nsIn K mainGlobals "sorted" = some none)
    (z_all : PySem.W.nsIn K mainGlobals "all" = some none)
    (z_dict : PySem.W.nsIn K mainGlobals "dict" = some none)
    (z_reversed : PySem.W.nsIn K mainGlobals "reversed" = some none)
    (z_enumerate : PySem.W.nsIn K mainGlobals "enumerate" = some none)
    (z_zip : PySem.W.nsIn K mainGlobals "zip" = some none)
    (e_PackError : PySem.W.nsIn K mainGlobals "PackError" = some (some (.ref c_PackError)))
    (x0_PackError : PySem.W.excIn K c_PackError bmV "ValueError.__new__" = true) (x1_PackError : PySem.W.findIn K (.ref c_PackError) "__getattribute__" = some (some (.builtin "BaseException.__getattribute__"))) (x2_PackError : PySem.W.findIn K (.ref c_PackError) "__getattr__" = some none) (x3_PackError : PySem.W.findIn K (.ref c_PackError) "__class__" = some (some (.builtin "object.__class__"))) (x4_PackError : PySem.W.mroIn K c_PackError (.type "object") = some true) (x5_PackError : PySem.W.mroIn K c_PackError (.type "BaseException") = some true) (x6_PackError : PySem.W.typeIn K (.ref c_PackError) = some (.type "type"))
    (e_Broken : PySem.W.nsIn K mainGlobals "Broken" = some (some (.ref c_Broken)))
    (x0_Broken : PySem.W.excIn K c_Broken bmV "ValueError.__new__" = true) (x1_Broken : PySem.W.findIn K (.ref c_Broken) "__getattribute__" = some (some (.builtin "BaseException.__getattribute__"))) (x2_Broken : PySem.W.findIn K (.ref c_Broken) "__getattr__" = some none) (x3_Broken : PySem.W.findIn K (.ref c_Broken) "__class__" = some (some (.builtin "object.__class__"))) (x4_Broken : PySem.W.mroIn K c_Broken (.type "object") = some true) (x5_Broken : PySem.W.mroIn K c_Broken (.type "BaseException") = some true) (x6_Broken : PySem.W.typeIn K (.ref c_Broken) = some (.type "type"))
    (e_NoPlace : PySem.W.nsIn K mainGlobals "NoPlace" = some (some (.ref c_NoPlace)))
    (x0_NoPlace : PySem.W.excIn K c_NoPlace bmV "ValueError.__new__" = true) (x1_NoPlace : PySem.W.findIn K (.ref c_NoPlace) "__getattribute__" = some (some (.builtin "BaseException.__getattribute__"))) (x2_NoPlace : PySem.W.findIn K (.ref c_NoPlace) "__getattr__" = some none) (x3_NoPlace : PySem.W.findIn K (.ref c_NoPlace) "__class__" = some (some (.builtin "object.__class__"))) (x4_NoPlace : PySem.W.mroIn K c_NoPlace (.type "object") = some true) (x5_NoPlace : PySem.W.mroIn K c_NoPlace (.type "BaseException") = some true) (x6_NoPlace : PySem.W.typeIn K (.ref c_NoPlace) = some (.type "type"))
    (g_FACTOR : PySem.W.nsIn K mainGlobals "FACTOR" = some (some (.int 1000003 tk_FACTOR)))
    (g_MODULUS : PySem.W.nsIn K mainGlobals "MODULUS" = some (some (.int 2305843009213693951 tk_MODULUS)))
    (g_OF_BLOCK : PySem.W.nsIn K mainGlobals "OF_BLOCK" = some (some (.int 0 tk_OF_BLOCK)))
    (g_OF_PAIR : PySem.W.nsIn K mainGlobals "OF_PAIR" = some (some (.int 1 tk_OF_PAIR)))
    (g_OF_CONTAINER : PySem.W.nsIn K mainGlobals "OF_CONTAINER" = some (some (.int 2 tk_OF_CONTAINER)))
    (g_GREATEST_SIZE : PySem.W.nsIn K mainGlobals "GREATEST_SIZE" = some (some (.int 64 tk_GREATEST_SIZE)))
    (g_MOST_SIGNS : PySem.W.nsIn K mainGlobals "MOST_SIGNS" = some (some (.int 400 tk_MOST_SIGNS)))
    : ∃ fd : FuncData, (∀ (s : Shared) (v : Value), BindsTo s fd ⟨[v], []⟩ [("script", v)]) ∧ ∀ base : Heap, K.In base → base.Ns mainGlobals mg → FnOk l.prog w K mg base (CXW l.prog w) 8 fa fd ["script"] (spLaw K) := by
  have e := hfa.symm.trans (PySem.W.mg_of X G a39)
  cases e
  have F1 := fun_mk (st := s_whole) l1 cc1 k1
  have b1 := F1.binds (ps := ["thing"]) fun _ _ _ _ _ _ us hl => by obtain ⟨x0, rfl⟩ := len_1 hl; rfl
  have m1 := PySem.W.mg_of X G a1
  have F2 := fun_mk (st := s_nostr) l2 cc2 k2
  have b2 := F2.binds (ps := ["first", "last", "length"]) fun _ _ _ _ _ _ us hl => by obtain ⟨x0, x1, x2, rfl⟩ := len_3 hl; rfl
  have m2 := PySem.W.mg_of X G a2
  have F3 := fun_mk (st := s_size) l3 cc3 k3
  have b3 := F3.binds (ps := ["thing"]) fun _ _ _ _ _ _ us hl => by obtain ⟨x0, rfl⟩ := len_1 hl; rfl
  have m3 := PySem.W.mg_of X G a3
  have F4 := fun_mk (st := s_total) l4 cc4 k4
  have b4 := F4.binds (ps := ["thing"]) fun _ _ _ _ _ _ us hl => by obtain ⟨x0, rfl⟩ := len_1 hl; rfl
  have m4 := PySem.W.mg_of X G a4
  have F5 := fun_mk (st := s_isbk) l5 cc5 k5
  have b5 := F5.binds (ps := ["thing"]) fun _ _ _ _ _ _ us hl => by obtain ⟨x0, rfl⟩ := len_1 hl; rfl
  have m5 := PySem.W.mg_of X G a5
  have F6 := fun_mk (st := s_arebk) l6 cc6 k6
  have b6 := F6.binds (ps := ["things", "many"]) fun _ _ _ _ _ _ us hl => by obtain ⟨x0, x1, rfl⟩ := len_2 hl; rfl
  have m6 := PySem.W.mg_of X G a6
  have F7 := fun_mk (st := s_need) l7 cc7 k7
  have b7 := F7.binds (ps := ["size", "total"]) fun _ _ _ _ _ _ us hl => by obtain ⟨x0, x1, rfl⟩ := len_2 hl; rfl
  have m7 := PySem.W.mg_of X G a7
  have F8 := fun_mk (st := s_iscon) l8 cc8 k8
  have b8 := F8.binds (ps := ["thing"]) fun _ _ _ _ _ _ us hl => by obtain ⟨x0, rfl⟩ := len_1 hl; rfl
  have m8 := PySem.W.mg_of X G a8
  have F9 := fun_mk (st := s_nocon) l9 cc9 k9
  have b9 := F9.binds (ps := ["thing"]) fun _ _ _ _ _ _ us hl => by obtain ⟨x0, rfl⟩ := len_1 hl; rfl
  have m9 := PySem.W.mg_of X G a9
  have F10 := fun_mk (st := s_mix) l10 cc10 k10
  have b10 := F10.binds (ps := ["row"]) fun _ _ _ _ _ _ us hl => by obtain ⟨x0, rfl⟩ := len_1 hl; rfl
  have m10 := PySem.W.mg_of X G a10
  have F11 := fun_mk (st := s_brow) l11 cc11 k11
  have b11 := F11.binds (ps := ["block"]) fun _ _ _ _ _ _ us hl => by obtain ⟨x0, rfl⟩ := len_1 hl; rfl
  have m11 := PySem.W.mg_of X G a11
  have F12 := fun_mk (st := s_bseal) l12 cc12 k12
  have b12 := F12.binds (ps := ["block"]) fun _ _ _ _ _ _ us hl => by obtain ⟨x0, rfl⟩ := len_1 hl; rfl
  have m12 := PySem.W.mg_of X G a12
  have F13 := fun_mk (st := s_prows) l13 cc13 k13
  have b13 := F13.binds (ps := ["level"]) fun _ _ _ _ _ _ us hl => by obtain ⟨x0, rfl⟩ := len_1 hl; rfl
  have m13 := PySem.W.mg_of X G a13
  have F14 := fun_mk (st := s_nextl) l14 cc14 k14
  have b14 := F14.binds (ps := ["level"]) fun _ _ _ _ _ _ us hl => by obtain ⟨x0, rfl⟩ := len_1 hl; rfl
  have m14 := PySem.W.mg_of X G a14
  have F15 := fun_mk (st := s_crow) l15 cc15 k15
  have b15 := F15.binds (ps := ["numbers", "top"]) fun _ _ _ _ _ _ us hl => by obtain ⟨x0, x1, rfl⟩ := len_2 hl; rfl
  have m15 := PySem.W.mg_of X G a15
  have F16 := fun_mk (st := s_lack) l16 cc16 k16
  have b16 := F16.binds (ps := ["begin", "behind", "many"]) fun _ _ _ _ _ _ us hl => by obtain ⟨x0, x1, x2, rfl⟩ := len_3 hl; rfl
  have m16 := PySem.W.mg_of X G a16
  have F17 := fun_mk (st := s_paper) l17 cc17 k17
  have b17 := F17.binds (ps := ["container", "first", "last"]) fun _ _ _ _ _ _ us hl => by obtain ⟨x0, x1, x2, rfl⟩ := len_3 hl; rfl
  have m17 := PySem.W.mg_of X G a17
  have F18 := fun_mk (st := s_mayseal) l18 cc18 k18
  have b18 := F18.binds (ps := ["block"]) fun _ _ _ _ _ _ us hl => by obtain ⟨x0, rfl⟩ := len_1 hl; rfl
  have m18 := PySem.W.mg_of X G a18
  have F19 := fun_mk (st := s_aresl) l19 cc19 k19
  have b19 := F19.binds (ps := ["numbers"]) fun _ _ _ _ _ _ us hl => by obtain ⟨x0, rfl⟩ := len_1 hl; rfl
  have m19 := PySem.W.mg_of X G a19
  have F20 := fun_mk (st := s_mayshow) l20 cc20 k20
  have b20 := F20.binds (ps := ["many", "first", "blocks", "paper"]) fun _ _ _ _ _ _ us hl => by obtain ⟨x0, x1, x2, x3, rfl⟩ := len_4 hl; rfl
  have m20 := PySem.W.mg_of X G a20
  have F21 := fun_mk (st := s_rtop) l21 cc21 k21
  have b21 := F21.binds (ps := ["many", "first", "blocks", "paper"]) fun _ _ _ _ _ _ us hl => by obtain ⟨x0, x1, x2, x3, rfl⟩ := len_4 hl; rfl
  have m21 := PySem.W.mg_of X G a21
  have F22 := fun_mk (st := s_rmix) l22 cc22 k22
  have b22 := F22.binds (ps := ["numbers", "first", "blocks", "paper"]) fun _ _ _ _ _ _ us hl => by obtain ⟨x0, x1, x2, x3, rfl⟩ := len_4 hl; rfl
  have m22 := PySem.W.mg_of X G a22
  have F23 := fun_mk (st := s_shows) l23 cc23 k23
  have b23 := F23.binds (ps := ["seal", "numbers", "first", "blocks", "paper"]) fun _ _ _ _ _ _ us hl => by obtain ⟨x0, x1, x2, x3, x4, rfl⟩ := len_5 hl; rfl
  have m23 := PySem.W.mg_of X G a23
  have F24 := fun_mk (st := s_clash) l24 cc24 k24
  have b24 := F24.binds (ps := ["numbers", "first", "blocks", "paper", "others", "other"]) fun _ _ _ _ _ _ us hl => by obtain ⟨x0, x1, x2, x3, x4, x5, rfl⟩ := len_6 hl; rfl
  have m24 := PySem.W.mg_of X G a24
  have F25 := fun_mk (st := s_cellat) l25 cc25 k25
  have b25 := F25.binds (ps := ["script", "k"]) fun _ _ _ _ _ _ us hl => by obtain ⟨x0, x1, rfl⟩ := len_2 hl; rfl
  have m25 := PySem.W.mg_of X G a25
  have F26 := fun_mk (st := s_lwhole) l26 cc26 k26
  have b26 := F26.binds (ps := ["found"]) fun _ _ _ _ _ _ us hl => by obtain ⟨x0, rfl⟩ := len_1 hl; rfl
  have m26 := PySem.W.mg_of X G a26
  have F27 := fun_mk (st := s_lbits) l27 cc27 k27
  have b27 := F27.binds (ps := ["number"]) fun _ _ _ _ _ _ us hl => by obtain ⟨x0, rfl⟩ := len_1 hl; rfl
  have m27 := PySem.W.mg_of X G a27
  have F28 := fun_mk (st := s_lmix) l28 cc28 k28
  have b28 := F28.binds (ps := ["row"]) fun _ _ _ _ _ _ us hl => by obtain ⟨x0, rfl⟩ := len_1 hl; rfl
  have m28 := PySem.W.mg_of X G a28
  have F29 := fun_mk (st := s_lcopy) l29 cc29 k29
  have b29 := F29.binds (ps := ["blocks"]) fun _ _ _ _ _ _ us hl => by obtain ⟨x0, rfl⟩ := len_1 hl; rfl
  have m29 := PySem.W.mg_of X G a29
  have F30 := fun_mk (st := s_lothers) l30 cc30 k30
  have b30 := F30.binds (ps := ["shown", "cells"]) fun _ _ _ _ _ _ us hl => by obtain ⟨x0, x1, rfl⟩ := len_2 hl; rfl
  have m30 := PySem.W.mg_of X G a30
  have F31 := fun_mk (st := s_lanother) l31 cc31 k31
  have b31 := F31.binds (ps := ["shown", "cell", "cells"]) fun _ _ _ _ _ _ us hl => by obtain ⟨x0, x1, x2, rfl⟩ := len_3 hl; rfl
  have m31 := PySem.W.mg_of X G a31
  have F32 := fun_mk (st := s_lspoilt) l32 cc32 k32
  have b32 := F32.binds (ps := ["blocks", "paper", "cell"]) fun _ _ _ _ _ _ us hl => by obtain ⟨x0, x1, x2, rfl⟩ := len_3 hl; rfl
  have m32 := PySem.W.mg_of X G a32
  have F33 := fun_mk (st := s_lrows) l33 cc33 k33
  have b33 := F33.binds (ps := ["numbers", "first", "blocks", "paper"]) fun _ _ _ _ _ _ us hl => by obtain ⟨x0, x1, x2, x3, rfl⟩ := len_4 hl; rfl
  have m33 := PySem.W.mg_of X G a33
  have F34 := fun_mk (st := s_lpaper) l34 cc34 k34
  have b34 := F34.binds (ps := ["numbers", "first", "shown", "paper", "others", "cell"]) fun _ _ _ _ _ _ us hl => by obtain ⟨x0, x1, x2, x3, x4, x5, rfl⟩ := len_6 hl; rfl
  have m34 := PySem.W.mg_of X G a34
  have F35 := fun_mk (st := s_lclash) l35 cc35 k35
  have b35 := F35.binds (ps := ["found", "rows", "twins"]) fun _ _ _ _ _ _ us hl => by obtain ⟨x0, x1, x2, rfl⟩ := len_3 hl; rfl
  have m35 := PySem.W.mg_of X G a35
  have F36 := fun_mk (st := s_llong) l36 cc36 k36
  have b36 := F36.binds (ps := ["first", "count", "many"]) fun _ _ _ _ _ _ us hl => by obtain ⟨x0, x1, x2, rfl⟩ := len_3 hl; rfl
  have m36 := PySem.W.mg_of X G a36
  have F37 := fun_mk (st := s_lfits) l37 cc37 k37
  have b37 := F37.binds (ps := ["numbers", "first", "blocks", "paper"]) fun _ _ _ _ _ _ us hl => by obtain ⟨x0, x1, x2, x3, rfl⟩ := len_4 hl; rfl
  have m37 := PySem.W.mg_of X G a37
  have F38 := fun_mk (st := s_ldrawn) l38 cc38 k38
  have b38 := F38.binds (ps := ["script"]) fun _ _ _ _ _ _ us hl => by obtain ⟨x0, rfl⟩ := len_1 hl; rfl
  have m38 := PySem.W.mg_of X G a38
  have F39 := fun_mk (st := s_law) l39 cc39 k39
  have n_isinstance := PySem.W.mg_none_of X G z_isinstance
  have n_list := PySem.W.mg_none_of X G z_list
  have n_int := PySem.W.mg_none_of X G z_int
  have n_bool := PySem.W.mg_none_of X G z_bool
  have n_len := PySem.W.mg_none_of X G z_len
  have n_range := PySem.W.mg_none_of X G z_range
  have n_max := PySem.W.mg_none_of X G z_max
  have n_ValueError := PySem.W.mg_none_of X G z_ValueError
  have n_tuple := PySem.W.mg_none_of X G z_tuple
  have n_min := PySem.W.mg_none_of X G z_min
  have n_sorted := PySem.W.mg_none_of X G z_sorted
  have n_all := PySem.W.mg_none_of X G z_all
  have n_dict := PySem.W.mg_none_of X G z_dict
  have n_reversed := PySem.W.mg_none_of X G z_reversed
  have n_enumerate := PySem.W.mg_none_of X G z_enumerate
  have n_zip := PySem.W.mg_none_of X G z_zip
  have m_PackError := PySem.W.mg_of X G e_PackError
  have X_PackError : Ex K mg "PackError" c_PackError := ⟨m_PackError, x0_PackError, ⟨x1_PackError, x2_PackError, x3_PackError, x4_PackError, x5_PackError, x6_PackError⟩⟩
  have m_Broken := PySem.W.mg_of X G e_Broken
  have X_Broken : Ex K mg "Broken" c_Broken := ⟨m_Broken, x0_Broken, ⟨x1_Broken, x2_Broken, x3_Broken, x4_Broken, x5_Broken, x6_Broken⟩⟩
  have m_NoPlace := PySem.W.mg_of X G e_NoPlace
  have X_NoPlace : Ex K mg "NoPlace" c_NoPlace := ⟨m_NoPlace, x0_NoPlace, ⟨x1_NoPlace, x2_NoPlace, x3_NoPlace, x4_NoPlace, x5_NoPlace, x6_NoPlace⟩⟩
  refine ⟨PySem.W.fnOf "law" "law" (defArgs s_law) (defBody s_law) (defScope s_law) .none kV39 dc39 pm39 an39 cd39 ct39, fun s v => .of_eq rfl, fun base _ _ => ?_⟩
  have m_MS : MSg mg := ⟨_, PySem.W.mg_of X G g_MOST_SIGNS, ⟨_, rfl⟩⟩
  have m_GS : GSg mg := ⟨_, PySem.W.mg_of X G g_GREATEST_SIZE, ⟨_, rfl⟩⟩
  have m_OC : OCg mg := ⟨_, PySem.W.mg_of X G g_OF_CONTAINER, ⟨_, rfl⟩⟩
  have m_OP : OPg mg := ⟨_, PySem.W.mg_of X G g_OF_PAIR, ⟨_, rfl⟩⟩
  have m_OB : OBg mg := ⟨_, PySem.W.mg_of X G g_OF_BLOCK, ⟨_, rfl⟩⟩
  have m_MD : MDg mg := ⟨_, PySem.W.mg_of X G g_MODULUS, ⟨_, rfl⟩⟩
  have m_FA : FAg mg := ⟨_, PySem.W.mg_of X G g_FACTOR, ⟨_, rfl⟩⟩
  have B : Bls mg := ⟨n_isinstance, n_list, n_int, n_bool, n_len, n_range, n_max, n_ValueError, n_tuple, n_min, n_sorted, n_all, n_dict⟩
  have G_whole := ok_whole (P := l.prog) (w := w) (mg := mg) (base := base) F1 B
  have G_nostr := ok_nostr (P := l.prog) (w := w) (mg := mg) (base := base) F2 B X_NoPlace m_NoPlace
  have G_size := ok_size (P := l.prog) (w := w) (mg := mg) (base := base) F3 B m_GS G_whole b1 k1 m1
  have G_total := ok_total (P := l.prog) (w := w) (mg := mg) (base := base) F4 B m_MS G_whole b1 k1 m1
  have G_isbk := ok_isbk (P := l.prog) (w := w) (mg := mg) (base := base) F5 B G_whole b1 k1 m1
  have G_arebk := ok_arebk (P := l.prog) (w := w) (mg := mg) (base := base) F6 B G_isbk b5 k5 m5
  have G_need := ok_need (P := l.prog) (w := w) (mg := mg) (base := base) F7 B
  have G_iscon := ok_iscon (P := l.prog) (w := w) (mg := mg) (base := base) F8 B G_size b3 k3 m3 G_total b4 k4 m4 G_arebk b6 k6 m6 G_need b7 k7 m7
  have G_nocon := ok_nocon (P := l.prog) (w := w) (mg := mg) (base := base) F9 B X_Broken m_Broken G_iscon b8 k8 m8
  have G_mix := ok_mix (P := l.prog) (w := w) (mg := mg) (base := base) F10 B m_FA m_MD
  have G_brow := ok_brow (P := l.prog) (w := w) (mg := mg) (base := base) F11 B m_OB
  have G_bseal := ok_bseal (P := l.prog) (w := w) (mg := mg) (base := base) F12 B G_mix b10 k10 m10 G_brow b11 k11 m11
  have G_prows := ok_prows (P := l.prog) (w := w) (mg := mg) (base := base) F13 B m_OP
  have G_nextl := ok_nextl (P := l.prog) (w := w) (mg := mg) (base := base) F14 B G_mix b10 k10 m10 G_prows b13 k13 m13
  have G_crow := ok_crow (P := l.prog) (w := w) (mg := mg) (base := base) F15 B m_OC
  have G_lack := ok_lack (P := l.prog) (w := w) (mg := mg) (base := base) F16 B
  have G_paper := ok_paper (P := l.prog) (w := w) (mg := mg) (base := base) F17 B X_NoPlace m_NoPlace G_nostr b2 k2 m2 G_nocon b9 k9 m9 G_bseal b12 k12 m12 G_nextl b14 k14 m14 G_lack b16 k16 m16
  have G_mayseal := ok_mayseal (P := l.prog) (w := w) (mg := mg) (base := base) F18 B G_whole b1 k1 m1 G_isbk b5 k5 m5
  have G_aresl := ok_aresl (P := l.prog) (w := w) (mg := mg) (base := base) F19 B m_MD G_whole b1 k1 m1
  have G_mayshow := ok_mayshow (P := l.prog) (w := w) (mg := mg) (base := base) F20 B G_mayseal b18 k18 m18 G_aresl b19 k19 m19
  have G_rtop := ok_rtop (P := l.prog) (w := w) (mg := mg) (base := base) F21 B n_reversed G_mix b10 k10 m10 G_brow b11 k11 m11 G_prows b13 k13 m13 G_nextl b14 k14 m14 G_lack b16 k16 m16
  have G_rmix := ok_rmix (P := l.prog) (w := w) (mg := mg) (base := base) F22 B G_crow b15 k15 m15 G_mayshow b20 k20 m20 G_rtop b21 k21 m21
  have G_shows := ok_shows (P := l.prog) (w := w) (mg := mg) (base := base) F23 B G_mix b10 k10 m10 G_rmix b22 k22 m22
  have G_clash := ok_clash (P := l.prog) (w := w) (mg := mg) (base := base) F24 B n_zip G_mix b10 k10 m10 G_rmix b22 k22 m22
  have G_cellat := ok_cellat (P := l.prog) (w := w) (mg := mg) (base := base) F25 B
  have G_lwhole := ok_lwhole (P := l.prog) (w := w) (mg := mg) (base := base) F26 B
  have G_lbits := ok_lbits (P := l.prog) (w := w) (mg := mg) (base := base) F27 B
  have G_lmix := ok_lmix (P := l.prog) (w := w) (mg := mg) (base := base) F28 B
  have G_lcopy := ok_lcopy (P := l.prog) (w := w) (mg := mg) (base := base) F29 B
  have G_lothers := ok_lothers (P := l.prog) (w := w) (mg := mg) (base := base) F30 B n_enumerate
  have G_lanother := ok_lanother (P := l.prog) (w := w) (mg := mg) (base := base) F31 B n_enumerate G_lbits b27 k27 m27 G_lcopy b29 k29 m29 G_lothers b30 k30 m30
  have G_lspoilt := ok_lspoilt (P := l.prog) (w := w) (mg := mg) (base := base) F32 B G_lcopy b29 k29 m29
  have G_lrows := ok_lrows (P := l.prog) (w := w) (mg := mg) (base := base) F33 B G_lmix b28 k28 m28
  have G_lpaper := ok_lpaper (P := l.prog) (w := w) (mg := mg) (base := base) F34 B n_enumerate G_lrows b33 k33 m33
  have G_lclash := ok_lclash (P := l.prog) (w := w) (mg := mg) (base := base) F35 B G_lwhole b26 k26 m26 G_lmix b28 k28 m28
  have G_llong := ok_llong (P := l.prog) (w := w) (mg := mg) (base := base) F36 B
  have G_lfits := ok_lfits (P := l.prog) (w := w) (mg := mg) (base := base) F37 B G_llong b36 k36 m36
  have G_ldrawn := ok_ldrawn (P := l.prog) (w := w) (mg := mg) (base := base) F38 B G_paper b17 k17 m17 G_cellat b25 k25 m25 G_lbits b27 k27 m27 G_lcopy b29 k29 m29 G_lanother b31 k31 m31 G_lspoilt b32 k32 m32 G_lpaper b34 k34 m34
  exact ok_law (P := l.prog) (w := w) (mg := mg) (base := base) F39 B G_shows b23 k23 m23 G_clash b24 k24 m24 G_lmix b28 k28 m28 G_lcopy b29 k29 m29 G_lrows b33 k33 m33 G_lclash b35 k35 m35 G_lfits b37 k37 m37 G_ldrawn b38 k38 m38
theorem walk {l : PySem.W.OpenLaw} {q : Program} {loose : List Str} {XP : (Str → Option Value) → Heap → Prop} {YP : World → Heap → Prop} {d : DefRec} {K : Params → PySem.W.Frag} (hn : l.most = some 63) (hdf : d.params.defaults = [])
    (hY : ∀ (w : World) (h : Heap), YP w h → (K w.params).In h)
    (F : ∀ (w : World) (mg : Str → Option Value) (fa : Addr) (h : Heap), (K w.params).In h → h.Ns mainGlobals mg → mg d.name = some (.ref fa) →
      ∃ fd : FuncData, (∀ (s : Shared) (u : Value), BindsTo s fd ⟨[u], []⟩ [("script", u)]) ∧ ∀ base : Heap, (K w.params).In base → base.Ns mainGlobals mg → FnOk l.prog w (K w.params) mg base (CXW l.prog w) 8 fa fd ["script"] (spLaw (K w.params))) :
    PySem.W.WalkO q loose XP YP l.row.toRowW d [] (fun f vs => PySem.call f vs) :=
  L2.walk_of (n := 63) (k := 8) (x := "script") (CX := fun w => CXW l.prog w) (sp := fun w => spLaw (K w.params)) hn (by decide) hdf ⟨rfl, by decide, by decide⟩ hY F (fun _ _ a ns hl _ hS => ⟨a, ns, rfl, hS, hl, fun _ => rfl⟩) fun _ _ _ _ _ z => by
    obtain ⟨_, _, _, _, _, _, _, _, _, _, _, _, _, hE⟩ := z
    exact hE
end
end K69
theorem PySem.W.Fast.tw6332715759490927632:True:=trivial
theorem PySem.W.Fast.tw8105280382203259489:True:=trivial
theorem PySem.W.Fast.tw5287250252785154332:True:=trivial
theorem PySem.W.Fast.tw14235414079176275417:True:=trivial
theorem PySem.W.Fast.tw4619412163684316976:True:=trivial
theorem PySem.W.Fast.tw1115084929635539778:True:=trivial
theorem PySem.W.Fast.tw4328682211800928311:True:=trivial
theorem PySem.W.Fast.tw12851683173809201254:True:=trivial
theorem PySem.W.Fast.tw4619169297269178501:True:=trivial
theorem PySem.W.Fast.tw1470995631516289102:True:=trivial
theorem PySem.W.Fast.tw15875587548015210567:True:=trivial
theorem PySem.W.Fast.tw14372967554130155099:True:=trivial
theorem PySem.W.Fast.tw10297007749375775831:True:=trivial
theorem PySem.W.Fast.tw8601094991076213422:True:=trivial
theorem PySem.W.Fast.tw8558245677626008225:True:=trivial
theorem PySem.W.Fast.tw15787569038394216120:True:=trivial
theorem PySem.W.Fast.tw10567455566199276479:True:=trivial
theorem PySem.W.Fast.tw17661196076468868780:True:=trivial
theorem PySem.W.Fast.tw9837145780332112346:True:=trivial
theorem PySem.W.Fast.tw1885581407875027506:True:=trivial
theorem PySem.W.Fast.tw16140303997963217982:True:=trivial
theorem PySem.W.Fast.tw4271276263853311672:True:=trivial
theorem PySem.W.Fast.tw12462119589943962103:True:=trivial
theorem PySem.W.Fast.tw6918535931481895309:True:=trivial
theorem PySem.W.Fast.tw2803202822736523701:True:=trivial
theorem PySem.W.Fast.tw16525773631649858639:True:=trivial
theorem PySem.W.Fast.tw15711945831735975758:True:=trivial
theorem PySem.W.Fast.tw16501498184010280786:True:=trivial
theorem PySem.W.Fast.tw12071817401924736742:True:=trivial
theorem PySem.W.Fast.tw11106841003022654707:True:=trivial
theorem PySem.W.Fast.tw15469337878428961722:True:=trivial
theorem PySem.W.Fast.tw4626179812516593612:True:=trivial
theorem PySem.W.Fast.tw5510589370549954133:True:=trivial
theorem PySem.W.Fast.tw9318388389774167727:True:=trivial
theorem PySem.W.Fast.tw97781772155514154:True:=trivial
theorem PySem.W.Fast.tw1384080791468489117:True:=trivial
theorem PySem.W.Fast.tw7719227129660124423:True:=trivial
theorem PySem.W.Fast.tw15612666701653579633:True:=trivial
theorem PySem.W.Fast.tw14720202593214693330:True:=trivial
open PySem PySem.W PyProof.Rows
set_option maxRecDepth 100000 in
set_option maxHeartbeats 0 in
theorem PySem.Challenge.cw_packhall_k69_whole_clashes_holds : PySem.Challenge.rw_packhall_k69_whole_clashes.Holds := by
  w_on; o_law; k_head; (case hw => w_witness2)
  k_fill
  refine K69.walk (l := PySem.Challenge.rw_packhall_k69_whole_clashes) rfl rfl (fun w h Y => PySem.W.kIn_of Y) ?F
  case F =>
    intro w mg fa h KX G hmg
    refine' K69.all_mk KX G hmg ?a1 ?l1 ?cc1 ?k1 ?a2 ?l2 ?cc2 ?k2 ?a3 ?l3 ?cc3 ?k3 ?a4 ?l4 ?cc4 ?k4 ?a5 ?l5 ?cc5 ?k5 ?a6 ?l6 ?cc6 ?k6 ?a7 ?l7 ?cc7 ?k7 ?a8 ?l8 ?cc8 ?k8 ?a9 ?l9 ?cc9 ?k9 ?a10 ?l10 ?cc10 ?k10 ?a11 ?l11 ?cc11 ?k11 ?a12 ?l12 ?cc12 ?k12 ?a13 ?l13 ?cc13 ?k13 ?a14 ?l14 ?cc14 ?k14 ?a15 ?l15 ?cc15 ?k15 ?a16 ?l16 ?cc16 ?k16 ?a17 ?l17 ?cc17 ?k17 ?a18 ?l18 ?cc18 ?k18 ?a19 ?l19 ?cc19 ?k19 ?a20 ?l20 ?cc20 ?k20 ?a21 ?l21 ?cc21 ?k21 ?a22 ?l22 ?cc22 ?k22 ?a23 ?l23 ?cc23 ?k23 ?a24 ?l24 ?cc24 ?k24 ?a25 ?l25 ?cc25 ?k25 ?a26 ?l26 ?cc26 ?k26 ?a27 ?l27 ?cc27 ?k27 ?a28 ?l28 ?cc28 ?k28 ?a29 ?l29 ?cc29 ?k29 ?a30 ?l30 ?cc30 ?k30 ?a31 ?l31 ?cc31 ?k31 ?a32 ?l32 ?cc32 ?k32 ?a33 ?l33 ?cc33 ?k33 ?a34 ?l34 ?cc34 ?k34 ?a35 ?l35 ?cc35 ?k35 ?a36 ?l36 ?cc36 ?k36 ?a37 ?l37 ?cc37 ?k37 ?a38 ?l38 ?cc38 ?k38 ?a39 ?l39 ?cc39 ?k39 ?z_isinstance ?z_list ?z_int ?z_bool ?z_len ?z_range ?z_max ?z_ValueError ?z_tuple ?z_min ?z_sorted ?z_all ?z_dict ?z_reversed ?z_enumerate ?z_zip ?e_PackError ?x0_PackError ?x1_PackError ?x2_PackError ?x3_PackError ?x4_PackError ?x5_PackError ?x6_PackError ?e_Broken ?x0_Broken ?x1_Broken ?x2_Broken ?x3_Broken ?x4_Broken ?x5_Broken ?x6_Broken ?e_NoPlace ?x0_NoPlace ?x1_NoPlace ?x2_NoPlace ?x3_NoPlace ?x4_NoPlace ?x5_NoPlace ?x6_NoPlace ?g_FACTOR ?g_MODULUS ?g_OF_BLOCK ?g_OF_PAIR ?g_OF_CONTAINER ?g_GREATEST_SIZE ?g_MOST_SIGNS
    (case a1 => k_is)
    (case l1 => k_is)
    (case cc1 => k_is)
    (case k1 => k_is)
    (case a2 => k_is)
    (case l2 => k_is)
    (case cc2 => k_is)
    (case k2 => k_is)
    (case a3 => k_is)
    (case l3 => k_is)
    (case cc3 => k_is)
    (case k3 => k_is)
    (case a4 => k_is)
    (case l4 => k_is)
    (case cc4 => k_is)
    (case k4 => k_is)
    (case a5 => k_is)
    (case l5 => k_is)
    (case cc5 => k_is)
    (case k5 => k_is)
    (case a6 => k_is)
    (case l6 => k_is)
    (case cc6 => k_is)
    (case k6 => k_is)
    (case a7 => k_is)
    (case l7 => k_is)
    (case cc7 => k_is)
    (case k7 => k_is)
    (case a8 => k_is)
    (case l8 => k_is)
    (case cc8 => k_is)
    (case k8 => k_is)
    (case a9 => k_is)
    (case l9 => k_is)
    (case cc9 => k_is)
    (case k9 => k_is)
    (case a10 => k_is)
    (case l10 => k_is)
    (case cc10 => k_is)
    (case k10 => k_is)
    (case a11 => k_is)
    (case l11 => k_is)
    (case cc11 => k_is)
    (case k11 => k_is)
    (case a12 => k_is)
    (case l12 => k_is)
    (case cc12 => k_is)
    (case k12 => k_is)
    (case a13 => k_is)
    (case l13 => k_is)
    (case cc13 => k_is)
    (case k13 => k_is)
    (case a14 => k_is)
    (case l14 => k_is)
    (case cc14 => k_is)
    (case k14 => k_is)
    (case a15 => k_is)
    (case l15 => k_is)
    (case cc15 => k_is)
    (case k15 => k_is)
    (case a16 => k_is)
    (case l16 => k_is)
    (case cc16 => k_is)
    (case k16 => k_is)
    (case a17 => k_is)
    (case l17 => k_is)
    (case cc17 => k_is)
    (case k17 => k_is)
    (case a18 => k_is)
    (case l18 => k_is)
    (case cc18 => k_is)
    (case k18 => k_is)
    (case a19 => k_is)
    (case l19 => k_is)
    (case cc19 => k_is)
    (case k19 => k_is)
    (case a20 => k_is)
    (case l20 => k_is)
    (case cc20 => k_is)
    (case k20 => k_is)
    (case a21 => k_is)
    (case l21 => k_is)
    (case cc21 => k_is)
    (case k21 => k_is)
    (case a22 => k_is)
    (case l22 => k_is)
    (case cc22 => k_is)
    (case k22 => k_is)
    (case a23 => k_is)
    (case l23 => k_is)
    (case cc23 => k_is)
    (case k23 => k_is)
    (case a24 => k_is)
    (case l24 => k_is)
    (case cc24 => k_is)
    (case k24 => k_is)
    (case a25 => k_is)
    (case l25 => k_is)
    (case cc25 => k_is)
    (case k25 => k_is)
    (case a26 => k_is)
    (case l26 => k_is)
    (case cc26 => k_is)
    (case k26 => k_is)
    (case a27 => k_is)
    (case l27 => k_is)
    (case cc27 => k_is)
    (case k27 => k_is)
    (case a28 => k_is)
    (case l28 => k_is)
    (case cc28 => k_is)
    (case k28 => k_is)
    (case a29 => k_is)
    (case l29 => k_is)
    (case cc29 => k_is)
    (case k29 => k_is)
    (case a30 => k_is)
    (case l30 => k_is)
    (case cc30 => k_is)
    (case k30 => k_is)
    (case a31 => k_is)
    (case l31 => k_is)
    (case cc31 => k_is)
    (case k31 => k_is)
    (case a32 => k_is)
    (case l32 => k_is)
    (case cc32 => k_is)
    (case k32 => k_is)
    (case a33 => k_is)
    (case l33 => k_is)
    (case cc33 => k_is)
    (case k33 => k_is)
    (case a34 => k_is)
    (case l34 => k_is)
    (case cc34 => k_is)
    (case k34 => k_is)
    (case a35 => k_is)
    (case l35 => k_is)
    (case cc35 => k_is)
    (case k35 => k_is)
    (case a36 => k_is)
    (case l36 => k_is)
    (case cc36 => k_is)
    (case k36 => k_is)
    (case a37 => k_is)
    (case l37 => k_is)
    (case cc37 => k_is)
    (case k37 => k_is)
    (case a38 => k_is)
    (case l38 => k_is)
    (case cc38 => k_is)
    (case k38 => k_is)
    (case a39 => k_is)
    (case l39 => k_is)
    (case cc39 => k_is)
    (case k39 => k_is)
    (case z_isinstance => k_is)
    (case z_list => k_is)
    (case z_int => k_is)
    (case z_bool => k_is)
    (case z_len => k_is)
    (case z_range => k_is)
    (case z_max => k_is)
    (case z_ValueError => k_is)
    (case z_tuple => k_is)
    (case z_min => k_is)
    (case z_sorted => k_is)
    (case z_all => k_is)
    (case z_dict => k_is)
    (case z_reversed => k_is)
    (case z_enumerate => k_is)
    (case z_zip => k_is)
    (case e_PackError => k_is)
    (case x0_PackError => k_exc)
    (case x1_PackError => k_is)
    (case x2_PackError => k_is)
    (case x3_PackError => k_is)
    (case x4_PackError => k_is)
    (case x5_PackError => k_is)
    (case x6_PackError => k_is)
    (case e_Broken => k_is)
    (case x0_Broken => k_exc)
    (case x1_Broken => k_is)
    (case x2_Broken => k_is)
    (case x3_Broken => k_is)
    (case x4_Broken => k_is)
    (case x5_Broken => k_is)
    (case x6_Broken => k_is)
    (case e_NoPlace => k_is)
    (case x0_NoPlace => k_exc)
    (case x1_NoPlace => k_is)
    (case x2_NoPlace => k_is)
    (case x3_NoPlace => k_is)
    (case x4_NoPlace => k_is)
    (case x5_NoPlace => k_is)
    (case x6_NoPlace => k_is)
    (case g_FACTOR => k_is)
    (case g_MODULUS => k_is)
    (case g_OF_BLOCK => k_is)
    (case g_OF_PAIR => k_is)
    (case g_OF_CONTAINER => k_is)
    (case g_GREATEST_SIZE => k_is)
    (case g_MOST_SIGNS => k_is)

