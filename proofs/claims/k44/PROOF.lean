import PyProof.Rows.All
import Wide.All
import OpenK.AllK
import Wide.FinOn
import Lean
import PyProof.EqAt
import PyProof.EqKinds
import PyProof.TupleCall
import PyProof.NsDelKeeps
import PyProof.NeKinds
import PySem.Challenge.RW_packhall_k44_whole_counts_of_all_words
local macro_rules | `(tactic| trivial) => `(tactic| first | with_reducible assumption | lia | omega)
set_option Elab.async false
set_option linter.all false
set_option maxRecDepth 100000
namespace L2
open PySem PySem.Spec PyProof.Rows
noncomputable abbrev Key := Sum Int Str
noncomputable def keyIs : Key → Value → Bool
  | .inl k, v => Value.isInt k v
  | .inr x, v => Value.isStrOf x v
noncomputable def keyH (w : World) : Key → Int
  | .inl k => hashInt k
  | .inr x => hashStr w x
theorem keyIs_shape : ∀ {k : Key} {v : Value}, keyIs k v = true → (∃ i t, k = Sum.inl i ∧ v = Value.int i t) ∨ (∃ x t, k = Sum.inr x ∧ v = Value.str x t)
  | .inl i, v, h => by
    obtain ⟨t, e⟩ := Value.isInt_shape (k := i) (v := v) h
    exact .inl ⟨i, t, rfl, e⟩
  | .inr x, v, h => by
    obtain ⟨t, e⟩ := Value.isStrOf_shape (x := x) (v := v) h
    exact .inr ⟨x, t, rfl, e⟩
theorem key_ll (a b : Int) : decide ((Sum.inl a : Key) = Sum.inl b) = (a == b) := by
  by_cases e : a = b
  · subst e; simp
  · have h : ¬ (Sum.inl a : Key) = Sum.inl b := fun q => e (Sum.inl.inj q)
    rw [decide_eq_false h]
    exact (beq_eq_false_iff_ne.mpr e).symm
theorem key_rr (a b : Str) : decide ((Sum.inr a : Key) = Sum.inr b) = decide (a = b) := by
  by_cases e : a = b
  · subst e; simp
  · have h : ¬ (Sum.inr a : Key) = Sum.inr b := fun q => e (Sum.inr.inj q)
    rw [decide_eq_false h, decide_eq_false e]
theorem key_lr (a : Int) (b : Str) : decide ((Sum.inl a : Key) = Sum.inr b) = false := decide_eq_false (fun q => nomatch q)
theorem key_rl (a : Str) (b : Int) : decide ((Sum.inr a : Key) = Sum.inl b) = false := decide_eq_false (fun q => nomatch q)
noncomputable def mixKind (prog : Program) (w : World) : PySem.KeyKind prog w Key where
  is := keyIs
  hash := keyH w
  inj := fun v a b ha hb => by
    rcases keyIs_shape ha with ⟨i, t, rfl, rfl⟩ | ⟨x, t, rfl, rfl⟩
    · rcases keyIs_shape hb with ⟨j, u, rfl, e⟩ | ⟨y, u, rfl, e⟩
      · injection e with e1 _; rw [e1]
      · exact nomatch e
    · rcases keyIs_shape hb with ⟨j, u, rfl, e⟩ | ⟨y, u, rfl, e⟩
      · exact nomatch e
      · injection e with e1 _; rw [e1]
  byValue := fun k v h => by
    rcases keyIs_shape h with ⟨i, t, rfl, rfl⟩ | ⟨x, t, rfl, rfl⟩ <;> rfl
  pyHash := fun hv h => by
    rcases keyIs_shape hv with ⟨i, t, rfl, rfl⟩ | ⟨x, t, rfl, rfl⟩
    · exact wpAny_pyHash_int h
    · exact wpAny_pyHash_str h
  eqBool := fun hu hv h => by
    rcases keyIs_shape hu with ⟨i, t, rfl, rfl⟩ | ⟨x, t, rfl, rfl⟩
    · rcases keyIs_shape hv with ⟨j, u, rfl, rfl⟩ | ⟨y, u, rfl, rfl⟩
      · rw [key_ll] at h; exact wpAny_eqBool_int h
      · rw [key_lr] at h; exact SeqAt.EqAt.int_str i t y u _ _ _ _ h
    · rcases keyIs_shape hv with ⟨j, u, rfl, rfl⟩ | ⟨y, u, rfl, rfl⟩
      · rw [key_rl] at h; exact SeqAt.EqAt.str_int x t j u _ _ _ _ h
      · rw [key_rr] at h; exact wpAny_eqBool_str h
  «strs» := fun k x t v h => by
    rcases keyIs_shape h with ⟨i, u, rfl, e⟩ | ⟨y, u, rfl, e⟩
    · exact nomatch e
    · injection e with e1 _
      subst e1
      cases v <;> rfl
end L2
namespace L2
open PySem PySem.Spec PyProof.Rows
inductive V where
  | non | bl (b : Bool) | int (i : Int) | str (x : Str) | byt (b : Array UInt8) | flt (b : UInt64) | ref (a : Addr) | ty (n : String)
  deriving DecidableEq
noncomputable def RelV : V → Value → Prop
  | .non, u => u = Value.none
  | .bl b, u => u = Value.bool b
  | .int i, u => ∃ t, u = Value.int i t
  | .str x, u => ∃ t, u = Value.str x t
  | .byt b, u => ∃ t, u = Value.bytes b t
  | .flt b, u => ∃ t, u = Value.float b t
  | .ref a, u => u = Value.ref a
  | .ty n, u => u = Value.type n
noncomputable abbrev Vals : List V → List Value → Prop := Paired RelV
theorem Vals.length {xs : List V} {us : List Value} (r : Vals xs us) : xs.length = us.length := Paired.length r
theorem Vals.get : ∀ {xs : List V} {us : List Value} {i : Nat} {x : V}, Vals xs us → xs[i]? = some x → ∃ u, us[i]? = some u ∧ RelV x u
  | _, _, _, _, .nil, e => by simp at e
  | _, _, 0, _, .cons r _, e => by simp at e; subst e; exact ⟨_, rfl, r⟩
  | _, _, i + 1, x, .cons _ t, e => by
    obtain ⟨u, h1, h2⟩ := Vals.get (i := i) (x := x) t (by simpa using e)
    exact ⟨u, by simpa using h1, h2⟩
theorem Vals.set {x : V} {u : Value} (r : RelV x u) : ∀ {xs : List V} {us : List Value} (i : Nat), Vals xs us → Vals (xs.set i x) (us.set i u)
  | _, _, _, .nil => .nil
  | _, _, 0, .cons _ t => .cons r t
  | _, _, i + 1, .cons q t => .cons q (Vals.set r i t)
theorem Vals.append : ∀ {xs ys : List V} {us ws : List Value}, Vals xs us → Vals ys ws → Vals (xs ++ ys) (us ++ ws)
  | _, _, _, _, .nil, s => s
  | _, _, _, _, .cons r t, s => .cons r (Vals.append t s)
theorem Vals.take : ∀ {xs : List V} {us : List Value} (n : Nat), Vals xs us → Vals (xs.take n) (us.take n)
  | _, _, 0, _ => .nil
  | _, _, _ + 1, .nil => .nil
  | _, _, n + 1, .cons r t => .cons r (Vals.take n t)
theorem Vals.drop : ∀ {xs : List V} {us : List Value} (n : Nat), Vals xs us → Vals (xs.drop n) (us.drop n)
  | _, _, 0, r => r
  | _, _, _ + 1, .nil => .nil
  | _, _, n + 1, .cons _ t => Vals.drop n t
noncomputable def RelO : Option V → Option Value → Prop
  | some v, some u => RelV v u
  | none, none => True
  | _, _ => False
noncomputable def KV {κ : Type} : List (κ × V) → List (κ × Value) → Prop := Paired fun (p : κ × V) (q : κ × Value) => p.1 = q.1 ∧ RelV p.2 q.2
noncomputable def kV : Key → V
  | .inl i => .int i
  | .inr x => .str x
inductive HO where
  /-- a list -/
  | lst (xs : List V)
  /-- a tuple (never changes) -/
  | tup (xs : List V)
  /-- a dict whose keys are ints and texts; one whose keys are tuples of ints and texts (the empty one is both) -/
  | dK (kvs : List (Key × V)) | dT (kvs : List (List Key × V))
  /-- a set of ints: its members, its size -/
  | set (S : Int → Bool) (n : Nat)
  /-- an instance of the class at C, its dict at dx, its attributes -/
  | ins (C dx : Addr) (fs : List (Str × V))
  /-- the dict of the instance at x -/
  | own (x : Addr)
  /-- the dict of an exception -/
  | xd (fs : List (Str × V))
  /-- a bound method, f of x -/
  | met (f x : Addr)
  /-- a range object lo, lo + 1, .. below hi -/
  | rng (lo hi : Int)
  /-- a thing that is known to the object (the script; a dict while a loop walks it): read, never written while it is so -/
  | frz (o : Obj) (u : HO)
  /-- a code object's table -/
  | tbl (ps : Array Value)
  /-- any other thing, by what is true of its one object (a def of one's own: SetO a S n := HO.ext fun h => ..) -/
  | ext (φ : Heap → Prop)
noncomputable abbrev Hp := Addr → Option HO
noncomputable def upd (H : Hp) (a : Addr) (o : HO) : Hp := fun b => if b = a then some o else H b
theorem upd_same {H : Hp} {a : Addr} {o : HO} : upd H a o a = some o := by unfold upd; rw [if_pos rfl]
theorem upd_ne {H : Hp} {a b : Addr} {o : HO} (h : b ≠ a) : upd H a o b = H b := by unfold upd; rw [if_neg h]
theorem ne_of_none {H : Hp} {a b : Addr} {o : HO} (h : H a = some o) (h' : H b = none) : a ≠ b := by
  intro e; subst e; rw [h] at h'; cases h'
section
variable (P : Program) (w : World)
noncomputable def ObjOk (H : Hp) (h : Heap) (a : Addr) : HO → Prop
  | .lst xs => xs.length ≤ sizeLine ∧ ∃ (its : List Value) (n : Nat), Vals xs its ∧ h.get? a = some { cls := .type "list", data := .seq its.toArray n }
  | .tup xs => xs.length ≤ sizeLine ∧ ∃ its : List Value, Vals xs its ∧ IsTup h a its.toArray
  | .dK kvs => kvs.length ≤ sizeLine ∧ (a == sysModules) = false ∧ ∃ vs, KV kvs vs ∧ h.DictOf (mixKind P w) a vs
  | .dT kvs => kvs.length ≤ sizeLine ∧ (a == sysModules) = false ∧ ∃ xs : List (List Key × Addr × Value),
      Paired (fun (p : List Key × V) (q : List Key × Addr × Value) => p.1 = q.1 ∧ H q.2.1 = some (.tup (p.1.map kV)) ∧ RelV p.2 q.2.2) kvs xs ∧
      ∃ o es ep, h.get? a = some o ∧ o.ExactDict ∧ o.data = .dict es ep ∧ es.toList = xs.map (entryOfKey (tupleKind (mixKind P w))) ∧ (xs.map (·.1)).Nodup
  | .set S n => h.SetOf (intKind P w) a S n
  | .ins C dx fs => H dx = some (.own a) ∧ fs.length ≤ 1000 ∧ dx ≠ a ∧ h.get? a = some (PySem.W.instObj C dx) ∧
      ∃ mA, h.Ns1 dx mA ∧ (∀ f, RelO (fs.lookup f) (mA f)) ∧ PySem.Within mA (fs.map (·.1))
  | .own _ => ∃ o, h.get? a = some o
  | .xd fs => ∃ mA, h.Ns1 a mA ∧ ∀ f, RelO (fs.lookup f) (mA f)
  | .rng lo hi => ∃ t u v, h.get? a = some { cls := .type "range", data := .fields #[.int lo t, .int hi u, .int 1 v] }
  | .frz o u => h.get? a = some o ∧ ObjOk H h a u
  | .tbl ps => h.get? a = some { cls := .none, data := .fields ps }
  | .met f x => h.get? a = some (PySem.W.methodObj (.ref f) (.ref x))
  | .ext φ => φ h ∧ (∃ o, h.get? a = some o) ∧ ∀ h1 h2 : Heap, φ h1 → (∀ o, h1.get? a = some o → h2.get? a = some o) → φ h2
noncomputable def HOk (H : Hp) (h : Heap) : Prop := ∀ a o, H a = some o → ObjOk P w H h a o
end
section
variable {P : Program} {w : World} {H H' : Hp} {h h' : Heap} {a : Addr} {o : HO}
theorem ObjOk.lt (x : ObjOk P w H h a o) : a < h.objs.size := by
  cases o with
  | lst xs => obtain ⟨_, _, _, _, e⟩ := x; exact Heap.lt_size e
  | tup xs => obtain ⟨_, _, _, p⟩ := x; exact p.lt
  | dK kvs => obtain ⟨_, _, _, _, o, _, _, e, _⟩ := x; exact Heap.lt_size e
  | dT kvs => obtain ⟨_, _, _, _, o, _, _, e, _⟩ := x; exact Heap.lt_size e
  | set S n => obtain ⟨o, _, _, _, e, _⟩ := x; exact Heap.lt_size e
  | ins C dx fs => obtain ⟨_, _, _, e, _⟩ := x; exact Heap.lt_size e
  | own y => obtain ⟨_, e⟩ := x; exact Heap.lt_size e
  | xd fs => obtain ⟨_, ⟨_, _, _, e, _⟩, _⟩ := x; exact Heap.lt_size e
  | rng lo hi => obtain ⟨_, _, _, e⟩ := x; exact Heap.lt_size e
  | frz ob u => obtain ⟨e, _⟩ := x; exact Heap.lt_size e
  | tbl ps => exact Heap.lt_size (show h.get? a = some _ from x)
  | met f y => exact Heap.lt_size (show h.get? a = some _ from x)
  | ext φ => obtain ⟨_, ⟨_, e⟩, _⟩ := x; exact Heap.lt_size e
theorem Paired.mapP {α β : Type} {F G : α → β → Prop} : ∀ {l₁ : List α} {l₂ : List β}, Paired F l₁ l₂ → (∀ a b, F a b → G a b) → Paired G l₁ l₂
  | _, _, .nil, _ => .nil
  | _, _, .cons r t, f => .cons (f _ _ r) (Paired.mapP t f)
theorem ObjOk.stay (x : ObjOk P w H h a o) (k : ∀ b u, (b = a ∨ H b = some (.own a)) → h.get? b = some u → h'.get? b = some u)
    (ho : ∀ b, H b = some (.own a) → H' b = some (.own a)) (ht : ∀ b xs, H b = some (.tup xs) → H' b = some (.tup xs)) : ObjOk P w H' h' a o := by
  induction o with
  | lst xs => obtain ⟨z, its, n, r, e⟩ := x; exact ⟨z, its, n, r, k _ _ (.inl rfl) e⟩
  | tup xs => obtain ⟨z, its, r, ob, e, c⟩ := x; exact ⟨z, its, r, ob, k _ _ (.inl rfl) e, c⟩
  | dK kvs => obtain ⟨z, y, vs, r, ob, es, ep, e, c⟩ := x; exact ⟨z, y, vs, r, ob, es, ep, k _ _ (.inl rfl) e, c⟩
  | dT kvs =>
    obtain ⟨z, y, xs, r, ob, es, ep, e, c⟩ := x
    exact ⟨z, y, xs, Paired.mapP r fun p q z => ⟨z.1, ht _ _ z.2.1, z.2.2⟩, ob, es, ep, k _ _ (.inl rfl) e, c⟩
  | set S n => obtain ⟨ob, es, ep, t, e, c⟩ := x; exact ⟨ob, es, ep, t, k _ _ (.inl rfl) e, c⟩
  | ins C dx fs =>
    obtain ⟨d, z, ne, e, mA, ⟨od, es, ep, e2, c⟩, r⟩ := x
    exact ⟨ho _ d, z, ne, k _ _ (.inl rfl) e, mA, ⟨od, es, ep, k _ _ (.inr d) e2, c⟩, r⟩
  | own y => obtain ⟨ob, e⟩ := x; exact ⟨ob, k _ _ (.inl rfl) e⟩
  | xd fs => obtain ⟨mA, ⟨od, es, ep, e, c⟩, r⟩ := x; exact ⟨mA, ⟨od, es, ep, k _ _ (.inl rfl) e, c⟩, r⟩
  | rng lo hi => obtain ⟨t, u, v, e⟩ := x; exact ⟨t, u, v, k _ _ (.inl rfl) e⟩
  | frz ob u ih => obtain ⟨e, q⟩ := x; exact ⟨k _ _ (.inl rfl) e, ih q⟩
  | tbl ps =>
    have e : h.get? a = some { cls := .none, data := .fields ps } := x
    show h'.get? a = some { cls := .none, data := .fields ps }
    exact k a _ (.inl rfl) e
  | met f y =>
    have e : h.get? a = some (PySem.W.methodObj (.ref f) (.ref y)) := x
    show h'.get? a = some (PySem.W.methodObj (.ref f) (.ref y))
    exact k a _ (.inl rfl) e
  | ext φ => obtain ⟨p, ⟨o, e⟩, st⟩ := x; exact ⟨st _ _ p fun o q => k _ _ (.inl rfl) q, ⟨o, k _ _ (.inl rfl) e⟩, st⟩
theorem HOk.lt (x : HOk P w H h) (e : H a = some o) : a < h.objs.size := (x a o e).lt
theorem HOk.fresh (x : HOk P w H h) (e : h.objs.size ≤ a) : H a = none := by
  cases q : H a with
  | none => rfl
  | some u => exact absurd (Nat.lt_of_lt_of_le (x.lt q) e) (Nat.lt_irrefl _)
theorem HOk.kept (x : HOk P w H h) (k : ∀ b u, h.get? b = some u → h'.get? b = some u) : HOk P w H h' := fun a o e =>
  (x a o e).stay (fun b u _ q => k b u q) (fun _ q => q) fun _ _ q => q
theorem HOk.laid (x : HOk P w H h) (k : ∀ b u, h.get? b = some u → h'.get? b = some u) (hp : h.objs.size ≤ a) (new : ObjOk P w (upd H a o) h' a o) : HOk P w (upd H a o) h' := fun b u e => by
  have hn := x.fresh hp
  by_cases hb : b = a
  · subst hb; rw [upd_same] at e; cases e; exact new
  · rw [upd_ne hb] at e
    exact (x b u e).stay (fun c v _ q => k c v q) (fun c q => by rw [upd_ne (ne_of_none q hn)]; exact q) fun c xs q => by rw [upd_ne (ne_of_none q hn)]; exact q
end
noncomputable def Rd (H : Hp) (a : Addr) (u : HO) : Prop := H a = some u ∨ ∃ o, H a = some (.frz o u)
theorem Rd.ok {P : Program} {w : World} {H : Hp} {h : Heap} {a : Addr} {u : HO} (r : Rd H a u) (x : HOk P w H h) : ObjOk P w H h a u := by
  rcases r with r | ⟨o, r⟩
  · exact x a u r
  · obtain ⟨_, q⟩ := x a _ r
    exact q
noncomputable def Mut : Option HO → Prop
  | some (.lst _) => True
  | some (.dK _) => True
  | some (.dT _) => True
  | some (.set _ _) => True
  | some (.ins _ _ _) => True
  | some (.ext _) => True
  | _ => False
section
variable {P : Program} {w : World} {H : Hp} {h h' : Heap} {x e : Addr} {o' : HO}
theorem HOk.write (ok : HOk P w H h) (mu : Mut (H x)) (he : e = x ∨ H e = some (.own x)) (k : ∀ b u, b ≠ e → h.get? b = some u → h'.get? b = some u) (heo : ∃ u, h'.get? e = some u)
    (new : ObjOk P w (upd H x o') h' x o') : HOk P w (upd H x o') h' := fun b u q => by
  have nown : ∀ c y, H c = some (.own y) → c ≠ x := fun c y r z => by subst z; rw [r] at mu; exact mu
  have ntup : ∀ c xs, H c = some (.tup xs) → c ≠ x := fun c xs r z => by subst z; rw [r] at mu; exact mu
  by_cases hb : b = x
  · subst hb; rw [upd_same] at q; cases q; exact new
  · rw [upd_ne hb] at q
    by_cases hbe : b = e
    · have q' : H b = some (.own x) := by
        rcases he with z | z
        · exact absurd (hbe.trans z) hb
        · rw [hbe]; exact z
      rw [q] at q'; cases q'
      obtain ⟨v, hv⟩ := heo
      exact ⟨v, by rw [hbe]; exact hv⟩
    · refine (ok b u q).stay (fun c v hc r => k c v ?_ r) (fun c r => by rw [upd_ne (nown c b r)]; exact r) fun c xs r => by rw [upd_ne (ntup c xs r)]; exact r
      rcases hc with rfl | hc
      · exact hbe
      · rintro rfl
        rcases he with z | z
        · exact nown c b hc z
        · rw [hc] at z; cases z; exact hb rfl
end
structure Un (fs ex : List Addr) (H H' : Hp) (h h' : Heap) : Prop where
  keep : ∀ b o, h.get? b = some o → H b = none → b ∉ fs → b ∉ ex → h'.get? b = some o
  slot : ∀ b o, h.get? b = some o → H b = none → b ∈ fs → b ∉ ex → ∃ sl, h'.get? b = some { o with slots := sl }
  free : ∀ b o, h.get? b = some o → H b = none → b ∉ ex → H' b = none
  there : ∀ b o, h.get? b = some o → b ∉ ex → ∃ o', h'.get? b = some o'
  tups : ∀ b xs, H b = some (.tup xs) → H' b = some (.tup xs)
  frzs : ∀ b o u, H b = some (.frz o u) → H' b = some (.frz o u)
  tbls : ∀ b ps, H b = some (.tbl ps) → ∃ more, H' b = some (.tbl (ps ++ more))
section
variable {fs fs' ex ex' : List Addr} {H H1 H2 : Hp} {h h1 h2 h' : Heap} {a x e : Addr} {o : HO}
theorem Un.any (u : Un fs ex H H1 h h1) {b : Addr} {ob : Obj} (q : h.get? b = some ob) (n : H b = none) (hx : b ∉ ex) : ∃ sl, h1.get? b = some { ob with slots := sl } := by
  by_cases hb : b ∈ fs
  · exact u.slot b ob q n hb hx
  · exact ⟨ob.slots, u.keep b ob q n hb hx⟩
theorem Un.kept (k : ∀ b u, h.get? b = some u → h'.get? b = some u) : Un fs ex H H h h' :=
  ⟨fun b ob q _ _ _ => k b ob q, fun b ob q _ _ _ => ⟨ob.slots, k b ob q⟩, fun _ _ _ n _ => n, fun b ob q _ => ⟨ob, k b ob q⟩, fun _ _ q => q, fun _ _ _ q => q, fun _ ps q => ⟨#[], by rw [q]; simp⟩⟩
theorem Un.refl : Un fs ex H H h h := Un.kept fun _ _ q => q
theorem Un.laid (k : ∀ b u, h.get? b = some u → h'.get? b = some u) (hp : h.objs.size ≤ a) (hn : H a = none) : Un fs ex H (upd H a o) h h' where
  keep := fun b u q _ _ _ => k b u q
  slot := fun b u q _ _ _ => ⟨u.slots, k b u q⟩
  free := fun b u q n _ => by rw [upd_ne (Nat.ne_of_lt (Nat.lt_of_lt_of_le (Heap.lt_size q) hp))]; exact n
  there := fun b u q _ => ⟨u, k b u q⟩
  tups := fun b xs q => by rw [upd_ne (ne_of_none q hn)]; exact q
  frzs := fun b u xs q => by rw [upd_ne (ne_of_none q hn)]; exact q
  tbls := fun b ps q => ⟨#[], by rw [upd_ne (ne_of_none q hn), q]; simp⟩
theorem Un.write (mu : Mut (H x)) (he : e = x ∨ H e = some (.own x)) (k : ∀ b u, b ≠ e → h.get? b = some u → h'.get? b = some u) (heo : ∃ u, h'.get? e = some u) : Un fs ex H (upd H x o) h h' := by
  have hx : ∀ b, H b = none → b ≠ x := fun b n z => by subst z; rw [n] at mu; exact mu
  have hb : ∀ b, H b = none → b ≠ e := fun b n z => by
    subst z
    rcases he with r | r
    · exact hx b n r
    · rw [n] at r; cases r
  have hm : ∀ b u, H b = some u → ¬ Mut (some u) → b ≠ x := fun b u q nm z => by subst z; rw [q] at mu; exact nm mu
  refine ⟨fun b u q n _ _ => k b u (hb b n) q, fun b u q n _ _ => ⟨u.slots, k b u (hb b n) q⟩, fun b u q n _ => by rw [upd_ne (hx b n)]; exact n, fun b u q _ => ?_,
    fun b xs q => by rw [upd_ne (hm b _ q fun z => z)]; exact q, fun b u xs q => by rw [upd_ne (hm b _ q fun z => z)]; exact q, fun b ps q => ⟨#[], by rw [upd_ne (hm b _ q fun z => z), q]; simp⟩⟩
  by_cases hbe : b = e
  · subst hbe; exact heo
  · exact ⟨u, k b u hbe q⟩
end
noncomputable def trk (h : Heap) (H : Hp) : List Addr := (List.range h.objs.size).filter fun a => (H a).isSome
noncomputable def hidT (h : Heap) (H : Hp) : Heap := PySem.W.hideAll h (trk h H)
theorem hidT_size (h : Heap) (H : Hp) : (hidT h H).objs.size = h.objs.size := PySem.W.hideAll_size _ _
theorem hidT_get {h : Heap} {H : Hp} {b : Addr} {o : Obj} (e : h.get? b = some o) (n : H b = none) : (hidT h H).get? b = some o :=
  PySem.W.hideAll_get _ e fun hm => by
    have q : (H b).isSome = true := (List.mem_filter.mp hm).2
    rw [n] at q; simp at q
theorem of_hidT {h : Heap} {H : Hp} {b : Addr} {o : Obj} (e : (hidT h H).get? b = some o) : h.get? b = some o ∧ H b = none := by
  have e' : h.get? b = some o := PySem.W.of_hideAll (trk h H) e
  refine ⟨e', ?_⟩
  cases q : H b with
  | none => rfl
  | some x =>
    have hm : b ∈ trk h H := List.mem_filter.mpr ⟨List.mem_range.mpr (Heap.lt_size e'), by simp [q]⟩
    have z : (hidT h H).get? b = none := PySem.W.hideAll_none (trk h H) hm
    rw [z] at e; cases e
end L2
namespace L2
open PySem PySem.Spec PyProof.Rows
structure Mod (K : PySem.W.Frag) (mg : Str → Option Value) (base : Heap) : Prop where
  kin : K.In base
  glob : base.Ns mainGlobals mg
  blt : ∃ mb, base.Ns builtinsNs mb ∧ ∀ x : Str, x ≠ "__name__" → mb x = bootBuiltins x
  nolimit : base.NoLimit
structure Cx where
  prog : Program
  w : World
  K : PySem.W.Frag
  mg : Str → Option Value
  base : Heap
  A : Around
  N : List Str
  s₀ : Shared
  H₀ : Hp
  env : Env
  outer : List Env
  stack : List Env
  ex : List Addr
  fn : Str → Bool
  calm : Bool
  pn : List (Addr × Obj)
  xe : Value → Shared → Prop
noncomputable def frs (l : List Env) : List Addr := l.filterMap (·.frame)
noncomputable abbrev Cx.fs (X : Cx) : List Addr := frs X.outer
noncomputable def Vis (sc : Scope) (x : Str) : Prop := sc.names.lookup x = some .local ∨ sc.names.lookup x = some .cell ∨ sc.names.lookup x = some .free
noncomputable def Loc (sc : Scope) (x : Str) : Prop := sc.names.lookup x = some .local ∨ sc.names.lookup x = some .cell
noncomputable def Look (env : Env) (h : Heap) (m : Str → Option Value) (x : Str) (u : Value) : Prop :=
  (env.kindOf x = some .local ∧ m x = some u) ∨ ((env.kindOf x = some .cell ∨ env.kindOf x = some .free) ∧ ∃ c, env.cells.lookup x = some c ∧ h.IsCell c (some u))
structure Cx.Ok (X : Cx) : Prop where
  mod : Mod X.K X.mg X.base
  kind : X.env.scope.kind = .function
  glob : X.env.globals = mainGlobals
  blt : X.env.builtins = builtinsNs
  above : X.s₀.heap.objs.size ≤ X.env.locals
  inj : ∀ x y c, X.env.cells.lookup x = some c → X.env.cells.lookup y = some c → x = y
  has : ∀ x, (X.env.kindOf x = some .cell ∨ X.env.kindOf x = some .free) → ∃ c, X.env.cells.lookup x = some c
  cab : ∀ x c, X.fn x = true → X.env.cells.lookup x = some c → X.s₀.heap.objs.size ≤ c
  hd : X.calm = true → X.A.handled = none
  frames : X.A.frames = some X.stack
  stk : X.stack = X.outer ∨ (X.stack = X.env :: X.outer ∧ X.env.frame = some X.env.locals)
  exf : ∀ b ∈ X.ex, b ≠ X.env.locals ∧ ∀ x c, X.env.cells.lookup x = some c → c ≠ b
  bs : ∀ b o, X.base.get? b = some o → X.s₀.heap.get? b = some o ∧ X.H₀ b = none
  bsz : X.base.objs.size ≤ X.s₀.heap.objs.size
  noex : ∀ b o, X.base.get? b = some o → b ∉ X.ex
  exfs : ∀ b ∈ X.ex, b ∉ X.fs
  funs : X.s₀.heap.FunFrames X.base X.outer
  frf : ∀ b ∈ X.fs, X.H₀ b = none
structure Inv (X : Cx) (pins : List (Addr × Obj)) (σ : List (Option V)) (H : Hp) (s : Shared) : Prop where
  ok : X.Ok
  os : s.os = X.s₀.os
  bare : AllBare s.gens
  base : Un X.fs X.ex X.H₀ H X.s₀.heap s.heap
  loc : ∃ m, s.heap.Ns X.env.locals m ∧ ∀ (i : Nat) (x : Str) (v : V), X.N[i]? = some x → σ[i]? = some (some v) → Vis X.env.scope x → ∃ u, RelV v u ∧ Look X.env s.heap m x u
  cell : ∀ x c, X.env.cells.lookup x = some c → ∃ v, s.heap.IsCell c v
  free : H X.env.locals = none
  freeC : ∀ x c, X.env.cells.lookup x = some c → H c = none
  pin : ∀ p ∈ X.pn ++ pins, s.heap.get? p.1 = some p.2 ∧ H p.1 = none ∧ p.1 ≠ X.env.locals ∧ p.1 ∉ X.fs ∧ ∀ v, p.2.data ≠ .cell v
  hok : HOk X.prog X.w H s.heap
  len : σ.length = X.N.length
section
variable {X : Cx} {pins : List (Addr × Obj)} {σ : List (Option V)} {H H' : Hp} {s : Shared} {h' : Heap}
theorem Cx.Ok.nofr (ok : X.Ok) {b : Addr} {o : Obj} (e : X.base.get? b = some o) : b ∉ X.fs := fun hb => by
  have := (ok.funs.mem hb).1
  rw [e] at this; cases this
theorem Inv.bs (I : Inv X pins σ H s) : ∀ b o, X.base.get? b = some o → s.heap.get? b = some o ∧ H b = none := fun b o e =>
  ⟨I.base.keep b o (I.ok.bs b o e).1 (I.ok.bs b o e).2 (I.ok.nofr e) (I.ok.noex b o e), I.base.free b o (I.ok.bs b o e).1 (I.ok.bs b o e).2 (I.ok.noex b o e)⟩
theorem Inv.bk (I : Inv X pins σ H s) : ∀ b o, X.base.get? b = some o → s.heap.get? b = some o := fun b o e => (I.bs b o e).1
theorem Inv.mod (I : Inv X pins σ H s) : Mod X.K X.mg X.base := I.ok.mod
theorem Inv.kIn (I : Inv X pins σ H s) : X.K.In s.heap := I.ok.mod.kin.keeps I.bk
theorem Inv.lt (I : Inv X pins σ H s) : X.env.locals < s.heap.objs.size := let ⟨_, hn, _⟩ := I.loc; hn.lt
theorem Inv.sz (I : Inv X pins σ H s) : X.s₀.heap.objs.size ≤ s.heap.objs.size := Nat.le_trans I.ok.above (Nat.le_of_lt I.lt)
theorem Inv.nofs (I : Inv X pins σ H s) {a : Addr} (h : s.heap.objs.size ≤ a) : a ∉ X.fs := fun hb => by
  obtain ⟨_, o, ho, _⟩ := I.ok.funs.mem hb
  exact absurd (Nat.lt_of_lt_of_le (Heap.lt_size ho) (Nat.le_trans I.sz h)) (Nat.lt_irrefl _)
theorem Inv.cne (I : Inv X pins σ H s) : ∀ x c, X.env.cells.lookup x = some c → c ≠ X.env.locals := fun x c e z => by
  obtain ⟨v, o, ho, hd⟩ := I.cell x c e
  obtain ⟨m, ⟨o', es, ep, ho', hd', _⟩, _⟩ := I.loc
  rw [z, ho'] at ho; cases ho; rw [hd'] at hd; cases hd
theorem Inv.funs (I : Inv X pins σ H s) : s.heap.FunFrames X.base X.outer := by
  have all : ∀ (l : List Env), (∀ b ∈ frs l, b ∈ X.fs) → X.s₀.heap.FunFrames X.base l → s.heap.FunFrames X.base l := by
    intro l
    induction l with
    | nil => intro _ _; trivial
    | cons env r ih =>
      intro hs hl
      obtain ⟨hk, ⟨L, o, hf, hn, ho, hd⟩, hr⟩ := hl
      have hL : L ∈ X.fs := hs L (by unfold frs; rw [List.filterMap_cons, hf]; exact List.mem_cons_self)
      obtain ⟨sl, e⟩ := I.base.slot L o ho (I.ok.frf L hL) hL fun z => I.ok.exfs L z hL
      exact ⟨hk, ⟨L, _, hf, hn, e, hd⟩, ih (fun b hb => hs b (by unfold frs; rw [List.filterMap_cons, hf]; exact List.mem_cons_of_mem _ hb)) hr⟩
  exact all X.outer (fun _ hb => hb) I.ok.funs
theorem Inv.stack (I : Inv X pins σ H s) : s.heap.FunFrames X.base X.stack := by
  rcases I.ok.stk with e | ⟨e, hf⟩
  · rw [e]; exact I.funs
  · rw [e]
    obtain ⟨m, hn, _⟩ := I.loc
    refine .cons (by rw [I.ok.kind]; decide) hf hn ?_ I.funs
    exact Heap.get?_none_of_le (Nat.le_trans I.ok.bsz I.ok.above)
theorem Inv.stkSub (I : Inv X pins σ H s) : ∀ b ∈ frs X.stack, b ∈ X.env.locals :: X.fs := fun b hb => by
  rcases I.ok.stk with e | ⟨e, hf⟩
  · rw [e] at hb; exact List.mem_cons_of_mem _ hb
  · rw [e] at hb
    unfold frs at hb
    rw [List.filterMap_cons, hf] at hb
    exact hb
theorem Inv.stkFree (I : Inv X pins σ H s) : ∀ b ∈ frs X.stack, H b = none := fun b hb => by
  rcases List.mem_cons.mp (I.stkSub b hb) with e | hb
  · rw [e]; exact I.free
  · obtain ⟨_, o, ho, _⟩ := I.ok.funs.mem hb
    exact I.base.free b o ho (I.ok.frf b hb) fun z => I.ok.exfs b z hb
theorem Inv.step {g' : Array GenState} {t' : Nat} {d' : Drawn} {ch : List Addr} (I : Inv X pins σ H s)
    (hch : ∀ b ∈ ch, (b ∈ X.ex ∨ X.s₀.heap.objs.size ≤ b) ∧ b ≠ X.env.locals ∧ (∀ x c, X.env.cells.lookup x = some c → c ≠ b) ∧ ∀ p ∈ X.pn ++ pins, p.1 ≠ b)
    (keep : ∀ b o, b ≠ X.env.locals → b ∉ X.fs → b ∉ ch → s.heap.get? b = some o → H b = none → h'.get? b = some o)
    (slot : ∀ b o, b ≠ X.env.locals → b ∈ X.fs → b ∉ ch → s.heap.get? b = some o → H b = none → ∃ sl, h'.get? b = some { o with slots := sl }) (free : ∀ b o, b ∉ ch → s.heap.get? b = some o → H b = none → H' b = none)
    (there : ∀ b o, b ∉ ch → s.heap.get? b = some o → ∃ o', h'.get? b = some o')
    (tups : ∀ b xs, H b = some (.tup xs) → H' b = some (.tup xs)) (frzs : ∀ b o u, H b = some (.frz o u) → H' b = some (.frz o u)) (tbls : ∀ b ps, H b = some (.tbl ps) → ∃ more, H' b = some (.tbl (ps ++ more)))
    (ns : ∀ m, s.heap.Ns X.env.locals m → h'.Ns X.env.locals m) (hok : HOk X.prog X.w H' h') (hg : AllBare g') :
    Inv X pins σ H' { s with heap := h', gens := g', drawn := d', toks := t' } := by
  have neL : ∀ b o, X.s₀.heap.get? b = some o → b ≠ X.env.locals := fun b o e => Nat.ne_of_lt (Nat.lt_of_lt_of_le (Heap.lt_size e) I.ok.above)
  have neC : ∀ b o, X.s₀.heap.get? b = some o → b ∉ X.ex → b ∉ ch := fun b o e hx hb => by
    rcases (hch b hb).1 with z | z
    · exact hx z
    · exact absurd (Nat.lt_of_lt_of_le (Heap.lt_size e) z) (Nat.lt_irrefl _)
  have cellK : ∀ x c, X.env.cells.lookup x = some c → ∀ v, s.heap.IsCell c v → h'.IsCell c v := fun x c e v ⟨o, ho, hd⟩ => by
    have nch : c ∉ ch := fun z => (hch c z).2.2.1 x c e rfl
    by_cases hc : c ∈ X.fs
    · obtain ⟨sl, q⟩ := slot c o (I.cne x c e) hc nch ho (I.freeC x c e)
      exact ⟨_, q, hd⟩
    · exact ⟨o, keep c o (I.cne x c e) hc nch ho (I.freeC x c e), hd⟩
  refine ⟨I.ok, I.os, hg, ⟨fun b o e n hb hx => ?_, fun b o e n hb hx => ?_, fun b o e n hx => ?_, fun b o e hx => ?_, fun b xs e => tups b xs (I.base.tups b xs e), fun b o xs e => frzs b o xs (I.base.frzs b o xs e), fun b ps e => ?_⟩, ?_, fun x c e => ?_, ?_, fun x c e => ?_, fun p hp => ?_, hok, I.len⟩
  · exact keep b o (neL b o e) hb (neC b o e hx) (I.base.keep b o e n hb hx) (I.base.free b o e n hx)
  · obtain ⟨sl, e1⟩ := I.base.slot b o e n hb hx
    obtain ⟨sl', e2⟩ := slot b _ (neL b o e) hb (neC b o e hx) e1 (I.base.free b o e n hx)
    exact ⟨sl', e2⟩
  · obtain ⟨o', e1⟩ := I.base.there b o e hx
    exact free b o' (neC b o e hx) e1 (I.base.free b o e n hx)
  · obtain ⟨o', e1⟩ := I.base.there b o e hx
    exact there b o' (neC b o e hx) e1
  · obtain ⟨m1, e1⟩ := I.base.tbls b ps e
    obtain ⟨m2, e2⟩ := tbls b _ e1
    exact ⟨m1 ++ m2, by rw [e2, Array.append_assoc]⟩
  · obtain ⟨m, hn, hl⟩ := I.loc
    refine ⟨m, ns m hn, fun i x v e1 e2 e3 => ?_⟩
    obtain ⟨u, r, l⟩ := hl i x v e1 e2 e3
    refine ⟨u, r, ?_⟩
    rcases l with l | ⟨k, c, e, z⟩
    · exact .inl l
    · exact .inr ⟨k, c, e, cellK x c e _ z⟩
  · obtain ⟨v, z⟩ := I.cell x c e
    exact ⟨v, cellK x c e v z⟩
  · obtain ⟨m, ⟨o, _, _, ho, _⟩, _⟩ := I.loc
    exact free _ o (fun z => (hch _ z).2.1 rfl) ho I.free
  · obtain ⟨v, o, ho, hd⟩ := I.cell x c e
    exact free c o (fun z => (hch c z).2.2.1 x c e rfl) ho (I.freeC x c e)
  · obtain ⟨e, n, ne, nf, d⟩ := I.pin p hp
    have nch : p.1 ∉ ch := fun z => (hch p.1 z).2.2.2 p hp rfl
    exact ⟨keep p.1 p.2 ne nf nch e n, free p.1 p.2 nch e n, ne, nf, d⟩
theorem Inv.un {t' : Nat} (I : Inv X pins σ H s) (u : Un X.fs [] H H' s.heap h') (hok : HOk X.prog X.w H' h') : Inv X pins σ H' { s with heap := h', toks := t' } := by
  obtain ⟨m, ⟨o, es, ep, ho, r⟩, _⟩ := id I.loc
  obtain ⟨sl, hL⟩ := u.any ho I.free (by simp)
  exact I.step (g' := s.gens) (d' := s.drawn) (ch := []) (fun _ z => nomatch z) (fun b o _ hb _ e n => u.keep b o e n hb (by simp)) (fun b o _ hb _ e n => u.slot b o e n hb (by simp)) (fun b o _ e n => u.free b o e n (by simp)) (fun b o _ e => u.there b o e (by simp)) u.tups u.frzs u.tbls (fun m' hm => by
    obtain ⟨o', es', ep', ho', r'⟩ := hm
    rw [ho] at ho'; cases ho'
    exact ⟨_, es', ep', hL, r'⟩) hok I.bare
theorem Inv.call {g' : Array GenState} {t' : Nat} {d' : Drawn} {ch : List Addr} (I : Inv X pins σ H s) (u : Un (frs X.stack) ch H H' s.heap h') (hok : HOk X.prog X.w H' h') (hg : AllBare g')
    (hch : ∀ b ∈ ch, (b ∈ X.ex ∨ X.s₀.heap.objs.size ≤ b) ∧ b ≠ X.env.locals ∧ (∀ x c, X.env.cells.lookup x = some c → c ≠ b) ∧ ∀ p ∈ X.pn ++ pins, p.1 ≠ b) :
    Inv X pins σ H' { s with heap := h', gens := g', drawn := d', toks := t' } := by
  obtain ⟨m, ⟨o, es, ep, ho, r⟩, _⟩ := id I.loc
  obtain ⟨sl, hL⟩ := u.any ho I.free fun z => (hch _ z).2.1 rfl
  exact I.step (ch := ch) hch (fun b o hL hb hc e n => u.keep b o e n (fun z => (List.mem_cons.mp (I.stkSub b z)).elim hL hb) hc) (fun b o _ _ hc e n => u.any e n hc) (fun b o hc e n => u.free b o e n hc) (fun b o hc e => u.there b o e hc) u.tups u.frzs u.tbls (fun m' hm => by
    obtain ⟨o', es', ep', ho', r'⟩ := hm
    rw [ho] at ho'; cases ho'
    exact ⟨_, es', ep', hL, r'⟩) hok hg
theorem Inv.turned {t' : Nat} {it : Addr} (I : Inv X pins σ H s) (k : ∀ b o, b ≠ it → s.heap.get? b = some o → h'.get? b = some o) (hn : H it = none) (hL : it ≠ X.env.locals)
    (h1 : it ∈ X.ex ∨ X.s₀.heap.objs.size ≤ it) (h2 : ∀ x c, X.env.cells.lookup x = some c → c ≠ it) (h3 : ∀ p ∈ X.pn ++ pins, p.1 ≠ it) : Inv X pins σ H { s with heap := h', toks := t' } := by
  have nit : ∀ b u, H b = some u → b ≠ it := fun b u e z => by rw [z, hn] at e; cases e
  refine I.step (g' := s.gens) (d' := s.drawn) (ch := [it]) (fun b hb => ?_) (fun b o _ _ hc e _ => k b o (fun z => hc (by simp [z])) e) (fun b o _ _ hc e _ => ⟨o.slots, k b o (fun z => hc (by simp [z])) e⟩) (fun _ _ _ _ n => n)
    (fun b o hc e => ⟨o, k b o (fun z => hc (by simp [z])) e⟩) (fun _ _ e => e) (fun _ _ _ e => e) (fun b ps e => ⟨#[], by rw [e]; simp⟩) (fun m hm => ?_) (fun b u e => ?_) I.bare
  · have e : b = it := by simpa using hb
    subst e
    exact ⟨h1, hL, h2, h3⟩
  · obtain ⟨o, es, ep, ho, r⟩ := hm
    exact ⟨o, es, ep, k _ o (Ne.symm hL) ho, r⟩
  · refine (I.hok b u e).stay (fun c v hc q => k c v ?_ q) (fun _ q => q) fun _ _ q => q
    rcases hc with z | z
    · rw [z]; exact nit b u e
    · exact nit c _ z
theorem Inv.tok (I : Inv X pins σ H s) (t : Nat) : Inv X pins σ H { s with toks := t } := I.un (h' := s.heap) (t' := t) Un.refl I.hok
theorem Inv.kept {t' : Nat} (I : Inv X pins σ H s) (k : ∀ b u, s.heap.get? b = some u → h'.get? b = some u) : Inv X pins σ H { s with heap := h', toks := t' } := I.un (Un.kept k) (I.hok.kept k)
theorem Inv.laid {a : Addr} {o : HO} {t' : Nat} (I : Inv X pins σ H s) (k : ∀ b u, s.heap.get? b = some u → h'.get? b = some u) (hp : s.heap.objs.size ≤ a) (new : ObjOk X.prog X.w (upd H a o) h' a o) :
    Inv X pins σ (upd H a o) { s with heap := h', toks := t' } := I.un (Un.laid k hp (I.hok.fresh hp)) (I.hok.laid k hp new)
theorem Inv.write {x e : Addr} {o : HO} {t' : Nat} (I : Inv X pins σ H s) (mu : Mut (H x)) (he : e = x ∨ H e = some (.own x)) (k : ∀ b u, b ≠ e → s.heap.get? b = some u → h'.get? b = some u) (heo : ∃ u, h'.get? e = some u)
    (new : ObjOk X.prog X.w (upd H x o) h' x o) : Inv X pins σ (upd H x o) { s with heap := h', toks := t' } := I.un (Un.write mu he k heo) (I.hok.write mu he k heo new)
theorem Inv.pins_of {pins' : List (Addr × Obj)} (I : Inv X pins σ H s) (h : ∀ p ∈ pins', s.heap.get? p.1 = some p.2 ∧ H p.1 = none ∧ p.1 ≠ X.env.locals ∧ p.1 ∉ X.fs ∧ ∀ v, p.2.data ≠ .cell v) : Inv X pins' σ H s :=
  ⟨I.ok, I.os, I.bare, I.base, I.loc, I.cell, I.free, I.freeC, fun p hp => (List.mem_append.mp hp).elim (fun z => I.pin p (List.mem_append_left _ z)) (h p), I.hok, I.len⟩
theorem nodup_ix {N : List Str} (hN : N.Nodup) {i j : Nat} {x : Str} (a : N[i]? = some x) (b : N[j]? = some x) : i = j := by
  obtain ⟨h1, e1⟩ := List.getElem?_eq_some_iff.mp a
  obtain ⟨h2, e2⟩ := List.getElem?_eq_some_iff.mp b
  exact (List.getElem_inj hN).mp (e1.trans e2.symm)
theorem store_ok2 {M : Model} {A : Around} {E : Value → Shared → Prop} {i : Nat} {x : Str} {v : V} {u : Value} {Q : Unit → Shared → Prop} (I : Inv X pins σ H s) (hN : X.N.Nodup) (hi : X.N[i]? = some x) (hx : Loc X.env.scope x) (r : RelV v u)
    (h : ∀ s', Inv X pins (σ.set i (some v)) H s' → (∃ a, Heap.SameBut a s.heap s'.heap ∧ (a = X.env.locals ∨ X.env.cells.lookup x = some a)) → Q () s') (hf : X.fn x = true ∨ X.env.scope.names.lookup x = some .local := by first | exact .inl rfl | exact .inr rfl | assumption) : wpAny M A (storeName X.env x u) Q E s := by
  obtain ⟨m, hn, hl⟩ := id I.loc
  have hcls : (X.env.scope.kind == .class || (X.env.scope.kind == .module && X.env.locals != X.env.globals)) = false := by rw [I.ok.kind]; rfl
  have hiσ : i < σ.length := by rw [I.len]; exact (List.getElem?_eq_some_iff.mp hi).1
  have cne := I.cne
  have tracked : ∀ {a : Addr} {h' : Heap}, (∃ o, s.heap.get? a = some o ∧ H a = none) → Heap.SameBut a s.heap h' → HOk X.prog X.w H h' := fun {a h'} ha hs b ob e => by
    obtain ⟨_, _, hfree⟩ := ha
    refine (I.hok b ob e).stay (fun c w' hc q => (hs.2 c ?_).trans q) (fun _ q => q) fun _ _ q => q
    rintro rfl
    rcases hc with rfl | hc
    · rw [hfree] at e; cases e
    · rw [hfree] at hc; cases hc
  rcases hx with hk | hk
  · refine wpAny_storeName_local hk hn (fun h' hn' hs => ?_) hcls
    obtain ⟨oL, _, _, hoL, _⟩ := id hn
    refine h _ ⟨I.ok, I.os, I.bare, ⟨fun b o e n hb hx => ?_, fun b o e n hb hx => ?_, I.base.free, fun b o e hx => ?_, I.base.tups, I.base.frzs, I.base.tbls⟩, ⟨_, hn', fun j y v' e1 e2 e3 => ?_⟩, fun y c e => ?_, I.free, I.freeC, fun p hp => ?_, tracked ⟨oL, hoL, I.free⟩ hs, by simpa using I.len⟩ ⟨_, hs, .inl rfl⟩
    · exact (hs.2 b (Nat.ne_of_lt (Nat.lt_of_lt_of_le (Heap.lt_size e) I.ok.above))).trans (I.base.keep b o e n hb hx)
    · obtain ⟨sl, e1⟩ := I.base.slot b o e n hb hx
      exact ⟨sl, (hs.2 b (Nat.ne_of_lt (Nat.lt_of_lt_of_le (Heap.lt_size e) I.ok.above))).trans e1⟩
    · obtain ⟨o', e1⟩ := I.base.there b o e hx
      exact ⟨o', (hs.2 b (Nat.ne_of_lt (Nat.lt_of_lt_of_le (Heap.lt_size e) I.ok.above))).trans e1⟩
    · by_cases hj : j = i
      · subst hj
        rw [hi] at e1; cases e1
        rw [List.getElem?_set_self hiσ] at e2
        cases e2
        exact ⟨u, r, .inl ⟨hk, by simp⟩⟩
      · rw [List.getElem?_set_ne (Ne.symm hj)] at e2
        obtain ⟨u', r', q⟩ := hl j y v' e1 e2 e3
        refine ⟨u', r', ?_⟩
        rcases q with ⟨k, e⟩ | ⟨k, c, e, z⟩
        · refine .inl ⟨k, ?_⟩
          have : y ≠ x := fun e => hj (nodup_ix hN e1 (e ▸ hi))
          simp [this, e]
        · exact .inr ⟨k, c, e, z.sameBut hs (cne y c e)⟩
    · obtain ⟨w', z⟩ := I.cell y c e
      exact ⟨w', z.sameBut hs (cne y c e)⟩
    · obtain ⟨e, n, ne, nf, d⟩ := I.pin p hp
      exact ⟨(hs.2 p.1 ne).trans e, n, ne, nf, d⟩
  · have hfn : X.fn x = true := by
      rcases hf with z | z
      · exact z
      · rw [z] at hk; cases hk
    obtain ⟨c, hc⟩ := I.ok.has x (.inl hk)
    obtain ⟨w', z⟩ := I.cell x c hc
    refine wpAny_storeName_cell I.ok.kind hk hc z (fun h' hc' hs => ?_)
    obtain ⟨oc, hoc, hocd⟩ := id z
    refine h { s with heap := h' } ⟨I.ok, I.os, I.bare, ⟨fun b o e n hb hx => ?_, fun b o e n hb hx => ?_, I.base.free, fun b o e hx => ?_, I.base.tups, I.base.frzs, I.base.tbls⟩, ⟨m, hn.sameBut hs (Ne.symm (cne x c hc)), fun j y v' e1 e2 e3 => ?_⟩, fun y c' e => ?_, I.free, I.freeC, fun p hp => ?_, tracked ⟨oc, hoc, I.freeC x c hc⟩ hs, by simpa using I.len⟩ ⟨c, hs, .inr hc⟩
    · exact (hs.2 b (Nat.ne_of_lt (Nat.lt_of_lt_of_le (Heap.lt_size e) (I.ok.cab x c hfn hc)))).trans (I.base.keep b o e n hb hx)
    · obtain ⟨sl, e1⟩ := I.base.slot b o e n hb hx
      exact ⟨sl, (hs.2 b (Nat.ne_of_lt (Nat.lt_of_lt_of_le (Heap.lt_size e) (I.ok.cab x c hfn hc)))).trans e1⟩
    · obtain ⟨o', e1⟩ := I.base.there b o e hx
      exact ⟨o', (hs.2 b (Nat.ne_of_lt (Nat.lt_of_lt_of_le (Heap.lt_size e) (I.ok.cab x c hfn hc)))).trans e1⟩
    · by_cases hj : j = i
      · subst hj
        rw [hi] at e1; cases e1
        rw [List.getElem?_set_self hiσ] at e2
        cases e2
        exact ⟨u, r, .inr ⟨.inl hk, c, hc, hc'⟩⟩
      · rw [List.getElem?_set_ne (Ne.symm hj)] at e2
        obtain ⟨u', r', q⟩ := hl j y v' e1 e2 e3
        refine ⟨u', r', ?_⟩
        rcases q with q | ⟨k, c', e, z'⟩
        · exact .inl q
        · refine .inr ⟨k, c', e, z'.sameBut hs ?_⟩
          rintro rfl
          exact hj (nodup_ix hN e1 (I.ok.inj _ _ _ e hc ▸ hi))
    · by_cases hcc : c' = c
      · subst hcc; exact ⟨_, hc'⟩
      · obtain ⟨w2, z2⟩ := I.cell y c' e
        exact ⟨w2, z2.sameBut hs hcc⟩
    · obtain ⟨e, n, ne, nf, d⟩ := I.pin p hp
      refine ⟨(hs.2 p.1 ?_).trans e, n, ne, nf, d⟩
      intro q
      rw [q, hoc] at e
      have q' : oc = p.2 := Option.some.inj e
      exact d w' (by rw [← q']; exact hocd)
theorem store_ok {M : Model} {A : Around} {E : Value → Shared → Prop} {i : Nat} {x : Str} {v : V} {u : Value} {Q : Unit → Shared → Prop} (I : Inv X pins σ H s) (hN : X.N.Nodup) (hi : X.N[i]? = some x) (hx : Loc X.env.scope x) (r : RelV v u)
    (h : ∀ s', Inv X pins (σ.set i (some v)) H s' → Q () s') (hf : X.fn x = true ∨ X.env.scope.names.lookup x = some .local := by first | exact .inl rfl | exact .inr rfl | assumption) : wpAny M A (storeName X.env x u) Q E s :=
  store_ok2 I hN hi hx r (fun s' I' _ => h s' I') hf
end
noncomputable abbrev XK := Value → Option Addr → Hp → Prop
noncomputable abbrev St := List (Option V)
noncomputable abbrev VK := V → Hp → Prop
noncomputable abbrev TE := St → Hp → VK → Prop
noncomputable abbrev TT := St → Hp → (Bool → Hp → Prop) → Prop
noncomputable abbrev TA := St → Hp → (List V → Hp → Prop) → Prop
structure Ends where
  nx : St → Hp → Prop
  rt : VK
  bk : St → Hp → Prop := fun _ _ => False
  ct : St → Hp → Prop := fun _ _ => False
noncomputable abbrev TS := Ends → St → Hp → Prop
noncomputable def EP (X : Cx) (pins : List (Addr × Obj)) (σ : St) (Q : VK) (u : Value) (s' : Shared) : Prop := ∃ v H', Inv X pins σ H' s' ∧ RelV v u ∧ Q v H'
noncomputable def TP (X : Cx) (pins : List (Addr × Obj)) (σ : St) (Q : Bool → Hp → Prop) (b : Bool) (s' : Shared) : Prop := ∃ H', Inv X pins σ H' s' ∧ Q b H'
noncomputable def AP (X : Cx) (pins : List (Addr × Obj)) (σ : St) (Q : List V → Hp → Prop) (us : List Value) (s' : Shared) : Prop := ∃ vs H', Inv X pins σ H' s' ∧ Vals vs us ∧ Q vs H'
noncomputable def SP (X : Cx) (pins : List (Addr × Obj)) (D : Ends) (f : Flow) (s' : Shared) : Prop :=
  match f with
  | .next => ∃ σ' H', Inv X pins σ' H' s' ∧ D.nx σ' H'
  | .brk => ∃ σ' H', Inv X pins σ' H' s' ∧ D.bk σ' H'
  | .cont => ∃ σ' H', Inv X pins σ' H' s' ∧ D.ct σ' H'
  | .ret u => ∃ v σ' H', Inv X pins σ' H' s' ∧ RelV v u ∧ D.rt v H'
noncomputable def PE (X : Cx) (e : Expr) (t : TE) : Prop :=
  ∀ (pins : List (Addr × Obj)) (s : Shared) (σ : St) (H : Hp) (Q : VK), Inv X pins σ H s → t σ H Q → wpAny (model X.prog X.w) X.A (eval e X.env) (EP X pins σ Q) X.xe s
noncomputable def PT (X : Cx) (e : Expr) (t : TT) : Prop :=
  ∀ (pins : List (Addr × Obj)) (s : Shared) (σ : St) (H : Hp) (Q : Bool → Hp → Prop), Inv X pins σ H s → t σ H Q → wpAny (model X.prog X.w) X.A (isTrue e X.env (eval e X.env)) (TP X pins σ Q) X.xe s
noncomputable def PW (X : Cx) (e : Expr) (t : TT) : Prop :=
  ∀ (whole : Sem Value) (pins : List (Addr × Obj)) (s : Shared) (σ : St) (H : Hp) (Q : Bool → Hp → Prop), Inv X pins σ H s → t σ H Q → wpAny (model X.prog X.w) X.A (isTrue e X.env whole) (TP X pins σ Q) X.xe s
theorem PW.pt {X : Cx} {e : Expr} {t : TT} (h : PW X e t) : PT X e t := h _
noncomputable def PA (X : Cx) (es : List Expr) (t : TA) : Prop :=
  ∀ (pos : Pos) (pins : List (Addr × Obj)) (s : Shared) (σ : St) (H : Hp) (Q : List V → Hp → Prop), Inv X pins σ H s → t σ H Q → wpAny (model X.prog X.w) X.A (spliced (backTo pos (starEach es X.env))) (AP X pins σ Q) X.xe s
noncomputable def PS (X : Cx) (st : Stmt) (t : TS) : Prop :=
  ∀ (pins : List (Addr × Obj)) (s : Shared) (σ : St) (H : Hp) (D : Ends), Inv X pins σ H s → t D σ H → wpAny (model X.prog X.w) X.A (exec st X.env) (SP X pins D) X.xe s
noncomputable def PSs (X : Cx) (st : List Stmt) (t : TS) : Prop :=
  ∀ (pins : List (Addr × Obj)) (s : Shared) (σ : St) (H : Hp) (D : Ends), Inv X pins σ H s → t D σ H → wpAny (model X.prog X.w) X.A (execs st X.env) (SP X pins D) X.xe s
theorem thn {α : Type} {t : Sem α} {Q Q' : α → Shared → Prop} {M : Model} {A : Around} {E : Value → Shared → Prop} {s : Shared} (h : wpAny M A t Q E s) (hQ : ∀ a s, Q a s → Q' a s) : wpAny M A t Q' E s := wpAny_mono h hQ fun _ _ x => x
end L2
namespace L2
open PySem PySem.Spec PyProof.Rows
section
variable {X : Cx}
theorem bin {a b : Expr} {ta tb : TE} (ha : PE X a ta) (hb : PE X b tb) {pins : List (Addr × Obj)} {s : Shared} {σ : St} {H : Hp} {R : V → V → Hp → Prop} (I : Inv X pins σ H s) (h : ta σ H fun x H1 => tb σ H1 fun y H2 => R x y H2)
    {α : Type} {Q : α → Shared → Prop} {f : Value → Value → Sem α}
    (hf : ∀ v u s2 x y H2, Inv X pins σ H2 s2 → RelV x v → RelV y u → R x y H2 → wpAny (model X.prog X.w) X.A (f v u) Q X.xe s2) :
    wpAny (model X.prog X.w) X.A (eval a X.env) (fun v s₁ => wpAny (model X.prog X.w) X.A (eval b X.env) (fun u s₂ => wpAny (model X.prog X.w) X.A (f v u) Q X.xe s₂) X.xe s₁) X.xe s := by
  refine thn (ha pins s σ H _ I h) fun v s1 ⟨x, H1, I1, r1, q1⟩ => ?_
  refine thn (hb pins s1 σ H1 _ I1 q1) fun u s2 ⟨y, H2, I2, r2, q2⟩ => ?_
  exact hf v u s2 x y H2 I2 r1 r2 q2
noncomputable def tVar (i : Nat) : TE := fun σ H Q => ∃ v, σ[i]? = some (some v) ∧ Q v H
noncomputable def tC (v : V) : TE := fun _ H Q => Q v H
theorem pe_var {i : Nat} {x : Str} {pos : Pos} (hN : X.N[i]? = some x) (hv : Vis X.env.scope x) (hd : (x == ("__debug__" : Str)) = false := by decide) (hcd : (x == ("__classdict__" : Str)) = false := by decide) : PE X (.Name x pos) (tVar i) := by
  intro pins s σ H Q I h
  obtain ⟨v, e, h⟩ := h
  obtain ⟨m, hn, hl⟩ := I.loc
  obtain ⟨u, r, l⟩ := hl i x v hN e hv
  have fin : EP X pins σ Q u s := ⟨v, H, I, r, h⟩
  rcases l with ⟨hk, hm⟩ | ⟨hk, c, hc, hcell⟩
  · exact wpAny_Name (wpAny_loadName_local I.ok.kind hk hn hm fin) hd
  · rcases hk with hk | hk
    · exact wpAny_Name (wpAny_loadName_cell I.ok.kind hk hc hcell fin) hd
    · exact wpAny_Name (wpAny_loadName_free I.ok.kind hk hc hcell fin hcd) hd
theorem pe_int {i j pos} : PE X (.Constant (.int i) j pos) (tC (.int i)) := fun _ _ _ H _ I h => wpAny_Constant_int ⟨.int i, H, I.tok _, ⟨_, rfl⟩, h⟩
theorem pe_bl {b j pos} : PE X (.Constant (.bool b) j pos) (tC (.bl b)) := fun _ _ _ H _ I h => Constant_bool ⟨.bl b, H, I, rfl, h⟩
theorem pe_str {x j pos} : PE X (.Constant (.str x) j pos) (tC (.str x)) := fun _ _ _ H _ I h => Calls.Constant_str ⟨.str x, H, I.tok _, ⟨_, rfl⟩, h⟩
noncomputable def Gl (X : Cx) (x : Str) : Prop := X.env.kindOf x = some .globalImplicit
theorem ld_glob {E : Value → Shared → Prop} {pins : List (Addr × Obj)} {s : Shared} {σ : St} {H : Hp} {x : Str} {u : Value} {pos : Pos} {Q : Value → Shared → Prop} (I : Inv X pins σ H s) (hg : Gl X x) (hm : X.mg x = some u) (h : Q u s)
    (hd : (x == ("__debug__" : Str)) = false := by decide) : wpAny (model X.prog X.w) X.A (eval (.Name x pos) X.env) Q E s :=
  Calls.Name_function_global I.ok.kind hg (Calls.loadGlobal_global (by rw [I.ok.glob]; exact I.mod.glob.keeps I.bk) hm h) hd
theorem ld_blt {E : Value → Shared → Prop} {pins : List (Addr × Obj)} {s : Shared} {σ : St} {H : Hp} {x : Str} {u : Value} {pos : Pos} {Q : Value → Shared → Prop} (I : Inv X pins σ H s) (hg : Gl X x) (hm : X.mg x = none) (hv : bootBuiltins x = some u) (h : Q u s)
    (hn : x ≠ "__name__" := by decide) (hd : (x == ("__debug__" : Str)) = false := by decide) : wpAny (model X.prog X.w) X.A (eval (.Name x pos) X.env) Q E s := by
  obtain ⟨mb, h1, h2⟩ := I.mod.blt
  exact Calls.Name_function_global I.ok.kind hg (Calls.loadGlobal_builtin (by rw [I.ok.glob]; exact I.mod.glob.keeps I.bk) hm (by rw [I.ok.blt]; exact h1.keeps I.bk) ((h2 x hn).trans hv) h) hd
theorem pe_glob {x : Str} {v : V} {u : Value} {pos : Pos} (hg : Gl X x) (hm : X.mg x = some u) (r : RelV v u) (hd : (x == ("__debug__" : Str)) = false := by decide) : PE X (.Name x pos) (tC v) :=
  fun _ _ _ H _ I h => ld_glob I hg hm ⟨v, H, I, r, h⟩ hd
theorem pe_bltn {x : Str} {v : V} {u : Value} {pos : Pos} (hg : Gl X x) (hm : X.mg x = none) (hv : bootBuiltins x = some u) (r : RelV v u) (hn : x ≠ "__name__" := by decide) (hd : (x == ("__debug__" : Str)) = false := by decide) : PE X (.Name x pos) (tC v) :=
  fun _ _ _ H _ I h => ld_blt I hg hm hv ⟨v, H, I, r, h⟩ hn hd
variable {a b : Expr} {ta tb : TE} {pos : Pos}
noncomputable def PC (X : Cx) (op : CmpOp) (a b : Expr) (t : TE) : Prop :=
  ∀ (pins : List (Addr × Obj)) (s : Shared) (σ : St) (H : Hp) (Q : VK), Inv X pins σ H s → t σ H Q →
    wpAny (model X.prog X.w) X.A (eval a X.env) (fun v s₁ => wpAny (model X.prog X.w) X.A (eval b X.env) (fun u s₂ => wpAny (model X.prog X.w) X.A (compareOp op v u) (EP X pins σ Q) X.xe s₂) X.xe s₁) X.xe s
theorem nobehind (b : Expr) {op : CmpOp} (h : op ≠ .In) (h2 : op ≠ .NotIn) : behindInMarks op b = false := by
  have e1 : (op == CmpOp.In) = false := by cases op <;> first | rfl | exact absurd rfl h
  have e2 : (op == CmpOp.NotIn) = false := by cases op <;> first | rfl | exact absurd rfl h2
  cases b <;> simp [behindInMarks, e1, e2]
noncomputable def tB (t : TE) : TT := fun σ H Q => t σ H fun x H1 => ∃ c, x = .bl c ∧ Q c H1
theorem pt_cmp {op : CmpOp} {t : TE} (h : PC X op a b t) (h1 : behindInMarks op b = false := by first | exact nobehind _ (by decide) (by decide) | rfl) : PT X (.Compare a [op] [b] pos) (tB t) := by
  intro pins s σ H Q I hw
  refine wpAny_isTrue_Compare1 (thn (h pins s σ H _ I hw) fun v s1 h1 => thn h1 fun u s2 h2 => thn h2 fun c s3 ⟨x, H1, I1, r1, q1⟩ => ?_) h1
  obtain ⟨d, rfl, q⟩ := q1
  cases r1
  exact wpAny_truthy_bool ⟨H1, I1, q⟩
theorem pt_val {e : Expr} {t : TE} (h : PE X e t) (he : ∀ whole, isTrue e X.env whole = (do let v ← whole; standAt e.pos; holding [v] (truthy v)) := by intro _; rfl) : PT X e (tB t) := by
  intro pins s σ H Q I hw
  refine isTrue_plain (thn (h pins s σ H _ I hw) fun v s1 ⟨x, H1, I1, r1, q1⟩ => ?_) (he _)
  obtain ⟨d, rfl, q⟩ := q1
  cases r1
  exact wpAny_truthy_bool ⟨H1, I1, q⟩
variable {tA tB' : TT} {rest : List Expr}
noncomputable def tAnd (t u : TT) : TT := fun σ H Q => t σ H fun c H1 => if c = true then u σ H1 Q else Q false H1
noncomputable def tOr (t u : TT) : TT := fun σ H Q => t σ H fun c H1 => if c = true then Q true H1 else u σ H1 Q
noncomputable def tNot (t : TT) : TT := fun σ H Q => t σ H fun c H1 => Q (!c) H1
theorem pw_and1 (ha : PT X a tA) : PW X (.BoolOp .And [a] pos) tA := by
  intro wh pins s σ H Q I h
  refine isTrue_and (thn (ha pins s σ H Q I h) fun c s1 e => ?_)
  cases c with
  | true => exact isTrue_and_nil e
  | false => exact e
theorem pw_or1 (ha : PT X a tA) : PW X (.BoolOp .Or [a] pos) tA := by
  intro wh pins s σ H Q I h
  refine isTrue_or (thn (ha pins s σ H Q I h) fun c s1 e => ?_)
  cases c with
  | false => exact isTrue_or_nil e
  | true => exact e
theorem pw_and (ha : PT X a tA) (hb : PW X (.BoolOp .And (b :: rest) pos) tB') : PW X (.BoolOp .And (a :: b :: rest) pos) (tAnd tA tB') := by
  intro wh pins s σ H Q I h
  refine isTrue_and (thn (ha pins s σ H _ I h) fun c s1 ⟨H1, I1, q1⟩ => ?_)
  cases c with
  | true => exact hb wh pins s1 σ H1 Q I1 q1
  | false => exact ⟨H1, I1, q1⟩
theorem pw_or (ha : PT X a tA) (hb : PW X (.BoolOp .Or (b :: rest) pos) tB') : PW X (.BoolOp .Or (a :: b :: rest) pos) (tOr tA tB') := by
  intro wh pins s σ H Q I h
  refine isTrue_or (thn (ha pins s σ H _ I h) fun c s1 ⟨H1, I1, q1⟩ => ?_)
  cases c with
  | true => exact ⟨H1, I1, q1⟩
  | false => exact hb wh pins s1 σ H1 Q I1 q1
theorem pt_not (ha : PT X a tA) : PT X (.UnaryOp .Not a pos) (tNot tA) := by
  intro pins s σ H Q I h
  exact isTrue_not (ha pins s σ H (fun c H1 => Q (!c) H1) I h)
noncomputable def tAndV (ta tb : TE) : TE := fun σ H Q => ta σ H fun x H1 => ∃ c, x = .bl c ∧ if c = true then tb σ H1 Q else Q (.bl false) H1
noncomputable def tNotV (ta : TE) : TE := fun σ H Q => ta σ H fun x H1 => ∃ c, x = .bl c ∧ Q (.bl (!c)) H1
theorem pe_one {op} {t : TE} (h : PE X a t) : PE X (.BoolOp op [a] pos) t := fun pins s σ H Q I hw => BoolOp_one (h pins s σ H Q I hw)
theorem pe_and (ha : PE X a ta) (hb : PE X (.BoolOp .And (b :: rest) pos) tb) : PE X (.BoolOp .And (a :: b :: rest) pos) (tAndV ta tb) := by
  intro pins s σ H Q I h
  refine BoolOp_and (thn (ha pins s σ H _ I h) fun v s1 ⟨x, H1, I1, r1, q1⟩ => ?_)
  obtain ⟨c, rfl, q1⟩ := q1
  cases r1
  refine wpAny_truthy_bool ?_
  cases c with
  | true => exact hb pins s1 σ H1 Q I1 q1
  | false => exact ⟨.bl false, H1, I1, rfl, q1⟩
theorem pe_not (ha : PE X a ta) : PE X (.UnaryOp .Not a pos) (tNotV ta) := by
  intro pins s σ H Q I h
  refine UnaryOp_ (thn (ha pins s σ H _ I h) fun v s1 ⟨x, H1, I1, r1, q1⟩ => ?_)
  obtain ⟨c, rfl, q1⟩ := q1
  cases r1
  exact not_of (wpAny_truthy_bool ⟨.bl (!c), H1, I1, rfl, q1⟩)
noncomputable def tIf (t : TT) (ta tb : TE) : TE := fun σ H Q => t σ H fun c H1 => if c = true then ta σ H1 Q else tb σ H1 Q
theorem pe_ifExp {c : Expr} (hc : PT X c tA) (ha : PE X a ta) (hb : PE X b tb) : PE X (.IfExp c a b pos) (tIf tA ta tb) := by
  intro pins s σ H Q I h
  refine wpAny_IfExp (thn (hc pins s σ H _ I h) fun d s1 ⟨H1, I1, q1⟩ => ?_)
  cases d with
  | true => exact ha pins s1 σ H1 Q I1 q1
  | false => exact hb pins s1 σ H1 Q I1 q1
end
end L2
namespace L2
open PySem PySem.Spec PyProof.Rows
noncomputable def SqL (K : PySem.W.Frag) (H : Hp) (a : Addr) (xs : List V) : Prop :=
  Rd H a (.lst xs) ∨
    ∃ (o : Obj) (its : Array Value) (n : Nat), K.lookup a = some o ∧ o.cls = .type "list" ∧ o.dict = none ∧ o.data = .seq its n ∧ its.size ≤ sizeLine ∧ Vals xs its.toList
noncomputable def SqT (K : PySem.W.Frag) (H : Hp) (a : Addr) (xs : List V) : Prop :=
  Rd H a (.tup xs) ∨
    ∃ (o : Obj) (its : Array Value) (n : Nat), K.lookup a = some o ∧ o.cls = .type "tuple" ∧ o.data = .seq its n ∧ its.size ≤ sizeLine ∧ Vals xs its.toList
noncomputable def absV : Value → Option V
  | .none => some .non
  | .bool b => some (.bl b)
  | .int i _ => some (.int i)
  | .str x _ => some (.str x)
  | .bytes b _ => some (.byt b)
  | .float b _ => some (.flt b)
  | .ref a => some (.ref a)
  | .type n => some (.ty n)
  | _ => none
theorem RelV.abs {x : V} {u : Value} (r : RelV x u) : absV u = some x := by
  cases x with
  | non => cases r; rfl
  | bl _ => cases r; rfl
  | int _ => obtain ⟨t, rfl⟩ := r; rfl
  | str _ => obtain ⟨t, rfl⟩ := r; rfl
  | byt _ => obtain ⟨t, rfl⟩ := r; rfl
  | flt _ => obtain ⟨t, rfl⟩ := r; rfl
  | ref _ => cases r; rfl
  | ty _ => cases r; rfl
theorem RelV.inj {x y : V} {u : Value} (r : RelV x u) (q : RelV y u) : x = y := Option.some.inj (r.abs.symm.trans q.abs)
theorem Vals.inj : ∀ {xs ys : List V} {us : List Value}, Vals xs us → Vals ys us → xs = ys
  | _, _, _, .nil, .nil => rfl
  | _, _, _, .cons r t, .cons r' t' => by rw [r.inj r', Vals.inj t t']
section
variable {X : Cx} {pins : List (Addr × Obj)} {σ : St} {H : Hp} {s : Shared} {a : Addr} {xs ys : List V}
theorem SqL.of {K : PySem.W.Frag} (h : H a = some (.lst xs)) : SqL K H a xs := .inl (.inl h)
theorem SqT.of {K : PySem.W.Frag} (h : H a = some (.tup xs)) : SqT K H a xs := .inl (.inl h)
theorem Inv.list (I : Inv X pins σ H s) (h : SqL X.K H a xs) : ∃ its : List Value, Vals xs its ∧ PlainL s.heap a its.toArray ∧ xs.length ≤ sizeLine := by
  rcases h with h | ⟨o, its, n, hk, hc, hd, hs, hz, r⟩
  · obtain ⟨z, its, n, r, e⟩ := h.ok I.hok
    exact ⟨its, r, ⟨_, n, e, rfl, rfl, rfl⟩, z⟩
  · refine ⟨its.toList, r, ⟨o, n, I.kIn a o hk, hc, hd, by simpa using hs⟩, ?_⟩
    have e := r.length
    simp only [Array.length_toList] at e
    trivial
theorem Inv.tuple (I : Inv X pins σ H s) (h : SqT X.K H a xs) : ∃ its : List Value, Vals xs its ∧ IsTup s.heap a its.toArray ∧ xs.length ≤ sizeLine := by
  rcases h with h | ⟨o, its, n, hk, hc, hs, hz, r⟩
  · obtain ⟨z, its, r, p⟩ := h.ok I.hok
    exact ⟨its, r, p, z⟩
  · refine ⟨its.toList, r, ⟨o, I.kIn a o hk, hc, n, by simpa using hs⟩, ?_⟩
    have e := r.length
    simp only [Array.length_toList] at e
    trivial
theorem Inv.list_inj (I : Inv X pins σ H s) (h : SqL X.K H a xs) (h' : SqL X.K H a ys) : xs = ys := by
  obtain ⟨its, r, ⟨o, n, e, _, _, d⟩, _⟩ := I.list h
  obtain ⟨its', r', ⟨o', n', e', _, _, d'⟩, _⟩ := I.list h'
  rw [e] at e'; cases e'
  rw [d] at d'
  injection d' with d1 _
  have : its = its' := by simpa using congrArg Array.toList d1
  subst this
  exact r.inj r'
theorem Inv.tuple_inj (I : Inv X pins σ H s) (h : SqT X.K H a xs) (h' : SqT X.K H a ys) : xs = ys := by
  obtain ⟨its, r, ⟨o, e, _, n, d⟩, _⟩ := I.tuple h
  obtain ⟨its', r', ⟨o', e', _, n', d'⟩, _⟩ := I.tuple h'
  rw [e] at e'; cases e'
  rw [d] at d'
  injection d' with d1 _
  have : its = its' := by simpa using congrArg Array.toList d1
  subst this
  exact r.inj r'
end
noncomputable abbrev Cx.wish (X : Cx) (E : Value → Shared → Prop) : Cx := { X with xe := E }
noncomputable abbrev Cx.nox (X : Cx) : Cx := X.wish fun _ _ => False
theorem Cx.Ok.wish {X : Cx} (ok : X.Ok) (E : Value → Shared → Prop) : (X.wish E).Ok :=
  ⟨ok.mod, ok.kind, ok.glob, ok.blt, ok.above, ok.inj, ok.has, ok.cab, ok.hd, ok.frames, ok.stk, ok.exf, ok.bs, ok.bsz, ok.noex, ok.exfs, ok.funs, ok.frf⟩
theorem Cx.Ok.unwish {X : Cx} {E : Value → Shared → Prop} (ok : (X.wish E).Ok) : X.Ok :=
  ⟨ok.mod, ok.kind, ok.glob, ok.blt, ok.above, ok.inj, ok.has, ok.cab, ok.hd, ok.frames, ok.stk, ok.exf, ok.bs, ok.bsz, ok.noex, ok.exfs, ok.funs, ok.frf⟩
section
variable {X : Cx} {pins : List (Addr × Obj)} {σ : St} {H : Hp} {s : Shared} {E : Value → Shared → Prop}
theorem Inv.wish (I : Inv X pins σ H s) (E : Value → Shared → Prop) : Inv (X.wish E) pins σ H s := ⟨I.ok.wish E, I.os, I.bare, I.base, I.loc, I.cell, I.free, I.freeC, I.pin, I.hok, I.len⟩
theorem Inv.unwish (I : Inv (X.wish E) pins σ H s) : Inv X pins σ H s := ⟨I.ok.unwish, I.os, I.bare, I.base, I.loc, I.cell, I.free, I.freeC, I.pin, I.hok, I.len⟩
theorem SP.unwish {D : Ends} {f : Flow} {s' : Shared} (h : SP (X.wish E) pins D f s') : SP X pins D f s' := by
  cases f with
  | next => obtain ⟨σ', H', I, q⟩ := h; exact ⟨σ', H', I.unwish, q⟩
  | brk => obtain ⟨σ', H', I, q⟩ := h; exact ⟨σ', H', I.unwish, q⟩
  | cont => obtain ⟨σ', H', I, q⟩ := h; exact ⟨σ', H', I.unwish, q⟩
  | ret u => obtain ⟨v, σ', H', I, r, q⟩ := h; exact ⟨v, σ', H', I.unwish, r, q⟩
theorem PSs.nox {st : List Stmt} {t : TS} (h : PSs X.nox st t) : PSs X st t := fun pins s σ H D I hw =>
  wpAny_mono (h pins s σ H D (I.wish _) hw) (fun _ _ q => q.unwish) fun _ _ z => False.elim z
end
section
variable {X : Cx} {st : Stmt} {rest : List Stmt} {t u : TS} {e : Expr} {te : TE} {pos : Pos}
noncomputable def tNext : TS := fun D σ H => D.nx σ H
noncomputable def tSeq (t u : TS) : TS := fun D σ H => t { D with nx := u D } σ H
theorem pss_nil : PSs X [] tNext := fun _ _ σ H _ I h => wpAny_execs_nil ⟨σ, H, I, h⟩
theorem pss_cons (h1 : PS X st t) (h2 : PSs X rest u) : PSs X (st :: rest) (tSeq t u) := by
  intro pins s σ H D I h
  refine wpAny_execs_cons (thn (h1 pins s σ H { D with nx := u D } I h) fun f s1 q => ?_)
  cases f with
  | next =>
    obtain ⟨σ', H', I', q⟩ := q
    exact h2 pins s1 σ' H' D I' q
  | ret v => exact q
  | brk => exact q
  | cont => exact q
theorem pss_one (h1 : PS X st t) : PSs X [st] t := by
  intro pins s σ H D I h
  refine wpAny_execs_cons (thn (h1 pins s σ H D I h) fun f s1 q => ?_)
  cases f with
  | next => exact wpAny_execs_nil q
  | ret v => exact q
  | brk => exact q
  | cont => exact q
theorem Inv.quiet {pins : List (Addr × Obj)} {σ : St} {H : Hp} {s : Shared} (I : Inv X pins σ H s) : interactive X.env = false := by simp [interactive, I.ok.kind]
noncomputable def tDrop (te : TE) : TS := fun D σ H => te σ H fun _ H1 => D.nx σ H1
theorem ps_expr (he : PE X e te) (hs : swapsWith e none pos.line X.env = pure false := by rfl) : PS X (.Expr e pos) (tDrop te) := by
  intro pins s σ H D I h
  exact wpAny_Expr_any (thn (he pins s σ H _ I h) fun v s1 ⟨x, H1, I1, r1, q1⟩ => ⟨σ, H1, I1, q1⟩) I.quiet hs
noncomputable def tRet (te : TE) : TS := fun D σ H => te σ H D.rt
theorem ps_ret (he : PE X e te) : PS X (.Return (some e) pos) (tRet te) := by
  intro pins s σ H D I h
  exact wpAny_Return_some (thn (he pins s σ H _ I h) fun v s1 ⟨x, H1, I1, r1, q1⟩ => ⟨x, σ, H1, I1, r1, q1⟩)
noncomputable def tIfS (c : TT) (t u : TS) : TS := fun D σ H => c σ H fun b H1 => if b = true then t D σ H1 else u D σ H1
theorem ps_if {c : Expr} {a b : List Stmt} {tc : TT} (hc : PT X c tc) (ha : PSs X a t) (hb : PSs X b u) : PS X (.If c a b pos) (tIfS tc t u) := by
  intro pins s σ H D I h
  refine wpAny_If (thn (hc pins s σ H _ I h) fun d s1 ⟨H1, I1, q1⟩ => ?_)
  cases d with
  | true => exact ha pins s1 σ H1 D I1 q1
  | false => exact hb pins s1 σ H1 D I1 q1
end
noncomputable abbrev TG := V → St → Hp → (St → Hp → Prop) → Prop
noncomputable abbrev TGs := List V → St → Hp → (St → Hp → Prop) → Prop
noncomputable def PG (X : Cx) (target : Expr) (t : TG) : Prop :=
  ∀ (pins : List (Addr × Obj)) (s : Shared) (σ : St) (H : Hp) (v : V) (u : Value) (Q : St → Hp → Prop), Inv X pins σ H s → RelV v u → t v σ H Q →
    wpAny (model X.prog X.w) X.A (assign target X.env u) (fun _ s' => ∃ σ' H', Inv X pins σ' H' s' ∧ Q σ' H') X.xe s
noncomputable def PGs (X : Cx) (ts : List Expr) (t : TGs) : Prop :=
  ∀ (pins : List (Addr × Obj)) (s : Shared) (σ : St) (H : Hp) (vs : List V) (us : List Value) (Q : St → Hp → Prop), Inv X pins σ H s → Vals vs us → t vs σ H Q →
    wpAny (model X.prog X.w) X.A (assignInOrder ((assignEach ts X.env).map (·.2)) us) (fun _ s' => ∃ σ' H', Inv X pins σ' H' s' ∧ Q σ' H') X.xe s
section
variable {X : Cx} {pos : Pos}
noncomputable def gName (i : Nat) : TG := fun v σ H Q => Q (σ.set i (some v)) H
theorem pg_name {i : Nat} {x : Str} (hN : X.N.Nodup) (hi : X.N[i]? = some x) (hx : Loc X.env.scope x) (hf : X.fn x = true ∨ X.env.scope.names.lookup x = some .local := by first | exact .inl rfl | exact .inr rfl | assumption) : PG X (.Name x pos) (gName i) := by
  intro pins s σ H v u Q I r h
  exact wpAny_assign_Name (store_ok I hN hi hx r (fun s' I' => ⟨_, H, I', h⟩) hf)
noncomputable def gNil : TGs := fun vs σ H Q => vs = [] ∧ Q σ H
noncomputable def gCons (t : TG) (u : TGs) : TGs := fun vs σ H Q => ∃ v r, vs = v :: r ∧ t v σ H fun σ' H' => u r σ' H' Q
theorem pgs_nil : PGs X [] gNil := by
  intro pins s σ H vs us Q I r h
  obtain ⟨e, h⟩ := h
  subst e
  cases r
  exact assignInOrder_nil ⟨σ, H, I, h⟩
theorem pgs_cons {e : Expr} {es : List Expr} {t : TG} {u : TGs} (h1 : PG X e t) (h2 : PGs X es u)
    (hs : (assignEach (e :: es) X.env).map (·.2) = assign e X.env :: (assignEach es X.env).map (·.2) := by rfl) : PGs X (e :: es) (gCons t u) := by
  intro pins s σ H vs us Q I r h
  obtain ⟨v, vr, e1, h⟩ := h
  subst e1
  cases r with
  | cons r rr =>
    rw [hs]
    refine assignInOrder_cons (thn (h1 pins s σ H _ _ _ I r h) fun _ s1 ⟨σ1, H1, I1, q1⟩ => ?_)
    exact h2 pins s1 σ1 H1 _ _ Q I1 rr q1
noncomputable def gTup (K : PySem.W.Frag) (n : Nat) (t : TGs) : TG := fun v σ H Q => ∃ a xs, v = .ref a ∧ SqT K H a xs ∧ xs.length = n ∧ t xs σ H Q
theorem pg_tup {es : List Expr} {k : Nat} {t : TGs} {n : Nat} (hc : X.calm = true) (h : PGs X es t)
    (hn : (assignEach es X.env).length = n := by rfl) (hst : (assignEach es X.env).findIdx? (·.1) = none := by rfl) : PG X (.Tuple es k pos) (gTup X.K n t) := by
  intro pins s σ H v u Q I r hw
  obtain ⟨a, xs, e1, hq, hl, hw⟩ := hw
  subst e1
  cases r
  obtain ⟨its, rv, ht, hz⟩ := I.tuple hq
  refine assign_Tuple_tuple (I.ok.hd hc) ht (by simp [hn, ← hl, rv.length]) hst fun h' hx => ?_
  have I1 : Inv X pins σ H { s with heap := h' } := I.kept (t' := s.toks) fun b o e => hx b o (Nat.ne_of_lt (Heap.lt_size e)) e
  exact h pins _ σ H xs _ Q I1 (by simpa using rv) hw
noncomputable def tAsg (te : TE) (g : TG) : TS := fun D σ H => te σ H fun x H1 => g x σ H1 D.nx
theorem ps_asg {tg e : Expr} {te : TE} {g : TG} (he : PE X e te) (hg : PG X tg g) (hs : swapsWithSole [tg] e pos.line X.env = pure false := by rfl) (hw : swappedStores [tg] e X.env = pure none := by rfl)
    (h1 : (assignEach [tg] X.env).map (·.2) = [assign tg X.env] := by rfl) : PS X (.Assign [tg] e pos) (tAsg te g) := by
  intro pins s σ H D I h
  refine wpAny_Assign_stores (thn (he pins s σ H _ I h) fun v s1 ⟨x, H1, I1, r1, q1⟩ => ?_) hs hw
  rw [h1]
  exact thn (hg pins s1 σ H1 x v _ I1 r1 q1) fun _ s2 q => q
theorem ps_set {i : Nat} {x : Str} {e : Expr} {te : TE} {pos' : Pos} (hN : X.N.Nodup) (hi : X.N[i]? = some x) (hx : Loc X.env.scope x) (he : PE X e te) (hs : swapsWith e (some (.Name x pos')) pos.line X.env = pure false := by rfl) (hf : X.fn x = true ∨ X.env.scope.names.lookup x = some .local := by first | exact .inl rfl | exact .inr rfl | assumption) :
    PS X (.Assign [.Name x pos'] e pos) (tAsg te (gName i)) := by
  intro pins s σ H D I h
  refine wpAny_Assign_Name (thn (he pins s σ H _ I h) fun v s1 ⟨y, H1, I1, r1, q1⟩ => ?_) hs
  exact store_ok I1 hN hi hx r1 (fun s2 I2 => ⟨_, H1, I2, q1⟩) hf
end
section
variable {X : Cx} {pos : Pos}
noncomputable def tWhile (c : TT) (tb : TS) : TS := fun D σ H => ∃ W : Nat → St → Hp → Prop, (∃ m, W m σ H) ∧ ∀ m σ H, W m σ H →
  c σ H fun b H1 => if b = true then ∃ N : St → Hp → Prop, (∀ σ' H', N σ' H' → ∃ m', m' < m ∧ W m' σ' H') ∧ tb { D with nx := N, ct := N, bk := D.nx } σ H1 else D.nx σ H1
theorem ps_while {c : Expr} {body : List Stmt} {tc : TT} {tb : TS} (hp : PassesOwn (model X.prog X.w) X.A X.env X.xe) (hc : PT X c tc) (hb : PSs X body tb) : PS X (.While c body [] pos) (tWhile tc tb) := by
  intro pins s σ H D I h
  obtain ⟨W, ⟨m0, w0⟩, turn⟩ := h
  refine wpAny_While (codeAny_whileLoop (fun n s' => ∃ σ' H', Inv X pins σ' H' s' ∧ W n σ' H') ?_ m0 ⟨σ, H, I, w0⟩)
  rintro n s1 ⟨σ1, H1, I1, w1⟩
  refine wpAny_passesOwn hp (thn (hc pins s1 σ1 H1 _ I1 (turn n σ1 H1 w1)) fun b s2 ⟨H2, I2, q2⟩ => ?_)
  cases b with
  | true =>
    obtain ⟨N, hN, q2⟩ := q2
    rw [if_pos rfl]
    refine wpAny_passesOwn hp (thn (hb pins s2 σ1 H2 _ I2 q2) fun f s3 q3 => ?_)
    cases f with
    | next =>
      obtain ⟨σ3, H3, I3, n3⟩ := q3
      obtain ⟨m', hm, w3⟩ := hN σ3 H3 n3
      exact ⟨m', hm, σ3, H3, I3, w3⟩
    | cont =>
      obtain ⟨σ3, H3, I3, n3⟩ := q3
      obtain ⟨m', hm, w3⟩ := hN σ3 H3 n3
      exact ⟨m', hm, σ3, H3, I3, w3⟩
    | brk => exact q3
    | ret v => exact q3
  | false =>
    rw [if_neg Bool.false_ne_true]
    exact wpAny_execs_nil ⟨σ1, H2, I2, q2⟩
end
structure It where
  go : Nat → Hp → Prop
  yld : Nat → Hp → V → Hp → Prop
  stop : Nat → Hp → Prop
noncomputable def FpOk (X : Cx) (pins : List (Addr × Obj)) (H : Hp) (b : Addr) : Prop :=
  H b = none ∧ b ≠ X.env.locals ∧ b ∉ X.fs ∧ (b ∈ X.ex ∨ X.s₀.heap.objs.size ≤ b) ∧ (∀ x c, X.env.cells.lookup x = some c → c ≠ b) ∧ ∀ p ∈ X.pn ++ pins, p.1 ≠ b
theorem Inv.fpOk {X : Cx} {pins : List (Addr × Obj)} {σ : St} {H H' : Hp} {s : Shared} {b : Addr} (I : Inv X pins σ H s) (hb : s.heap.objs.size ≤ b) (hn : H' b = none) : FpOk X pins H' b := by
  refine ⟨hn, Nat.ne_of_gt (Nat.lt_of_lt_of_le I.lt hb), I.nofs hb, .inr (Nat.le_trans I.sz hb), fun x c e z => ?_, fun p hp z => ?_⟩
  · obtain ⟨v, q⟩ := I.cell x c e
    exact absurd (Nat.lt_of_lt_of_le q.lt (by rw [z]; exact hb)) (Nat.lt_irrefl _)
  · exact absurd (Nat.lt_of_lt_of_le (Heap.lt_size (I.pin p hp).1) (by rw [z]; exact hb)) (Nat.lt_irrefl _)
structure Turn (P : Program) (w : World) (K : PySem.W.Frag) (tg : Expr) (J : It) (fp : List Addr) (it : Addr) (tn : Nat → Heap → Prop) : Prop where
  mem : it ∈ fp
  obj : ∀ i h, tn i h → ∀ b ∈ fp, ∃ o, h.get? b = some o ∧ ∀ v, o.data ≠ .cell v
  keep : ∀ i h h', tn i h → (∀ b ∈ fp, ∀ o, h.get? b = some o → h'.get? b = some o) → tn i h'
  item : ∀ (X : Cx), X.prog = P → X.w = w → X.K = K → X.calm = true → ∀ (i : Nat) (pins : List (Addr × Obj)) (s : Shared) (σ : St) (H : Hp) (E : Value → Shared → Prop), Inv X pins σ H s → (∀ b ∈ fp, FpOk X pins H b) → tn i s.heap → J.go i H →
    wpAny (model P w) X.A (pyNext (.ref it)) (fun r s1 => ∃ u, r = some u ∧
      wpAny (model P w) X.A (letOwnedTupleGo tg (.ref it) u) (fun _ s2 => ∃ x H', Inv X pins σ H' s2 ∧ RelV x u ∧ J.yld i H x H' ∧ tn (i + 1) s2.heap ∧ ∀ b ∈ fp, H' b = none) E s1) E s
  done : ∀ (X : Cx), X.prog = P → X.w = w → X.K = K → X.calm = true → ∀ (i : Nat) (pins : List (Addr × Obj)) (s : Shared) (σ : St) (H : Hp) (E : Value → Shared → Prop), Inv X pins σ H s → (∀ b ∈ fp, FpOk X pins H b) → tn i s.heap → J.stop i H →
    wpAny (model P w) X.A (pyNext (.ref it)) (fun r s1 => r = none ∧ Inv X pins σ H s1) E s
  self : ∀ (A : Around) (i : Nat) (s : Shared) (Q : Value → Shared → Prop) (E : Value → Shared → Prop), tn i s.heap → Q (.ref it) s → wpAny (model P w) A (pyIter (.ref it)) Q E s
noncomputable abbrev TI := St → Hp → (It → Hp → Prop) → Prop
noncomputable def PIE (X : Cx) (pins : List (Addr × Obj)) (σ : St) (tg : Expr) (R : It → Hp → Prop) (itv : Value) (s2 : Shared) : Prop :=
  ∃ (it : Addr) (fp : List Addr) (tn : Nat → Heap → Prop) (J : It) (H' : Hp), itv = .ref it ∧ Inv X pins σ H' s2 ∧ Turn X.prog X.w X.K tg J fp it tn ∧ tn 0 s2.heap ∧ (∀ b ∈ fp, FpOk X pins H' b) ∧ R J H'
noncomputable def PI (X : Cx) (tg iter : Expr) (wi : TI) : Prop :=
  ∀ (pins : List (Addr × Obj)) (s : Shared) (σ : St) (H : Hp) (R : It → Hp → Prop), Inv X pins σ H s → wi σ H R →
    wpAny (model X.prog X.w) X.A (eval iter X.env) (fun v s1 => wpAny (model X.prog X.w) X.A (pyIter v) (PIE X pins σ tg R) X.xe s1) X.xe s
theorem go_of {M : Model} {A : Around} {E : Value → Shared → Prop} {s : Shared} {tg : Expr} {it : Addr} {u : Value} {o : Obj} {n : String} {vs : Array Value} {Q : Unit → Shared → Prop} (ho : s.heap.get? it = some o) (hc : o.cls = .type n) (hd : o.data = .fields vs)
    (hn : ["enumerate", "zip", "dict_itemiterator", "dict_reverseitemiterator", "odict_iterator", "itertools.zip_longest", "itertools.pairwise"].contains n = false) (hQ : Q () s) : wpAny M A (letOwnedTupleGo tg (.ref it) u) Q E s := by
  unfold letOwnedTupleGo
  cases tg <;> first
    | exact wpAny_pure hQ
    | (cases u <;> first
        | exact wpAny_pure hQ
        | (refine wpAny_bind (wpAny_load ho ?_)
           rw [hc, hd]
           show wpAny M A (if (["enumerate", "zip", "dict_itemiterator", "dict_reverseitemiterator", "odict_iterator", "itertools.zip_longest", "itertools.pairwise"].contains n && vs[0]? == some (rawInt _)) = true then _ else _) Q E s
           rw [if_neg (by intro h; rw [hn, Bool.false_and] at h; cases h)]
           exact wpAny_pure hQ))
noncomputable def Itl (K : PySem.W.Frag) (a : Addr) : It :=
  ⟨fun i H => ∃ xs x, SqL K H a xs ∧ xs[i]? = some x, fun i H x H' => H' = H ∧ ∀ xs, SqL K H a xs → xs[i]? = some x, fun i H => ∃ xs, SqL K H a xs ∧ xs.length ≤ i⟩
noncomputable def Itt (K : PySem.W.Frag) (a : Addr) : It :=
  ⟨fun i H => ∃ xs x, SqT K H a xs ∧ xs[i]? = some x, fun i H x H' => H' = H ∧ ∀ xs, SqT K H a xs → xs[i]? = some x, fun i H => ∃ xs, SqT K H a xs ∧ xs.length ≤ i⟩
noncomputable def Itr (lo : Int) (n : Nat) : It := ⟨fun i _ => i < n, fun i H x H' => H' = H ∧ x = .int (lo + i), fun i _ => n ≤ i⟩
theorem turn_list {P : Program} {w : World} {K : PySem.W.Frag} {tg : Expr} (a it : Addr) : Turn P w K tg (Itl K a) [it] it (fun i h => h.IsListIter it a i) where
  mem := by simp
  obj := fun i h st b hb => by
    have e : b = it := by simpa using hb
    subst e
    obtain ⟨o, e, c, d⟩ := st
    exact ⟨o, e, fun v z => by rw [d] at z; cases z⟩
  keep := fun i h h' st k => st.at fun o e => k it (by simp) o e
  item := by
    intro X hP hw hK hc i pins s σ H E I hf st hg
    subst hP hw hK
    obtain ⟨xs, x, hq, hx⟩ := hg
    obtain ⟨its, rv, p, hz⟩ := I.list hq
    obtain ⟨u, hu, ru⟩ := rv.get hx
    obtain ⟨f0, f1, f2, f3, f4, f5⟩ := hf it (by simp)
    refine wpAny_pyNext_list_item st p.isList (x := u) (by simpa using hu) fun h' st' sb => ?_
    have I1 : Inv X pins σ H { s with heap := h' } := I.turned (t' := s.toks) (fun b o hb e => (sb.2 b hb).trans e) f0 f1 f3 f4 f5
    obtain ⟨o, e, c, d⟩ := id st'
    exact ⟨u, rfl, go_of (s := { s with heap := h' }) e c d (by decide) ⟨x, H, I1, ru, ⟨rfl, fun ys hy => by rw [I.list_inj hy hq]; exact hx⟩, st', fun b hb => (hf b hb).1⟩⟩
  done := by
    intro X hP hw hK hc i pins s σ H E I hf st hg
    subst hP hw hK
    obtain ⟨xs, hq, hx⟩ := hg
    obtain ⟨its, rv, p, hz⟩ := I.list hq
    obtain ⟨f0, f1, f2, f3, f4, f5⟩ := hf it (by simp)
    have hl := rv.length
    exact wpAny_pyNext_list_end (I.ok.hd hc) st p.isList (by simp; trivial) fun h' eb => ⟨rfl, I.turned (t' := s.toks) (fun b o hb e => eb b o hb e) f0 f1 f3 f4 f5⟩
  self := fun _ _ _ _ _ st h => wpAny_pyIter_listiter st h
theorem turn_tuple {P : Program} {w : World} {K : PySem.W.Frag} {tg : Expr} (a it : Addr) : Turn P w K tg (Itt K a) [it] it (fun i h => h.IsTupleIter it a i) where
  mem := by simp
  obj := fun i h st b hb => by
    have e : b = it := by simpa using hb
    subst e
    obtain ⟨o, e, c, d⟩ := st
    exact ⟨o, e, fun v z => by rw [d] at z; cases z⟩
  keep := fun i h h' st k => st.at fun o e => k it (by simp) o e
  item := by
    intro X hP hw hK hc i pins s σ H E I hf st hg
    subst hP hw hK
    obtain ⟨xs, x, hq, hx⟩ := hg
    obtain ⟨its, rv, p, hz⟩ := I.tuple hq
    obtain ⟨u, hu, ru⟩ := rv.get hx
    obtain ⟨f0, f1, f2, f3, f4, f5⟩ := hf it (by simp)
    refine wpAny_pyNext_tuple_item st (show s.heap.IsTuple a its.toArray from p) (x := u) (by simpa using hu) fun h' st' sb => ?_
    have I1 : Inv X pins σ H { s with heap := h' } := I.turned (t' := s.toks) (fun b o hb e => (sb.2 b hb).trans e) f0 f1 f3 f4 f5
    obtain ⟨o, e, c, d⟩ := id st'
    exact ⟨u, rfl, go_of (s := { s with heap := h' }) e c d (by decide) ⟨x, H, I1, ru, ⟨rfl, fun ys hy => by rw [I.tuple_inj hy hq]; exact hx⟩, st', fun b hb => (hf b hb).1⟩⟩
  done := by
    intro X hP hw hK hc i pins s σ H E I hf st hg
    subst hP hw hK
    obtain ⟨xs, hq, hx⟩ := hg
    obtain ⟨its, rv, p, hz⟩ := I.tuple hq
    obtain ⟨f0, f1, f2, f3, f4, f5⟩ := hf it (by simp)
    have hl := rv.length
    exact wpAny_pyNext_tuple_end (I.ok.hd hc) st (show s.heap.IsTuple a its.toArray from p) (by simp; trivial) fun h' eb => ⟨rfl, I.turned (t' := s.toks) (fun b o hb e => eb b o hb e) f0 f1 f3 f4 f5⟩
  self := fun _ _ _ _ _ st h => wpAny_pyIter_tupleiter st h
theorem turn_range {P : Program} {w : World} {K : PySem.W.Frag} {tg : Expr} (it : Addr) (lo : Int) (n : Nat) : Turn P w K tg (Itr lo n) [it] it (fun i h => IsRangeIter h it (lo + (i : Nat) * 1) ((n : Int) - (i : Nat)) 1) where
  mem := by simp
  obj := fun i h st b hb => by
    have e : b = it := by simpa using hb
    subst e
    exact ⟨_, st, fun v z => by
      have z' : Data.fields _ = Data.cell v := z
      cases z'⟩
  keep := fun i h h' st k => k it (by simp) _ st
  item := by
    intro X hP hw hK hc i pins s σ H E I hf st hg
    subst hP hw hK
    obtain ⟨f0, f1, f2, f3, f4, f5⟩ := hf it (by simp)
    have W := Walks.range (prog := X.prog) (w := X.w) (I.ok.hd hc) it lo 1 n
    refine W.item i s _ _ hg st fun v h' tk hv st' kk => ?_
    obtain ⟨t, rfl⟩ := hv
    have I1 : Inv X pins σ H { s with heap := h', toks := tk } := I.turned (fun b o hb e => kk b o (by simpa using hb) e) f0 f1 f3 f4 f5
    refine ⟨_, rfl, go_of (s := { s with heap := h', toks := tk }) (n := "range_iterator") st' rfl rfl (by decide) ⟨.int (lo + i), H, I1, ⟨t, ?_⟩, ⟨rfl, rfl⟩, st', fun b hb => (hf b hb).1⟩⟩
    rw [Int.mul_one]
  done := by
    intro X hP hw hK hc i pins s σ H E I hf st hg
    subst hP hw hK
    obtain ⟨f0, f1, f2, f3, f4, f5⟩ := hf it (by simp)
    exact wpAny_pyNext_range_end (I.ok.hd hc) st (by have : n ≤ i := hg; trivial) fun h' eb => ⟨rfl, I.turned (t' := s.toks) (fun b o hb e => eb b o hb e) f0 f1 f3 f4 f5⟩
  self := fun _ _ _ _ _ st h => wpAny_pyIter_rangeiter st h
end L2
namespace L2
open PySem PySem.Spec PyProof.Rows
section
variable {X : Cx} {tg : Expr}
noncomputable def iList (K : PySem.W.Frag) (tl : TE) : TI := fun σ H R => tl σ H fun x H1 => ∃ a, x = .ref a ∧ (∃ xs, SqL K H1 a xs) ∧ R (Itl K a) H1
noncomputable def iTup (K : PySem.W.Frag) (tl : TE) : TI := fun σ H R => tl σ H fun x H1 => ∃ a, x = .ref a ∧ (∃ xs, SqT K H1 a xs) ∧ R (Itt K a) H1
theorem pi_list {l : Expr} {tl : TE} (hl : PE X l tl) : PI X tg l (iList X.K tl) := by
  intro pins s σ H R I h
  refine thn (hl pins s σ H _ I h) fun v s1 ⟨x, H1, I1, r1, q1⟩ => ?_
  obtain ⟨a, e, ⟨xs, hq⟩, q⟩ := q1
  subst e
  cases r1
  obtain ⟨its, rv, p, hz⟩ := I1.list hq
  refine wpAny_pyIter_list p.isList ?_
  refine ⟨s1.heap.objs.size, [s1.heap.objs.size], _, _, H1, rfl, I1.kept (t' := s1.toks) fun b o e => Heap.get?_push_of_some _ e, turn_list a _, ⟨_, Heap.get?_push_size _ rfl, rfl, rfl⟩, fun b hb => ?_, q⟩
  have e : b = s1.heap.objs.size := by simpa using hb
  subst e
  exact I1.fpOk (Nat.le_refl _) (I1.hok.fresh (Nat.le_refl _))
theorem pi_tup {l : Expr} {tl : TE} (hl : PE X l tl) : PI X tg l (iTup X.K tl) := by
  intro pins s σ H R I h
  refine thn (hl pins s σ H _ I h) fun v s1 ⟨x, H1, I1, r1, q1⟩ => ?_
  obtain ⟨a, e, ⟨xs, hq⟩, q⟩ := q1
  subst e
  cases r1
  obtain ⟨its, rv, p, hz⟩ := I1.tuple hq
  refine wpAny_pyIter_tuple (show s1.heap.IsTuple a its.toArray from p) ?_
  refine ⟨s1.heap.objs.size, [s1.heap.objs.size], _, _, H1, rfl, I1.kept (t' := s1.toks) fun b o e => Heap.get?_push_of_some _ e, turn_tuple a _, ⟨_, Heap.get?_push_size _ rfl, rfl, rfl⟩, fun b hb => ?_, q⟩
  have e : b = s1.heap.objs.size := by simpa using hb
  subst e
  exact I1.fpOk (Nat.le_refl _) (I1.hok.fresh (Nat.le_refl _))
theorem range_it {pins : List (Addr × Obj)} {σ : St} {H : Hp} {s : Shared} {R : It → Hp → Prop} {E : Value → Shared → Prop} {lo hi : Int} {t u v : Tok} {tk : Nat} (I : Inv X pins σ H s) (h1 : -(2 ^ 62) ≤ lo) (h2 : lo < 2 ^ 62) (h3 : -(2 ^ 62) ≤ hi) (h4 : hi < 2 ^ 62)
    (q : R (Itr lo (hi - lo).toNat) H) : wpAny (model X.prog X.w) X.A (pyIter (.ref s.heap.objs.size)) (PIE X pins σ tg R) E { s with heap := s.heap.push { cls := .type "range", data := .fields #[.int lo t, .int hi u, .int 1 v] }, toks := tk } := by
  refine wpAny_pyIter_range (IsRange.new ..) (small_one h1 h2 h3 h4) ?_
  have I1 : Inv X pins σ H { s with heap := s.heap.push { cls := .type "range", data := .fields #[.int lo t, .int hi u, .int 1 v] }, toks := tk } := I.kept fun b o e => Heap.get?_push_of_some _ e
  refine ⟨(s.heap.push { cls := .type "range", data := .fields #[.int lo t, .int hi u, .int 1 v] }).objs.size, [(s.heap.push { cls := .type "range", data := .fields #[.int lo t, .int hi u, .int 1 v] }).objs.size], _, _, H, rfl,
    I1.kept (t' := tk) fun b o e => Heap.get?_push_of_some _ e, turn_range _ lo (hi - lo).toNat, ?_, fun b hb => ?_, q⟩
  · have e1 : lo + ((0 : Nat) : Int) * 1 = lo := by simp
    have e2 : (((hi - lo).toNat : Nat) : Int) - ((0 : Nat) : Int) = Builtin.Range.rangeSize lo hi 1 := by rw [rangeSize_one]; split <;> trivial
    show IsRangeIter _ _ (lo + ((0 : Nat) : Int) * 1) ((((hi - lo).toNat : Nat) : Int) - ((0 : Nat) : Int)) 1
    rw [e1, e2]
    exact Heap.get?_push_size _ rfl
  · have e : b = (s.heap.push { cls := .type "range", data := .fields #[.int lo t, .int hi u, .int 1 v] }).objs.size := by simpa using hb
    subst e
    exact I1.fpOk (Nat.le_refl _) (I1.hok.fresh (Nat.le_refl _))
noncomputable def iRng1 (ta : TA) : TI := fun σ H R => ta σ H fun vs H1 => ∃ j : Int, vs = [.int j] ∧ -(2 ^ 62) ≤ j ∧ j < 2 ^ 62 ∧ R (Itr 0 j.toNat) H1
noncomputable def iRng2 (ta : TA) : TI := fun σ H R => ta σ H fun vs H1 => ∃ i j : Int, vs = [.int i, .int j] ∧ (-(2 ^ 62) ≤ i ∧ i < 2 ^ 62 ∧ -(2 ^ 62) ≤ j ∧ j < 2 ^ 62) ∧ R (Itr i (j - i).toNat) H1
theorem pi_range1 {a : Expr} {ta : TA} {p pos : Pos} (hg : Gl X "range") (hm : X.mg "range" = none) (ha : PA X [a] ta) (hs : starEach [a] X.env = [(false, eval a X.env)] := by rfl) : PI X tg (.Call (.Name "range" p) [a] [] pos) (iRng1 ta) := by
  intro pins s σ H R I h
  refine Call_ (ld_blt I hg hm boot_range (PyProof.Rows.callWith_type1 (thn (ha pos pins s σ H _ I h) fun us s1 ⟨vs, H1, I1, r1, q1⟩ => ?_) hs rfl))
  obtain ⟨j, e, q1, q2, q⟩ := q1
  subst e
  cases r1 with
  | cons r rr =>
    cases rr
    obtain ⟨t, rfl⟩ := r
    exact call_range_1 (range_it I1 (by trivial) (by trivial) q1 q2 (by simpa using q))
theorem pi_range2 {a b : Expr} {ta : TA} {p pos : Pos} (hg : Gl X "range") (hm : X.mg "range" = none) (ha : PA X [a, b] ta) (hs : starEach [a, b] X.env = [(false, eval a X.env), (false, eval b X.env)] := by rfl) (hs2 : starEach [b] X.env = [(false, eval b X.env)] := by rfl) :
    PI X tg (.Call (.Name "range" p) [a, b] [] pos) (iRng2 ta) := by
  intro pins s σ H R I h
  refine Call_ (ld_blt I hg hm boot_range (PyProof.Rows.callWith_type1 (thn (ha pos pins s σ H _ I h) fun us s1 ⟨vs, H1, I1, r1, q1⟩ => ?_) (by rw [hs, hs2]) (by rw [hs2]; rfl)))
  obtain ⟨i, j, e, ⟨q1, q2, q3, q4⟩, q⟩ := q1
  subst e
  cases r1 with
  | cons r rr =>
    cases rr with
    | cons r' rr =>
      cases rr
      obtain ⟨t, rfl⟩ := r
      obtain ⟨t', rfl⟩ := r'
      exact call_range_2 (range_it I1 q1 q2 q3 q4 q)
noncomputable def tFor (wi : TI) (g : TG) (tb : TS) : TS := fun D σ H => wi σ H fun J H1 => ∃ W : Nat → Nat → St → Hp → Prop, (∃ m, W 0 m σ H1) ∧ ∀ i m σ H, W i m σ H →
  (J.stop i H ∧ D.nx σ H) ∨ (J.go i H ∧ ∃ N : St → Hp → Prop, (∀ σ' H', N σ' H' → ∃ m', m' < m ∧ W (i + 1) m' σ' H') ∧ ∀ x H', J.yld i H x H' → g x σ H' fun σ2 H2 => tb { D with nx := N, ct := N, bk := D.nx } σ2 H2)
noncomputable def pinsAt (fp : List Addr) (h : Heap) : List (Addr × Obj) := fp.filterMap fun b => (h.get? b).map fun o => (b, o)
theorem mem_pinsAt {fp : List Addr} {h : Heap} {b : Addr} {o : Obj} (hb : b ∈ fp) (e : h.get? b = some o) : (b, o) ∈ pinsAt fp h := List.mem_filterMap.mpr ⟨b, hb, by rw [e]; rfl⟩
theorem of_pinsAt {fp : List Addr} {h : Heap} {p : Addr × Obj} (hp : p ∈ pinsAt fp h) : p.1 ∈ fp ∧ h.get? p.1 = some p.2 := by
  obtain ⟨b, hb, e⟩ := List.mem_filterMap.mp hp
  cases q : h.get? b with
  | none => rw [q] at e; cases e
  | some o =>
    rw [q] at e
    have e' : (b, o) = p := Option.some.inj e
    subst e'
    exact ⟨hb, q⟩
theorem Inv.pinned {pins : List (Addr × Obj)} {σ : St} {H : Hp} {s : Shared} {fp : List Addr} (I : Inv X pins σ H s) (hf : ∀ b ∈ fp, FpOk X pins H b) (ho : ∀ b ∈ fp, ∃ o, s.heap.get? b = some o ∧ ∀ v, o.data ≠ .cell v) : Inv X (pins ++ pinsAt fp s.heap) σ H s :=
  I.pins_of fun p hp => (List.mem_append.mp hp).elim (fun z => I.pin p (List.mem_append_right _ z)) fun z => by
    obtain ⟨hb, e⟩ := of_pinsAt z
    obtain ⟨f0, f1, f2, _⟩ := hf p.1 hb
    obtain ⟨o, e', d⟩ := ho p.1 hb
    rw [e] at e'; cases e'
    exact ⟨e, f0, f1, f2, d⟩
theorem Inv.unpinned {pins pl : List (Addr × Obj)} {σ : St} {H : Hp} {s : Shared} (I : Inv X (pins ++ pl) σ H s) : Inv X pins σ H s := I.pins_of fun p hp => I.pin p (List.mem_append_right _ (List.mem_append_left _ hp))
theorem ps_for {iter : Expr} {body : List Stmt} {wi : TI} {g : TG} {tb : TS} {pos : Pos} (hp : PassesOwn (model X.prog X.w) X.A X.env X.xe) (hc : X.calm = true) (hi : PI X tg iter wi) (hg : PG X tg g) (hb : PSs X body tb)
    (hs : ∀ x, foldedSetIterable iter X.env x = pure x := by intro _; rfl) : PS X (.For tg iter body [] pos) (tFor wi g tb) := by
  intro pins s σ H D I h
  refine wpAny_For (thn (hi pins s σ H _ I h) fun v s1 h1 => thn h1 fun itv s2 h2 => ?_) hs
  obtain ⟨it, fp, tn, J, H2, e, I2, T, st2, f2, W, ⟨m0, w0⟩, turn⟩ := h2
  subst e
  -- what stays true of the iterator's objects through the loop
  have stat : ∀ {H' : Hp}, (∀ b ∈ fp, H' b = none) → ∀ b ∈ fp, FpOk X pins H' b := fun hn b hb => ⟨hn b hb, (f2 b hb).2⟩
  refine codeAny_forLoop_any (fun n s' => ∃ i σ' H', Inv X pins σ' H' s' ∧ tn i s'.heap ∧ (∀ b ∈ fp, H' b = none) ∧ W i n σ' H') ?_ m0 ⟨0, σ, H2, I2, st2, fun b hb => (f2 b hb).1, w0⟩
  rintro n s3 ⟨i, σ3, H3, I3, st3, fr3, w3⟩
  rcases turn i n σ3 H3 w3 with ⟨stop, qn⟩ | ⟨go, N, hN, step⟩
  · refine wpAny_passesOwn hp (thn (T.done X rfl rfl rfl hc i pins s3 σ3 H3 X.xe I3 (stat fr3) st3 stop) fun r s4 ⟨hr, I4⟩ => ?_)
    subst hr
    exact wpAny_execs_nil ⟨σ3, H3, I4, qn⟩
  · refine wpAny_passesOwn hp (thn (T.item X rfl rfl rfl hc i pins s3 σ3 H3 X.xe I3 (stat fr3) st3 go) fun r s4 ⟨u, hr, h4⟩ => ?_)
    subst hr
    refine wpAny_passesOwn hp (thn h4 fun _ s5 ⟨x, H5, I5, r5, y5, st5, fr5⟩ => ?_)
    have I5' := I5.pinned (stat fr5) (T.obj _ _ st5)
    refine wpAny_passesOwn hp (thn (hg _ s5 σ3 H5 x u _ I5' r5 (step x H5 y5)) fun _ s6 ⟨σ6, H6, I6, q6⟩ => ?_)
    refine wpAny_passesOwn hp (thn (hb _ s6 σ6 H6 _ I6 q6) fun f s7 q7 => ?_)
    have again : ∀ {σ7 : St} {H7 : Hp}, Inv X (pins ++ pinsAt fp s5.heap) σ7 H7 s7 → N σ7 H7 → ∃ m, m < n ∧ ∃ i σ' H', Inv X pins σ' H' s7 ∧ tn i s7.heap ∧ (∀ b ∈ fp, H' b = none) ∧ W i m σ' H' := fun {σ7 H7} I7 n7 => by
      obtain ⟨m', hm, w7⟩ := hN σ7 H7 n7
      refine ⟨m', hm, i + 1, σ7, H7, I7.unpinned, T.keep _ _ _ st5 fun b hb o e => (I7.pin (b, o) (List.mem_append_right _ (List.mem_append_right _ (mem_pinsAt hb e)))).1, fun b hb => ?_, w7⟩
      obtain ⟨o, e, d⟩ := T.obj _ _ st5 b hb
      exact (I7.pin (b, o) (List.mem_append_right _ (List.mem_append_right _ (mem_pinsAt hb e)))).2.1
    cases f with
    | next => obtain ⟨σ7, H7, I7, n7⟩ := q7; exact again I7 n7
    | cont => obtain ⟨σ7, H7, I7, n7⟩ := q7; exact again I7 n7
    | brk => obtain ⟨σ7, H7, I7, q7⟩ := q7; exact ⟨σ7, H7, I7.unpinned, q7⟩
    | ret v => obtain ⟨x7, σ7, H7, I7, r7, q7⟩ := q7; exact ⟨x7, σ7, H7, I7.unpinned, r7, q7⟩
end
theorem for_list {K : PySem.W.Frag} {a : Addr} {xs : List V} {g : TG} {tb : TS} {D : Ends} {σ : St} {H : Hp} (Pv : Nat → St → Hp → Prop) (h0 : Pv 0 σ H) (hl : ∀ i σ H, i ≤ xs.length → Pv i σ H → SqL K H a xs)
    (hs : ∀ i x σ H, xs[i]? = some x → Pv i σ H → g x σ H fun σ2 H2 => tb { D with nx := Pv (i + 1), ct := Pv (i + 1), bk := D.nx } σ2 H2) (hd : ∀ σ H, Pv xs.length σ H → D.nx σ H) :
    ∃ W : Nat → Nat → St → Hp → Prop, (∃ m, W 0 m σ H) ∧ ∀ i m σ H, W i m σ H →
      ((Itl K a).stop i H ∧ D.nx σ H) ∨ ((Itl K a).go i H ∧ ∃ N : St → Hp → Prop, (∀ σ' H', N σ' H' → ∃ m', m' < m ∧ W (i + 1) m' σ' H') ∧ ∀ x H', (Itl K a).yld i H x H' → g x σ H' fun σ2 H2 => tb { D with nx := N, ct := N, bk := D.nx } σ2 H2) := by
  refine ⟨fun i m σ H => m = xs.length - i ∧ i ≤ xs.length ∧ Pv i σ H, ⟨xs.length, by simp, Nat.zero_le _, h0⟩, ?_⟩
  rintro i m σ H ⟨rfl, hi, p⟩
  have q := hl i σ H hi p
  by_cases hlt : i < xs.length
  · refine .inr ⟨⟨xs, xs[i], q, by simp [hlt]⟩, Pv (i + 1), fun σ' H' p' => ⟨xs.length - (i + 1), by trivial, rfl, hlt, p'⟩, fun x H' y => ?_⟩
    obtain ⟨e, y⟩ := y
    subst e
    exact hs i x σ _ (y xs q) p
  · have e : i = xs.length := by trivial
    subst e
    exact .inl ⟨⟨xs, q, Nat.le_refl _⟩, hd σ H p⟩
theorem for_range {lo : Int} {n : Nat} {g : TG} {tb : TS} {D : Ends} {σ : St} {H : Hp} (Pv : Nat → St → Hp → Prop) (h0 : Pv 0 σ H)
    (hs : ∀ i σ H, i < n → Pv i σ H → g (.int (lo + i)) σ H fun σ2 H2 => tb { D with nx := Pv (i + 1), ct := Pv (i + 1), bk := D.nx } σ2 H2) (hd : ∀ σ H, Pv n σ H → D.nx σ H) :
    ∃ W : Nat → Nat → St → Hp → Prop, (∃ m, W 0 m σ H) ∧ ∀ i m σ H, W i m σ H →
      ((Itr lo n).stop i H ∧ D.nx σ H) ∨ ((Itr lo n).go i H ∧ ∃ N : St → Hp → Prop, (∀ σ' H', N σ' H' → ∃ m', m' < m ∧ W (i + 1) m' σ' H') ∧ ∀ x H', (Itr lo n).yld i H x H' → g x σ H' fun σ2 H2 => tb { D with nx := N, ct := N, bk := D.nx } σ2 H2) := by
  refine ⟨fun i m σ H => m = n - i ∧ i ≤ n ∧ Pv i σ H, ⟨n, by simp, Nat.zero_le _, h0⟩, ?_⟩
  rintro i m σ H ⟨rfl, hi, p⟩
  by_cases hlt : i < n
  · refine .inr ⟨hlt, Pv (i + 1), fun σ' H' p' => ⟨n - (i + 1), by trivial, rfl, hlt, p'⟩, fun x H' y => ?_⟩
    obtain ⟨e, y⟩ := y
    subst e y
    exact hs i σ _ hlt p
  · have e : i = n := by trivial
    subst e
    exact .inl ⟨Nat.le_refl _, hd σ H p⟩
end L2
namespace L2
open PySem PySem.Spec PyProof.Rows
noncomputable abbrev R2 := V → V → Hp → VK → Prop
noncomputable def OpR (X : Cx) (f : Value → Value → Sem Value) (r : R2) : Prop :=
  ∀ (pins : List (Addr × Obj)) (s : Shared) (σ : St) (H : Hp) (x y : V) (v u : Value) (Q : VK), Inv X pins σ H s → RelV x v → RelV y u → r x y H Q →
    wpAny (model X.prog X.w) X.A (f v u) (EP X pins σ Q) X.xe s
noncomputable def CallR (X : Cx) (f : Value) (r : List V → Hp → VK → Prop) : Prop :=
  ∀ (pins : List (Addr × Obj)) (s : Shared) (σ : St) (H : Hp) (xs : List V) (us : List Value) (Q : VK), Inv X pins σ H s → Vals xs us → r xs H Q →
    wpAny (model X.prog X.w) X.A (call f us) (EP X pins σ Q) X.xe s
noncomputable def tOp (r : R2) (ta tb : TE) : TE := fun σ H Q => ta σ H fun x H1 => tb σ H1 fun y H2 => r x y H2 Q
noncomputable def rI (C : Int → Int → Prop) (g : Int → Int → V) : R2 := fun x y H Q => ∃ i j, x = .int i ∧ y = .int j ∧ C i j ∧ Q (g i j) H
noncomputable def rI0 (g : Int → Int → V) : R2 := fun x y H Q => ∃ i j, x = .int i ∧ y = .int j ∧ Q (g i j) H
section
variable {X : Cx} {a b c : Expr} {ta tb tc : TE} {pos : Pos}
theorem binT (ha : PE X a ta) (hb : PE X b tb) {pins : List (Addr × Obj)} {s : Shared} {σ : St} {H : Hp} {R : V → V → Hp → Prop} (I : Inv X pins σ H s)
    (h : ta σ H fun x H1 => tb σ H1 fun y H2 => R x y H2) {Q : Value → Shared → Prop} {f : Value → Value → Sem Value}
    (hf : ∀ v u s2 x y H2, Inv X pins σ H2 s2 → RelV x v → RelV y u → R x y H2 → wpAny (model X.prog X.w) X.A (f v u) Q X.xe s2) :
    wpAny (model X.prog X.w) X.A (eval a X.env) (fun v s₁ => wpAny (model X.prog X.w) X.A (eval b X.env) (fun u s₂ => wpAny (model X.prog X.w) X.A (f v u) Q X.xe s₂) X.xe s₁) X.xe s := by
  refine thn (ha pins s σ H _ I h) fun v s1 ⟨x, H1, I1, r1, q1⟩ => ?_
  refine thn (hb pins s1 σ H1 _ I1 q1) fun u s2 ⟨y, H2, I2, r2, q2⟩ => ?_
  exact hf v u s2 x y H2 I2 r1 r2 q2
theorem pe_op {op : Operator} {r : R2} (ho : OpR X (binaryOp op) r) (ha : PE X a ta) (hb : PE X b tb) : PE X (.BinOp a op b pos) (tOp r ta tb) := by
  intro pins s σ H Q I h
  exact wpAny_BinOp (binT ha hb I h fun v u s2 x y H2 I2 rx ry q => ho pins s2 σ H2 x y v u Q I2 rx ry q)
theorem opI {f : Value → Value → Sem Value} {C : Int → Int → Prop} {g : Int → Int → Int}
    (rule : ∀ (i j : Int) (t u : Tok) (s : Shared) (Q : Value → Shared → Prop) (E : Value → Shared → Prop), C i j → Q (.int (g i j) s.toks) { s with toks := s.toks + 1 } → wpAny (model X.prog X.w) X.A (f (.int i t) (.int j u)) Q E s) :
    OpR X f (rI C fun i j => .int (g i j)) := by
  intro pins s σ H x y v u Q I rx ry h
  obtain ⟨i, j, rfl, rfl, hc, q⟩ := h
  obtain ⟨t, rfl⟩ := rx
  obtain ⟨t', rfl⟩ := ry
  exact rule i j t t' s _ _ hc ⟨.int (g i j), H, I.tok _, ⟨_, rfl⟩, q⟩
theorem opI0 {f : Value → Value → Sem Value} {g : Int → Int → Int}
    (rule : ∀ (i j : Int) (t u : Tok) (s : Shared) (Q : Value → Shared → Prop) (E : Value → Shared → Prop), Q (.int (g i j) s.toks) { s with toks := s.toks + 1 } → wpAny (model X.prog X.w) X.A (f (.int i t) (.int j u)) Q E s) :
    OpR X f (rI0 fun i j => .int (g i j)) := by
  intro pins s σ H x y v u Q I rx ry h
  obtain ⟨i, j, rfl, rfl, q⟩ := h
  obtain ⟨t, rfl⟩ := rx
  obtain ⟨t', rfl⟩ := ry
  exact rule i j t t' s _ _ ⟨.int (g i j), H, I.tok _, ⟨_, rfl⟩, q⟩
theorem opB0 {f : Value → Value → Sem Value} {g : Int → Int → Bool}
    (rule : ∀ (i j : Int) (t u : Tok) (s : Shared) (Q : Value → Shared → Prop) (E : Value → Shared → Prop), Q (.bool (g i j)) s → wpAny (model X.prog X.w) X.A (f (.int i t) (.int j u)) Q E s) :
    OpR X f (rI0 fun i j => .bl (g i j)) := by
  intro pins s σ H x y v u Q I rx ry h
  obtain ⟨i, j, rfl, rfl, q⟩ := h
  obtain ⟨t, rfl⟩ := rx
  obtain ⟨t', rfl⟩ := ry
  exact rule i j t t' s _ _ ⟨.bl (g i j), H, I, rfl, q⟩
noncomputable def CDiv (i j : Int) : Prop := 0 < j ∧ j < 1073741824
noncomputable def CPow (i j : Int) : Prop := 0 ≤ j ∧ j ≤ 1000000 ∧ i.natAbs < 2 ^ 64
noncomputable def CMul (i j : Int) : Prop := (-(2 ^ 64) < i ∧ i < 2 ^ 64) ∨ (-(2 ^ 64) < j ∧ j < 2 ^ 64)
theorem CMul.ok {i j : Int} (h : CMul i j) : IntMulOk i j := by
  rcases h with ⟨h1, h2⟩ | ⟨h1, h2⟩
  · exact .of_left (intBits_le_64 h1 h2)
  · exact .of_right (intBits_le_64 h1 h2)
theorem op_add : OpR X (binaryOp .Add) (rI0 fun i j => .int (i + j)) := opI0 fun _ _ _ _ _ _ _ q => add_int q
theorem op_sub : OpR X (binaryOp .Sub) (rI0 fun i j => .int (i - j)) := opI0 fun _ _ _ _ _ _ _ q => sub_int q
theorem op_mul : OpR X (binaryOp .Mult) (rI CMul fun i j => .int (i * j)) := opI fun _ _ _ _ _ _ _ hc q => mul_int q hc.ok
theorem op_fdiv : OpR X (binaryOp .FloorDiv) (rI CDiv fun i j => .int (i / j)) := opI fun i j _ _ _ _ _ hc q => by
  have h1 : (0 : Int) < j := hc.1
  have h2 : j < 1073741824 := hc.2
  exact floordiv_int (by trivial) (by rw [Int.fdiv_eq_ediv_of_nonneg i (by trivial)]; exact q) (.inl (PyProof.noPylong_small (by trivial)))
theorem op_mod : OpR X (binaryOp .Mod) (rI (fun _ j => 0 < j) fun i j => .int (i % j)) := opI fun i j _ _ _ _ _ hc q => by
  have h1 : (0 : Int) < j := hc
  exact mod_int' (by trivial) (by rw [Int.fmod_eq_emod_of_nonneg i (by trivial)]; exact q)
theorem op_pow : OpR X (binaryOp .Pow) (rI CPow fun i j => .int (i ^ j.toNat)) := opI fun _ _ _ _ _ _ _ hc q => pow_int_small hc.1 hc.2.1 hc.2.2 q
end
noncomputable def scal : V → V → Bool
  | .non, .non => true | .non, .int _ => true | .int _, .non => true | .non, .bl _ => true | .bl _, .non => true | .non, .str _ => true | .str _, .non => true
  | .int _, .int _ => true | .bl _, .bl _ => true | .str _, .str _ => true | .byt _, .byt _ => true
  | .int _, .str _ => true | .str _, .int _ => true | .bl _, .str _ => true | .str _, .bl _ => true
  | _, _ => false
noncomputable def rEq : R2 := fun x y H Q => scal x y = true ∧ Q (.bl (decide (x = y))) H
noncomputable def rNe : R2 := fun x y H Q => scal x y = true ∧ Q (.bl (!decide (x = y))) H
theorem dec_int {i j : Int} : decide (V.int i = V.int j) = (i == j) := by
  rw [Bool.eq_iff_iff]
  simp
theorem dec_bl {i j : Bool} : decide (V.bl i = V.bl j) = (i == j) := by
  rw [Bool.eq_iff_iff]
  simp
theorem dec_str {i j : Str} : decide (V.str i = V.str j) = (i == j) := by
  rw [Bool.eq_iff_iff]
  simp
theorem dec_byt {i j : Array UInt8} : decide (V.byt i = V.byt j) = (i.toList == j.toList) := by
  rw [Bool.eq_iff_iff]
  cases i
  cases j
  simp
section
variable {X : Cx} {a b c : Expr} {ta tb tc : TE} {pos : Pos}
theorem fin_bl {pins : List (Addr × Obj)} {σ : St} {H : Hp} {s : Shared} {Q : VK} {k k' : Bool} (I : Inv X pins σ H s) (q : Q (.bl k) H) (e : k = k') : EP X pins σ Q (.bool k') s := by
  subst e
  exact ⟨.bl k, H, I, rfl, q⟩
theorem op_eq : OpR X (compareOp .Eq) rEq := by
  intro pins s σ H x y v u Q I rx ry h
  obtain ⟨hs, q⟩ := h
  cases x with
  | non =>
    cases rx
    cases y with
    | non => cases ry; exact PySem.EqNone.eq_none_none (fin_bl I q (by simp))
    | bl j => cases ry; exact PySem.EqNone.eq_none_bool (fin_bl I q (by simp))
    | int j => obtain ⟨t', rfl⟩ := ry; exact PySem.EqNone.eq_none_int (fin_bl I q (by simp))
    | str j => obtain ⟨t', rfl⟩ := ry; exact PySem.EqNone.eq_none_str (fin_bl I q (by simp))
    | _ => exact absurd (show false = true from hs) Bool.false_ne_true
  | bl i =>
    cases rx
    cases y with
    | non => cases ry; exact PySem.EqNone.eq_bool_none (fin_bl I q (by simp))
    | bl j => cases ry; exact eq_bool (fin_bl I q dec_bl)
    | str j => obtain ⟨t', rfl⟩ := ry; exact PySem.EqMixed.eq_bool_str (fin_bl I q (by simp))
    | _ => exact absurd (show false = true from hs) Bool.false_ne_true
  | int i =>
    obtain ⟨t, rfl⟩ := rx
    cases y with
    | non => cases ry; exact PySem.EqNone.eq_int_none (fin_bl I q (by simp))
    | int j => obtain ⟨t', rfl⟩ := ry; exact eq_int (fin_bl I q dec_int)
    | str j => obtain ⟨t', rfl⟩ := ry; exact PySem.EqMixed.eq_int_str (fin_bl I q (by simp))
    | _ => exact absurd (show false = true from hs) Bool.false_ne_true
  | str i =>
    obtain ⟨t, rfl⟩ := rx
    cases y with
    | non => cases ry; exact PySem.EqNone.eq_str_none (fin_bl I q (by simp))
    | bl j => cases ry; exact PySem.EqMixed.eq_str_bool (fin_bl I q (by simp))
    | int j => obtain ⟨t', rfl⟩ := ry; exact PySem.EqMixed.eq_str_int (fin_bl I q (by simp))
    | str j => obtain ⟨t', rfl⟩ := ry; exact eq_str (fin_bl I q dec_str)
    | _ => exact absurd (show false = true from hs) Bool.false_ne_true
  | byt i =>
    obtain ⟨t, rfl⟩ := rx
    cases y with
    | byt j => obtain ⟨t', rfl⟩ := ry; exact PySem.W.eq_bytes (fin_bl I q dec_byt)
    | _ => exact absurd (show false = true from hs) Bool.false_ne_true
  | _ => cases y <;> exact absurd (show false = true from hs) Bool.false_ne_true
theorem op_ne : OpR X (compareOp .NotEq) rNe := by
  intro pins s σ H x y v u Q I rx ry h
  obtain ⟨hs, q⟩ := h
  cases x with
  | non =>
    cases rx
    cases y with
    | non => cases ry; exact PySem.EqNone.ne_none_none (fin_bl I q (by simp))
    | bl j => cases ry; exact PySem.EqNone.ne_none_bool (fin_bl I q (by simp))
    | int j => obtain ⟨t', rfl⟩ := ry; exact PySem.EqNone.ne_none_int (fin_bl I q (by simp))
    | str j => obtain ⟨t', rfl⟩ := ry; exact PySem.EqNone.ne_none_str (fin_bl I q (by simp))
    | _ => exact absurd (show false = true from hs) Bool.false_ne_true
  | bl i =>
    cases rx
    cases y with
    | non => cases ry; exact PySem.EqNone.ne_bool_none (fin_bl I q (by simp))
    | bl j => cases ry; exact ne_bool (fin_bl I q (congrArg not dec_bl))
    | str j => obtain ⟨t', rfl⟩ := ry; exact PySem.EqMixed.ne_bool_str (fin_bl I q (by simp))
    | _ => exact absurd (show false = true from hs) Bool.false_ne_true
  | int i =>
    obtain ⟨t, rfl⟩ := rx
    cases y with
    | non => cases ry; exact PySem.EqNone.ne_int_none (fin_bl I q (by simp))
    | int j => obtain ⟨t', rfl⟩ := ry; exact ne_int (fin_bl I q (congrArg not dec_int))
    | str j => obtain ⟨t', rfl⟩ := ry; exact PySem.EqMixed.ne_int_str (fin_bl I q (by simp))
    | _ => exact absurd (show false = true from hs) Bool.false_ne_true
  | str i =>
    obtain ⟨t, rfl⟩ := rx
    cases y with
    | non => cases ry; exact PySem.EqNone.ne_str_none (fin_bl I q (by simp))
    | bl j => cases ry; exact PySem.EqMixed.ne_str_bool (fin_bl I q (by simp))
    | int j => obtain ⟨t', rfl⟩ := ry; exact PySem.EqMixed.ne_str_int (fin_bl I q (by simp))
    | str j => obtain ⟨t', rfl⟩ := ry; exact ne_str (fin_bl I q (congrArg not dec_str))
    | _ => exact absurd (show false = true from hs) Bool.false_ne_true
  | byt i =>
    obtain ⟨t, rfl⟩ := rx
    cases y with
    | byt j => obtain ⟨t', rfl⟩ := ry; exact PySem.W.ne_bytes (fin_bl I q (congrArg not dec_byt))
    | _ => exact absurd (show false = true from hs) Bool.false_ne_true
  | _ => cases y <;> exact absurd (show false = true from hs) Bool.false_ne_true
theorem op_lt : OpR X (compareOp .Lt) (rI0 fun i j => .bl (decide (i < j))) := opB0 fun _ _ _ _ _ _ _ q => lt_int q
theorem op_le : OpR X (compareOp .LtE) (rI0 fun i j => .bl (decide (i ≤ j))) := opB0 fun _ _ _ _ _ _ _ q => le_int q
theorem op_gt : OpR X (compareOp .Gt) (rI0 fun i j => .bl (decide (j < i))) := opB0 fun _ _ _ _ _ _ _ q => gt_int q
theorem nomark (b : Expr) {op : CmpOp} (h : op ≠ .In := by decide) (h2 : op ≠ .NotIn := by decide) : behindInMarks op b = false := by
  have e1 : (op == CmpOp.In) = false := by cases op <;> first | rfl | exact absurd rfl h
  have e2 : (op == CmpOp.NotIn) = false := by cases op <;> first | rfl | exact absurd rfl h2
  cases b <;> simp [behindInMarks, e1, e2]
theorem pe_cmpR {op : CmpOp} {r : R2} (ho : OpR X (compareOp op) r) (ha : PE X a ta) (hb : PE X b tb) (hm : behindInMarks op b = false) : PE X (.Compare a [op] [b] pos) (tOp r ta tb) := by
  intro pins s σ H Q I h
  exact wpAny_Compare1 (binT ha hb I h fun v u s2 x y H2 I2 rx ry q => ho pins s2 σ H2 x y v u Q I2 rx ry q) hm
noncomputable def tTest (t : TE) : TT := fun σ H Q => t σ H fun x H' => ∃ k, x = .bl k ∧ Q k H'
theorem pt_cmpR {op : CmpOp} {r : R2} (ho : OpR X (compareOp op) r) (ha : PE X a ta) (hb : PE X b tb) (hm : behindInMarks op b = false) : PT X (.Compare a [op] [b] pos) (tTest (tOp r ta tb)) := by
  intro pins s σ H Q I h
  refine wpAny_isTrue_Compare1 (thn (ha pins s σ H _ I h) fun v s1 ⟨x, H1, I1, r1, q1⟩ => thn (hb pins s1 σ H1 _ I1 q1) fun u s2 ⟨y, H2, I2, r2, q2⟩ =>
    thn (ho pins s2 σ H2 x y v u _ I2 r1 r2 q2) fun c s3 ⟨z, H3, I3, r3, k, e, q3⟩ => ?_) hm
  subst e
  cases r3
  exact wpAny_truthy_bool ⟨H3, I3, q3⟩
noncomputable def tChain (r r' : R2) (ta tb tc : TE) : TE := fun σ H Q => ta σ H fun x H1 => tb σ H1 fun y H2 => r x y H2 fun z H3 => ∃ k, z = .bl k ∧
  (if k = true then tc σ H3 fun w' H4 => r' y w' H4 Q else Q (.bl false) H3)
theorem pe_chain {op op' : CmpOp} {r r' : R2} (ho : OpR X (compareOp op) r) (ho' : OpR X (compareOp op') r') (ha : PE X a ta) (hb : PE X b tb) (hc : PE X c tc)
    (hm : lastMarks [op, op'] [b, c] = false := by with_unfolding_all rfl) : PE X (.Compare a [op, op'] [b, c] pos) (tChain r r' ta tb tc) := by
  intro pins s σ H Q I h
  refine Compare_chain (thn (ha pins s σ H _ I h) fun v s1 ⟨x, H1, I1, r1, q1⟩ => chain_link (thn (hb pins s1 σ H1 _ I1 q1) fun u s2 ⟨y, H2, I2, r2, q2⟩ =>
    thn (ho pins s2 σ H2 x y v u _ I2 r1 r2 q2) fun d s3 ⟨z, H3, I3, r3, k, e, q3⟩ => ?_)) hm
  subst e
  cases r3
  refine wpAny_truthy_bool ?_
  cases k with
  | false => exact ite_ff ⟨.bl false, H3, I3, rfl, q3⟩
  | true => exact ite_tt (chain_last (thn (hc pins s3 σ H3 _ I3 q3) fun w' s4 ⟨z', H4, I4, r4, q4⟩ => ho' pins s4 σ H4 y z' u w' Q I4 r2 r4 q4))
theorem line63 : (sizeLine : Nat) < 2 ^ 63 := by rw [sizeLine_eq]; decide
theorem vals1 {x : V} {us : List Value} (r : Vals [x] us) : ∃ u, us = [u] ∧ RelV x u := by
  cases r with
  | cons r1 r2 => cases r2; exact ⟨_, rfl, r1⟩
theorem vals2 {x y : V} {us : List Value} (r : Vals [x, y] us) : ∃ u w', us = [u, w'] ∧ RelV x u ∧ RelV y w' := by
  cases r with
  | cons r1 r2 =>
    cases r2 with
    | cons r3 r4 => cases r4; exact ⟨_, _, rfl, r1, r3⟩
theorem call_max2 (hc : X.calm = true) : CallR X (.builtin "max") (fun xs H Q => ∃ i j, xs = [.int i, .int j] ∧ Q (.int (if j > i then j else i)) H) := by
  intro pins s σ H xs us Q I r h
  obtain ⟨i, j, rfl, q⟩ := h
  obtain ⟨u, w', rfl, ⟨t, rfl⟩, ⟨t', rfl⟩⟩ := vals2 r
  refine max_two_ints (I.ok.hd hc) fun h' tk k => ⟨_, H, I.kept k, ?_, q⟩
  by_cases hj : j > i
  · rw [if_pos hj, if_pos hj]; exact ⟨_, rfl⟩
  · rw [if_neg hj, if_neg hj]; exact ⟨_, rfl⟩
theorem call_min2 (hc : X.calm = true) : CallR X (.builtin "min") (fun xs H Q => ∃ i j, xs = [.int i, .int j] ∧ Q (.int (if j < i then j else i)) H) := by
  intro pins s σ H xs us Q I r h
  obtain ⟨i, j, rfl, q⟩ := h
  obtain ⟨u, w', rfl, ⟨t, rfl⟩, ⟨t', rfl⟩⟩ := vals2 r
  refine min_two_ints (I.ok.hd hc) fun h' tk k => ⟨_, H, I.kept k, ?_, q⟩
  by_cases hj : j < i
  · rw [if_pos hj, if_pos hj]; exact ⟨_, rfl⟩
  · rw [if_neg hj, if_neg hj]; exact ⟨_, rfl⟩
theorem call_int1 : CallR X (.type "int") (fun xs H Q => (∃ i, xs = [.int i] ∧ Q (.int i) H) ∨ ∃ k, xs = [.bl k] ∧ Q (.int (if k then 1 else 0)) H) := by
  intro pins s σ H xs us Q I r h
  rcases h with ⟨i, rfl, q⟩ | ⟨k, rfl, q⟩
  · obtain ⟨u, rfl, t, rfl⟩ := vals1 r
    exact call_int_int ⟨.int i, H, I, ⟨_, rfl⟩, q⟩
  · obtain ⟨u, rfl, r1⟩ := vals1 r
    cases r1
    exact call_int_bool ⟨.int (if k then 1 else 0), H, I.tok _, ⟨_, rfl⟩, q⟩
end
end L2
namespace L2
open PySem PySem.Spec PyProof.Rows
structure ObjM (h : Heap) (x dx C : Addr) (mA : Str → Option Value) : Prop where
  obj : h.get? x = some (PySem.W.instObj C dx)
  ns : h.Ns1 dx mA
  ne : dx ≠ x
theorem lookIn_ns {h : Heap} {dx : Addr} {mA : Str → Option Value} (n : h.Ns1 dx mA) : ∃ od, h.get? dx = some od ∧ ∀ name, PySem.W.lookIn name od = some (mA name) := by
  obtain ⟨o, es, ep, ho, hd, hk, _, hm⟩ := n
  refine ⟨o, ho, fun name => ?_⟩
  have e := hm name
  unfold nsFind findBy at e
  rw [← Array.find?_toList] at e
  unfold PySem.W.lookIn
  rw [hd]
  dsimp only
  split
  · rename_i y q
    rw [q] at e
    exact congrArg some e
  · rename_i q
    rw [q] at e
    have a : es.toList.any (·.refKey) = false := by
      rw [List.any_eq_false]
      intro y hy
      obtain ⟨z, t, hkey⟩ := hk y (Array.mem_toList_iff.mp hy)
      simp [DictEntry.refKey, hkey]
    have a' : ¬ es.toList.any (·.refKey) = true := by rw [a]; exact Bool.false_ne_true
    rw [if_neg a']
    exact congrArg some e
theorem ObjM.look {h : Heap} {x dx C : Addr} {mA : Str → Option Value} (I : ObjM h x dx C mA) : ∃ od, PySem.W.InstAt h x (PySem.W.instObj C dx) C (some od) ∧ ∀ name, PySem.W.lookIn name od = some (mA name) :=
  let ⟨od, ho, hl⟩ := lookIn_ns I.ns
  ⟨od, ⟨I.obj, rfl, rfl, ho⟩, hl⟩
section
variable {prog : Program} {w : World} {A : Around} {E : Value → Shared → Prop} {s : Shared} {K : PySem.W.Frag} {x dx C f : Addr} {mA : Str → Option Value} {name : Str} {v : Value}
end
section
variable {P : Program} {w : World} {H H' : Hp} {h h' : Heap} {a C dx : Addr} {fs fs' : List (Str × V)}
theorem ins_get (hok : HOk P w H h) (e : H a = some (.ins C dx fs)) : ∃ mA, ObjM h a dx C mA ∧ (∀ f, RelO (fs.lookup f) (mA f)) ∧ PySem.Within mA (fs.map (·.1)) ∧ fs.length ≤ 1000 ∧ H dx = some (.own a) := by
  obtain ⟨d, z, ne, ob, mA, n, r, q⟩ := (show ObjOk P w H h a (.ins C dx fs) from hok a _ e)
  exact ⟨mA, ⟨ob, n, ne⟩, r, q, z, d⟩
end
structure Cls (K : PySem.W.Frag) (C : Addr) : Prop where
  pg : PySem.W.plainGet K C Str.empty = true
  hd : PySem.W.hasDictIn K C = true
  po : PySem.W.plainOver K C = true
  sa : PySem.W.findIn K (.ref C) "__setattr__" = some (some (.builtin "object.__setattr__"))
theorem Cls.get {K : PySem.W.Frag} {C : Addr} (c : Cls K C) (f : Str) : PySem.W.plainGet K C f = true := c.pg
structure Con (K : PySem.W.Frag) (C : Addr) (f : Str) (v : V) (u : Value) : Prop where
  at_ : PySem.W.findIn K (.ref C) f = some (some u)
  rel : RelV v u
  get : PySem.W.specialIn K u "__get__" = some none
  cp : PySem.W.copiedNames.contains f = false
structure Meth (K : PySem.W.Frag) (C : Addr) (m : Str) (f : Addr) : Prop where
  at_ : PySem.W.findIn K (.ref C) m = some (some (.ref f))
  fn : PySem.W.isFn K (.ref f) = true
  kp : PySem.W.keepIn K (.ref f) = true
section
variable {X : Cx} {pins : List (Addr × Obj)} {σ : St} {H : Hp} {s : Shared} {a C dx : Addr} {fs : List (Str × V)} {f : Str} {v : V} {A : Around} {E : Value → Shared → Prop}
end
section
variable {X : Cx} {o e value : Expr} {f : Str} {pos pos' tpos : Pos} {ta tv : TE}
end
section
variable {X : Cx} {pins : List (Addr × Obj)} {σ : St} {H : Hp} {s : Shared} {A : Around} {E : Value → Shared → Prop} {Q : Value → Shared → Prop} {c : Value} {b : Bool}
inductive TyOf (K : PySem.W.Frag) (H : Hp) : V → Value → Prop where
  | non : TyOf K H .non (.type "NoneType")
  | bl (x : Bool) : TyOf K H (.bl x) (.type "bool")
  | int (i : Int) : TyOf K H (.int i) (.type "int")
  | str (x : Str) : TyOf K H (.str x) (.type "str")
  | flt (x : UInt64) : TyOf K H (.flt x) (.type "float")
  | lst {a : Addr} {xs : List V} (e : H a = some (.lst xs)) : TyOf K H (.ref a) (.type "list")
  | frz {a : Addr} {o : Obj} {xs : List V} (e : H a = some (.frz o (.lst xs))) : TyOf K H (.ref a) (.type "list")
  | tup {a : Addr} {xs : List V} (e : H a = some (.tup xs)) : TyOf K H (.ref a) (.type "tuple")
  | dK {a : Addr} {kvs : List (Key × V)} (e : H a = some (.dK kvs)) : TyOf K H (.ref a) (.type "dict")
  | dT {a : Addr} {kvs : List (List Key × V)} (e : H a = some (.dT kvs)) : TyOf K H (.ref a) (.type "dict")
  | ins {a C dx : Addr} {fs : List (Str × V)} (e : H a = some (.ins C dx fs)) (cl : Cls K C) (ha : PySem.W.findIn K (.ref C) "__class__" = some (some (.builtin "object.__class__")))
      (hn : PySem.W.specialIn K (.builtin "object.__class__") "__get__" = some (some (.builtin "getset_descriptor.__get__"))) (htk : PySem.W.takesIn K (.builtin "object.__class__") = some true)
      (hm : PySem.W.mroIn K C (.type "object") = some true) : TyOf K H (.ref a) (.ref C)
theorem isinst_ok {x : V} {u t : Value} (I : Inv X pins σ H s) (rx : RelV x u) (ty : TyOf X.K H x t) (e : PySem.W.kitOne X.K t c = some b) (h : ∀ tk, Q (.bool b) { s with toks := tk }) :
    wpAny (model X.prog X.w) A (call (.builtin "isinstance") [u, c]) Q E s := by
  cases ty with
  | non => cases (show u = Value.none from rx); exact PySem.W.kia_one PySem.W.kitx_none I.kIn True.intro e (fun z => nomatch z) h
  | bl y => cases (show u = Value.bool y from rx); exact PySem.W.kia_one PySem.W.kitx_bool I.kIn True.intro e (fun z => nomatch z) h
  | int i => obtain ⟨t, q⟩ := (show ∃ t, u = Value.int i t from rx); cases q; exact PySem.W.kia_one PySem.W.kitx_int I.kIn True.intro e (fun z => nomatch z) h
  | str y => obtain ⟨t, q⟩ := (show ∃ t, u = Value.str y t from rx); cases q; exact PySem.W.kia_one PySem.W.kitx_str I.kIn True.intro e (fun z => nomatch z) h
  | flt y => obtain ⟨t, q⟩ := (show ∃ t, u = Value.float y t from rx); cases q; exact PySem.W.kia_one PySem.W.kitx_float I.kIn True.intro e (fun z => nomatch z) h
  | @lst a xs ea =>
    cases (show u = Value.ref a from rx)
    obtain ⟨_, _, n, _, h1⟩ := (show ObjOk X.prog X.w H s.heap a (.lst xs) from I.hok a _ ea)
    exact PySem.W.kia_one PySem.W.kitx_list I.kIn ⟨_, h1, rfl⟩ e (fun z => nomatch z) h
  | @frz a ob xs ea =>
    cases (show u = Value.ref a from rx)
    obtain ⟨_, _, _, n, _, h1⟩ := (show ObjOk X.prog X.w H s.heap a (.frz ob (.lst xs)) from I.hok a _ ea)
    exact PySem.W.kia_one PySem.W.kitx_list I.kIn ⟨_, h1, rfl⟩ e (fun z => nomatch z) h
  | @tup a xs ea =>
    cases (show u = Value.ref a from rx)
    obtain ⟨_, _, _, p⟩ := (show ObjOk X.prog X.w H s.heap a (.tup xs) from I.hok a _ ea)
    obtain ⟨o, h1, h2, _⟩ := p
    exact PySem.W.kia_one PySem.W.kitx_tuple I.kIn ⟨o, h1, h2⟩ e (fun z => nomatch z) h
  | @dK a kvs ea =>
    cases (show u = Value.ref a from rx)
    obtain ⟨_, _, vs, _, p⟩ := (show ObjOk X.prog X.w H s.heap a (.dK kvs) from I.hok a _ ea)
    obtain ⟨o, es, ep, h1, h2, _⟩ := p
    exact PySem.W.kia_one PySem.W.kitx_dict I.kIn ⟨o, h1, h2.1⟩ e (fun z => nomatch z) h
  | @dT a kvs ea =>
    cases (show u = Value.ref a from rx)
    obtain ⟨_, _, xs, _, o, es, ep, h1, h2, _⟩ := (show ObjOk X.prog X.w H s.heap a (.dT kvs) from I.hok a _ ea)
    exact PySem.W.kia_one PySem.W.kitx_dict I.kIn ⟨o, h1, h2.1⟩ e (fun z => nomatch z) h
  | @ins a C dx fs ea cl ha hn htk hm =>
    cases (show u = Value.ref a from rx)
    obtain ⟨mA, O, _⟩ := ins_get I.hok ea
    obtain ⟨od, J, _⟩ := O.look
    exact PySem.W.kia_one (PySem.W.kitx_own (cl.get _) cl.hd ha hn htk hm) I.kIn J e (fun z => nomatch z) h
end
end L2
namespace L2
open PySem PySem.Spec PyProof.Rows
structure Room (k : Nat) (A : Around) : Prop where
  hd : A.handled = none
  dp : A.depth + 3 * k + 5 < recursionLimit
  un : A.units + 16 * k + 200 < cLine
theorem Room.mono {j k : Nat} {A : Around} (r : Room k A) (h : j ≤ k) : Room j A := ⟨r.hd, by have := r.dp; trivial, by have := r.un; trivial⟩
theorem Room.deeper {k : Nat} {A : Around} (r : Room (k + 1) A) (env : Env) : Room k (A.deeper env) :=
  ⟨r.hd, by have := r.dp; show A.depth + 1 + 3 * k + 5 < _; trivial, by have := r.un; show A.units + 3 + 16 * k + 200 < _; trivial⟩
theorem Room.depth {k : Nat} {A : Around} (r : Room k A) : A.depth < recursionLimit := by have := r.dp; trivial
noncomputable def tNil : TA := fun _ H Q => Q [] H
noncomputable def tCons (ta : TE) (tr : TA) : TA := fun σ H Q => ta σ H fun x H1 => tr σ H1 fun xs H2 => Q (x :: xs) H2
section
variable {X : Cx} {e : Expr} {es : List Expr} {te : TE} {t : TA} {pos : Pos}
theorem pa_nil : PA X [] tNil := fun _ _ _ _ H Q I h => Calls.spliced_nil ⟨[], H, I, .nil, h⟩
theorem pa_cons (ha : PE X e te) (hr : PA X es t) (hs : starEach (e :: es) X.env = (false, eval e X.env) :: starEach es X.env := by rfl) : PA X (e :: es) (tCons te t) := by
  intro pos pins s σ H Q I h
  rw [hs]
  show wpAny _ _ (spliced ((false, eval e X.env) :: backTo pos (starEach es X.env))) _ _ s
  refine Calls.spliced_cons (thn (ha pins s σ H _ I h) fun u s1 ⟨x, H1, I1, r1, q1⟩ => ?_)
  exact thn (hr pos pins s1 σ H1 _ I1 q1) fun us s2 ⟨xs, H2, I2, r2, q2⟩ => ⟨x :: xs, H2, I2, .cons r1 r2, q2⟩
noncomputable def tTup (t : TA) : TE := fun σ H Q => t σ H fun xs H1 => xs.length ≤ sizeLine ∧ ∀ p, H1 p = none → Q (.ref p) (upd H1 p (.tup xs))
noncomputable def tLst (t : TA) : TE := fun σ H Q => t σ H fun xs H1 => xs.length ≤ sizeLine ∧ ∀ p, H1 p = none → Q (.ref p) (upd H1 p (.lst xs))
theorem pe_tup {x1} (h : PA X es t) : PE X (.Tuple es x1 pos) (tTup t) := by
  intro pins s σ H Q I hq
  refine wpAny_Tuple_spliced (thn (h pos pins s σ H _ I hq) fun us s1 ⟨xs, H1, I1, r, z, q⟩ => ⟨by rw [← r.length]; exact z, ?_⟩)
  have hf : H1 s1.heap.objs.size = none := I1.hok.fresh (Nat.le_refl _)
  refine ⟨.ref s1.heap.objs.size, upd H1 s1.heap.objs.size (.tup xs), I1.laid (t' := s1.toks) (fun b u e => Heap.get?_push_of_some _ e) (Nat.le_refl _) ?_, rfl, q _ hf⟩
  exact ⟨z, us, r, ⟨_, Heap.get?_push_size _ rfl, rfl, _, rfl⟩⟩
theorem pe_lst (h : PA X es t) : PE X (.List es pos) (tLst t) := by
  intro pins s σ H Q I hq
  refine wpAny_List_spliced (thn (h pos pins s σ H _ I hq) fun us s1 ⟨xs, H1, I1, r, z, q⟩ => ⟨by rw [← r.length]; exact z, ?_⟩)
  have hf : H1 s1.heap.objs.size = none := I1.hok.fresh (Nat.le_refl _)
  refine ⟨.ref s1.heap.objs.size, upd H1 s1.heap.objs.size (.lst xs), I1.laid (t' := s1.toks) (fun b u e => Heap.get?_push_of_some _ e) (Nat.le_refl _) ?_, rfl, q _ hf⟩
  exact ⟨z, us, 0, r, Heap.get?_push_size _ rfl⟩
end
noncomputable abbrev Sp := List V → Hp → VK → XK → Prop
noncomputable abbrev CXT := List Env → Hp → Shared → XK → Value → Shared → Prop
structure Env0 (P : Program) (w : World) (K : PySem.W.Frag) (mg : Str → Option Value) (base : Heap) (A : Around) (outer : List Env) (s : Shared) (H : Hp) : Prop where
  frames : A.frames = some outer
  mod : Mod K mg base
  bs : ∀ b o, base.get? b = some o → s.heap.get? b = some o ∧ H b = none
  bsz : base.objs.size ≤ s.heap.objs.size
  funs : s.heap.FunFrames base outer
  frf : ∀ b ∈ frs outer, H b = none
  hok : HOk P w H s.heap
  bare : AllBare s.gens
noncomputable def CE (outer : List Env) (P : Program) (w : World) (H : Hp) (s : Shared) (Q : VK) (u : Value) (s' : Shared) : Prop :=
  ∃ v H', s'.os = s.os ∧ AllBare s'.gens ∧ Un (frs outer) [] H H' s.heap s'.heap ∧ HOk P w H' s'.heap ∧ RelV v u ∧ Q v H'
noncomputable def CR (CX : CXT) (outer : List Env) (P : Program) (w : World) (H : Hp) (s : Shared) (Q : VK) (E : XK) (r : Result) (s' : Shared) : Prop :=
  match r with
  | .ok (.ret u) => CE outer P w H s Q u s'
  | .ok _ => False
  | .error e => CX outer H s E e s'
structure FnOk (P : Program) (w : World) (K : PySem.W.Frag) (mg : Str → Option Value) (base : Heap) (CX : CXT) (k : Nat) (f : Addr) (fd : FuncData) (ps : List Str) (sp : Sp) : Prop where
  len : ∀ vs H Q E, sp vs H Q E → vs.length = ps.length
  run : ∀ (A : Around) (outer : List Env) (s : Shared) (H : Hp) (args : Args) (us : List Value) (vs : List V) (Q : VK) (E : XK), Room k A → Env0 P w K mg base A outer s H → BindsTo s fd args (ps.zip us) → Vals vs us → sp vs H Q E →
    codeAny (model P w) A (.call (.ref f) args) (CR CX outer P w H s Q E) s
section
variable {X : Cx} {pins : List (Addr × Obj)} {σ : St} {H : Hp} {s s' : Shared}
theorem Inv.env0 (I : Inv X pins σ H s) : Env0 X.prog X.w X.K X.mg X.base X.A X.stack s H :=
  ⟨I.ok.frames, I.ok.mod, I.bs, Nat.le_trans I.ok.bsz I.sz, I.stack, I.stkFree, I.hok, I.bare⟩
theorem Inv.after {Q : VK} {u : Value} (I : Inv X pins σ H s) (h : CE X.stack X.prog X.w H s Q u s') : EP X pins σ Q u s' := by
  obtain ⟨v, H', os, bare, un, hok, r, q⟩ := h
  obtain ⟨hh, g, d, t, os'⟩ := s'
  obtain rfl : os' = s.os := os
  exact ⟨v, H', I.call (h' := hh) (g' := g) (d' := d) (t' := t) (ch := []) un hok bare (fun b z => absurd z (by simp)), r, q⟩
end
noncomputable def tCall (sp : Sp) (dvs : List V) (E : XK) (t : TA) : TE := fun σ H Q => t σ H fun vs H1 => sp (vs ++ dvs) H1 Q E
noncomputable def Binds (K : PySem.W.Frag) (fd : FuncData) (ps : List Str) (ds : List Value) : Prop :=
  ∀ (s : Shared) (us : List Value), K.In s.heap → (us ++ ds).length = ps.length → BindsTo s fd ⟨us, []⟩ (ps.zip (us ++ ds))
theorem Binds.all {K : PySem.W.Frag} {fd : FuncData} {ps : List Str} (h : ∀ us : List Value, us.length = ps.length → bindArgs fd ⟨us, []⟩ = pure (ps.zip us)) : Binds K fd ps [] := fun s us _ hl => by
  rw [List.append_nil] at hl ⊢
  exact .of_eq (h us hl)
noncomputable def Passes (CX : CXT) (X : Cx) (E : XK) : Prop := ∀ (pins : List (Addr × Obj)) (σ : St) (H : Hp) (s : Shared) (e : Value) (s' : Shared), Inv X pins σ H s → CX X.stack H s E e s' → X.xe e s'
section
variable {X : Cx} {CX : CXT} {k : Nat} {f C : Addr} {fd : FuncData} {ps : List Str} {sp : Sp} {dvs : List V} {ds : List Value} {E : XK} {x m : Str} {p pos apos : Pos} {e o : Expr} {es : List Expr} {ta : TE} {t : TA}
theorem run_fn {pins : List (Addr × Obj)} {σ : St} {H : Hp} {s : Shared} {Q : VK} {us : List Value} {vs : List V} (F : FnOk X.prog X.w X.K X.mg X.base CX k f fd ps sp) (hr : Room k X.A) (hb : Binds X.K fd ps ds) (hd : Vals dvs ds) (hx : Passes CX X E)
    (I : Inv X pins σ H s) (r : Vals vs us) (h : sp (vs ++ dvs) H Q E) : wpAny (model X.prog X.w) X.A (call (.ref f) us) (EP X pins σ Q) X.xe s := by
  have r2 : Vals (vs ++ dvs) (us ++ ds) := r.append hd
  have hl : (us ++ ds).length = ps.length := by rw [← r2.length]; exact F.len _ _ _ _ h
  refine wpAny_call (codeAny_mono (F.run X.A X.stack s H ⟨us, []⟩ (us ++ ds) (vs ++ dvs) Q E hr I.env0 (hb s us I.kIn hl) r2 h) fun r s' hq => ?_)
  cases r with
  | error e => exact hx pins σ H s e s' I hq
  | ok fl =>
    cases fl with
    | ret u => exact I.after hq
    | next => exact False.elim hq
    | brk => exact False.elim hq
    | cont => exact False.elim hq
theorem pe_call (F : FnOk X.prog X.w X.K X.mg X.base CX k f fd ps sp) (hr : Room k X.A) (hg : Gl X x) (hm : X.mg x = some (.ref f)) (hk : PySem.W.keepIn X.K (.ref f) = true) (hb : Binds X.K fd ps ds) (hd : Vals dvs ds) (hx : Passes CX X E)
    (ha : PA X (e :: es) t) (hdb : (x == ("__debug__" : Str)) = false := by decide) (he : starEach (e :: es) X.env = (false, eval e X.env) :: starEach es X.env := by rfl) (hpl : (backTo pos (starEach es X.env)).any (·.1) = false := by rfl) :
    PE X (.Call (.Name x p) (e :: es) [] pos) (tCall sp dvs E t) := by
  intro pins s σ H Q I h
  refine wpAny_Call_Name_kw (ld_glob I hg hm ?_ hdb)
  refine PySem.W.callWith_K (h₀ := X.base) I.ok.mod.kin hk (thn (ha pos pins s σ H _ I h) fun us s1 ⟨vs, H1, I1, r, q⟩ => ⟨I1.kIn, ?_⟩) he hpl
  exact run_fn F hr hb hd hx I1 r q
structure Mk (K : PySem.W.Frag) (C f : Addr) : Prop where
  makes : PySem.W.makesIn K C = true
  init : PySem.W.findIn K (.ref C) "__init__" = some (some (.ref f))
  fn : PySem.W.isFn K (.ref f) = true
  kp : PySem.W.keepIn K (.ref C) = true
end
section
variable {X : Cx} {CX : CXT} {k : Nat} {f C : Addr} {fd : FuncData} {ps ks : List Str} {sp : Sp} {E : XK} {x m : Str} {p pos apos kpos : Pos} {e o : Expr} {es : List Expr} {kws : List Keyword} {te ta : TE} {t tk : TA} {nm : Option Str}
structure KBinds (K : PySem.W.Frag) (fd : FuncData) (ps ks : List Str) (g : List Value → List Value → List Value) (gV : List V → List V → List V) : Prop where
  to : ∀ (s : Shared) (us ws : List Value), K.In s.heap → (g us ws).length = ps.length → BindsTo s fd ⟨us, ks.zip ws⟩ (ps.zip (g us ws))
  rel : ∀ {vs : List V} {us : List Value} {zs : List V} {ws : List Value}, Vals vs us → Vals zs ws → Vals (gV vs zs) (g us ws)
variable {g : List Value → List Value → List Value} {gV : List V → List V → List V}
end
structure FnScope (N P : List Str) (sc : Scope) : Prop where
  kind : sc.kind = .function
  co : sc.isCoroutine = false
  gen : sc.isGenerator = false
  nd : N.Nodup
  pre : N.take P.length = P
  par : ∀ x ∈ P, sc.names.lookup x = some .local ∨ sc.names.lookup x = some .cell
  nofree : ∀ y ∈ sc.names, y.2 ≠ .free
theorem bindL_out {kindOf : Str → Option NameKind} {x : Str} : ∀ {binds : List (Str × Value)} {m : Str → Option Value}, (∀ v, (x, v) ∉ binds) → bindL kindOf binds m x = m x
  | [], _, _ => rfl
  | (n, v) :: r, m, h => by
    unfold bindL
    rw [bindL_out fun w hw => h w (List.mem_cons_of_mem _ hw)]
    split
    · have : x ≠ n := by rintro rfl; exact h v List.mem_cons_self
      simp [this]
    · rfl
theorem bindC_out {kindOf : Str → Option NameKind} {x : Str} : ∀ {binds : List (Str × Value)} {m : Str → Option Value}, (∀ v, (x, v) ∉ binds) → bindC kindOf binds m x = m x
  | [], _, _ => rfl
  | (n, v) :: r, m, h => by
    unfold bindC
    rw [bindC_out fun w hw => h w (List.mem_cons_of_mem _ hw)]
    split
    · rfl
    · have : x ≠ n := by rintro rfl; exact h v List.mem_cons_self
      simp [this]
theorem bindL_get {kindOf : Str → Option NameKind} {x : Str} {v : Value} : ∀ {P : List Str} {vs : List Value} {i : Nat} {m : Str → Option Value}, P.Nodup → P[i]? = some x → vs[i]? = some v → kindOf x = some .local →
    bindL kindOf (P.zip vs) m x = some v
  | [], _, _, _, _, h, _, _ => by simp at h
  | _ :: _, [], _, _, _, _, h, _ => by simp at h
  | p :: P, w :: vs, 0, m, nd, h1, h2, hk => by
    simp at h1 h2; subst h1; subst h2
    show bindL kindOf ((p, w) :: P.zip vs) m p = _
    unfold bindL
    rw [bindL_out fun v hv => (List.nodup_cons.mp nd).1 (List.of_mem_zip hv).1, if_pos hk]
    simp
  | p :: P, w :: vs, i + 1, m, nd, h1, h2, hk => by
    show bindL kindOf ((p, w) :: P.zip vs) m x = _
    unfold bindL
    exact bindL_get (i := i) (List.nodup_cons.mp nd).2 (by simpa using h1) (by simpa using h2) hk
theorem bindC_get {kindOf : Str → Option NameKind} {x : Str} {v : Value} : ∀ {P : List Str} {vs : List Value} {i : Nat} {m : Str → Option Value}, P.Nodup → P[i]? = some x → vs[i]? = some v → kindOf x ≠ some .local →
    bindC kindOf (P.zip vs) m x = some v
  | [], _, _, _, _, h, _, _ => by simp at h
  | _ :: _, [], _, _, _, _, h, _ => by simp at h
  | p :: P, w :: vs, 0, m, nd, h1, h2, hk => by
    simp at h1 h2; subst h1; subst h2
    show bindC kindOf ((p, w) :: P.zip vs) m p = _
    unfold bindC
    rw [bindC_out fun v hv => (List.nodup_cons.mp nd).1 (List.of_mem_zip hv).1, if_neg hk]
    simp
  | p :: P, w :: vs, i + 1, m, nd, h1, h2, hk => by
    show bindC kindOf ((p, w) :: P.zip vs) m x = _
    unfold bindC
    exact bindC_get (i := i) (List.nodup_cons.mp nd).2 (by simpa using h1) (by simpa using h2) hk
noncomputable def start (N : List Str) (vs : List V) : St := vs.map some ++ List.replicate (N.length - vs.length) none
noncomputable def cxOf (CX : CXT) (P : Program) (w : World) (K : PySem.W.Frag) (mg : Str → Option Value) (base : Heap) (N : List Str) (qual : Str) (scope : Scope) (f : Addr) (cd : Value) (A : Around) (outer : List Env) (s : Shared) (H : Hp) (E : XK) : Cx where
  prog := P
  w := w
  K := K
  mg := mg
  base := base
  A := A.deeper (envOfC qual scope s.heap.objs.size f cd)
  N := N
  s₀ := s
  H₀ := H
  env := envOfC qual scope s.heap.objs.size f cd
  outer := outer
  stack := envOfC qual scope s.heap.objs.size f cd :: outer
  ex := []
  calm := true
  fn := fun _ => true
  pn := []
  xe := fun e s' => wpAny (model P w) (A.deeper (envOfC qual scope s.heap.objs.size f cd)) (leaving (envOfC qual scope s.heap.objs.size f cd) e) (fun _ s'' => CX outer H s E e s'') (fun e' s'' => CX outer H s E e' s'') s'
theorem cell_has {sc : Scope} {n : Nat} {x : Str} (h : sc.names.lookup x = some .cell) : ∃ c, (cellsFrom n sc.names []).lookup x = some c := by
  have q := PySem.W.cellsFrom_some sc.names n [] (.inl h)
  exact Option.isSome_iff_exists.mp q
theorem inv_start {CX : CXT} {P : Program} {w : World} {K : PySem.W.Frag} {mg : Str → Option Value} {base : Heap} {N ps : List Str} {qual : Str} {scope : Scope} {f : Addr} {cd : Value} {A : Around} {outer : List Env} {s s1 : Shared} {H : Hp} {E : XK} {us : List Value} {vs : List V}
    (S : FnScope N ps scope) (hd : A.handled = none) (e0 : Env0 P w K mg base A outer s H) (hl : vs.length = ps.length) (r : Vals vs us)
    (x : InCallC s s.heap.objs.size (bindL (envOfC qual scope s.heap.objs.size f cd).kindOf (ps.zip us) fun _ => none) (cellsFrom (s.heap.objs.size + 1) scope.names []) (bindC (envOfC qual scope s.heap.objs.size f cd).kindOf (ps.zip us) fun _ => none) s1) :
    Inv (cxOf CX P w K mg base N qual scope f cd A outer s H E) [] (start N vs) H s1 := by
  have hpl : ps.length ≤ N.length := by have := congrArg List.length S.pre; rw [List.length_take] at this; trivial
  obtain ⟨h1, tk, rfl, hk⟩ := x.done
  have noA : ∀ b : Addr, b ∉ (cxOf CX P w K mg base N qual scope f cd A outer s H E).ex := fun b z => absurd (show b ∈ ([] : List Addr) from z) (by simp)
  refine ⟨⟨e0.mod, S.kind, rfl, rfl, Nat.le_refl _, fun y z c h1 h2 => ?_, fun y hy => ?_, fun y c _ h => ?_, fun _ => hd, Around.frames_deeper e0.frames, .inr ⟨rfl, rfl⟩, fun b z => absurd z (noA b), e0.bs, e0.bsz, fun b _ _ => noA b, fun b z => absurd z (noA b), e0.funs, e0.frf⟩,
    rfl, e0.bare, Un.kept hk, ⟨_, x.toInCall.ns, fun i y v h1 h2 h3 => ?_⟩, fun y c h => ⟨_, x.cell y c h⟩, e0.hok.fresh (Nat.le_refl _), fun y c h => ?_, fun p hp => absurd (show p ∈ ([] : List (Addr × Obj)) from hp) (by simp), e0.hok.kept hk, ?_⟩
  · exact name_of_addr x.apart (PySem.mem_of_lookup h1) (PySem.mem_of_lookup h2)
  · have hy : scope.names.lookup y = some .cell ∨ scope.names.lookup y = some .free := hy
    rcases hy with hy | hy
    · exact cell_has hy
    · exact absurd rfl (S.nofree _ (PySem.mem_of_lookup hy))
  · exact Nat.le_of_lt (x.above y c (PySem.mem_of_lookup h))
  · have hi : i < vs.length := by
      unfold start at h2
      by_cases hi : i < vs.length
      · exact hi
      · rw [List.getElem?_append_right (by simpa using hi)] at h2
        rw [List.getElem?_replicate] at h2
        split at h2 <;> cases h2
    have ha : vs[i]? = some v := by
      unfold start at h2
      rw [List.getElem?_append_left (by simpa using hi), List.getElem?_map] at h2
      cases e : vs[i]? with
      | none => rw [e] at h2; cases h2
      | some a => rw [e] at h2; cases h2; rfl
    obtain ⟨u, hu, rv⟩ := r.get ha
    have hp : ps[i]? = some y := by
      rw [← S.pre, List.getElem?_take_of_lt (by trivial)]; exact h1
    have ndP : ps.Nodup := by rw [← S.pre]; exact S.nd.sublist (List.take_sublist _ _)
    refine ⟨u, rv, ?_⟩
    rcases S.par y (List.mem_of_getElem? hp) with k | k
    · exact .inl ⟨k, bindL_get ndP hp hu k⟩
    · obtain ⟨c, e⟩ := cell_has (n := s.heap.objs.size + 1) k
      refine .inr ⟨.inl k, c, e, ?_⟩
      have q := x.cell y c e
      rw [bindC_get ndP hp hu (by show scope.names.lookup y ≠ _; rw [k]; decide)] at q
      exact q
  · exact e0.hok.fresh (Nat.le_of_lt (x.above y c (PySem.mem_of_lookup h)))
  · unfold start
    show _ = N.length
    rw [List.length_append, List.length_map, List.length_replicate]
    trivial
theorem fn_of {CX : CXT} {P : Program} {w : World} {K : PySem.W.Frag} {mg : Str → Option Value} {base : Heap} {k : Nat} {f : Addr} {name qual : Str} {params : Arguments} {body : List Stmt} {scope : Scope} {dV kV doc pm cdv ct oc : Value} {an od : Option Addr}
    {osl : Array (Option Value)} {N ps : List Str} {sp : Sp} (lk : K.lookup f = some ⟨oc, od, .func (PySem.W.fnOf name qual params body scope dV kV doc pm an cdv ct), osl⟩) (hcd : PySem.W.codeIn K cdv qual = true) (S : FnScope N ps scope)
    (len : ∀ vs H Q E, sp vs H Q E → vs.length = ps.length)
    (hbody : ∀ (A : Around) (outer : List Env) (s : Shared) (H : Hp) (vs : List V) (Q : VK) (E : XK), Room k (A.deeper (envOfC qual scope s.heap.objs.size f cdv)) → sp vs H Q E →
      ∃ t, PSs (cxOf CX P w K mg base N qual scope f cdv A outer s H E) body t ∧ t { nx := fun _ H' => Q .non H', rt := Q } (start N vs) H) :
    FnOk P w K mg base CX (k + 1) f (PySem.W.fnOf name qual params body scope dV kV doc pm an cdv ct) ps sp := by
  refine ⟨len, fun A outer s H args us vs Q E hr e0 hb r hsp => ?_⟩
  have hl := len _ _ _ _ hsp
  have KX : K.In s.heap := e0.mod.kin.keeps fun b o e => (e0.bs b o e).1
  have lim : s.heap.NoLimit := e0.mod.nolimit.keeps fun b o e => (e0.bs b o e).1
  have hkind : ∀ y ∈ ps.zip us, scope.names.lookup y.1 = some .local ∨ (scope.names.lookup y.1 = some .cell ∧ ((cellsFrom (s.heap.objs.size + 1) scope.names []).lookup y.1).isSome = true) := fun ⟨n, v⟩ hy => by
    rcases S.par n (List.of_mem_zip hy).1 with q | q
    · exact .inl q
    · exact .inr ⟨q, PySem.W.cellsFrom_some _ _ _ (.inl q)⟩
  refine codeAny_call_function hr.depth (KX _ _ lk) rfl S.co S.gen rfl (PySem.W.codeRec_of KX hcd) (hb _ _ _ _ ?_)
  refine wpAny_newFunctionEnv_cells S.kind hkind fun env he s1 x => ?_
  subst he
  refine ⟨lim.keeps x.toInCall.keep, codeAny_func ?_⟩
  obtain ⟨t, ht, hq⟩ := hbody A outer s H vs Q E (hr.deeper _) hsp
  have I : Inv (cxOf CX P w K mg base N qual scope f cdv A outer s H E) [] (start N vs) H s1 := inv_start S hr.hd e0 hl r x
  refine wpAny_mono (ht [] s1 (start N vs) H _ I hq) (fun fl s' hs => ?_) fun e s' hs => hs
  have fin : ∀ {σ' : St} {H' : Hp} {v : V} {u : Value}, Inv (cxOf CX P w K mg base N qual scope f cdv A outer s H E) [] σ' H' s' → RelV v u → Q v H' → CE outer P w H s Q u s' :=
    fun {σ' H' v u} J rv q => ⟨v, H', J.os, J.bare, J.base, J.hok, rv, q⟩
  cases fl with
  | ret u =>
    obtain ⟨v, σ', H', J, rv, q⟩ := hs
    exact fin J rv q
  | next =>
    obtain ⟨σ', H', J, q⟩ := hs
    exact fin (v := V.non) (u := Value.none) J rfl q
  | brk =>
    obtain ⟨_, _, _, q⟩ := hs
    exact False.elim q
  | cont =>
    obtain ⟨_, _, _, q⟩ := hs
    exact False.elim q
end L2
namespace L2
open PySem PySem.Spec PyProof.Rows
section
variable {X : Cx} {x : Str} {p pos : Pos} {e : Expr} {es : List Expr} {t : TA} {id T : String} {r : List V → Hp → VK → Prop}
noncomputable def tCB (r : List V → Hp → VK → Prop) (t : TA) : TE := fun σ H Q => t σ H fun vs H1 => r vs H1 Q
theorem pe_callB (hc : CallR X (.builtin id) r) (hg : Gl X x) (hm : X.mg x = none) (hv : bootBuiltins x = some (.builtin id)) (ha : PA X (e :: es) t) (hn : x ≠ "__name__" := by decide) (hdb : (x == ("__debug__" : Str)) = false := by decide)
    (he : starEach (e :: es) X.env = (false, eval e X.env) :: starEach es X.env := by rfl) (hpl : (backTo pos (starEach es X.env)).any (·.1) = false := by rfl) : PE X (.Call (.Name x p) (e :: es) [] pos) (tCB r t) := by
  intro pins s σ H Q I h
  refine wpAny_Call_Name_kw (ld_blt I hg hm hv ?_ hn hdb)
  exact PyProof.Rows.callWith_builtin1 (thn (ha pos pins s σ H _ I h) fun us s1 ⟨vs, H1, I1, r1, q1⟩ => hc pins s1 σ H1 vs us Q I1 r1 q1) he hpl
theorem pe_callTy (hc : CallR X (.type T) r) (hg : Gl X x) (hm : X.mg x = none) (hv : bootBuiltins x = some (.type T)) (ha : PA X (e :: es) t) (hn : x ≠ "__name__" := by decide) (hdb : (x == ("__debug__" : Str)) = false := by decide)
    (he : starEach (e :: es) X.env = (false, eval e X.env) :: starEach es X.env := by rfl) (hpl : (backTo pos (starEach es X.env)).any (·.1) = false := by rfl) : PE X (.Call (.Name x p) (e :: es) [] pos) (tCB r t) := by
  intro pins s σ H Q I h
  refine wpAny_Call_Name_kw (ld_blt I hg hm hv ?_ hn hdb)
  exact PyProof.Rows.callWith_type1 (thn (ha pos pins s σ H _ I h) fun us s1 ⟨vs, H1, I1, r1, q1⟩ => hc pins s1 σ H1 vs us Q I1 r1 q1) he hpl
end
end L2
namespace HT
open PySem PyProof.Rows
section
open PySem.SeqAt
open PySem.AutoSeq1 (wpAny_loadPart')
open PySem.MeetsSeq PySem.MeetsSeq2 PySem.MeetsSeq3
end
section
variable {prog : Program} {w : World} {A : Around} {E : Value → Shared → Prop} {s : Shared}
noncomputable def sIx (n d : Nat) : Option Int → Nat
  | none => d
  | some v => if v < 0 then (v + (n : Int)).toNat else min v.toNat n
theorem sIx_none (n d : Nat) : sIx n d none = d := rfl
theorem sIx_nat (n d k : Nat) : sIx n d (some (k : Int)) = min k n := by
  show (if (k : Int) < 0 then ((k : Int) + (n : Int)).toNat else min (k : Int).toNat n) = min k n
  rw [if_neg (by trivial), Int.toNat_natCast]
end
end HT
namespace L2
open PySem PySem.Spec PyProof.Rows
noncomputable abbrev TO := St → Hp → (Option Int → Hp → Prop) → Prop
noncomputable def PO (X : Cx) (e : Option Expr) (t : TO) : Prop :=
  ∀ (pins : List (Addr × Obj)) (s : Shared) (σ : St) (H : Hp) (Q : Option Int → Hp → Prop), Inv X pins σ H s → t σ H Q →
    wpAny (model X.prog X.w) X.A (evalPart e X.env) (fun u s' => ∃ o H', Inv X pins σ H' s' ∧ IsPart u o ∧ Q o H') X.xe s
noncomputable def tNoPart : TO := fun _ H Q => Q none H
noncomputable def tPart (t : TE) : TO := fun σ H Q => t σ H fun x H1 => ∃ i, x = .int i ∧ Q (some i) H1
section
variable {X : Cx} {e : Expr} {te : TE} {lo hi : Option Expr} {tl th : TO} {pos p2 : Pos}
theorem po_none : PO X none tNoPart := by
  intro pins s σ H Q I h
  rw [evalPart_none]
  exact wpAny_pure ⟨none, H, I, .none, h⟩
theorem po_some (h : PE X e te) : PO X (some e) (tPart te) := by
  intro pins s σ H Q I hw
  rw [evalPart_some]
  refine thn (h pins s σ H _ I hw) fun u s1 ⟨x, H1, I1, r1, q1⟩ => ?_
  obtain ⟨i, rfl, q⟩ := q1
  obtain ⟨t, rfl⟩ := r1
  exact ⟨some i, H1, I1, .int i t, q⟩
noncomputable def SlR (X : Cx) (r : V → Option Int → Option Int → Hp → VK → Prop) : Prop :=
  ∀ (pins : List (Addr × Obj)) (s : Shared) (σ : St) (H : Hp) (x : V) (v vl vu : Value) (lo hi : Option Int) (sl : Addr) (Q : VK), Inv X pins σ H s → RelV x v → s.heap.IsSliceOf sl vl vu .none → IsPart vl lo → IsPart vu hi → r x lo hi H Q →
    ∃ T id, typeLookup (.type T) "__getitem__" = pure (some (.builtin id)) ∧ s.TypeIs v T ∧ wpAny (model X.prog X.w) X.A (getItem v (.ref sl)) (EP X pins σ Q) X.xe s
noncomputable def tSl (r : V → Option Int → Option Int → Hp → VK → Prop) (te : TE) (tl th : TO) : TE := fun σ H Q => te σ H fun x H1 => tl σ H1 fun l H2 => th σ H2 fun u H3 => r x l u H3 Q
theorem pe_slice {r : V → Option Int → Option Int → Hp → VK → Prop} (hr : SlR X r) (he : PE X e te) (hl : PO X lo tl) (hu : PO X hi th) : PE X (.Subscript e (.Slice lo hi none p2) pos) (tSl r te tl th) := by
  intro pins s σ H Q I h
  refine Subscript_ (thn (he pins s σ H _ I h) fun v s1 ⟨x, H1, I1, r1, q1⟩ => ?_)
  refine wpAny_Slice (thn (hl pins s1 σ H1 _ I1 q1) fun vl s2 ⟨l, H2, I2, pl, q2⟩ => thn (hu pins s2 σ H2 _ I2 q2) fun vu s3 ⟨u, H3, I3, pu, q3⟩ => ?_)
  rw [evalPart_none]
  refine wpAny_pure ?_
  have I4 : Inv X pins σ H3 { s3 with heap := s3.heap.push { cls := .type "slice", data := .fields #[vl, vu, .none] } } := I3.kept (t' := s3.toks) fun b ob q => Heap.get?_push_of_some _ q
  obtain ⟨T, id, hT, ht, hg⟩ := hr pins { s3 with heap := s3.heap.push { cls := .type "slice", data := .fields #[vl, vu, .none] } } σ H3 x v vl vu l u s3.heap.objs.size Q I4 r1 (Heap.IsSliceOf.new ..) pl pu q3
  show wpAny (model X.prog X.w) X.A (subscriptTail e (.Slice lo hi none p2) v (.ref s3.heap.objs.size)) (EP X pins σ Q) X.xe { s3 with heap := s3.heap.push { cls := .type "slice", data := .fields #[vl, vu, .none] } }
  exact tail_any (ops := [.ref s3.heap.objs.size, v]) ht hT hg (by with_unfolding_all rfl)
noncomputable def cutV (xs : List V) (lo hi : Option Int) : List V := (xs.drop (HT.sIx xs.length 0 lo)).take (HT.sIx xs.length xs.length hi - HT.sIx xs.length 0 lo)
theorem cutV_length (xs : List V) (lo hi : Option Int) : (cutV xs lo hi).length ≤ xs.length := by
  unfold cutV
  rw [List.length_take, List.length_drop]
  trivial
end
end L2
namespace L2
open PySem PySem.Spec PyProof.Rows
noncomputable def ixN (n : Nat) (i : Int) : Option Nat := if 0 ≤ i then (if i < n then some i.toNat else none) else if -(n : Int) ≤ i then some (i + n).toNat else none
noncomputable def atI {α : Type} (xs : List α) (i : Int) : Option α := (ixN xs.length i).bind fun j => xs[j]?
theorem ixN_seq {n : Nat} {i : Int} {j : Nat} (h : ixN n i = some j) : seqIndex? i n = some j ∧ j < n ∧ -(n : Int) ≤ i ∧ i < n := by
  unfold ixN at h
  by_cases h0 : 0 ≤ i
  · rw [if_pos h0] at h
    by_cases h1 : i < n
    · rw [if_pos h1] at h
      have e : i.toNat = j := Option.some.inj h
      exact ⟨by rw [seqIndex_of h0 h1, e], by trivial, by trivial, h1⟩
    · rw [if_neg h1] at h; cases h
  · rw [if_neg h0] at h
    by_cases h1 : -(n : Int) ≤ i
    · rw [if_pos h1] at h
      have e : (i + n).toNat = j := Option.some.inj h
      exact ⟨by rw [seqIndex_neg (by trivial) h1, e], by trivial, h1, by trivial⟩
    · rw [if_neg h1] at h; cases h
theorem atI_get {α : Type} {xs : List α} {i : Int} {v : α} (h : atI xs i = some v) : ∃ j, seqIndex? i xs.length = some j ∧ xs[j]? = some v ∧ j < xs.length ∧ -(xs.length : Int) ≤ i ∧ i < xs.length := by
  unfold atI at h
  cases e : ixN xs.length i with
  | none => rw [e] at h; cases h
  | some j =>
    rw [e] at h
    obtain ⟨h1, h2, h3, h4⟩ := ixN_seq e
    exact ⟨j, h1, h, h2, h3, h4⟩
theorem atI_nat {α : Type} {xs : List α} {j : Nat} {v : α} (h : xs[j]? = some v) : atI xs (j : Int) = some v := by
  have hj : j < xs.length := (List.getElem?_eq_some_iff.mp h).1
  have e : ixN xs.length (j : Int) = some j := by
    unfold ixN
    rw [if_pos (by trivial), if_pos (by trivial)]; simp
  unfold atI; rw [e]; exact h
noncomputable def PlainIx (b : Expr) : Prop := ∀ o i, subscripted b false o i = operate [o, i] (getItem o i)
noncomputable def IxR (X : Cx) (r : R2) : Prop :=
  ∀ (value slice : Expr) (pins : List (Addr × Obj)) (s : Shared) (σ : St) (H : Hp) (x y : V) (v u : Value) (Q : VK), Inv X pins σ H s → RelV x v → RelV y u → r x y H Q →
    subscripted slice false v u = operate [v, u] (getItem v u) → wpAny (model X.prog X.w) X.A (subscriptTail value slice v u) (EP X pins σ Q) X.xe s
noncomputable def MtR (X : Cx) (id : String) (r : V → List V → Hp → VK → Prop) : Prop :=
  ∀ (pins : List (Addr × Obj)) (s : Shared) (σ : St) (H : Hp) (x : V) (xs : List V) (v : Value) (us : List Value) (Q : VK), Inv X pins σ H s → RelV x v → Vals xs us → r x xs H Q →
    wpAny (model X.prog X.w) X.A (call (.builtin id) (v :: us)) (EP X pins σ Q) X.xe s
section
variable {X : Cx} {a b : Expr} {ta tb : TE} {pos : Pos}
theorem pe_ix {r : R2} (hr : IxR X r) (ha : PE X a ta) (hb : PE X b tb) (hs : PlainIx b) : PE X (.Subscript a b pos) (tOp r ta tb) := by
  intro pins s σ H Q I h
  exact Subscript_ (binT ha hb I h fun v u s2 x y H2 I2 rx ry q => hr a b pins s2 σ H2 x y v u Q I2 rx ry q (hs _ _))
noncomputable def rIxL (K : PySem.W.Frag) : R2 := fun x y H Q => ∃ p xs i v, x = .ref p ∧ y = .int i ∧ SqL K H p xs ∧ atI xs i = some v ∧ Q v H
noncomputable def rIxT (K : PySem.W.Frag) : R2 := fun x y H Q => ∃ p xs i v, x = .ref p ∧ y = .int i ∧ SqT K H p xs ∧ atI xs i = some v ∧ Q v H
theorem ix_list : IxR X (rIxL X.K) := by
  intro value slice pins s σ H x y v u Q I rx ry h hs
  obtain ⟨p, xs, i, z, rfl, rfl, hq, he, q⟩ := h
  cases rx
  obtain ⟨t, rfl⟩ := ry
  obtain ⟨its, r, pl, hz⟩ := I.list hq
  obtain ⟨j, h1, h2, h3, h4, h5⟩ := atI_get he
  obtain ⟨w, ew, rw'⟩ := r.get h2
  have hl := r.length
  have hn := line63
  have fin : EP X pins σ Q w s := ⟨z, H, I, rw', q⟩
  by_cases h0 : 0 ≤ i
  · have hj : i.toNat = j := by
      rw [seqIndex_of h0 h5] at h1
      exact Option.some.inj h1
    exact item_listR pl.isList h0 (by trivial) (by rw [hj]; simpa using ew) fin hs
  · have hj : (i + (its.toArray.size : Int)).toNat = j := by
      rw [seqIndex_neg (by trivial) h4] at h1
      rw [List.size_toArray, ← hl]
      exact Option.some.inj h1
    exact subscriptTail_builtinR (x := w) pl.isList.typeIs slot_list_getitem.lookup
      (wpAny_getItem_list_neg (Q := fun r s' => r = w ∧ EP X pins σ Q r s') pl.isList (by trivial) (by rw [List.size_toArray] <;> trivial) (by trivial) (by rw [hj]; simpa using ew) ⟨rfl, fin⟩) hs
theorem ix_tup : IxR X (rIxT X.K) := by
  intro value slice pins s σ H x y v u Q I rx ry h hs
  obtain ⟨p, xs, i, z, rfl, rfl, hq, he, q⟩ := h
  cases rx
  obtain ⟨t, rfl⟩ := ry
  obtain ⟨its, r, pl, hz⟩ := I.tuple hq
  obtain ⟨j, h1, h2, h3, h4, h5⟩ := atI_get he
  obtain ⟨w, ew, rw'⟩ := r.get h2
  have hl := r.length
  have hn := line63
  have fin : EP X pins σ Q w s := ⟨z, H, I, rw', q⟩
  exact subscriptTail_builtinR (x := w) pl.typeIs slot_tuple_getitem.lookup
    (getItem_tuple (j := j) (Q := fun r s' => r = w ∧ EP X pins σ Q r s') pl (by trivial) (by trivial) (by rw [List.size_toArray, ← hl]; exact h1) (by simpa using ew) ⟨rfl, fin⟩) hs
theorem Inv.lst {pins : List (Addr × Obj)} {σ : St} {H : Hp} {s : Shared} {p : Addr} {xs : List V} (I : Inv X pins σ H s) (h : H p = some (.lst xs)) :
    ∃ (its : List Value) (n : Nat), Vals xs its ∧ s.heap.get? p = some { cls := .type "list", data := .seq its.toArray n } ∧ xs.length ≤ sizeLine := by
  obtain ⟨z, its, n, r, e⟩ := I.hok p _ h
  exact ⟨its, n, r, e, z⟩
theorem slice_bounds (lo hi : Option Int) (n : Nat) : (sliceBounds lo hi none n).1 = ((HT.sIx n 0 lo : Nat) : Int) ∧ (sliceBounds lo hi none n).2.1 = ((HT.sIx n n hi : Nat) : Int) ∧ (sliceBounds lo hi none n).2.2 = 1 := by
  refine ⟨?_, ?_, rfl⟩
  · cases lo with
    | none => simp [sliceBounds, HT.sIx]
    | some i =>
      simp only [sliceBounds, HT.sIx, Option.getD_none, show (1 : Int) > 0 by decide, if_true]
      by_cases h : i < 0
      · simp only [h, if_true] <;> trivial
      · simp only [h, if_false] <;> trivial
  · cases hi with
    | none => simp [sliceBounds, HT.sIx]
    | some i =>
      simp only [sliceBounds, HT.sIx, Option.getD_none, show (1 : Int) > 0 by decide, if_true]
      by_cases h : i < 0
      · simp only [h, if_true] <;> trivial
      · simp only [h, if_false] <;> trivial
theorem slicePick_cut (its : List Value) (lo hi : Option Int) : slicePick its.toArray lo hi none = ((its.drop (HT.sIx its.length 0 lo)).take (HT.sIx its.length its.length hi - HT.sIx its.length 0 lo)).toArray := by
  obtain ⟨h1, h2, h3⟩ := slice_bounds lo hi its.toArray.size
  unfold slicePick
  rw [h1, h2, h3]
  simp only [sliceRange_one, pick_run, List.size_toArray] <;> rfl
noncomputable def rSlL (K : PySem.W.Frag) : V → Option Int → Option Int → Hp → VK → Prop := fun x lo hi H Q => ∃ a xs, x = .ref a ∧ SqL K H a xs ∧ ∀ p, H p = none → Q (.ref p) (upd H p (.lst (cutV xs lo hi)))
theorem sl_list : SlR X (rSlL X.K) := by
  intro pins s σ H x v vl vu lo hi sl Q I rx hs pl pu h
  obtain ⟨a, xs, rfl, hx, q⟩ := h
  cases rx
  obtain ⟨its, r, ht, hz⟩ := I.list hx
  have hlen := r.length
  refine ⟨"list", _, slot_list_getitem.lookup, ht.isList.typeIs, ?_⟩
  refine wpAny_getItem_list_slice ht.isList hs pl pu .none (by simp) ?_ (by rw [List.size_toArray] <;> trivial)
  rw [slicePick_cut, ← hlen]
  refine ⟨.ref s.heap.objs.size, _, I.laid (t' := s.toks) (o := .lst (cutV xs lo hi)) (fun b ob q => Heap.get?_push_of_some _ q) (Nat.le_refl _) ?_, rfl, q _ (I.hok.fresh (Nat.le_refl _))⟩
  exact ⟨Nat.le_trans (cutV_length xs lo hi) hz, _, 0, (r.drop (HT.sIx xs.length 0 lo)).take (HT.sIx xs.length xs.length hi - HT.sIx xs.length 0 lo), Heap.get?_push_size _ rfl⟩
noncomputable def flatV : V → Bool
  | .non => true
  | .bl _ => true
  | .int _ => true
  | .str _ => true
  | _ => false
noncomputable def eqV : V → V → Bool
  | .non, .non => true
  | .bl a, .bl b => a == b
  | .bl a, .int b => (if a then 1 else 0) == b
  | .int a, .bl b => a == (if b then 1 else 0)
  | .int a, .int b => a == b
  | .str a, .str b => a == b
  | _, _ => false
theorem eqAt_V {A : Around} {s : Shared} {y x : V} {u v : Value} (ry : RelV y u) (rx : RelV x v) (fy : flatV y = true) (fx : flatV x = true) : SeqAt.EqAt A s u v (eqV y x) := by
  cases y with
  | non =>
    cases ry
    cases x with
    | non => cases rx; exact SeqAt.EqAt.same _
    | bl b => cases rx; exact SeqAt.EqAt.none_bool b
    | int b => obtain ⟨t, rfl⟩ := rx; exact SeqAt.EqAt.none_int b t
    | str b => obtain ⟨t, rfl⟩ := rx; exact SeqAt.EqAt.none_str b t
    | _ => exact absurd (show false = true from fx) Bool.false_ne_true
  | bl a =>
    cases ry
    cases x with
    | non => cases rx; exact SeqAt.EqAt.bool_none a
    | bl b => cases rx; exact SeqAt.EqAt.bool_bool a b
    | int b => obtain ⟨t, rfl⟩ := rx; exact SeqAt.EqAt.bool_int a b t
    | str b => obtain ⟨t, rfl⟩ := rx; exact SeqAt.EqAt.bool_str a b t
    | _ => exact absurd (show false = true from fx) Bool.false_ne_true
  | int a =>
    obtain ⟨t', rfl⟩ := ry
    cases x with
    | non => cases rx; exact SeqAt.EqAt.int_none a t'
    | bl b => cases rx; exact SeqAt.EqAt.int_bool a t' b
    | int b => obtain ⟨t, rfl⟩ := rx; exact SeqAt.EqAt.int_int a t' b t
    | str b => obtain ⟨t, rfl⟩ := rx; exact SeqAt.EqAt.int_str a t' b t
    | _ => exact absurd (show false = true from fx) Bool.false_ne_true
  | str a =>
    obtain ⟨t', rfl⟩ := ry
    cases x with
    | non => cases rx; exact SeqAt.EqAt.str_none a t'
    | bl b => cases rx; exact SeqAt.EqAt.str_bool a t' b
    | int b => obtain ⟨t, rfl⟩ := rx; exact SeqAt.EqAt.str_int a t' b t
    | str b => obtain ⟨t, rfl⟩ := rx; exact SeqAt.EqAt.str_str a t' b t
    | _ => exact absurd (show false = true from fx) Bool.false_ne_true
  | _ => exact absurd (show false = true from fy) Bool.false_ne_true
noncomputable def eqU (x : V) (u : Value) : Bool := match u with
  | .none => eqV .non x
  | .bool b => eqV (.bl b) x
  | .int i _ => eqV (.int i) x
  | .str z _ => eqV (.str z) x
  | _ => false
theorem eqU_of {x y : V} {u : Value} (r : RelV y u) (f : flatV y = true) : eqU x u = eqV y x := by
  cases y with
  | non => cases r; rfl
  | bl b => cases r; rfl
  | int i => obtain ⟨t, rfl⟩ := r; rfl
  | str z => obtain ⟨t, rfl⟩ := r; rfl
  | _ => exact absurd (show false = true from f) Bool.false_ne_true
theorem any_eqU {x : V} : ∀ {xs : List V} {us : List Value}, Vals xs us → xs.all flatV = true → us.any (eqU x) = xs.any fun y => eqV y x
  | _, _, .nil, _ => rfl
  | y :: xs, u :: us, .cons r t, f => by
    rw [List.all_cons, Bool.and_eq_true] at f
    rw [List.any_cons, List.any_cons, eqU_of r f.1, any_eqU t f.2]
theorem mem_eqAt {A : Around} {s : Shared} {x : V} {v : Value} (rx : RelV x v) (fx : flatV x = true) : ∀ {xs : List V} {us : List Value}, Vals xs us → xs.all flatV = true → ∀ u ∈ us, SeqAt.EqAt A s u v (eqU x u)
  | _, _, .nil, _ => fun u hu => by cases hu
  | y :: xs, u :: us, .cons r t, f => fun u' hu => by
    rw [List.all_cons, Bool.and_eq_true] at f
    rcases List.mem_cons.mp hu with rfl | hu
    · rw [eqU_of r f.1]; exact eqAt_V r rx f.1 fx
    · exact mem_eqAt rx fx t f.2 u' hu
noncomputable def inV (x : V) (xs : List V) : Bool := xs.any fun y => eqV y x
noncomputable def rIn (K : PySem.W.Frag) (neg : Bool) : R2 := fun x y H Q => ∃ p xs, y = .ref p ∧ (SqL K H p xs ∨ SqT K H p xs) ∧ flatV x = true ∧ xs.all flatV = true ∧ Q (.bl (if neg then !inV x xs else inV x xs)) H
theorem op_in_seq : OpR X (compareOp .In) (rIn X.K false) := by
  intro pins s σ H x y v u Q I rx ry h
  obtain ⟨p, xs, rfl, hq, fx, fs, q⟩ := h
  cases ry
  rcases hq with hq | hq
  · obtain ⟨its, r, pl, hz⟩ := I.list hq
    refine SeqAt.in_listAt (eqU x) pl.isList (fun w hw => mem_eqAt rx fx r fs w (by simpa using hw)) ⟨.bl _, H, I, rfl, ?_⟩
    rw [show its.toArray.any (eqU x) = its.any (eqU x) by simp, any_eqU r fs]
    exact q
  · obtain ⟨its, r, pl, hz⟩ := I.tuple hq
    refine SeqAt.in_tupleAt (eqU x) pl (fun w hw => mem_eqAt rx fx r fs w (by simpa using hw)) ⟨.bl _, H, I, rfl, ?_⟩
    rw [show its.toArray.any (eqU x) = its.any (eqU x) by simp, any_eqU r fs]
    exact q
theorem call_len_seq : CallR X (.builtin "len") (fun xs H Q => ∃ p ys, xs = [.ref p] ∧ (SqL X.K H p ys ∨ SqT X.K H p ys) ∧ Q (.int ys.length) H) := by
  intro pins s σ H xs us Q I r h
  obtain ⟨p, ys, rfl, hq, q⟩ := h
  obtain ⟨u, rfl, rx⟩ := vals1 r
  cases rx
  have hn := line63
  rcases hq with hq | hq
  · obtain ⟨its, r', pl, hz⟩ := I.list hq
    have hlen := r'.length
    exact Calls.call_len_list pl.isList (by simp only [List.size_toArray] <;> trivial) ⟨.int ys.length, H, I.tok _, ⟨s.toks + 1, by rw [List.size_toArray, hlen]⟩, q⟩
  · obtain ⟨its, r', pl, hz⟩ := I.tuple hq
    have hlen := r'.length
    exact len_tuple pl (by simp only [List.size_toArray] <;> trivial) ⟨.int ys.length, H, I.tok _, ⟨s.toks + 1, by rw [List.size_toArray, hlen]⟩, q⟩
theorem call_list_of : CallR X (.type "list") (fun xs H Q => ∃ p ys, xs = [.ref p] ∧ (SqL X.K H p ys ∨ SqT X.K H p ys) ∧ ∀ l, H l = none → Q (.ref l) (upd H l (.lst ys))) := by
  intro pins s σ H xs us Q I r h
  obtain ⟨p, ys, rfl, hq, q⟩ := h
  obtain ⟨u, rfl, rx⟩ := vals1 r
  cases rx
  have fin : ∀ (its : List Value), Vals ys its → ys.length ≤ sizeLine → ∀ (h' : Heap) (c' : Nat), (∀ b o', s.heap.get? b = some o' → h'.get? b = some o') →
      h'.get? s.heap.objs.size = some { cls := .type "list", dict := none, data := .seq its.toArray c', slots := #[] } → EP X pins σ Q (.ref s.heap.objs.size) { s with heap := h' } := fun its r' hz h' c' kp e =>
    ⟨.ref s.heap.objs.size, _, I.laid (t' := s.toks) kp (Nat.le_refl _) (show ObjOk X.prog X.w _ h' _ (.lst ys) from ⟨hz, its, c', r', e⟩), rfl, q _ (I.hok.fresh (Nat.le_refl _))⟩
  rcases hq with hq | hq
  · obtain ⟨its, r', pl, hz⟩ := I.list hq
    have hlen := r'.length
    obtain ⟨o, ho, hc, n, hd⟩ := pl.isList
    exact call_list_seq p (.inl rfl) ho hc hd (fun h' c' kp e => fin its r' hz h' c' kp e) (by simp only [List.size_toArray] <;> trivial)
  · obtain ⟨its, r', pl, hz⟩ := I.tuple hq
    have hlen := r'.length
    obtain ⟨o, ho, hc, n, hd⟩ := pl
    exact call_list_seq p (.inr rfl) ho hc hd (fun h' c' kp e => fin its r' hz h' c' kp e) (by simp only [List.size_toArray] <;> trivial)
noncomputable def tyV (K : PySem.W.Frag) (T : String) (x : V) (H : Hp) : Prop := match x with
  | .str _ => T = "str"
  | .int _ => T = "int"
  | .ref p => (T = "list" ∧ ∃ xs, SqL K H p xs) ∨ (T = "tuple" ∧ ∃ o, K.lookup p = some o ∧ o.cls = .type "tuple" ∧ o.dict = none) ∨
      (T = "dict" ∧ ((∃ kvs, H p = some (.dK kvs)) ∨ ∃ kvs, H p = some (.dT kvs))) ∨ (T = "set" ∧ ∃ S n, H p = some (.set S n))
  | _ => False
theorem tyV_is {pins : List (Addr × Obj)} {σ : St} {H : Hp} {s : Shared} {T : String} {x : V} {v : Value} (I : Inv X pins σ H s) (r : RelV x v) (ty : tyV X.K T x H) :
    s.TypeIs v T ∧ ∀ a, v = .ref a → ∃ ob, s.heap.get? a = some ob ∧ ob.dict = none := by
  cases x with
  | str z =>
    obtain ⟨t, rfl⟩ := r
    cases (show T = "str" from ty)
    exact ⟨typeIs_str s z t, fun _ e => nomatch e⟩
  | int i =>
    obtain ⟨t, rfl⟩ := r
    cases (show T = "int" from ty)
    exact ⟨typeIs_int s i t, fun _ e => nomatch e⟩
  | ref p =>
    cases r
    rcases ty with ⟨rfl, xs, hq⟩ | ⟨rfl, o, hk, hc, hd⟩ | ⟨rfl, hk⟩ | ⟨rfl, S, n, hk⟩
    · obtain ⟨its, _, pl, _⟩ := I.list hq
      refine ⟨pl.isList.typeIs, fun a e => ?_⟩
      cases e
      obtain ⟨o, n, e, c, hd, _⟩ := pl
      exact ⟨o, e, hd⟩
    · refine ⟨⟨o, I.kIn p o hk, hc⟩, fun a e => ?_⟩
      cases e
      exact ⟨o, I.kIn _ o hk, hd⟩
    · have z : ∃ o, s.heap.get? p = some o ∧ o.ExactDict := by
        rcases hk with ⟨kvs, hk⟩ | ⟨kvs, hk⟩
        · obtain ⟨_, _, _, _, o, _, _, e, ex, _⟩ := I.hok p _ hk
          exact ⟨o, e, ex⟩
        · obtain ⟨_, _, _, _, o, _, _, e, ex, _⟩ := I.hok p _ hk
          exact ⟨o, e, ex⟩
      obtain ⟨o, e, ex⟩ := z
      refine ⟨⟨o, e, ex.1⟩, fun a e2 => ?_⟩
      cases e2
      exact ⟨o, e, ex.2.1⟩
    · obtain ⟨o, _, _, _, e, ex, _⟩ := I.hok p _ hk
      refine ⟨⟨o, e, ex.1⟩, fun a e2 => ?_⟩
      cases e2
      exact ⟨o, e, ex.2.1⟩
  | _ => exact False.elim ty
noncomputable def tBM0 (K : PySem.W.Frag) (T : String) (r : V → List V → Hp → VK → Prop) (to : TE) : TE := fun σ H Q => to σ H fun x H1 => tyV K T x H1 ∧ r x [] H1 Q
noncomputable def tBM (K : PySem.W.Frag) (T : String) (r : V → List V → Hp → VK → Prop) (to : TE) (t : TA) : TE := fun σ H Q => to σ H fun x H1 => tyV K T x H1 ∧ t σ H1 fun xs H2 => r x xs H2 Q
variable {o e : Expr} {es : List Expr} {to : TE} {t : TA} {name : Str} {apos cpos : Pos} {T id : String} {r : V → List V → Hp → VK → Prop}
theorem pe_bm0 (pa : PlainAttrs T) (slot : Slot T name id) (hty : typeOf (.builtin id) = pure (.type "method_descriptor")) (hm : MtR X id r) (ho : PE X o to)
    (hbase : attributeBase o name X.env (eval o X.env) = eval o X.env := by rfl) (hline : (apos.endLine == cpos.line) = true := by rfl) : PE X (.Call (.Attribute o name apos) [] [] cpos) (tBM0 X.K T r to) := by
  intro pins s σ H Q I h
  refine wpAny_Call_method0_late hbase hline (thn (ho pins s σ H _ I h) fun v s1 ⟨x, H1, I1, r1, ty, q1⟩ => ?_)
  obtain ⟨h1, h2⟩ := tyV_is I1 r1 ty
  exact ⟨T, id, pa, slot, hty, h1, h2, Calls.callWith_builtin rfl (PySem.evalArgs_none (hm pins s1 σ H1 x [] v [] Q I1 r1 .nil q1))⟩
theorem pe_bm (pa : PlainAttrs T) (slot : Slot T name id) (hty : typeOf (.builtin id) = pure (.type "method_descriptor")) (hm : MtR X id r) (ho : PE X o to) (ha : PA X (e :: es) t)
    (hbase : attributeBase o name X.env (eval o X.env) = eval o X.env := by rfl)
    (hfew : ((backTo cpos (starEach (e :: es) X.env)).all (fun x => !x.1) && (backToKw cpos (keywordEach [] X.env)).all (fun x => x.1.isSome)
      && decide ((e :: es).length + ([] : List Keyword).length + (if ([] : List Keyword).isEmpty then 0 else 1) < 30)) = true := by rfl)
    (hline : (apos.endLine == cpos.line) = true := by rfl) (hs : starEach (e :: es) X.env = (false, eval e X.env) :: starEach es X.env := by rfl) (hplain : (backTo cpos (starEach es X.env)).any (·.1) = false := by rfl) :
    PE X (.Call (.Attribute o name apos) (e :: es) [] cpos) (tBM X.K T r to t) := by
  intro pins s σ H Q I h
  refine wpAny_Call_method_late hbase hfew hline rfl (thn (ho pins s σ H _ I h) fun v s1 ⟨x, H1, I1, r1, ty, q1⟩ => ?_)
  obtain ⟨h1, h2⟩ := tyV_is I1 r1 ty
  refine ⟨T, id, pa, slot, hty, h1, h2, ?_⟩
  have hA := ha cpos pins s1 σ H1 _ I1 q1
  rw [hs] at hA ⊢
  refine Calls.callWith_builtin (by show (false || (backTo cpos (starEach es X.env)).any (·.1)) = false; rw [hplain] <;> rfl) (Calls.evalArgs_plain ?_)
  exact thn hA fun us s2 ⟨vs, H2, I2, r2, q2⟩ => hm pins s2 σ H2 x vs v us Q I2 r1 r2 q2
/- xs.append(e), list.index on a module's tuple .. are MtR facts of 06m -/
end
end L2
namespace L2
open PySem PySem.Spec PyProof.Rows
noncomputable def MtM (X : Cx) (id : String) (r : V → List V → Hp → VK → Prop) : Prop :=
  ∀ (pins : List (Addr × Obj)) (s : Shared) (σ : St) (H : Hp) (x : V) (xs : List V) (v : Value) (us : List Value) (Q : VK), Inv X pins σ H s → RelV x v → Vals xs us → r x xs H Q →
    wpAny (model X.prog X.w) X.A (call (.builtin id) (v :: us)) (EP X pins σ Q) X.xe s
theorem Vals.one : ∀ {x : V} {us : List Value}, Vals [x] us → ∃ u, us = [u] ∧ RelV x u
  | _, _, .cons r .nil => ⟨_, rfl, r⟩
theorem Vals.two : ∀ {x y : V} {us : List Value}, Vals [x, y] us → ∃ u v, us = [u, v] ∧ RelV x u ∧ RelV y v
  | _, _, _, .cons r (.cons q .nil) => ⟨_, _, rfl, r, q⟩
theorem Vals.zero : ∀ {us : List Value}, Vals [] us → us = []
  | _, .nil => rfl
theorem Vals.dropLast {xs : List V} {us : List Value} (h : Vals xs us) : Vals xs.dropLast us.dropLast := by
  induction h with
  | nil => exact .nil
  | cons r t ih =>
    cases t with
    | nil => exact .nil
    | cons q t' => exact .cons r ih
theorem Vals.rep {xs : List V} {us : List Value} (h : Vals xs us) : ∀ k : Nat, Vals (List.replicate k xs).flatten (List.replicate k us).flatten
  | 0 => .nil
  | k + 1 => by
    rw [List.replicate_succ, List.replicate_succ, List.flatten_cons, List.flatten_cons]
    exact Vals.append h (Vals.rep h k)
theorem erase_last {α : Type} (l : List α) : l.eraseIdx (l.length - 1) = l.dropLast := by
  induction l with
  | nil => rfl
  | cons a r ih =>
    cases r with
    | nil => rfl
    | cons b r =>
      have e : (a :: b :: r).length - 1 = ((b :: r).length - 1) + 1 := by
        have h1 : (a :: b :: r).length = r.length + 2 := rfl
        have h2 : (b :: r).length = r.length + 1 := rfl
        trivial
      rw [e, List.eraseIdx_cons_succ, ih]
      all_goals rfl
theorem foldl_rep (its : List Value) : ∀ (k : Nat) (acc : List Value),
    List.foldl (fun x1 x2 => x1 ++ x2) acc.toArray (List.replicate k its.toArray) = (acc ++ (List.replicate k its).flatten).toArray
  | 0, acc => by simp
  | k + 1, acc => by
    have e : acc.toArray ++ its.toArray = (acc ++ its).toArray := by simp
    have e2 : (acc ++ its) ++ (List.replicate k its).flatten = acc ++ (List.replicate (k + 1) its).flatten := by
      rw [List.replicate_succ, List.flatten_cons, List.append_assoc]
    rw [← e2, ← foldl_rep its k (acc ++ its), ← e, List.replicate_succ, List.foldl_cons]
section
variable {X : Cx} {pins : List (Addr × Obj)} {σ : St} {H : Hp} {s : Shared} {l b : Addr} {xs ys zs : List V}
theorem Inv.lset {its its' : List Value} {n : Nat} {f : Array Value → Array Value} {t' : Nat} (I : Inv X pins σ H s) (hH : H l = some (.lst xs))
    (e : s.heap.get? l = some { cls := .type "list", data := .seq its.toArray n }) (hf : f its.toArray = its'.toArray) (hv : Vals ys its') (hz : ys.length ≤ sizeLine) :
    Inv X pins σ (upd H l (.lst ys)) { s with heap := s.heap.update l (Obj.mapSeq f), toks := t' } := by
  have q := PySem.IsL.update e f
  rw [hf] at q
  refine I.write (x := l) (e := l) (by rw [hH]; exact trivial) (.inl rfl) (fun b' u hb hu => (Heap.get?_update_other s.heap (Obj.mapSeq f) (Ne.symm hb)).trans hu) ⟨_, q⟩ ?_
  exact ⟨hz, its', _, hv, q⟩
theorem Inv.lnew {its : List Value} {t' : Nat} (I : Inv X pins σ H s) (hv : Vals ys its) (hz : ys.length ≤ sizeLine) :
    Inv X pins σ (upd H s.heap.objs.size (.lst ys)) { s with heap := s.heap.push { cls := .type "list", data := .seq its.toArray }, toks := t' } :=
  I.laid (fun _ _ q => Heap.get?_push_of_some _ q) (Nat.le_refl _) ⟨hz, its, 0, hv, Heap.get?_push_size _ rfl⟩
theorem Inv.fresh (I : Inv X pins σ H s) : H s.heap.objs.size = none := I.hok.fresh (Nat.le_refl _)
theorem Inv.lstM (I : Inv X pins σ H s) (hH : H l = some (.lst xs)) : xs.length ≤ sizeLine ∧ ∃ (its : List Value) (n : Nat), Vals xs its ∧ xs.length = its.length ∧ s.heap.get? l = some { cls := .type "list", data := .seq its.toArray n } := by
  obtain ⟨z, its, n, r, e⟩ := I.hok l _ hH
  exact ⟨z, its, n, r, r.length, e⟩
theorem notLongL {n : Nat} (h : n ≤ sizeLine) : Builtin.List.listTooLong n = false := by
  unfold Builtin.List.listTooLong
  exact decide_eq_false (by trivial)
end
section
variable {X : Cx}
noncomputable def rAppend : V → List V → Hp → VK → Prop := fun x vs H Q => ∃ l xs y, x = .ref l ∧ vs = [y] ∧ H l = some (.lst xs) ∧ xs.length < sizeLine ∧ Q .non (upd H l (.lst (xs ++ [y])))
theorem mt_append : MtM X "list.append" rAppend := by
  intro pins s σ H x vs v us Q I rx rv h
  obtain ⟨l, xs, y, rfl, rfl, hH, hz, q⟩ := h
  cases rx
  obtain ⟨u, rfl, ru⟩ := rv.one
  obtain ⟨z, its, n, r, hl, e⟩ := I.lstM hH
  refine call_meets F.slot_list_append ⟨_, e, rfl⟩ F.entry_list_append (F.args_list_append_2 _ _) (PySem.list_append l its.toArray n u (by rw [List.size_toArray]; trivial)) ⟨e, ?_⟩
  refine ⟨.non, _, I.lset (its' := its ++ [u]) hH e (by simp) (r.append (.cons ru .nil)) ?_, rfl, q⟩
  rw [List.length_append, List.length_singleton]
  trivial
noncomputable def rExtend : V → List V → Hp → VK → Prop := fun x vs H Q => ∃ l b xs zs, x = .ref l ∧ vs = [.ref b] ∧ H l = some (.lst xs) ∧ H b = some (.lst zs) ∧ xs.length + zs.length ≤ sizeLine ∧ Q .non (upd H l (.lst (xs ++ zs)))
theorem mt_extend : MtM X "list.extend" rExtend := by
  intro pins s σ H x vs v us Q I rx rv h
  obtain ⟨l, b, xs, zs, rfl, rfl, hH, hB, hz, q⟩ := h
  cases rx
  obtain ⟨u, rfl, ru⟩ := rv.one
  cases ru
  obtain ⟨z, its, n, r, hl, e⟩ := I.lstM hH
  obtain ⟨z2, its2, n2, r2, hl2, e2⟩ := I.lstM hB
  have hsz : its.toArray.size + its2.toArray.size ≤ sizeLine := by rw [List.size_toArray, List.size_toArray]; trivial
  have hlong : ¬ (!its.toArray.isEmpty && Builtin.List.listTooLong (its.toArray.size + its2.toArray.size)) = true := by
    rw [notLongL hsz, Bool.and_false]
    exact Bool.false_ne_true
  refine call_meets F.slot_list_extend ⟨_, e, rfl⟩ F.entry_list_extend (F.args_list_extend_2 _ _)
    (AutoSeq1.list_extend_list_list_0 l its.toArray n b its2.toArray n2 hlong (by rw [List.size_toArray]; trivial) (by trivial)) ⟨e, e2, ?_⟩
  refine ⟨.non, _, I.lset (its' := its ++ its2) hH e (by simp) (r.append r2) ?_, rfl, q⟩
  rw [List.length_append]
  trivial
noncomputable def rPop : V → List V → Hp → VK → Prop := fun x vs H Q => ∃ l xs y, x = .ref l ∧ vs = [] ∧ H l = some (.lst xs) ∧ xs[xs.length - 1]? = some y ∧ Q y (upd H l (.lst xs.dropLast))
theorem mt_pop : MtM X "list.pop" rPop := by
  intro pins s σ H x vs v us Q I rx rv h
  obtain ⟨l, xs, y, rfl, rfl, hH, hy, q⟩ := h
  cases rx
  have hus := rv.zero
  subst hus
  obtain ⟨z, its, n, r, hl, e⟩ := I.lstM hH
  obtain ⟨u, hu, ru⟩ := r.get hy
  have hy' : its.toArray[its.toArray.size - 1]? = some u := by
    show its.toArray[its.length - 1]? = some u
    rw [← Array.getElem?_toList, ← hl]
    exact hu
  refine call_meets F.slot_list_pop ⟨_, e, rfl⟩ F.entry_list_pop (F.args_list_pop_1 _) (MeetsSeq.list_pop_last l its.toArray n u hy' (by rw [List.size_toArray]; trivial)) ⟨e, ?_⟩
  refine ⟨y, _, I.lset (its' := its.dropLast) hH e ?_ r.dropLast ?_, ru, q⟩
  · show its.toArray.eraseIdxIfInBounds (its.toArray.size - 1) = its.dropLast.toArray
    rw [List.size_toArray, List.eraseIdxIfInBounds_toArray, erase_last]
  · rw [List.length_dropLast]
    trivial
noncomputable def rCat : R2 := fun x y H Q => ∃ l b xs zs, x = .ref l ∧ y = .ref b ∧ H l = some (.lst xs) ∧ H b = some (.lst zs) ∧ xs.length + zs.length ≤ sizeLine ∧ ∀ p, H p = none → Q (.ref p) (upd H p (.lst (xs ++ zs)))
theorem op_cat : OpR X (binaryOp .Add) rCat := by
  intro pins s σ H x y v u Q I rx ry h
  obtain ⟨l, b, xs, zs, rfl, rfl, hH, hB, hz, q⟩ := h
  cases rx
  cases ry
  obtain ⟨z, its, n, r, hl, e⟩ := I.lstM hH
  obtain ⟨z2, its2, n2, r2, hl2, e2⟩ := I.lstM hB
  refine PySem.P.add_list e e2 ?_ (by rw [List.size_toArray, List.size_toArray]; trivial)
  have ea : its.toArray ++ its2.toArray = (its ++ its2).toArray := by simp
  rw [ea]
  exact ⟨.ref _, _, I.lnew (t' := s.toks) (r.append r2) (by rw [List.length_append]; trivial), rfl, q _ I.fresh⟩
noncomputable def rRep : R2 := fun x y H Q => ∃ l k xs, x = .ref l ∧ y = .int k ∧ H l = some (.lst xs) ∧ -(2 ^ 63) ≤ k ∧ k < 2 ^ 63 ∧ xs.length * k.toNat ≤ sizeLine ∧
  ∀ p, H p = none → Q (.ref p) (upd H p (.lst (List.replicate k.toNat xs).flatten))
theorem len_rep {α : Type} (xs : List α) (k : Nat) : (List.replicate k xs).flatten.length = k * xs.length := by
  induction k with
  | zero => simp
  | succ k ih => rw [List.replicate_succ, List.flatten_cons, List.length_append, ih, Nat.succ_mul, Nat.add_comm]
theorem op_rep : OpR X (binaryOp .Mult) rRep := by
  intro pins s σ H x y v u Q I rx ry h
  obtain ⟨l, k, xs, rfl, rfl, hH, h1, h2, hz, q⟩ := h
  cases rx
  obtain ⟨t, rfl⟩ := ry
  obtain ⟨z, its, n, r, hl, e⟩ := I.lstM hH
  have hlen : its.toArray.size * k.toNat ≤ sizeLine := by rw [List.size_toArray, ← hl]; exact hz
  have hcap : ¬ its.toArray.size * k.toNat > (2 ^ 63 - 1) / 8 := by
    have : (sizeLine : Nat) ≤ (2 ^ 63 - 1) / 8 := by decide
    trivial
  have hfit : ¬ (!Builtin.List.listFitsIndex k) = true := by
    rw [fitsIndex_both h1 h2]
    exact Bool.false_ne_true
  have hlong : ¬ Builtin.List.listTooLong (its.toArray.size * k.toNat) = true := by
    rw [notLongL hlen]
    exact Bool.false_ne_true
  have hnew : List.foldl (fun x1 x2 => x1 ++ x2) #[] (List.replicate (if its.toArray.isEmpty = true then 0 else k.toNat) its.toArray) = (List.replicate k.toNat its).flatten.toArray := by
    have f0 : ∀ m : Nat, List.foldl (fun x1 x2 => x1 ++ x2) #[] (List.replicate m its.toArray) = (List.replicate m its).flatten.toArray := fun m => by
      have := foldl_rep its m []
      rw [List.nil_append] at this
      exact this
    rw [f0]
    cases its with
    | nil => simp
    | cons a r' => rw [if_neg (by simp)]
  refine wpAny_binaryOp_repeat_ref (T := "list") (U := "int") (by decide) ⟨_, e, rfl⟩ (fun s' => typeIs_int s' k t) noFill_list_mul F.fills_int_mul F.slot_int_rmul repeat_list F.slot_int_index.lookup
    (call_meets F.slot_int_rmul (typeIs_int s k t) F.entry_int_rmul (F.args_int_rmul_2 _ _) (int___rmul___int_list k t l its.toArray n)
      ⟨e, rfl, ⟨_, e, rfl⟩, call_meets F.slot_list_mul ⟨_, e, rfl⟩ F.entry_list_mul (F.args_list_mul_2 _ _) (AutoListH.list___mul___list_int_3 l its.toArray n k t hfit hcap hlong) ⟨e, ?_⟩⟩)
  rw [hnew]
  exact ⟨.ref _, _, I.lnew (t' := s.toks) (r.rep k.toNat) (by rw [len_rep, Nat.mul_comm]; exact hz), rfl, q _ I.fresh⟩
end
section
variable {prog : Program} {w : World} {A : Around} {E : Value → Shared → Prop} {s : Shared}
theorem bounds_run {a c n : Nat} (hac : a ≤ c) (hc : c ≤ n) : sliceBounds (some (a : Int)) (some (c : Int)) none n = ((a : Int), (c : Int), 1) := by
  simp only [sliceBounds, Option.getD_none]
  have h1 : ¬ ((a : Int) < 0) := by trivial
  have h2 : ¬ ((c : Int) < 0) := by trivial
  simp only [h1, h2, if_false, show (1 : Int) > 0 by decide, if_true]
  congr 1
  · trivial
  · congr 1; trivial
set_option maxRecDepth 100000 in
theorem setItem_slice {l b sl : Addr} {items new : Array Value} {n n2 : Nat} {vl vu : Value} {a c : Nat} {Q : Unit → Shared → Prop}
    (e : s.heap.get? l = some { cls := .type "list", data := .seq items n }) (e2 : s.heap.get? b = some { cls := .type "list", data := .seq new n2 }) (hne : l ≠ b)
    (hs : s.heap.IsSliceOf sl vl vu .none) (pl : IsPart vl (some (a : Int))) (pu : IsPart vu (some (c : Int))) (hac : a ≤ c) (hc : c ≤ items.size)
    (hsz : items.size + new.size ≤ sizeLine) (h : Q () { s with heap := s.heap.update l (Obj.mapSeq fun xs => xs.extract 0 a ++ new ++ xs.extract c xs.size) }) :
    wpAny (model prog w) A (setItem (.ref l) (.ref sl) (.ref b)) Q E s := by
  have hl : s.heap.IsList l items := PySem.IsL.isList e
  have hb : s.heap.IsList b new := PySem.IsL.isList e2
  obtain ⟨os, hos, hcs, hds⟩ := id hs
  have hTs : s.TypeIs (.ref sl) "slice" := ⟨os, hos, hcs⟩
  have hstep : ¬ ((rawPart none == rawInt 0) = true) := Bool.false_ne_true
  have hsame : Builtin.List.listSameRef (.ref l) (.ref b) = false := by
    unfold Builtin.List.listSameRef
    exact beq_eq_false_iff_ne.mpr hne
  have hmax : (max (a : Int) (c : Int)).toNat = c := by trivial
  have hz' : ((fun xs : Array Value => xs.extract 0 a ++ new ++ xs.extract c xs.size) items).size ≤ sizeLine + 1 := by
    simp only [Array.size_append, Array.size_extract]
    trivial
  unfold setItem
  try with_reducible refine wpAny_holding ?_
  first | refine wpAny_bind (wpAny_pure ?_) | skip
  refine wpAny_bind (wpAny_sequenceKey hl.typeIs (by decide) ?_)
  refine wpAny_bind (wpAny_callSpecial?_slot (name := Str.ofString "__setitem__") hl.typeIs slot_list_setitem
    (wpAny_call_entry slot_list_setitem hl.typeIs entry_list_setitem ?_ (args_list_setitem _ _ _)))
  show wpAny _ _ (Builtin.List.listSubscript? (.ref sl) >>= _) _ _ s
  refine wpAny_bind ?_
  unfold Builtin.List.listSubscript?
  refine wpAny_bind (wpAny_specialOf hTs slice_no_index ?_)
  simp only [Option.isNone_none, if_true]
  refine wpAny_pure ?_
  show wpAny _ _ (typeOf (.ref sl) >>= _) _ _ s
  refine wpAny_bind (wpAny_typeOf hTs ?_)
  first
    | rw [if_neg (by decide)]
    | refine PySem.W.KFB.if_not (by decide) ?_
  rw [listSliceParts_eq]
  refine wpAny_bind (wpAny_bind (wpAny_field hos hds (x := .none) rfl (wpAny_bind (wpAny_listPart .none ?_))))
  rw [if_neg hstep]
  refine wpAny_bind (wpAny_field hos hds (x := vl) rfl (wpAny_bind (wpAny_listPart pl ?_)))
  refine wpAny_bind (wpAny_field hos hds (x := vu) rfl (wpAny_bind (wpAny_listPart pu (wpAny_pure ?_))))
  first
    | simp only [hsame, Bool.false_eq_true, if_false]
    | refine PySem.W.KFB.if_not hsame ?_
    | (dsimp only
       rw [if_neg (by rw [hsame]; exact Bool.false_ne_true)])
  refine wpAny_bind (m := Builtin.List.listAllItems (.ref b) "must assign iterable to extended slice") ?_
  unfold Builtin.List.listAllItems
  refine wpAny_bind (wpAny_typeOf hb.typeIs ?_)
  first
    | refine PySem.W.KFB.if_so (by decide) ?_
    | rw [if_pos (by decide)]
    | simp only [beq_self_eq_true, Bool.true_or, if_true]
  unfold Builtin.List.listItems
  refine wpAny_bind (wpAny_seqItems e2 rfl (wpAny_pure ?_))
  refine wpAny_bind (wpAny_bind (wpAny_seqItems e rfl (wpAny_pure ?_)))
  refine wpAny_bind (wpAny_of_eq ((sliceIndices_raw (some (a : Int)) (some (c : Int)) none items.size (by simp)).trans (congrArg (pure : Int × Int × Int → Sem (Int × Int × Int)) (bounds_run hac hc))) ?_)
  show wpAny _ _ (if ((1 : Int) == 1) = true then _ else _) _ _ s
  rw [if_pos (by decide)]
  refine wpAny_bind (wpAny_rule ?_)
  first
    | simp only [notLongL hsz, Bool.false_eq_true, if_false]
    | refine PySem.W.KFB.if_not (notLongL hsz) ?_
  first | refine wpAny_bind (wpAny_pure ?_) | skip
  show wpAny _ _ (updateSeq l (fun xs => xs.extract 0 ((a : Int)).toNat ++ new ++ xs.extract (max (a : Int) (c : Int)).toNat xs.size) >>= _) _ _ s
  rw [hmax, Int.toNat_natCast]
  refine wpAny_bind (wpAny_updateSeq (hz := Nat.le_trans (Nat.le_add_right _ _) hsz) (_hz' := hz') e rfl ?_)
  refine wpAny_bind (wpAny_letGo ?_)
  first
    | exact wpAny_bind (wpAny_pure (wpAny_pure ⟨.none, rfl, wpAny_pure h⟩))
    | exact wpAny_pure ⟨.none, rfl, wpAny_pure h⟩
end
section
variable {X : Cx}
end
end L2
namespace Att
open PySem PySem.W PySem.Calls PyProof.Rows
theorem ints_of_wellAll {P : Params} {h : Heap} : ∀ (ns : List Int) (vs : List Value), WellAll P h vs (ns.map WData.int) → IntsAre vs ns := by
  intro ns
  induction ns with
  | nil =>
    intro vs w
    rw [List.map_nil] at w
    cases w
    exact .nil
  | cons n ns ih =>
    intro vs w
    rw [List.map_cons] at w
    cases w with
    | cons a b =>
      cases a
      exact .cons _ _ (ih _ b)
theorem script_of {l : OpenLaw} {n : Nat} (hn : l.most = some n) {P : Params} {h : Heap} {args : List WData} {vals : List Value}
    (hpre : l.row.toRowW.claim.pre args = true) (hwl : WellAll P h vals args) :
    ∃ a vs ns, vals = [Value.ref a] ∧ args = [WData.list (ns.map WData.int)] ∧ h.get? a = some { cls := .type "list", data := .seq vs.toArray } ∧ IntsAre vs ns ∧ ns.length ≤ n := by
  have hsh : WShape.hasAll [] args [.list .int] = true := (pre_splitW hpre).1
  have hc : l.pre.holds [] { args := args } = true := (pre_splitW hpre).2
  obtain ⟨d, r, rfl, h1, h2⟩ := hasAllW_cons hsh
  obtain rfl := hasAllW_nil h2
  obtain ⟨xs, rfl, h3⟩ := hasW_list h1
  obtain ⟨ns, rfl⟩ := items_int h3
  have hlen : ns.length ≤ n := by
    unfold OpenLaw.pre at hc
    have h4 : (WTm.not (.lt (.lit (.int (n : Int))) (.len (.arg 0)))).holds [] { args := [.list (ns.map .int)] } = true := by
      have h4 := (holds_andW hc).1
      rw [hn] at h4
      exact h4
    have h5 := condW_of h4 (w_not (w_lt w_lit (w_len_list (w_arg rfl))))
    rw [List.length_map] at h5
    refine Nat.le_of_not_lt fun q => ?_
    have q' : (n : Int) < ((ns.length : Nat) : Int) := by trivial
    first
      | (rw [decide_eq_true q'] at h5; exact absurd h5 (by decide))
      | (simp at h5; trivial)
  cases hwl with
  | cons w1 w2 =>
    cases w2
    cases w1 with
    | list ho hall => exact ⟨_, _, ns, rfl, rfl, ho, ints_of_wellAll ns _ hall, hlen⟩
theorem post_true (l : OpenLaw) (args : List WData) : l.row.toRowW.claim.post args (.bool true) args = true :=
  postW_of (r := l.row.toRowW) (X := (true == true))
    (show WShape.has [] (.bool true) .bool = true by first | rfl | decide | simp [WShape.has, WShape.arms, WShape.armsAll])
    (show (WTm.eq .res (.lit (.bool true))).value [] { args := args, res := some (.bool true), after := args } = some (.bool (true == true)) from w_eq_bool (w_res rfl) w_lit) rfl
theorem attach_call {l : OpenLaw} {n : Nat} {q : Program} {loose : List Str} {XP : (Str → Option Value) → Heap → Prop} {YP : World → Heap → Prop} {d : DefRec}
    (hn : l.most = some n) (hdf : d.params.defaults = [])
    (call : ∀ (w : World) (s₀ s₁ : Shared) (mg mb : Str → Option Value) (fa : Addr) (o : Obj) (pm cd doc : Value) (a : Addr) (vs : List Value) (ns : List Int),
      Ground q loose [] XP w s₀ mg mb s₁.heap → YP w s₁.heap →
      s₁.heap.get? fa = some o → o.data = .func (docDef d.name d.params d.body d.scope pm cd doc) → s₁.heap.CodeRec cd d.name → mg d.name = some (.ref fa) →
      s₁.heap.get? a = some { cls := .type "list", data := .seq vs.toArray } → IntsAre vs ns → ns.length ≤ n → s₁.gens = #[] →
      codeAny (model l.prog w) callerA (.call (.ref fa) ⟨[.ref a], []⟩) (fun r s' => r = .ok (.ret (.bool true)) ∧ OldK s₁.heap s'.heap ∧ s'.os = s₁.os ∧ AllBare s'.gens) s₁) :
    WalkO q loose XP YP l.row.toRowW d [] (fun f vs => PySem.call f vs) := by
  intro w s₀ s₁ mg mb G Y fa o pm cd doc dV kV ho hd hcd hD hmg hg args vals as hpre hlay hrd hwl hlo
  obtain rfl : dV = .none := Dflts.none hD hdf
  obtain rfl : kV = .none := Dflts.noKw hD
  obtain ⟨a, vs, ns, rfl, rfl, hobj, hints, hlen⟩ := script_of hn hpre hwl
  refine enter_call (codeAny_mono (call w s₀ s₁ mg mb fa o pm cd doc a vs ns G Y ho (fd_plain hd) hcd hmg hobj hints hlen hg) fun r s' hq => ?_)
  obtain ⟨rfl, h2, h3, h4⟩ := hq
  exact ⟨.inl ⟨.bool true, .bool true, [], rfl, fun _ => rfl, .bool true, post_true l _, fun _ => ⟨List.Pairwise.nil, fun _ hm => (nomatch hm)⟩⟩, h2, h3, h4⟩
section
variable {prog : Program} {w : World} {A : Around} {E : Value → Shared → Prop} {s : Shared} {K : Frag}
end
end Att
namespace L2
open PySem PySem.Spec PyProof.Rows
theorem vals_ints : ∀ {vs : List Value} {ns : List Int}, IntsAre vs ns → Vals (ns.map V.int) vs
  | _, _, .nil => .nil
  | _, _, .cons n t h => .cons ⟨t, rfl⟩ (vals_ints h)
noncomputable def Only (H : Hp) : Prop := ∀ b, H b = none ∨ ∃ o xs, H b = some (.frz o (.lst xs))
theorem law_call {P : Program} {w : World} {K : PySem.W.Frag} {mg mb : Str → Option Value} {CX : CXT} {k : Nat} {fa a : Addr} {fd : FuncData} {x : Str} {sp : Sp} {s₁ : Shared} {vs : List Value} {ns : List Int}
    (KX : K.In s₁.heap) (hns : s₁.heap.Ns mainGlobals mg) (hb : s₁.heap.Ns builtinsNs mb) (hbb : ∀ x : Str, x ≠ "__name__" → mb x = bootBuiltins x) (hlim : s₁.heap.NoLimit) (hg : s₁.gens = #[])
    (ha : s₁.heap.get? a = some { cls := .type "list", data := .seq vs.toArray }) (hi : IntsAre vs ns) (hl : ns.length ≤ sizeLine) (hr : Room k callerA)
    (F : ∀ base : Heap, K.In base → base.Ns mainGlobals mg → FnOk P w K mg base CX k fa fd [x] sp) (hbind : ∀ (s : Shared) (u : Value), BindsTo s fd ⟨[u], []⟩ [(x, u)])
    (hsp : ∀ H : Hp, Only H → SqL K H a (ns.map V.int) → sp [.ref a] H (fun v _ => v = .bl true) fun _ _ _ => False)
    (hCX : ∀ H e s', CX [] H s₁ (fun _ _ _ => False) e s' → False) :
    codeAny (model P w) callerA (.call (.ref fa) ⟨[.ref a], []⟩) (fun r s' => r = .ok (.ret (.bool true)) ∧ OldK s₁.heap s'.heap ∧ s'.os = s₁.os ∧ AllBare s'.gens) s₁ := by
  have rv := vals_ints hi
  have lenV := hi.length
  -- from an abstract heap in which nothing but the script may be tracked
  have core : ∀ H : Hp, Only H → SqL K H a (ns.map V.int) → HOk P w H s₁.heap → (∀ b, H b ≠ none → b = a) → (H a ≠ none → K.lookup a = none) →
      codeAny (model P w) callerA (.call (.ref fa) ⟨[.ref a], []⟩) (fun r s' => r = .ok (.ret (.bool true)) ∧ OldK s₁.heap s'.heap ∧ s'.os = s₁.os ∧ AllBare s'.gens) s₁ := by
    intro H hO hS hok hA hK
    have base_of : ∀ {b : Addr} {o : Obj}, s₁.heap.get? b = some o → H b = none → (hidT s₁.heap H).get? b = some o := fun e n => hidT_get e n
    have noA : ∀ {b : Addr} {o : Obj} {es : Array DictEntry} {ep : Nat}, s₁.heap.get? b = some o → o.data = .dict es ep → H b = none := fun {b o es ep} e d => by
      cases q : H b with
      | none => rfl
      | some u =>
        have e' : b = a := hA b (by rw [q]; simp)
        subst e'
        rw [ha] at e; cases e
        have d' : Data.seq vs.toArray _ = Data.dict es ep := d
        cases d'
    have nsK : ∀ {b : Addr} {m : Str → Option Value}, s₁.heap.Ns b m → (hidT s₁.heap H).Ns b m := fun {b m} ⟨o, es, ep, e, d, r⟩ => ⟨o, es, ep, base_of e (noA e d), d, r⟩
    have hKb : K.In (hidT s₁.heap H) := fun b o e => base_of (KX b o e) (by
      cases q : H b with
      | none => rfl
      | some u =>
        have e' : b = a := hA b (by rw [q]; simp)
        subst e'
        rw [hK (by rw [q]; simp)] at e; cases e)
    have hM : Mod K mg (hidT s₁.heap H) := ⟨hKb, nsK hns, ⟨mb, nsK hb, hbb⟩, let ⟨mc, h1, h2⟩ := hlim; ⟨mc, nsK h1, h2⟩⟩
    have e0 : Env0 P w K mg (hidT s₁.heap H) callerA [] s₁ H := ⟨rfl, hM, fun b o e => of_hidT e, Nat.le_of_eq (hidT_size _ _), trivial, fun b hb => absurd (show b ∈ ([] : List Addr) from hb) (by simp), hok, .of_eq hg⟩
    refine codeAny_mono ((F _ hKb (nsK hns)).run callerA [] s₁ H ⟨[.ref a], []⟩ [.ref a] [.ref a] _ _ hr e0 (hbind s₁ (.ref a)) (.cons rfl .nil) (hsp H hO hS)) fun r s' h => ?_
    cases r with
    | error e => exact (hCX H e s' h).elim
    | ok fl =>
      cases fl with
      | next => exact False.elim h
      | brk => exact False.elim h
      | cont => exact False.elim h
      | ret u =>
        obtain ⟨v, H', os, bare, un, hok', r', q⟩ := h
        have q' : v = .bl true := q
        subst q'
        obtain rfl : u = Value.bool true := r'
        refine ⟨rfl, OldK.of_keep fun b o e => ?_, os, bare⟩
        cases q : H b with
        | none => exact un.keep b o e q (by intro z; exact absurd (show b ∈ ([] : List Addr) from z) (by simp)) (by simp)
        | some u =>
          rcases hO b with z | ⟨ob, xs, z⟩
          · rw [q] at z; cases z
          · have z2 := un.frzs b ob _ z
            obtain ⟨e1, _⟩ := hok b _ z
            obtain ⟨e2, _⟩ := hok' b _ z2
            rw [e] at e1; cases e1
            exact e2
  cases hk : K.lookup a with
  | some o =>
    -- the script is one of the module's own objects
    have e := KX a o hk
    rw [ha] at e
    cases e
    refine core (fun _ => none) (fun _ => .inl rfl) (.inr ⟨_, vs.toArray, _, hk, rfl, rfl, rfl, by rw [List.size_toArray, lenV]; exact hl, by simpa using rv⟩) (fun b u z => by have z' : (none : Option HO) = some u := z; cases z') (fun b z => absurd rfl z) fun z => absurd rfl z
  | none =>
    refine core (fun b => if b = a then some (.frz { cls := .type "list", data := .seq vs.toArray } (.lst (ns.map V.int))) else none) (fun b => ?_) (.inl (.inr ⟨{ cls := .type "list", data := .seq vs.toArray }, if_pos rfl⟩)) (fun b u z => ?_) (fun b z => ?_) fun _ => hk
    · by_cases hb : b = a
      · exact .inr ⟨_, _, if_pos hb⟩
      · exact .inl (if_neg hb)
    · by_cases hb : b = a
      · have z' := (if_pos hb).symm.trans z
        cases z'
        subst hb
        exact ⟨ha, by rw [List.length_map]; exact hl, vs, _, rv, ha⟩
      · have z' := (if_neg hb).symm.trans z
        cases z'
    · by_cases hb : b = a
      · exact hb
      · exact absurd (if_neg hb) z
end L2
namespace L2
open PySem PySem.Spec PyProof.Rows
noncomputable abbrev KOf {K : PySem.W.Frag} {h : Heap} (_ : K.In h) : PySem.W.Frag := K
theorem walk_of {l : PySem.W.OpenLaw} {n k : Nat} {q : Program} {loose : List Str} {XP : (Str → Option Value) → Heap → Prop} {YP : World → Heap → Prop} {d : DefRec} {K : Params → PySem.W.Frag} {CX : World → CXT} {sp : World → Sp} {x : Str}
    (hn : l.most = some n) (hn2 : n ≤ sizeLine) (hdf : d.params.defaults = []) (hr : Room k callerA)
    (hY : ∀ (w : World) (h : Heap), YP w h → (K w.params).In h)
    (F : ∀ (w : World) (mg : Str → Option Value) (fa : Addr) (h : Heap), (K w.params).In h → h.Ns mainGlobals mg → mg d.name = some (.ref fa) →
      ∃ fd : FuncData, (∀ (s : Shared) (u : Value), BindsTo s fd ⟨[u], []⟩ [(x, u)]) ∧
        ∀ base : Heap, (K w.params).In base → base.Ns mainGlobals mg → FnOk l.prog w (K w.params) mg base (CX w) k fa fd [x] (sp w))
    (hsp : ∀ (w : World) (H : Hp) (a : Addr) (ns : List Int), ns.length ≤ n → Only H → SqL (K w.params) H a (ns.map V.int) → sp w [.ref a] H (fun v _ => v = .bl true) fun _ _ _ => False)
    (hCX : ∀ (w : World) (H : Hp) (s : Shared) (e : Value) (s' : Shared), CX w [] H s (fun _ _ _ => False) e s' → False) :
    PySem.W.WalkO q loose XP YP l.row.toRowW d [] (fun f vs => PySem.call f vs) := by
  refine Att.attach_call hn hdf fun w s₀ s₁ mg mb fa o pm cd doc a vs ns G Y ho hd hcd hmg hobj hints hlen hg => ?_
  have KX := hY w _ Y
  obtain ⟨fd, hb, hF⟩ := F w mg fa _ KX G.T.g hmg
  exact law_call KX G.T.g G.T.b G.T.builtins G.T.nolimit hg hobj hints (Nat.le_trans hlen hn2) hr hF hb (fun H hO hS => hsp w H a ns hlen hO hS) fun H e s' => hCX w H s₁ e s'
end L2
/- THE LAST THEOREM (shape; LID, My.* are yours):
   My.Adr: a structure of the addresses that your layer names (classes, functions); My.Txt K t: a structure (Prop) of the equations over K;
   My.txt_mk : {K} {implicit addresses ..} (e1 : nsIn K mainGlobals "law" = some (some (.ref f))) (e2 : K.lookup f = some ⟨oc, od, .func (fnOf "law" "law" params body scope dV kV doc pm an cdv ct), sl⟩) (e3 : codeIn K cdv "law" = true) .. : ∃ t, My.Txt K t
set_option maxRecDepth 100000 in
set_option maxHeartbeats 0 in
theorem PySem.Challenge.cw_LID_holds : PySem.Challenge.rw_LID.Holds := by
  w_on; o_law; k_head; (case hw => w_witness2)
  k_fill
  refine L2.walk_of (l := PySem.Challenge.rw_LID) (n := 63) (k := 40) (x := "script") (CX := fun w => ..) (sp := fun _ => My.sp_law) rfl (by decide) rfl ⟨rfl, by decide, by decide⟩ (fun w h Y => PySem.W.kIn_of Y) ?F ?S ?C
  case F =>
    intro w mg fa h KX G hmg
    have T : ∃ t, My.Txt (L2.KOf KX) t := by
      dsimp only [L2.KOf]                          -- K must stand as «<heap const> w.params» for k_is
      refine' My.txt_mk ?e1 ?e2 ?e3 ..
      (case e1 => PySem.W.k_is)                    -- in the order: a name -> its address -> its object -> its parts
      (case e2 => PySem.W.k_is)
      ..
    obtain ⟨t, T⟩ := T
    have e0 := hmg.symm.trans (PySem.W.mg_of KX G T.law)
    cases e0                                       -- fa is the law's own address
    exact ⟨_, fun s u => .of_eq rfl, fun base kb nb => My.law_fn T kb nb⟩     -- if «.of_eq rfl» comes too early: refine' ⟨_, ?b, fun base kb nb => My.law_fn T kb nb⟩; exact fun s u => .of_eq rfl
  case S => exact fun w H a ns hl hO hS => ..
  case C => exact ..
(the tactic k_is has no namespace: write k_is) -/
namespace L2
open PySem PySem.Spec PyProof.Rows
noncomputable def defArgs (s : Stmt) : Arguments := match s with
  | .FunctionDef _ a _ _ _ _ _ _ _ _ => a
  | _ => { posonlyargs := [], args := [], vararg := none, kwonlyargs := [], kw_defaults := [], kwarg := none, defaults := [] }
noncomputable def defBody (s : Stmt) : List Stmt := match s with
  | .FunctionDef _ _ b _ _ _ _ _ _ _ => b
  | _ => []
noncomputable def defScope (s : Stmt) : Scope := match s with
  | .FunctionDef _ _ _ _ _ _ sc _ _ _ => sc
  | _ => { kind := .function, names := [], isGenerator := false, isCoroutine := false }
noncomputable abbrev CX0 : CXT := fun _ _ _ _ _ _ => False
noncomputable abbrev E0 : XK := fun _ _ _ => False
structure Fun (K : PySem.W.Frag) (x qual : Str) (st : Stmt) (f : Addr) (fd : FuncData) : Prop where
  ex : ∃ (oc : Value) (od : Option Addr) (kV doc pm : Value) (an : Option Addr) (cdv ct : Value) (osl : Array (Option Value)),
    fd = PySem.W.fnOf x qual (defArgs st) (defBody st) (defScope st) .none kV doc pm an cdv ct ∧ K.lookup f = some ⟨oc, od, .func fd, osl⟩ ∧ PySem.W.codeIn K cdv qual = true
  kp : PySem.W.keepIn K (.ref f) = true
section
variable {P : Program} {w : World} {K : PySem.W.Frag} {mg : Str → Option Value} {base : Heap}
theorem Fun.ok {x qual : Str} {st : Stmt} {f : Addr} {fd : FuncData} {N ps : List Str} {k : Nat} {sp : Sp} (F : Fun K x qual st f fd) (S : FnScope N ps (defScope st)) (len : ∀ vs H Q E, sp vs H Q E → vs.length = ps.length)
    (hbody : ∀ (cdv : Value) (A : Around) (outer : List Env) (s : Shared) (H : Hp) (vs : List V) (Q : VK) (E : XK), Room k (A.deeper (envOfC qual (defScope st) s.heap.objs.size f cdv)) → sp vs H Q E →
      ∃ t, PSs (cxOf CX0 P w K mg base N qual (defScope st) f cdv A outer s H E).nox (defBody st) t ∧ t { nx := fun _ H' => Q .non H', rt := Q } (start N vs) H) : FnOk P w K mg base CX0 (k + 1) f fd ps sp := by
  obtain ⟨oc, od, kV, doc, pm, an, cdv, ct, osl, rfl, lk, hcd⟩ := F.ex
  refine fn_of lk hcd S len fun A outer s H vs Q E hr hsp => ?_
  obtain ⟨t, h, q⟩ := hbody cdv A outer s H vs Q E hr hsp
  exact ⟨t, h.nox, q⟩
theorem Fun.binds {x qual : Str} {st : Stmt} {f : Addr} {fd : FuncData} {ps : List Str} (F : Fun K x qual st f fd)
    (h : ∀ (kV doc pm : Value) (an : Option Addr) (cdv ct : Value) (us : List Value), us.length = ps.length → bindArgs (PySem.W.fnOf x qual (defArgs st) (defBody st) (defScope st) .none kV doc pm an cdv ct) ⟨us, []⟩ = pure (ps.zip us)) : Binds K fd ps [] := by
  obtain ⟨oc, od, kV, doc, pm, an, cdv, ct, osl, rfl, lk, hcd⟩ := F.ex
  exact .all (h kV doc pm an cdv ct)
theorem fun_mk {x qual : Str} {st : Stmt} {f : Addr} {oc : Value} {od an : Option Addr} {osl : Array (Option Value)} {kV doc pm cdv ct : Value} (l : K.lookup f = some ⟨oc, od, .func (PySem.W.fnOf x qual (defArgs st) (defBody st) (defScope st) .none kV doc pm an cdv ct), osl⟩)
    (c : PySem.W.codeIn K cdv qual = true) (k : PySem.W.keepIn K (.ref f) = true) : Fun K x qual st f (PySem.W.fnOf x qual (defArgs st) (defBody st) (defScope st) .none kV doc pm an cdv ct) := ⟨⟨oc, od, kV, doc, pm, an, cdv, ct, osl, rfl, l, c⟩, k⟩
end
section
variable {X : Cx}
theorem pv (i : Nat) {x : Str} {pos : Pos} (hN : X.N[i]? = some x := by rfl) (hv : Vis X.env.scope x := by first | exact Or.inl rfl | exact Or.inr (Or.inl rfl) | exact Or.inr (Or.inr rfl)) (hd : (x == ("__debug__" : Str)) = false := by decide)
    (hcd : (x == ("__classdict__" : Str)) = false := by decide) : PE X (.Name x pos) (tVar i) := pe_var hN hv hd hcd
end
theorem iteF {A B : Prop} (h : B) : if false = true then A else B := by
  rw [if_neg Bool.false_ne_true]
  exact h
theorem iteT {A B : Prop} (h : A) : if true = true then A else B := by
  rw [if_pos rfl]
  exact h
theorem ite2 {c A B : Prop} [Decidable c] (h1 : c → A) (h2 : ¬ c → B) : if c then A else B := by
  by_cases h : c
  · rw [if_pos h]
    exact h1 h
  · rw [if_neg h]
    exact h2 h
theorem iteNS {c A B : Prop} [Decidable c] (hc : c) (h : B) : if (!decide c) = true then A else B := by
  rw [decide_eq_true hc]
  exact iteF h
noncomputable def Same (H H' : Hp) : Prop := ∀ b o, H b = some o → H' b = some o
theorem Same.refl (H : Hp) : Same H H := fun _ _ h => h
theorem Same.trans {H H1 H2 : Hp} (a : Same H H1) (b : Same H1 H2) : Same H H2 := fun c o h => b c o (a c o h)
theorem Same.free {H H' : Hp} (e : Same H H') {l : Addr} (h : H' l = Option.none) : H l = Option.none := by
  cases q : H l with
  | none => rfl
  | some o =>
    rw [e l o q] at h
    cases h
theorem Same.seq {K : PySem.W.Frag} {H H' : Hp} {a : Addr} {xs : List V} (e : Same H H') (h : SqL K H a xs) : SqL K H' a xs := by
  rcases h with (h | ⟨o, h⟩) | h
  · exact .inl (.inl (e _ _ h))
  · exact .inl (.inr ⟨o, e _ _ h⟩)
  · exact .inr h
end L2
set_option Elab.async false
set_option linter.all false
set_option maxRecDepth 100000
namespace L2
open PySem PySem.Spec PyProof.Rows
noncomputable def clos (cells : List (Str × Addr)) : List (Str × NameKind) → List (Str × Addr) → List (Str × Addr)
  | [], cs => cs
  | (n, k) :: r, cs => if (k == NameKind.free) = true then (match cells.lookup n with | some c => clos cells r ((n, c) :: cs) | none => clos cells r cs) else clos cells r cs
theorem clos_for {env : Env} : ∀ (l : List (Str × NameKind)) (cs : List (Str × Addr)), (∀ x ∈ l, x.2 = .free → ∃ c, env.cells.lookup x.1 = some c) →
    (forIn (m := Sem) l cs fun x r => match x with
      | (name, kind) => if (kind == NameKind.free) = true then do let c ← cellOf env name; pure (ForInStep.yield ((name, c) :: r)) else pure (ForInStep.yield r)) = pure (clos env.cells l cs)
  | [], cs, _ => by rfl
  | (n, k) :: r, cs, h => by
    have ih := fun cs => clos_for r cs fun x hx => h x (List.mem_cons_of_mem _ hx)
    rw [List.forIn_cons]
    unfold clos
    by_cases hk : (k == NameKind.free) = true
    · obtain ⟨c, hc⟩ := h (n, k) List.mem_cons_self (by simpa using hk)
      have hc' : env.cells.lookup n = some c := hc
      simp only [hk, if_true, hc']
      have e : cellOf env n = pure c := by unfold cellOf; rw [hc']
      rw [e]
      simp only [pure_bind]
      exact ih _
    · have hk' : (k == NameKind.free) = false := by simpa using hk
      simp only [hk', Bool.false_eq_true, if_false, pure_bind]
      exact ih _
theorem clos_eq {scope : Scope} {env : Env} (h : ∀ x ∈ scope.names, x.2 = .free → ∃ c, env.cells.lookup x.1 = some c) : closureFor scope env = pure (clos env.cells scope.names []) := by
  unfold closureFor
  have := clos_for (env := env) scope.names [] h
  simp only [this, pure_bind]
theorem clos_sub {cells : List (Str × Addr)} {x : Str} {c : Addr} : ∀ (l : List (Str × NameKind)) (cs : List (Str × Addr)), (∀ y d, cs.lookup y = some d → cells.lookup y = some d) → (clos cells l cs).lookup x = some c → cells.lookup x = some c
  | [], cs, h, e => h x c e
  | (n, k) :: r, cs, h, e => by
    unfold clos at e
    split at e
    · split at e
      · rename_i d hd
        refine clos_sub r _ (fun y z q => ?_) e
        rw [List.lookup_cons] at q
        split at q
        · rename_i hy
          cases q
          rw [eq_of_beq hy]; exact hd
        · exact h y z q
      · exact clos_sub r cs h e
    · exact clos_sub r cs h e
theorem clos_keep {cells : List (Str × Addr)} {x : Str} : ∀ (l : List (Str × NameKind)) (cs : List (Str × Addr)), (∃ c, cs.lookup x = some c) → ∃ c, (clos cells l cs).lookup x = some c
  | [], cs, h => h
  | (n, k) :: r, cs, h => by
    unfold clos
    split
    · split
      · refine clos_keep r _ ?_
        rw [List.lookup_cons]
        split
        · exact ⟨_, rfl⟩
        · exact h
      · exact clos_keep r cs h
    · exact clos_keep r cs h
theorem clos_has {cells : List (Str × Addr)} {x : Str} : ∀ (l : List (Str × NameKind)) (cs : List (Str × Addr)), (x, NameKind.free) ∈ l → (∃ c, cells.lookup x = some c) → ∃ c, (clos cells l cs).lookup x = some c
  | [], _, h, _ => nomatch h
  | (n, k) :: r, cs, h, ⟨c, hc⟩ => by
    unfold clos
    rcases List.mem_cons.mp h with e | h
    · cases e
      rw [if_pos (by rfl), hc]
      refine clos_keep r _ ⟨c, ?_⟩
      simp [List.lookup_cons]
    · split
      · split
        · exact clos_has r _ h ⟨c, hc⟩
        · exact clos_has r _ h ⟨c, hc⟩
      · exact clos_has r _ h ⟨c, hc⟩
theorem relabel_free {env : Env} : ∀ {names : List (Str × NameKind)} {x : Str}, names.lookup x = some .free →
    (names.map fun (n, k) => if (k == NameKind.free && env.scope.kind == .function && env.kindOf n == some .cell) then (n, NameKind.cell) else (n, k)).lookup x = some .cell ∨
    (names.map fun (n, k) => if (k == NameKind.free && env.scope.kind == .function && env.kindOf n == some .cell) then (n, NameKind.cell) else (n, k)).lookup x = some .free
  | [], _, h => by simp at h
  | (n, k) :: r, x, h => by
    have ih := @relabel_free env r x
    by_cases hc : (k == NameKind.free && env.scope.kind == .function && env.kindOf n == some .cell) = true
    · simp only [List.map_cons, if_pos hc, List.lookup_cons]
      cases hx : x == n with
      | true => exact .inl rfl
      | false =>
        simp only [List.lookup_cons, hx] at h
        exact ih h
    · simp only [List.map_cons, if_neg hc, List.lookup_cons]
      cases hx : x == n with
      | true =>
        simp only [List.lookup_cons, hx] at h
        cases h
        exact .inr rfl
      | false =>
        simp only [List.lookup_cons, hx] at h
        exact ih h
theorem relabel_back {env : Env} : ∀ {names : List (Str × NameKind)} {x : Str}, (∀ y ∈ names, y.2 ≠ .cell) →
    ((names.map fun (n, k) => if (k == NameKind.free && env.scope.kind == .function && env.kindOf n == some .cell) then (n, NameKind.cell) else (n, k)).lookup x = some .cell ∨
    (names.map fun (n, k) => if (k == NameKind.free && env.scope.kind == .function && env.kindOf n == some .cell) then (n, NameKind.cell) else (n, k)).lookup x = some .free) → (x, NameKind.free) ∈ names
  | [], _, _, h => by simp at h
  | (n, k) :: r, x, hn, h => by
    have ih := @relabel_back env r x fun y hy => hn y (List.mem_cons_of_mem _ hy)
    by_cases hc : (k == NameKind.free && env.scope.kind == .function && env.kindOf n == some .cell) = true
    · simp only [List.map_cons, if_pos hc, List.lookup_cons] at h
      have hk : k = .free := by
        simp only [Bool.and_eq_true] at hc
        exact eq_of_beq hc.1.1
      cases hx : x == n with
      | true => rw [eq_of_beq hx, hk]; exact List.mem_cons_self
      | false =>
        simp only [hx] at h
        exact List.mem_cons_of_mem _ (ih h)
    · simp only [List.map_cons, if_neg hc, List.lookup_cons] at h
      cases hx : x == n with
      | true =>
        simp only [hx] at h
        rcases h with h | h
        · have e : k = .cell := Option.some.inj h
          exact absurd e (hn (n, k) List.mem_cons_self)
        · have e : k = .free := Option.some.inj h
          rw [eq_of_beq hx, e]; exact List.mem_cons_self
      | false =>
        simp only [hx] at h
        exact List.mem_cons_of_mem _ (ih h)
noncomputable def compCx (X : Cx) (N : List Str) (scope : Scope) (C : Addr) (s : Shared) (H : Hp) (fp : List Addr) : Cx where
  prog := X.prog
  w := X.w
  K := X.K
  mg := X.mg
  base := X.base
  A := X.A
  N := N
  s₀ := s
  H₀ := H
  env := compEnvC scope (clos X.env.cells scope.names []) C X.env
  outer := X.stack
  stack := X.stack
  ex := fp
  fn := fun _ => false
  calm := X.calm
  pn := []
  xe := fun _ _ => False
structure CompScope (X : Cx) (N : List Str) (js : List (Option Nat)) (scope : Scope) : Prop where
  kind : scope.kind = .function
  nocell : ∀ y ∈ scope.names, y.2 ≠ .cell
  locs : ∀ y ∈ scope.names, y.2 = .local → scope.names.lookup y.1 = some .local
  free : ∀ y ∈ scope.names, y.2 = .free → X.env.kindOf y.1 = some .cell ∨ X.env.kindOf y.1 = some .free
  len : js.length = N.length
  js : ∀ (i j : Nat) (x : Str), js[i]? = some (some j) → N[i]? = some x → X.N[j]? = some x ∧ scope.names.lookup x = some .free
noncomputable def innerSt (js : List (Option Nat)) (σ : St) : St := js.map fun j => (j.bind fun j => σ[j]?).join
section
variable {X : Cx} {pins : List (Addr × Obj)} {σ : St} {H : Hp} {s : Shared} {N : List Str} {js : List (Option Nat)} {scope : Scope} {fp : List Addr} {C D : Addr} {h₁ : Heap} {m : Str → Option Value} {tk : Nat}
theorem lookup_mem {α β : Type} [BEq α] [LawfulBEq α] {x : α} {y : β} : ∀ {l : List (α × β)}, l.lookup x = some y → (x, y) ∈ l
  | [], h => by simp at h
  | (a, b) :: r, h => by
    rw [List.lookup_cons] at h
    split at h
    · rename_i hx
      cases h
      rw [eq_of_beq hx]; exact List.mem_cons_self
    · exact List.mem_cons_of_mem _ (lookup_mem h)
theorem inv_comp (S : CompScope X N js scope) (I : Inv X pins σ H s) (f2 : ∀ b ∈ fp, FpOk X pins H b) (hfp : ∀ b ∈ fp, b < s.heap.objs.size) (keep : ∀ b o, s.heap.get? b = some o → h₁.get? b = some o)
    (hD0 : s.heap.objs.size ≤ D) (hC0 : s.heap.objs.size ≤ C) (hDC : D ≠ C) (hD : ∃ n, h₁.get? D = some { cls := .type "list", data := .seq ([] : List Value).toArray n }) (hns : h₁.Ns C m) :
    Inv (compCx X N scope C s H fp) [] (innerSt js σ) (upd H D (.lst [])) { s with heap := h₁, toks := tk } := by
  have hc : ∀ x ∈ scope.names, x.2 = .free → ∃ c, X.env.cells.lookup x.1 = some c := fun x hx e => I.ok.has _ (S.free x hx e)
  have sub : ∀ x c, (clos X.env.cells scope.names []).lookup x = some c → X.env.cells.lookup x = some c := fun x c e => clos_sub _ _ (fun _ _ z => by simp at z) e
  have clt : ∀ x c, X.env.cells.lookup x = some c → c < s.heap.objs.size := fun x c e => by obtain ⟨v, q⟩ := I.cell x c e; exact q.lt
  have hasF : ∀ x, (x, NameKind.free) ∈ scope.names → ∃ c, (clos X.env.cells scope.names []).lookup x = some c := fun x hx => clos_has _ _ hx (hc (x, .free) hx rfl)
  have fD : H D = none := I.hok.fresh hD0
  have fC : H C = none := I.hok.fresh hC0
  refine ⟨⟨I.ok.mod, S.kind, I.ok.glob, I.ok.blt, hC0, fun x y c h1 h2 => I.ok.inj x y c (sub _ _ h1) (sub _ _ h2), fun x hx => ?_, fun x c h _ => (Bool.noConfusion h), I.ok.hd, I.ok.frames, .inl rfl, fun b hb => ⟨?_, fun x c e => (f2 b hb).2.2.2.2.1 x c (sub _ _ e)⟩, I.bs,
      Nat.le_trans I.ok.bsz I.sz, fun b o e hb => ?_, fun b hb z => ?_, I.stack, I.stkFree⟩,
    rfl, I.bare, Un.laid keep hD0 fD, ⟨m, hns, fun i x v h1 h2 h3 => ?_⟩, fun x c e => ?_, ?_, fun x c e => ?_, fun p hp => absurd hp (by simp [compCx]), I.hok.laid keep hD0 ?_, ?_⟩
  · exact hasF x (relabel_back S.nocell hx)
  · exact Nat.ne_of_lt (Nat.lt_of_lt_of_le (hfp b hb) hC0)
  · rcases (f2 b hb).2.2.2.1 with q | q
    · exact I.ok.noex b o e q
    · exact absurd (Nat.lt_of_lt_of_le (Heap.lt_size e) (Nat.le_trans I.ok.bsz q)) (Nat.lt_irrefl _)
  · rcases List.mem_cons.mp (I.stkSub b z) with q | q
    · exact (f2 b hb).2.1 q
    · exact (f2 b hb).2.2.1 q
  · have h2' : (js[i]?.map fun j => (j.bind fun j => σ[j]?).join) = some (some v) := by rw [← List.getElem?_map]; exact h2
    cases ej : js[i]? with
    | none => rw [ej] at h2'; cases h2'
    | some j =>
      rw [ej] at h2'
      cases j with
      | none => simp at h2'
      | some j =>
        have e2 : σ[j]? = some (some v) := by
          simp only [Option.map_some, Option.bind_some, Option.some.injEq] at h2'
          cases q : σ[j]? with
          | none => rw [q] at h2'; simp at h2'
          | some z => rw [q] at h2'; simp at h2'; rw [h2']
        obtain ⟨n1, n2⟩ := S.js i j x ej h1
        have hx := lookup_mem n2
        have hk := S.free _ hx rfl
        obtain ⟨m0, _, hl⟩ := I.loc
        obtain ⟨u, r, l⟩ := hl j x v n1 e2 (hk.elim (fun z => .inr (.inl z)) fun z => .inr (.inr z))
        refine ⟨u, r, ?_⟩
        rcases l with ⟨k, _⟩ | ⟨_, c, e, z⟩
        · have k' : X.env.kindOf x = some .local := k
          rcases hk with q | q <;> (rw [show X.env.kindOf x = _ from q] at k'; cases k')
        · obtain ⟨c', e'⟩ := hasF x hx
          have := sub _ _ e'
          rw [e] at this; cases this
          exact .inr ⟨relabel_free n2, c, e', z.keeps keep⟩
  · obtain ⟨v, q⟩ := I.cell x c (sub _ _ e)
    exact ⟨v, q.keeps keep⟩
  · show upd H D _ C = none
    rw [upd_ne (Ne.symm hDC)]; exact fC
  · show upd H D _ c = none
    have hlt := clt x c (sub _ _ e)
    rw [upd_ne (Nat.ne_of_lt (Nat.lt_of_lt_of_le hlt hD0))]
    exact I.freeC x c (sub _ _ e)
  · obtain ⟨n, hD⟩ := hD
    exact ⟨Nat.zero_le _, [], n, .nil, hD⟩
  · show (innerSt js σ).length = N.length
    unfold innerSt
    rw [List.length_map, S.len]
end
noncomputable def PIfs (X : Cx) (ifs : List Expr) (t : TT) : Prop :=
  ∀ (pins : List (Addr × Obj)) (s : Shared) (σ : St) (H : Hp) (Q : Bool → Hp → Prop), Inv X pins σ H s → t σ H Q →
    wpAny (model X.prog X.w) X.A (forIn ifs true fun c r => if r = true then do let ok ← isTrue c X.env (eval c X.env); pure (ForInStep.yield ok) else pure (ForInStep.yield r)) (TP X pins σ Q) X.xe s
noncomputable def tTrue : TT := fun _ H Q => Q true H
theorem pif_nil {X : Cx} : PIfs X [] tTrue := fun _ _ _ H _ I h => wpAny_tests_nil ⟨H, I, h⟩
theorem pif_one {X : Cx} {c : Expr} {t : TT} (h : PT X c t) : PIfs X [c] t := fun pins s σ H Q I hw => wpAny_tests_one (h pins s σ H Q I hw)
theorem compLoop_gen {prog : Program} {w : World} {A : Around} {R : Result → Shared → Prop} {s : Shared} {elt target iter : Expr} {ifs : List Expr} {scope : Scope} {pos : Pos} {it acc : Value} {env : Env} (I : Nat → Shared → Prop)
    (turn : ∀ n s, I n s → wpAny (model prog w) A (pyNext it) (fun r s₁ => match r with
      | none => R (.ok .next) s₁
      | some v => wpAny (model prog w) A (letOwnedTupleGo target it v) (fun _ s₁' => wpAny (model prog w) A (assign target env v) (fun _ s₂ =>
          wpAny (model prog w) A (forIn ifs true fun c r => if r = true then do let ok ← isTrue c env (eval c env); pure (ForInStep.yield ok) else pure (ForInStep.yield r)) (fun ok s₃ =>
            if ok = true then wpAny (model prog w) A (eval elt env) (fun x s₄ =>
              wpAny (model prog w) A (call (.builtin "list.append") [acc, x]) (fun _ s₅ => ∃ m, m < n ∧ I m s₅) (fun _ _ => False) s₄) (fun _ _ => False) s₃
            else ∃ m, m < n ∧ I m s₃) (fun _ _ => False) s₂) (fun _ _ => False) s₁') (fun _ _ => False) s₁) (fun _ _ => False) s)
    (n : Nat) (h : I n s) :
    codeAny (model prog w) A (.compLoop (.ListComp elt [⟨target, iter, ifs, 0⟩] scope pos) 0 it acc env) R s := by
  refine codeAny_loop rfl I (fun n s hI => ?_) n h
  show wpAny _ A ((compTurn (.ListComp elt [⟨target, iter, ifs, 0⟩] scope pos) 0 it acc env).onRaise (fun x => do noteFrame x env; theTreesLotGoes x)) _ _ s
  refine wpAny_noted ?_
  rw [compTurn_list]
  refine wpAny_bind (wpAny_standAt (wpAny_bind (wpAny_mono (turn n s hI) (fun r s₁ h₁ => ?_) fun _ _ h' => h'.elim)))
  cases r with
  | none => exact wpAny_pure h₁
  | some v =>
    refine wpAny_bind (wpAny_mono h₁ (fun _ s₁' h₁' => ?_) fun _ _ h' => h'.elim)
    refine wpAny_bind (wpAny_mono h₁' (fun _ s₂ h₂ => wpAny_bind (wpAny_mono h₂ (fun ok s₃ h₃ => ?_) fun _ _ h' => h'.elim)) fun _ _ h' => h'.elim)
    cases ok with
    | false => exact wpAny_pure ⟨rfl, h₃⟩
    | true =>
      exact wpAny_bind (wpAny_bind (wpAny_mono h₃ (fun x s₄ h₄ => wpAny_bind (wpAny_mono h₄ (fun _ s₅ h₅ => wpAny_pure (wpAny_pure ⟨rfl, h₅⟩)) fun _ _ h' => h'.elim)) fun _ _ h' => h'.elim))
noncomputable def tComp (js : List (Option Nat)) (wi : TI) (g : TG) (tc : TT) (te : TE) : TE := fun σ H Q =>
  wi σ H fun J H1 => ∀ D, H1 D = none → ∃ W : Nat → Nat → St → Hp → Prop, (∃ m, W 0 m (innerSt js σ) (upd H1 D (.lst []))) ∧
    ∀ i m σ' H', W i m σ' H' → (J.stop i H' ∧ Q (.ref D) H') ∨ (J.go i H' ∧ ∀ x H2, J.yld i H' x H2 → g x σ' H2 fun σ2 H3 => tc σ2 H3 fun b H4 =>
      if b = true then te σ2 H4 fun v H5 => rAppend (.ref D) [v] H5 fun _ H6 => ∃ m', m' < m ∧ W (i + 1) m' σ2 H6 else ∃ m', m' < m ∧ W (i + 1) m' σ2 H4)
theorem pe_comp {X : Cx} {elt tg iter : Expr} {ifs : List Expr} {scope : Scope} {pos : Pos} {N : List Str} {js : List (Option Nat)} {wi : TI} {g : TG} {tc : TT} {te : TE} (hcalm : X.calm = true) (S : CompScope X N js scope)
    (hi : PI X tg iter wi) (hg : ∀ C s H fp, PG (compCx X N scope C s H fp) tg g) (ht : ∀ C s H fp, PIfs (compCx X N scope C s H fp) ifs tc) (he : ∀ C s H fp, PE (compCx X N scope C s H fp) elt te)
    (hs : ∀ x, foldedSetIterable iter X.env x = pure x := by intro _; rfl) : PE X (.ListComp elt [⟨tg, iter, ifs, 0⟩] scope pos) (tComp js wi g tc te) := by
  intro pins s σ H Q I h
  have hc : ∀ x ∈ scope.names, x.2 = .free → ∃ c, X.env.cells.lookup x.1 = some c := fun x hx e => I.ok.has _ (S.free x hx e)
  rw [eval_ListComp]
  refine wpAny_comprehension_free (use := none) rfl hs (clos_eq hc) S.kind S.locs (thn (hi pins s σ H _ I h) fun v s1 h1 => thn h1 fun itv s2 h2 => ?_)
  obtain ⟨it, fp, tn, J, H2, e, I2, T, st2, f2, q⟩ := h2
  subst e
  refine wpAny_newObj_type (wpAny_newFunctionEnv S.nocell (by intro y hy; simp at hy) (fun h₁ hns₁ hsb₁ => ?_) S.kind)
  dsimp only at hns₁ hsb₁ ⊢
  generalize hH2 : s2.heap.push { cls := .type "list", dict := none, data := .seq ([] : List Value).toArray } = G2 at hns₁ hsb₁ ⊢
  have hC : G2.objs.size = s2.heap.objs.size + 1 := by rw [← hH2, Heap.size_push]
  have hDC : s2.heap.objs.size ≠ G2.objs.size := by rw [hC]; exact Nat.ne_of_lt (Nat.lt_succ_self _)
  have hC0 : s2.heap.objs.size ≤ G2.objs.size := by rw [hC]; exact Nat.le_succ _
  have below : ∀ b, b < s2.heap.objs.size → b ≠ G2.objs.size := fun b hb => by rw [hC]; exact Nat.ne_of_lt (Nat.lt_succ_of_lt hb)
  have old : ∀ b o, s2.heap.get? b = some o → h₁.get? b = some o := fun b o e => hsb₁.extBut b o (below b (Heap.lt_size e)) (Heap.get?_push_of_some _ (hH2 ▸ Heap.get?_push_of_some _ e))
  have hacc : h₁.get? s2.heap.objs.size = some { cls := .type "list", data := .seq ([] : List Value).toArray } := hsb₁.extBut _ _ hDC (Heap.get?_push_of_some _ (hH2 ▸ Heap.get?_push_size _ rfl))
  have hfp : ∀ b ∈ fp, b < s2.heap.objs.size := fun b hb => by obtain ⟨o, e, _⟩ := T.obj 0 _ st2 b hb; exact Heap.lt_size e
  obtain ⟨W, ⟨m0, w0⟩, turn⟩ := q s2.heap.objs.size (I2.hok.fresh (Nat.le_refl _))
  have stat : ∀ {H' : Hp}, (∀ b ∈ fp, H' b = none) → ∀ b ∈ fp, FpOk (compCx X N scope G2.objs.size s2 H2 fp) [] H' b := fun {H'} hn b hb =>
    ⟨hn b hb, below b (hfp b hb), fun z => by
      rcases List.mem_cons.mp (I2.stkSub b z) with q | q
      · exact (f2 b hb).2.1 q
      · exact (f2 b hb).2.2.1 q, .inl hb, fun x c e => (f2 b hb).2.2.2.2.1 x c (clos_sub _ _ (fun _ _ z => by simp at z) e), fun p hp => absurd hp (by simp [compCx])⟩
  have loop : ∀ s3 : Shared, s3 = { s2 with heap := h₁, toks := s2.toks + ([] : List (Str × Value)).length } →
      codeAny (model X.prog X.w) X.A (.compLoop (.ListComp elt [⟨tg, iter, ifs, 0⟩] scope pos) 0 (.ref it) (.ref s2.heap.objs.size) (compEnvC scope (clos X.env.cells scope.names []) G2.objs.size X.env))
        (compPost (model X.prog X.w) X.A X.xe none (EP X pins σ Q) (.ref s2.heap.objs.size) G2.objs.size) s3 := by
    rintro s3 rfl
    have I3 : Inv (compCx X N scope G2.objs.size s2 H2 fp) [] (innerSt js σ) (upd H2 s2.heap.objs.size (.lst [])) { s2 with heap := h₁, toks := s2.toks + ([] : List (Str × Value)).length } :=
      inv_comp S I2 f2 hfp old (Nat.le_refl _) hC0 hDC ⟨_, hacc⟩ hns₁
    refine compLoop_gen (fun n s' => ∃ i σ' H', Inv (compCx X N scope G2.objs.size s2 H2 fp) [] σ' H' s' ∧ tn i s'.heap ∧ (∀ b ∈ fp, H' b = none) ∧ W i n σ' H') ?_ m0
      ⟨0, _, _, I3, T.keep 0 _ _ st2 fun b _ o e => old b o e, fun b hb => by rw [upd_ne (Nat.ne_of_lt (hfp b hb))]; exact (f2 b hb).1, w0⟩
    rintro n s4 ⟨i, σ4, H4, I4, st4, fr4, w4⟩
    rcases turn i n σ4 H4 w4 with ⟨stop, qn⟩ | ⟨go, step⟩
    · refine thn (T.done (compCx X N scope G2.objs.size s2 H2 fp) rfl rfl rfl hcalm i [] s4 σ4 H4 (fun _ _ => False) I4 (stat fr4) st4 stop) fun r s5 ⟨hr, I5⟩ => ?_
      subst hr
      obtain ⟨m5, n5, _⟩ := I5.loc
      refine ⟨m5, n5, fun h' sb => ?_⟩
      have hos : s5.os = s2.os := I5.os
      obtain ⟨hh, gg, dd, tt, os5⟩ := s5
      obtain rfl : os5 = s2.os := hos
      have un : Un (frs X.stack) fp H2 H4 s2.heap h' := by
        have u := I5.base
        have nC : ∀ b o, s2.heap.get? b = some o → b ≠ G2.objs.size := fun b o e => below b (Heap.lt_size e)
        exact ⟨fun b o e n hf hx => sb.extBut b o (nC b o e) (u.keep b o e n hf hx), fun b o e n hf hx => by
            obtain ⟨sl, z⟩ := u.slot b o e n hf hx
            exact ⟨sl, sb.extBut b _ (nC b o e) z⟩, u.free, fun b o e hx => by
            obtain ⟨o', z⟩ := u.there b o e hx
            exact ⟨o', sb.extBut b _ (nC b o e) z⟩, u.tups, u.frzs, u.tbls⟩
      have hok : HOk X.prog X.w H4 h' := fun b ob e => (I5.hok b ob e).stay (fun c v hcv z => sb.extBut c v (fun q => by
        rcases hcv with hcv | hcv
        · rw [← hcv, q] at e
          have := I5.free
          have this' : H4 G2.objs.size = none := this
          rw [e] at this'; cases this'
        · rw [q] at hcv
          have this' : H4 G2.objs.size = none := I5.free
          rw [hcv] at this'; cases this') z) (fun _ z => z) fun _ _ z => z
      have IE := I2.call (h' := h') (g' := gg) (d' := dd) (t' := tt) (ch := fp) un hok I5.bare fun b hb => ⟨(f2 b hb).2.2.2.1, (f2 b hb).2.1, (f2 b hb).2.2.2.2.1, (f2 b hb).2.2.2.2.2⟩
      exact ⟨.ref s2.heap.objs.size, H4, IE, rfl, qn⟩
    · refine thn (T.item (compCx X N scope G2.objs.size s2 H2 fp) rfl rfl rfl hcalm i [] s4 σ4 H4 (fun _ _ => False) I4 (stat fr4) st4 go) fun r s5 ⟨u, hr, h5⟩ => ?_
      subst hr
      refine thn h5 fun _ s6 ⟨x, H6, I6, r6, y6, st6, fr6⟩ => ?_
      have I6' := I6.pinned (stat fr6) (T.obj _ _ st6)
      refine thn (hg _ _ _ _ _ s6 σ4 H6 x u _ I6' r6 (step x H6 y6)) fun _ s7 ⟨σ7, H7, I7, q7⟩ => ?_
      refine thn (ht _ _ _ _ _ s7 σ7 H7 _ I7 q7) fun b s8 ⟨H8, I8, q8⟩ => ?_
      have again : ∀ {s9 : Shared} {H9 : Hp}, Inv (compCx X N scope G2.objs.size s2 H2 fp) ([] ++ pinsAt fp s6.heap) σ7 H9 s9 → (∃ m', m' < n ∧ W (i + 1) m' σ7 H9) → ∃ m, m < n ∧ ∃ i σ' H', Inv (compCx X N scope G2.objs.size s2 H2 fp) [] σ' H' s9 ∧ tn i s9.heap ∧ (∀ b ∈ fp, H' b = none) ∧ W i m σ' H' := fun {s9 H9} I9 ⟨m', hm, w9⟩ => by
        refine ⟨m', hm, i + 1, σ7, H9, I9.unpinned, T.keep _ _ _ st6 fun b hb o e => (I9.pin (b, o) (List.mem_append_right _ (List.mem_append_right _ (mem_pinsAt hb e)))).1, fun b hb => ?_, w9⟩
        obtain ⟨o, e, d⟩ := T.obj _ _ st6 b hb
        exact (I9.pin (b, o) (List.mem_append_right _ (List.mem_append_right _ (mem_pinsAt hb e)))).2.1
      cases b with
      | false =>
        rw [if_neg Bool.false_ne_true] at q8 ⊢
        exact again I8 q8
      | true =>
        rw [if_pos rfl] at q8 ⊢
        refine thn (he _ _ _ _ _ s8 σ7 H8 _ I8 q8) fun xv s9 ⟨xx, H9, I9, r9, q9⟩ => ?_
        refine thn (mt_append _ s9 σ7 H9 (.ref s2.heap.objs.size) [xx] (.ref s2.heap.objs.size) [xv] _ I9 rfl (.cons r9 .nil) q9) fun _ s10 ⟨_, H10, I10, _, q10⟩ => ?_
        exact again I10 q10
  exact codeAny_compStart_list (loop _ rfl) (T.self _ _ _ _ _ (T.keep 0 _ _ st2 fun b _ o e => old b o e) (loop _ rfl))
end L2
set_option Elab.async false
set_option linter.all false
set_option maxRecDepth 100000
namespace L2
open PySem PySem.Spec PyProof.Rows
noncomputable def CXW (P : Program) (w : World) : CXT := fun outer H s E e s' => ∃ (a : Addr) (cls a0 : Value) (H' : Hp) (B : Heap), e = .ref a ∧ s'.os = s.os ∧ AllBare s'.gens ∧ Un (frs outer) [] H H' s.heap s'.heap ∧ HOk P w H' B ∧
  Heap.FlyingW B outer a cls a0 s'.heap ∧ (∀ b o, s.heap.get? b = some o → H b = none → b ∉ frs outer → B.get? b = some o) ∧ (∀ b o, s.heap.get? b = some o → b ∉ frs outer → ∃ o', B.get? b = some o') ∧ E cls none H'
theorem passN {P : Program} {w : World} {X : Cx} : Passes (CXW P w) X E0 := fun _ _ _ _ _ _ _ h => by
  obtain ⟨_, _, _, _, _, _, _, _, _, _, _, _, _, hE⟩ := h
  exact hE.elim
theorem mem_frs {env : Env} {L b : Addr} {outer : List Env} (hf : env.frame = some L) : b ∈ frs (env :: outer) ↔ b = L ∨ b ∈ frs outer := by
  unfold frs
  rw [List.filterMap_cons, hf]
  exact List.mem_cons
section
variable {P : Program} {w : World} {K : PySem.W.Frag} {mg : Str → Option Value} {base : Heap} {N : List Str} {qual : Str} {scope : Scope} {f : Addr} {cd : Value} {A : Around} {outer : List Env} {s : Shared} {H : Hp} {E : XK}
  {pins : List (Addr × Obj)} {σ : St} {H1 : Hp} {s1 : Shared}
theorem cxw_out (I : Inv (cxOf (CXW P w) P w K mg base N qual scope f cd A outer s H E) pins σ H1 s1) {a : Addr} {cls a0 : Value} {H' : Hp} {B : Heap} {s2 : Shared}
    (hos : s2.os = s1.os) (hb : AllBare s2.gens) (hokB : HOk P w H' B) (hfl : Heap.FlyingW B outer a cls a0 s2.heap)
    (keepB : ∀ b o, s1.heap.get? b = some o → H1 b = none → b ∉ frs (envOfC qual scope s.heap.objs.size f cd :: outer) → B.get? b = some o)
    (thereB : ∀ b o, s1.heap.get? b = some o → b ∉ frs (envOfC qual scope s.heap.objs.size f cd :: outer) → ∃ o', B.get? b = some o')
    (up : ∀ b o, s1.heap.get? b = some o → (∀ vs, o.data ≠ .fields vs) → b ∈ frs outer → H1 b = none → ∃ sl, s2.heap.get? b = some { o with slots := sl })
    (free1 : ∀ b o, s1.heap.get? b = some o → H1 b = none → H' b = none)
    (tups : ∀ b xs, H1 b = some (.tup xs) → H' b = some (.tup xs)) (frzs : ∀ b o u, H1 b = some (.frz o u) → H' b = some (.frz o u)) (tbls : ∀ b ps, H1 b = some (.tbl ps) → ∃ more, H' b = some (.tbl (ps ++ more)))
    (hE : E cls none H') : CXW P w outer H s E (.ref a) s2 := by
  have u := I.base
  have notL : ∀ b o, s.heap.get? b = some o → b ∉ frs outer → b ∉ frs (envOfC qual scope s.heap.objs.size f cd :: outer) := fun b o e nf z => by
    rcases (mem_frs (env := envOfC qual scope s.heap.objs.size f cd) rfl).mp z with q | q
    · rw [q] at e; exact absurd (Heap.lt_size e) (Nat.lt_irrefl _)
    · exact nf q
  have inB : ∀ b o, s.heap.get? b = some o → H b = none → b ∉ frs outer → B.get? b = some o := fun b o e n nf =>
    keepB b o (u.keep b o e n nf (by simp [cxOf])) (u.free b o e n (by simp [cxOf])) (notL b o e nf)
  have thB : ∀ b o, s.heap.get? b = some o → b ∉ frs outer → ∃ o', B.get? b = some o' := fun b o e nf => by
    obtain ⟨o1, e1⟩ := u.there b o e (by simp [cxOf])
    exact thereB b o1 e1 (notL b o e nf)
  have sl : ∀ b o, s.heap.get? b = some o → H b = none → b ∈ frs outer → ∃ sl, s2.heap.get? b = some { o with slots := sl } := fun b o e n hb => by
    obtain ⟨sl1, e1⟩ := u.slot b o e n hb (by simp [cxOf])
    obtain ⟨_, o', e', nf⟩ := I.ok.funs.mem hb
    have e'' : s.heap.get? b = some o' := e'
    rw [e] at e''; cases e''
    obtain ⟨sl2, e2⟩ := up b _ e1 nf hb (u.free b o e n (by simp [cxOf]))
    exact ⟨sl2, e2⟩
  refine ⟨a, cls, a0, H', B, rfl, hos.trans I.os, hb, ⟨fun b o e n nf _ => hfl.1 b o (inB b o e n nf), fun b o e n hb _ => sl b o e n hb, fun b o e n _ => ?_, fun b o e _ => ?_, fun b xs e => tups b xs (u.tups b xs e), fun b o x e => frzs b o x (u.frzs b o x e), fun b ps e => ?_⟩, hokB, hfl, inB, thB, hE⟩
  · obtain ⟨o1, e1⟩ := u.there b o e (by simp [cxOf])
    exact free1 b o1 e1 (u.free b o e n (by simp [cxOf]))
  · by_cases hb : b ∈ frs outer
    · obtain ⟨sl, q⟩ := sl b o e (I.ok.frf b hb) hb
      exact ⟨_, q⟩
    · obtain ⟨o', q⟩ := thB b o e hb
      exact ⟨o', hfl.1 b o' q⟩
  · obtain ⟨m1, e1⟩ := u.tbls b ps e
    obtain ⟨m2, e2⟩ := tbls b _ e1
    exact ⟨m1 ++ m2, by rw [e2, Array.append_assoc]⟩
theorem passW : Passes (CXW P w) (cxOf (CXW P w) P w K mg base N qual scope f cd A outer s H E) E := by
  intro pins σ H1 s1 e s' I hx
  obtain ⟨a, cls, a0, H', B, rfl, hos, hb, un, hokB, hfl, keepB, thereB, hE⟩ := hx
  show wpAny _ _ (leaving _ (.ref a)) _ _ s'
  refine wpAny_leaves_onW (L := s.heap.objs.size) I.ok.frames rfl hfl fun h'' hfl' hup => ?_
  refine cxw_out I (s2 := { s' with heap := h'' }) hos hb hokB hfl' keepB thereB (fun b o e nf hb n => ?_) (fun b o e n => un.free b o e n (by simp)) un.tups un.frzs un.tbls hE
  obtain ⟨sl, e1⟩ := un.slot b o e n ((mem_frs (env := envOfC qual scope s.heap.objs.size f cd) rfl).mpr (.inr hb)) (by simp)
  obtain ⟨sl2, e2⟩ := hup b _ e1 nf
  exact ⟨sl2, e2⟩
theorem madeW (I : Inv (cxOf (CXW P w) P w K mg base N qual scope f cd A outer s H E) pins σ H1 s1) {h' : Heap} {a : Addr} {cls : Value} {vs : List Value} (hx : Heap.MadeExcOf s1.heap h' a cls vs) (hE : E cls none H1) :
    (cxOf (CXW P w) P w K mg base N qual scope f cd A outer s H E).xe (.ref a) { s1 with heap := h' } := by
  have hin : ∀ env ∈ (envOfC qual scope s.heap.objs.size f cd :: outer), ∀ b, env.frame = some b → b ∈ frs (envOfC qual scope s.heap.objs.size f cd :: outer) := fun env he b hb => List.mem_filterMap.mpr ⟨env, he, hb⟩
  have stk : s1.heap.FunFrames base (envOfC qual scope s.heap.objs.size f cd :: outer) := I.stack
  have fr0 : ∀ b, b ∈ frs (envOfC qual scope s.heap.objs.size f cd :: outer) → H1 b = none := I.stkFree
  show wpAny _ _ (leaving _ (.ref a)) _ _ _
  refine wpAny_leaves_madeW (base := PySem.W.hideAll s1.heap (frs (envOfC qual scope s.heap.objs.size f cd :: outer))) (h := s1.heap) (L := s.heap.objs.size) (s := { s1 with heap := h' }) I.ok.frames rfl (fun b o q => PySem.W.of_hideAll _ q) (PySem.W.funFrames_hide stk hin) hx fun h'' t x1 x2 x3 x4 => ?_
  have hg : ∀ b o, s1.heap.get? b = some o → b ∉ frs (envOfC qual scope s.heap.objs.size f cd :: outer) → (PySem.W.hideAll s1.heap (frs (envOfC qual scope s.heap.objs.size f cd :: outer))).get? b = some o := fun b o e nf => PySem.W.hideAll_get _ e nf
  refine cxw_out I (s2 := { s1 with heap := h'' }) (H' := H1) rfl I.bare (fun b ob e => (I.hok b ob e).stay (fun c v hcv z => hg c v z fun q => ?_) (fun _ z => z) fun _ _ z => z) x1 (fun b o e _ nf => hg b o e nf) (fun b o e nf => ⟨o, hg b o e nf⟩) (fun b o e nf hb n => ?_) (fun _ _ _ n => n) (fun _ _ e => e) (fun _ _ _ e => e) (fun b ps e => ⟨#[], by rw [e]; simp⟩) hE
  · have z := fr0 c q
    rcases hcv with r | r
    · rw [← r, z] at e; cases e
    · rw [z] at r; cases r
  · exact x4 b o (hx.keeps b o e) nf
end
theorem exc_obj {K : PySem.W.Frag} {h : Heap} {C : Addr} {bmB : List Value} {newId : String} (X : K.In h) (q : PySem.W.excIn K C bmB newId = true) :
    ∃ bm N nm qn bs hdct sn sub ab col dd k0 k1 k2 k3 k5 mN, h.get? C = some (excClassObj nm qn C N bs bm hdct sn sub ab col dd k0 k1 k2 k3 k5 newId) ∧ h.Ns N mN ∧ mN "__init__" = none ∧ OwnTail h bmB bm := by
  unfold PySem.W.excIn at q
  split at q
  · rename_i dd cd sl ho
    split at q
    · rename_i C' bm k0 k1 k2 k3 n k5 hm hs
      simp only [Bool.and_eq_true, beq_iff_eq, Bool.not_eq_true'] at q
      obtain ⟨⟨⟨⟨⟨rfl, rfl⟩, hdel⟩, ht⟩, hok⟩, hni⟩ := q
      obtain ⟨nm, bs, mro, ns, qn, hd, sn, sub, ab, col, del⟩ := cd
      dsimp only at hm hdel hok hni
      subst hm hdel
      have hsl : sl = #[k0, k1, k2, k3, some (.builtin n), k5] := by
        obtain ⟨l⟩ := sl
        simp only at hs
        rw [hs]
      subst hsl
      exact ⟨bm, ns, nm, qn, bs, hd, sn, sub, ab, col, dd, k0, k1, k2, k3, k5, _, X _ _ ho, .of_isNs (PySem.W.isNs_of_in X hok), PySem.W.nsMap_none_of_in X hok hni, PySem.W.tail_of_in X ht⟩
    · cases q
  · cases q
noncomputable def tRaise (E : XK) (C : Addr) : TS := fun _ _ H => E (.ref C) none H
theorem ps_raise {P : Program} {w : World} {K : PySem.W.Frag} {mg : Str → Option Value} {base : Heap} {N : List Str} {qual : Str} {scope : Scope} {f : Addr} {cd : Value} {A : Around} {outer : List Env} {s : Shared} {H : Hp} {E : XK}
    {x msg : Str} {C : Addr} {B newId initId : String} {bmB : List Value} {np cpos pos p3 : Pos} {j : Nat} (FB : ExcBaseFacts B newId initId bmB) (q : PySem.W.excIn K C bmB newId = true)
    (hm : mg x = some (.ref C)) (hg : Gl (cxOf (CXW P w) P w K mg base N qual scope f cd A outer s H E) x) (hd : (x == ("__debug__" : Str)) = false := by decide) :
    PS (cxOf (CXW P w) P w K mg base N qual scope f cd A outer s H E) (.Raise (some (.Call (.Name x np) [.Constant (.str msg) j p3] [] cpos)) none pos) (tRaise E C) := by
  intro pins s1 σ H1 D I h
  obtain ⟨bm, Nn, nm, qn, bs, hdct, sn, sub, ab, col, dd, k0, k1, k2, k3, k5, mN, hC, hN, hni, T⟩ := exc_obj I.ok.mod.kin q
  refine wpAny_Raise_call_subT (C := C) (nm := nm) (q := qn) (N := Nn) (bs := bs) (bm := bm) (hdct := hdct) (sn := sn) (sub := sub) (ab := ab) (col := col) (dd := dd) (k0 := k0) (k1 := k1) (k2 := k2) (k3 := k3) (k5 := k5)
    FB (mN := mN) (T.hasType FB.hasBase) (I.ok.hd rfl) rfl hni (ld_glob I hg hm ⟨rfl, ?_⟩ hd)
  have ha : PA (cxOf (CXW P w) P w K mg base N qual scope f cd A outer s H E) [.Constant (.str msg) j p3] (tCons (tC (.str msg)) tNil) := pa_cons pe_str pa_nil
  have hw := ha cpos pins s1 σ H1 (fun vs H2 => vs.length = 1 ∧ H2 = H1) I ⟨rfl, rfl⟩
  refine Calls.evalArgs_plain (thn hw fun us s2 ⟨vs, H2, I2, r, hl, e2⟩ => ?_)
  subst e2
  refine ⟨rfl, ?_, I2.bk _ _ hC, hN.keeps I2.bk, T.keeps I2.bk, fun h' e hx => madeW I2 hx h⟩
  show us.length ≤ sizeLine
  rw [← r.length, hl]; decide
section
variable {P : Program} {w : World} {K : PySem.W.Frag} {mg : Str → Option Value} {base : Heap}
theorem Fun.okX {x qual : Str} {st : Stmt} {f : Addr} {fd : FuncData} {N ps : List Str} {k : Nat} {sp : Sp} (F : Fun K x qual st f fd) (S : FnScope N ps (defScope st)) (len : ∀ vs H Q E, sp vs H Q E → vs.length = ps.length)
    (hbody : ∀ (cdv : Value) (A : Around) (outer : List Env) (s : Shared) (H : Hp) (vs : List V) (Q : VK) (E : XK), Room k (A.deeper (envOfC qual (defScope st) s.heap.objs.size f cdv)) → sp vs H Q E →
      ∃ t, PSs (cxOf (CXW P w) P w K mg base N qual (defScope st) f cdv A outer s H E) (defBody st) t ∧ t { nx := fun _ H' => Q .non H', rt := Q } (start N vs) H) : FnOk P w K mg base (CXW P w) (k + 1) f fd ps sp := by
  obtain ⟨oc, od, kV, doc, pm, an, cdv, ct, osl, rfl, lk, hcd⟩ := F.ex
  exact fn_of lk hcd S len fun A outer s H vs Q E hr hsp => hbody cdv A outer s H vs Q E hr hsp
theorem Fun.okN {x qual : Str} {st : Stmt} {f : Addr} {fd : FuncData} {N ps : List Str} {k : Nat} {sp : Sp} (F : Fun K x qual st f fd) (S : FnScope N ps (defScope st)) (len : ∀ vs H Q E, sp vs H Q E → vs.length = ps.length)
    (hbody : ∀ (cdv : Value) (A : Around) (outer : List Env) (s : Shared) (H : Hp) (vs : List V) (Q : VK) (E : XK), Room k (A.deeper (envOfC qual (defScope st) s.heap.objs.size f cdv)) → sp vs H Q E →
      ∃ t, PSs (cxOf (CXW P w) P w K mg base N qual (defScope st) f cdv A outer s H E).nox (defBody st) t ∧ t { nx := fun _ H' => Q .non H', rt := Q } (start N vs) H) : FnOk P w K mg base (CXW P w) (k + 1) f fd ps sp :=
  F.okX S len fun cdv A outer s H vs Q E hr hsp => by
    obtain ⟨t, h, q⟩ := hbody cdv A outer s H vs Q E hr hsp
    exact ⟨t, h.nox, q⟩
end
end L2
set_option Elab.async false
set_option linter.all false
set_option maxRecDepth 100000
namespace L2
open PySem PySem.Spec PyProof.Rows PySem.W
structure ExcC (K : Frag) (C : Addr) : Prop where
  ga : findIn K (.ref C) "__getattribute__" = some (some (.builtin "BaseException.__getattribute__"))
  gt : findIn K (.ref C) "__getattr__" = some none
  ca : findIn K (.ref C) "__class__" = some (some (.builtin "object.__class__"))
  ob : mroIn K C (.type "object") = some true
  be : mroIn K C (.type "BaseException") = some true
  ty : typeIn K (.ref C) = some (.type "type")
theorem ExcC.cls {K : Frag} {C : Addr} (T : ExcC K C) : (clsIn K C).isSome = true := by
  have h := T.ob
  unfold mroIn at h
  cases e : clsIn K C with
  | none => rw [e] at h; cases h
  | some cd => rfl
noncomputable def ExcAt (a C : Addr) (h : Heap) : Prop := ∃ o vs, h.get? a = some o ∧ o.cls = .ref C ∧ o.data = .fields vs
section
variable {prog : Program} {w : World} {A : Around} {E : Value → Shared → Prop} {h : Heap} {g : Array GenState} {d : Drawn} {t : Nat} {os : OsState} {a C : Addr} {o : Obj} {K : Frag}
theorem exc_class_get {R : Result → Shared → Prop} (X : K.In h) (T : ExcC K C) (hx : h.get? a = some o) (hc : o.cls = .ref C) (hq : R (.ok (.ret (.ref C))) ⟨h, g, d, t, os⟩) :
    codeAny (model prog w) A (.call (.builtin "getset_descriptor.__get__") ⟨[.builtin "object.__class__", .ref a, .ref C], []⟩) R ⟨h, g, d, t, os⟩ := by
  have hT5 : (⟨h, g, d, t, os⟩ : Shared).TypeIs (.builtin "object.__class__") "getset_descriptor" := F.typeOf_object_class
  have L1 := looks_mroIn (M := model prog w) X T.ob
  refine codeAny_call_builtin F.slot_gs_get.plain F.entry_gs_get (F.slot_gs_get.check _ _ _ _ _ _ _ _ hT5 (F.args_gs_get _ _ _) ?_)
  repeat (any_goals (first | assumption | (with_reducible refine wpAny_loadPart_at hx ?_; rw [hc]) | (rw [F.owner_object_class]; with_reducible refine L1.at ?_) | wp_step))
  refine ⟨Code.quiet_builtin _ (by decide +kernel), codeAny_builtin F.entry_object_class ?_⟩
  repeat (any_goals (first | assumption | (with_reducible refine wpAny_loadPart_at hx ?_; rw [hc]) | wp_step))
theorem exc_class_entry {tk : Tok} {Q : Fin → Shared → Prop} (X : K.In h) (T : ExcC K C) (hx : h.get? a = some o) (hc : o.cls = .ref C) (hq : Q (.done (.ret (.ref C))) ⟨h, g, d, t, os⟩) :
    wpAny (model prog w) A (Builtin.«object.__getattribute__» ⟨[.ref a, .str "__class__" tk], []⟩) Q E ⟨h, g, d, t, os⟩ := by
  have hT5 : (⟨h, g, d, t, os⟩ : Shared).TypeIs (.builtin "object.__class__") "getset_descriptor" := F.typeOf_object_class
  have f5 := F.typeOf_object_class
  have f6 := F.slot_gs_get.lookup
  have f7 := F.slot_gs_set.lookup
  have L1 := looks_findIn (M := model prog w) X T.ca
  repeat (any_goals (first | assumption | (with_reducible refine wpAny_loadPart_at hx ?_; rw [hc]) | with_reducible refine L1.at ?_ | wp_step))
  refine exc_class_get X T hx hc ?_
  repeat (any_goals (first | assumption | wp_step))
theorem exc_check_ga {M : Model} {nameV : Value} {Q : Unit → Shared → Prop} (X : K.In h) (T : ExcC K C) (hx : h.get? a = some o) (hc : o.cls = .ref C) (hq : Q () ⟨h, g, d, t, os⟩) :
    wpAny M A (checkBuiltinCall "BaseException.__getattribute__" ⟨[.ref a, nameV], []⟩) Q E ⟨h, g, d, t, os⟩ := by
  have hk : builtinKind "BaseException.__getattribute__" = some .slot := by decide +kernel
  have hsplit : splitId "BaseException.__getattribute__" = some ("BaseException", "__getattribute__") := by decide +kernel
  have ha := F.args_bexc_ga (.ref a) nameV
  have L1 := looks_mroIn (M := M) X T.be
  simp only [checkBuiltinCall, hk, hsplit]
  refine wpAny_bind ?_
  · unfold isInstance
    repeat (first | (with_reducible refine wpAny_loadPart_at hx ?_; rw [hc]) | with_reducible refine L1.at ?_ | wp_step)
    exact hq
theorem exc_class_by {tk : Tok} {Q : Value → Shared → Prop} (X : K.In h) (T : ExcC K C) (hx : h.get? a = some o) (hc : o.cls = .ref C) (hq : Q (.ref C) ⟨h, g, d, t, os⟩) :
    wpAny (model prog w) A (getAttrBy (.ref a) (.str "__class__" tk) false) Q E ⟨h, g, d, t, os⟩ := by
  have FB := PySem.F.attrBase_ValueError
  have f3 := FB.ga.bind (.ref a)
  have hx0 : (false && onTheHeap (Value.builtin "BaseException.__getattribute__")) = false := rfl
  have hx2 : (Value.builtin "BaseException.__getattribute__" == Value.builtin "object.__getattribute__") = false := by decide +kernel
  have hx1 : (onTheHeap (Value.ref C) && Value.builtin "BaseException.__getattribute__" == Value.builtin "object.__getattribute__") = false := by rw [hx2]; rfl
  have L1 := looks_findIn (M := model prog w) X T.ga
  have L2 := looks_findIn (M := model prog w) X T.gt
  repeat (any_goals (first | assumption | (with_reducible refine wpAny_loadPart_at hx ?_; rw [hc]) | with_reducible refine L1.at ?_ | with_reducible refine L2.at ?_ | wp_step))
  refine codeAny_call_builtin FB.ga.plain F.entry_bexc_ga (exc_check_ga X T hx hc (exc_class_entry X T hx hc ?_))
  repeat (any_goals (first | assumption | wp_step))
theorem exc_class_attr {Q : Option Value → Shared → Prop} (X : K.In h) (T : ExcC K C) (hx : h.get? a = some o) (hc : o.cls = .ref C) (hq : Q (some (.ref C)) ⟨h, g, d, t + 1, os⟩) :
    wpAny (model prog w) A (getAttr? (.ref a) "__class__") Q E ⟨h, g, d, t, os⟩ := by
  unfold getAttr? getAttrBy?
  repeat (any_goals (first | assumption | with_reducible apply exc_class_by X T hx hc | wp_step))
end
theorem kitx_exc {K : Frag} {a C : Addr} (T : ExcC K C) : KitX K (.ref a) (.ref C) (ExcAt a C) where
  ty := fun M h _ p => by
    obtain ⟨o, vs, h1, h2, _⟩ := p
    exact h2 ▸ (Looks.ld h1).andThen .now
  it := fun _ _ X _ => by
    obtain ⟨cdD, hcD⟩ := Option.isSome_iff_exists.mp T.cls
    unfold clsIn at hcD
    split at hcD
    · rename_i c' d' cd' sl' ho
      intro A' Q' E' s' k q
      unfold isType loadHead
      exact wpAny_bind (wpAny_loadPart (k _ _ (X _ _ ho)) (wpAny_pure q))
    · cases hcD
  ne := fun h tp dd its n sl X htp => by
    obtain ⟨cdD, hcD⟩ := Option.isSome_iff_exists.mp T.cls
    refine Bool.eq_false_iff.mpr fun q => ?_
    have e : C = tp := Value.ref.inj (beq_iff_eq.mp q)
    subst e
    unfold clsIn at hcD
    split at hcD
    · rename_i c' d' cd' sl' ho
      have z := (X _ _ ho).symm.trans htp
      cases z
    · cases hcD
  ca := fun {_ _ _ _ _ s} X p k => by
    obtain ⟨o, vs, h1, h2, _⟩ := p
    obtain ⟨hh, g, d, t, os⟩ := s
    exact exc_class_attr X T h1 h2 k
noncomputable def excO (a C : Addr) : HO := .ext (ExcAt a C)
inductive TyX (K : Frag) (H : Hp) : V → Value → Prop where
  | of {x : V} {t : Value} (h : TyOf K H x t) : TyX K H x t
  | exc {a C : Addr} (T : ExcC K C) (e : H a = some (excO a C)) : TyX K H (.ref a) (.ref C)
theorem isinst_x {X : Cx} {pins : List (Addr × Obj)} {σ : St} {H : Hp} {s : Shared} {A : Around} {E : Value → Shared → Prop} {Q : Value → Shared → Prop} {c : Value} {b : Bool} {x : V} {u t : Value} (I : Inv X pins σ H s) (rx : RelV x u) (ty : TyX X.K H x t)
    (e : kitOne X.K t c = some b) (h : ∀ tk, Q (.bool b) { s with toks := tk }) : wpAny (model X.prog X.w) A (call (.builtin "isinstance") [u, c]) Q E s := by
  cases ty with
  | of ty => exact isinst_ok I rx ty e h
  | @exc a C T ea =>
    cases (show u = Value.ref a from rx)
    obtain ⟨p, _, _⟩ := (show ObjOk X.prog X.w H s.heap a (excO a C) from I.hok a _ ea)
    exact kia_one (kitx_exc T) I.kIn p e (fun z => nomatch z) h
noncomputable def clsV : V → Option Value
  | .ref a => some (.ref a)
  | .ty n => some (.type n)
  | _ => none
theorem clsV_rel {x : V} {c u : Value} (h : clsV x = some c) (r : RelV x u) : u = c := by
  cases x with
  | ref a => cases h; exact r
  | ty n => cases h; exact r
  | _ => cases h
noncomputable def rIsi (K : Frag) : List V → Hp → VK → Prop := fun xs H Q => ∃ x t vc c b, xs = [x, vc] ∧ TyX K H x t ∧ clsV vc = some c ∧ kitOne K t c = some b ∧ Q (.bl b) H
theorem call_isi {X : Cx} : CallR X (.builtin "isinstance") (rIsi X.K) := by
  intro pins s σ H xs us Q I rv h
  obtain ⟨x, t, vc, c, b, rfl, ty, rc, e, q⟩ := h
  obtain ⟨u, v, rfl, r1, r2⟩ := rv.two
  rw [clsV_rel rc r2]
  exact isinst_x I r1 ty e fun tk => ⟨.bl b, H, I.tok _, rfl, q⟩
end L2
set_option Elab.async false
set_option linter.all false
set_option maxRecDepth 100000
namespace L2
open PySem PySem.Spec PyProof.Rows PySem.W
section
variable {X : Cx} {CX : CXT} {k : Nat} {f : Addr} {fd : FuncData} {ps : List Str} {sp : Sp} {dvs : List V} {ds : List Value} {E : XK} {x : Str} {p pos : Pos} {e : Expr} {es : List Expr} {te : TE} {t : TA} {pins : List (Addr × Obj)} {σ : St} {ta tb : TS}
end
noncomputable abbrev hdCx (X : Cx) (a : Addr) : Cx := { X with A := X.A.mark (some (.ref a)), calm := false, xe := fun _ _ => False }
theorem Inv.hd {X : Cx} {pins : List (Addr × Obj)} {σ : St} {H : Hp} {s : Shared} {a : Addr} (I : Inv X pins σ H s) : Inv (hdCx X a) pins σ H s :=
  ⟨⟨I.ok.mod, I.ok.kind, I.ok.glob, I.ok.blt, I.ok.above, I.ok.inj, I.ok.has, I.ok.cab, fun z => Bool.noConfusion z, I.ok.frames, I.ok.stk, I.ok.exf, I.ok.bs, I.ok.bsz, I.ok.noex, I.ok.exfs, I.ok.funs, I.ok.frf⟩, I.os, I.bare, I.base, I.loc, I.cell, I.free, I.freeC, I.pin, I.hok, I.len⟩
end L2
set_option Elab.async false
set_option linter.all false
set_option maxRecDepth 100000
namespace L2
open PySem PySem.Spec PyProof.Rows PySem.W
inductive DV where
  | non | bl (b : Bool) | int (i : Int) | str (x : Str) | lst (xs : List DV) | tup (xs : List DV)
mutual
noncomputable def eqD : DV → DV → Bool
  | .non, .non => true
  | .bl a, .bl b => a == b
  | .bl a, .int b => (if a then 1 else 0) == b
  | .int a, .bl b => a == (if b then 1 else 0)
  | .int a, .int b => a == b
  | .str a, .str b => a == b
  | .lst a, .lst b => eqDs a b
  | .tup a, .tup b => eqDs a b
  | _, _ => false
noncomputable def eqDs : List DV → List DV → Bool
  | [], [] => true
  | a :: r, b :: t => eqD a b && eqDs r t
  | _, _ => false
end
mutual
noncomputable def ht : DV → Nat
  | .lst xs => hts xs + 1
  | .tup xs => hts xs + 1
  | _ => 0
noncomputable def hts : List DV → Nat
  | [] => 0
  | a :: r => max (ht a) (hts r)
end
theorem ht_lst (ds : List DV) : ht (.lst ds) = hts ds + 1 := by unfold ht; rfl
theorem ht_tup (ds : List DV) : ht (.tup ds) = hts ds + 1 := by unfold ht; rfl
mutual
inductive Deep (K : Frag) (H : Hp) : V → DV → Prop where
  | non : Deep K H .non .non
  | bl (b : Bool) : Deep K H (.bl b) (.bl b)
  | int (i : Int) : Deep K H (.int i) (.int i)
  | str (x : Str) : Deep K H (.str x) (.str x)
  | lst {a : Addr} {xs : List V} {ds : List DV} (h : SqL K H a xs) (t : Deeps K H xs ds) : Deep K H (.ref a) (.lst ds)
  | tup {a : Addr} {xs : List V} {ds : List DV} (h : SqT K H a xs) (t : Deeps K H xs ds) : Deep K H (.ref a) (.tup ds)
inductive Deeps (K : Frag) (H : Hp) : List V → List DV → Prop where
  | nil : Deeps K H [] []
  | cons {x : V} {d : DV} {xs : List V} {ds : List DV} (h : Deep K H x d) (t : Deeps K H xs ds) : Deeps K H (x :: xs) (d :: ds)
end
theorem Deeps.length {K : Frag} {H : Hp} : ∀ {xs : List V} {ds : List DV}, Deeps K H xs ds → xs.length = ds.length
  | _, _, .nil => rfl
  | _, _, .cons _ t => by rw [List.length_cons, List.length_cons, Deeps.length t]
theorem Deeps.get {K : Frag} {H : Hp} : ∀ {xs : List V} {ds : List DV} {i : Nat} {d : DV}, Deeps K H xs ds → ds[i]? = some d → ∃ x, xs[i]? = some x ∧ Deep K H x d
  | _, _, _, _, .nil, e => by simp at e
  | _, _, 0, _, .cons h _, e => by simp at e; subst e; exact ⟨_, rfl, h⟩
  | _, _, i + 1, d, .cons _ t, e => by
    obtain ⟨x, h1, h2⟩ := Deeps.get (i := i) (d := d) t (by simpa using e)
    exact ⟨x, by simpa using h1, h2⟩
theorem Deeps.ints {K : Frag} {H : Hp} : ∀ ns : List Int, Deeps K H (ns.map V.int) (ns.map DV.int)
  | [] => .nil
  | n :: r => .cons (.int n) (Deeps.ints r)
theorem eqDs_len : ∀ {a b : List DV}, eqDs a b = true → a.length = b.length
  | [], [], _ => rfl
  | a :: r, b :: t, h => by
    unfold eqDs at h
    rw [Bool.and_eq_true] at h
    rw [List.length_cons, List.length_cons, eqDs_len h.2]
  | [], _ :: _, h => by unfold eqDs at h; cases h
  | _ :: _, [], h => by unfold eqDs at h; cases h
noncomputable def eAt (ds es : List DV) (j : Nat) : Bool := match ds[j]?, es[j]? with
  | some d, some e => eqD d e
  | _, _ => true
theorem all_eAt : ∀ (ds es : List DV), ds.length = es.length → (List.range ds.length).all (eAt ds es) = eqDs ds es
  | [], [], _ => by unfold eqDs; rfl
  | d :: r, e :: t, h => by
    have ih := all_eAt r t (by simpa using h)
    rw [List.length_cons, List.range_succ_eq_map, List.all_cons, List.all_map]
    unfold eqDs
    rw [← ih]
    congr 1
  | [], _ :: _, h => by cases h
  | _ :: _, [], h => by cases h
theorem all_eAt_min : ∀ (ds es : List DV), ((List.range (min ds.length es.length)).all (eAt ds es) && ds.length == es.length) = eqDs ds es := fun ds es => by
  by_cases h : ds.length = es.length
  · rw [h, Nat.min_self, ← h, all_eAt ds es h]; simp
  · have h1 : (ds.length == es.length) = false := by simpa using h
    rw [h1, Bool.and_false]
    cases q : eqDs ds es with
    | false => rfl
    | true => exact absurd (eqDs_len q) h
theorem hts_get : ∀ {ds : List DV} {i : Nat} {d : DV}, ds[i]? = some d → ht d ≤ hts ds
  | [], _, _, e => by simp at e
  | a :: r, 0, d, e => by simp at e; subst e; unfold hts; exact Nat.le_max_left _ _
  | a :: r, i + 1, d, e => by
    have := hts_get (ds := r) (i := i) (d := d) (by simpa using e)
    unfold hts; exact Nat.le_trans this (Nat.le_max_right _ _)
section
variable {X : Cx} {pins : List (Addr × Obj)} {σ : St} {H : Hp} {s : Shared}
theorem lt_ne {a : Addr} {xs ys : List V} (I : Inv X pins σ H s) (h1 : SqL X.K H a xs) (h2 : SqT X.K H a ys) : False := by
  obtain ⟨its, _, p, _⟩ := I.list h1
  obtain ⟨its2, _, q, _⟩ := I.tuple h2
  exact SeqAt.ne_of_list_tuple p.isList (show s.heap.IsTuple a its2.toArray from q) rfl
mutual
theorem Deep.inj (I : Inv X pins σ H s) : ∀ {d : DV} {x : V} {e : DV}, Deep X.K H x d → Deep X.K H x e → d = e
  | .non, _, _, .non, h => by cases h; rfl
  | .bl b, _, _, .bl _, h => by cases h; rfl
  | .int b, _, _, .int _, h => by cases h; rfl
  | .str b, _, _, .str _, h => by cases h; rfl
  | .lst ds, _, _, .lst h t, h' => by
    cases h' with
    | lst h2 t2 =>
      have e := I.list_inj h h2
      subst e
      rw [Deeps.inj I t t2]
    | tup h2 t2 => exact (lt_ne I h h2).elim
  | .tup ds, _, _, .tup h t, h' => by
    cases h' with
    | tup h2 t2 =>
      have e := I.tuple_inj h h2
      subst e
      rw [Deeps.inj I t t2]
    | lst h2 t2 => exact (lt_ne I h2 h).elim
theorem Deeps.inj (I : Inv X pins σ H s) : ∀ {ds : List DV} {xs : List V} {es : List DV}, Deeps X.K H xs ds → Deeps X.K H xs es → ds = es
  | [], _, _, .nil, h => by cases h; rfl
  | d :: ds, _, _, .cons h t, h' => by
    cases h' with
    | cons h2 t2 => rw [Deep.inj I h h2, Deeps.inj I t t2]
end
mutual
theorem eqD_refl : ∀ d : DV, eqD d d = true
  | .non => by unfold eqD; rfl
  | .bl b => by unfold eqD; simp
  | .int b => by unfold eqD; simp
  | .str b => by unfold eqD; simp
  | .lst ds => by unfold eqD; exact eqDs_refl ds
  | .tup ds => by unfold eqD; exact eqDs_refl ds
theorem eqDs_refl : ∀ ds : List DV, eqDs ds ds = true
  | [] => by unfold eqDs; rfl
  | d :: r => by unfold eqDs; rw [eqD_refl d, eqDs_refl r]; rfl
end
theorem items_eq {A : Around} {xs ys : List V} {us vs : List Value} {ds es : List DV} (rx : Vals xs us) (ry : Vals ys vs) (t1 : Deeps X.K H xs ds) (t2 : Deeps X.K H ys es)
    (ih : ∀ d ∈ ds, ∀ (e : DV) (x y : V) (u v : Value), Deep X.K H x d → Deep X.K H y e → RelV x u → RelV y v → SeqAt.EqAt A s u v (eqD d e)) (j : Nat) (h1 : j < us.toArray.size) (h2 : j < vs.toArray.size) :
    SeqAt.EqAt A s us.toArray[j] vs.toArray[j] (eAt ds es j) := by
  have l1 := rx.length
  have l2 := ry.length
  have m1 := t1.length
  have m2 := t2.length
  simp only [List.size_toArray] at h1 h2
  have g1 : ds[j]? = some ds[j] := List.getElem?_eq_getElem (by trivial)
  have g2 : es[j]? = some es[j] := List.getElem?_eq_getElem (by trivial)
  obtain ⟨x, ex, dx⟩ := t1.get g1
  obtain ⟨y, ey, dy⟩ := t2.get g2
  obtain ⟨u, eu, ru⟩ := rx.get ex
  obtain ⟨v, ev, rv⟩ := ry.get ey
  have e1 : us.toArray[j] = u := by
    rw [List.getElem_toArray]
    exact Option.some.inj ((List.getElem?_eq_getElem h1).symm.trans eu)
  have e2 : vs.toArray[j] = v := by
    rw [List.getElem_toArray]
    exact Option.some.inj ((List.getElem?_eq_getElem h2).symm.trans ev)
  have e3 : eAt ds es j = eqD ds[j] es[j] := by unfold eAt; rw [g1, g2]
  rw [e1, e2, e3]
  exact ih _ (List.getElem_mem _) _ x y u v dx dy ru rv
theorem rc_deep (I : Inv X pins σ H s) {A : Around} (d e : DV) (x y : V) (u v : Value) (hx : Deep X.K H x d) (hy : Deep X.K H y e) (rx : RelV x u) (ry : RelV y v) (hu : A.units < cLine)
    (ih : ∀ (d' : DV), ht d' < ht d → ∀ (e : DV) (x y : V) (u v : Value), Deep X.K H x d' → Deep X.K H y e → RelV x u → RelV y v → SeqAt.EqAt A.in1 s u v (eqD d' e)) : SeqAt.RcAt A s u v (eqD d e) := by
  have hlt : ∀ {ds : List DV} {d' : DV}, d' ∈ ds → ht d' < hts ds + 1 := fun {ds d'} hm => by
    obtain ⟨i, hi, e⟩ := List.getElem_of_mem hm
    exact Nat.lt_succ_of_le (hts_get (i := i) (by rw [List.getElem?_eq_getElem hi, e]))
  cases hx with
  | non =>
    cases (show u = Value.none from rx)
    cases hy with
    | non => cases (show v = Value.none from ry); unfold eqD; exact SeqAt.RcAt.none_none
    | bl b => cases (show v = Value.bool b from ry); unfold eqD; exact SeqAt.RcAt.none_bool b
    | int b => obtain ⟨t, rfl⟩ := ry; unfold eqD; exact SeqAt.RcAt.none_int b t
    | str b => obtain ⟨t, rfl⟩ := ry; unfold eqD; exact SeqAt.RcAt.none_str b t
    | lst h t => cases ry; obtain ⟨its, r, p, _⟩ := I.list h; unfold eqD; exact SeqAt.RcAt.none_list p.isList hu
    | tup h t => cases ry; obtain ⟨its, r, p, _⟩ := I.tuple h; unfold eqD; exact SeqAt.RcAt.none_tuple (show s.heap.IsTuple _ its.toArray from p) hu
  | bl a =>
    cases (show u = Value.bool a from rx)
    cases hy with
    | non => cases (show v = Value.none from ry); unfold eqD; exact SeqAt.RcAt.bool_none a
    | bl b => cases (show v = Value.bool b from ry); unfold eqD; exact SeqAt.RcAt.bool_bool a b
    | int b => obtain ⟨t, rfl⟩ := ry; unfold eqD; exact SeqAt.RcAt.bool_int a b t
    | str b => obtain ⟨t, rfl⟩ := ry; unfold eqD; exact SeqAt.RcAt.bool_str a b t
    | lst h t => cases ry; obtain ⟨its, r, p, _⟩ := I.list h; unfold eqD; exact SeqAt.RcAt.bool_list a p.isList hu
    | tup h t => cases ry; obtain ⟨its, r, p, _⟩ := I.tuple h; unfold eqD; exact SeqAt.RcAt.bool_tuple a (show s.heap.IsTuple _ its.toArray from p) hu
  | int a =>
    obtain ⟨t', rfl⟩ := rx
    cases hy with
    | non => cases (show v = Value.none from ry); unfold eqD; exact SeqAt.RcAt.int_none a t'
    | bl b => cases (show v = Value.bool b from ry); unfold eqD; exact SeqAt.RcAt.int_bool a t' b
    | int b => obtain ⟨t, rfl⟩ := ry; unfold eqD; exact SeqAt.RcAt.int_int a t' b t
    | str b => obtain ⟨t, rfl⟩ := ry; unfold eqD; exact SeqAt.RcAt.int_str a t' b t
    | lst h t => cases ry; obtain ⟨its, r, p, _⟩ := I.list h; unfold eqD; exact SeqAt.RcAt.int_list a t' p.isList hu
    | tup h t => cases ry; obtain ⟨its, r, p, _⟩ := I.tuple h; unfold eqD; exact SeqAt.RcAt.int_tuple a t' (show s.heap.IsTuple _ its.toArray from p) hu
  | str a =>
    obtain ⟨t', rfl⟩ := rx
    cases hy with
    | non => cases (show v = Value.none from ry); unfold eqD; exact SeqAt.RcAt.str_none a t'
    | bl b => cases (show v = Value.bool b from ry); unfold eqD; exact SeqAt.RcAt.str_bool a t' b
    | int b => obtain ⟨t, rfl⟩ := ry; unfold eqD; exact SeqAt.RcAt.str_int a t' b t
    | str b => obtain ⟨t, rfl⟩ := ry; unfold eqD; exact SeqAt.RcAt.str_str a t' b t
    | lst h t => cases ry; obtain ⟨its, r, p, _⟩ := I.list h; unfold eqD; exact SeqAt.RcAt.str_list a t' p.isList hu
    | tup h t => cases ry; obtain ⟨its, r, p, _⟩ := I.tuple h; unfold eqD; exact SeqAt.RcAt.str_tuple a t' (show s.heap.IsTuple _ its.toArray from p) hu
  | @lst a xs ds h t1 =>
    cases rx
    obtain ⟨its, r, p, _⟩ := I.list h
    cases hy with
    | non => cases (show v = Value.none from ry); unfold eqD; exact SeqAt.RcAt.list_none p.isList hu
    | bl b => cases (show v = Value.bool b from ry); unfold eqD; exact SeqAt.RcAt.list_bool b p.isList hu
    | int b => obtain ⟨t, rfl⟩ := ry; unfold eqD; exact SeqAt.RcAt.list_int b t p.isList hu
    | str b => obtain ⟨t, rfl⟩ := ry; unfold eqD; exact SeqAt.RcAt.list_str b t p.isList hu
    | @lst b ys es h2 t2 =>
      cases ry
      obtain ⟨its2, r2, p2, _⟩ := I.list h2
      have l1 := r.length
      have l2 := r2.length
      have m1 := t1.length
      have m2 := t2.length
      have it := items_eq (A := A.in1) r r2 t1 t2 fun d' hd' e x y u v a b c d => ih d' (by rw [ht_lst]; exact hlt hd') e x y u v a b c d
      unfold eqD
      by_cases hl : ds.length = es.length
      · have q := SeqAt.RcAt.lists (e := eAt ds es) p.isList p2.isList (by simp only [List.size_toArray]; trivial) hu it
        rw [← all_eAt ds es hl]
        have e1 : its.toArray.size = ds.length := by simp only [List.size_toArray]; trivial
        rw [e1] at q
        exact q
      · have q := SeqAt.RcAt.lists_lengths (A := A) p.isList p2.isList (by simp only [List.size_toArray, bne_iff_ne]; trivial) hu
        cases z : eqDs ds es with
        | false => exact q
        | true => exact absurd (eqDs_len z) hl
    | @tup b ys es h2 t2 =>
      cases ry
      obtain ⟨its2, r2, p2, _⟩ := I.tuple h2
      unfold eqD
      exact SeqAt.RcAt.list_tuple p.isList (show s.heap.IsTuple b its2.toArray from p2) hu
  | @tup a xs ds h t1 =>
    cases rx
    obtain ⟨its, r, p, _⟩ := I.tuple h
    have p' : s.heap.IsTuple a its.toArray := p
    cases hy with
    | non => cases (show v = Value.none from ry); unfold eqD; exact SeqAt.RcAt.tuple_none p' hu
    | bl b => cases (show v = Value.bool b from ry); unfold eqD; exact SeqAt.RcAt.tuple_bool b p' hu
    | int b => obtain ⟨t, rfl⟩ := ry; unfold eqD; exact SeqAt.RcAt.tuple_int b t p' hu
    | str b => obtain ⟨t, rfl⟩ := ry; unfold eqD; exact SeqAt.RcAt.tuple_str b t p' hu
    | @lst b ys es h2 t2 =>
      cases ry
      obtain ⟨its2, r2, p2, _⟩ := I.list h2
      unfold eqD
      exact SeqAt.RcAt.tuple_list p' p2.isList hu
    | @tup b ys es h2 t2 =>
      cases ry
      obtain ⟨its2, r2, p2, _⟩ := I.tuple h2
      have p2' : s.heap.IsTuple b its2.toArray := p2
      have l1 := r.length
      have l2 := r2.length
      have m1 := t1.length
      have m2 := t2.length
      have it := items_eq (A := A.in1) r r2 t1 t2 fun d' hd' e x y u v a b c d => ih d' (by rw [ht_tup]; exact hlt hd') e x y u v a b c d
      unfold eqD
      have q := SeqAt.RcAt.tuples (e := eAt ds es) p' p2' hu it
      have e1 : its.toArray.size = ds.length := by simp only [List.size_toArray]; trivial
      have e2 : its2.toArray.size = es.length := by simp only [List.size_toArray]; trivial
      rw [e1, e2, all_eAt_min] at q
      exact q
theorem eq_deep (I : Inv X pins σ H s) : ∀ (n : Nat) {A : Around} (d : DV), ht d ≤ n → A.units + n < cLine → ∀ (e : DV) (x y : V) (u v : Value), Deep X.K H x d → Deep X.K H y e → RelV x u → RelV y v → SeqAt.EqAt A s u v (eqD d e) := by
  intro n
  induction n with
  | zero =>
    intro A d hd hu e x y u v hx hy rx ry
    have rc := rc_deep I (A := A) d e x y u v hx hy rx ry (by trivial) (fun d' h => absurd h (by trivial))
    exact eq_of_rc I hx hy rx ry rc
  | succ n ihn =>
    intro A d hd hu e x y u v hx hy rx ry
    have rc := rc_deep I (A := A) d e x y u v hx hy rx ry (by trivial) (fun d' h => ihn (A := A.in1) d' (by trivial) (by rw [Around.in1_units]; trivial))
    exact eq_of_rc I hx hy rx ry rc
where
  eq_of_rc (I : Inv X pins σ H s) {A : Around} {d e : DV} {x y : V} {u v : Value} (hx : Deep X.K H x d) (hy : Deep X.K H y e) (rx : RelV x u) (ry : RelV y v) (rc : SeqAt.RcAt A s u v (eqD d e)) : SeqAt.EqAt A s u v (eqD d e) := by
    intro prog w E Q hq
    unfold eqBool
    refine wpAny_holding ?_
    refine wpAny_ite_split (fun hab => ?_) (fun hab => ?_)
    · have e1 : x = y := by
        have e0 := eq_of_beq hab
        rw [e0] at rx
        exact rx.inj ry
      subst e1
      have e2 := Deep.inj I hx hy
      subst e2
      rw [eqD_refl] at hq
      exact wpAny_bind (wpAny_rule (wpAny_pure hq))
    · cases hx <;> cases hy <;> first
        | (cases rx; cases ry; exact wpAny_bind (rc prog w E _ (wpAny_truthy_bool hq)))
        | (obtain ⟨t, rfl⟩ := rx; cases ry; exact wpAny_bind (rc prog w E _ (wpAny_truthy_bool hq)))
        | (cases rx; obtain ⟨t, rfl⟩ := ry; exact wpAny_bind (rc prog w E _ (wpAny_truthy_bool hq)))
        | (obtain ⟨t, rfl⟩ := rx; obtain ⟨t', rfl⟩ := ry; exact wpAny_bind (rc prog w E _ (wpAny_truthy_bool hq)))
theorem rcne_deep (I : Inv X pins σ H s) {A : Around} (d e : DV) (x y : V) (u v : Value) (hx : Deep X.K H x d) (hy : Deep X.K H y e) (rx : RelV x u) (ry : RelV y v) (hu : A.units < cLine)
    (ih : ∀ (d' : DV), ht d' < ht d → ∀ (e : DV) (x y : V) (u v : Value), Deep X.K H x d' → Deep X.K H y e → RelV x u → RelV y v → SeqAt.EqAt A.in1 s u v (eqD d' e)) : SeqAt.RcNeAt A s u v (!eqD d e) := by
  have hlt : ∀ {ds : List DV} {d' : DV}, d' ∈ ds → ht d' < hts ds + 1 := fun {ds d'} hm => by
    obtain ⟨i, hi, e⟩ := List.getElem_of_mem hm
    exact Nat.lt_succ_of_le (hts_get (i := i) (by rw [List.getElem?_eq_getElem hi, e]))
  cases hx with
  | non =>
    cases (show u = Value.none from rx)
    cases hy with
    | non => cases (show v = Value.none from ry); unfold eqD; exact SeqAt.RcNeAt.none_none
    | bl b => cases (show v = Value.bool b from ry); unfold eqD; exact SeqAt.RcNeAt.none_bool b
    | int b => obtain ⟨t, rfl⟩ := ry; unfold eqD; exact SeqAt.RcNeAt.none_int b t
    | str b => obtain ⟨t, rfl⟩ := ry; unfold eqD; exact SeqAt.RcNeAt.none_str b t
    | lst h t => cases ry; obtain ⟨its, r, p, _⟩ := I.list h; unfold eqD; exact SeqAt.RcNeAt.none_list p.isList hu
    | tup h t => cases ry; obtain ⟨its, r, p, _⟩ := I.tuple h; unfold eqD; exact SeqAt.RcNeAt.none_tuple (show s.heap.IsTuple _ its.toArray from p) hu
  | bl a =>
    cases (show u = Value.bool a from rx)
    cases hy with
    | non => cases (show v = Value.none from ry); unfold eqD; exact SeqAt.RcNeAt.bool_none a
    | bl b => cases (show v = Value.bool b from ry); unfold eqD; exact SeqAt.RcNeAt.bool_bool a b
    | int b => obtain ⟨t, rfl⟩ := ry; unfold eqD; exact SeqAt.RcNeAt.bool_int a b t
    | str b => obtain ⟨t, rfl⟩ := ry; unfold eqD; exact SeqAt.RcNeAt.bool_str a b t
    | lst h t => cases ry; obtain ⟨its, r, p, _⟩ := I.list h; unfold eqD; exact SeqAt.RcNeAt.bool_list a p.isList hu
    | tup h t => cases ry; obtain ⟨its, r, p, _⟩ := I.tuple h; unfold eqD; exact SeqAt.RcNeAt.bool_tuple a (show s.heap.IsTuple _ its.toArray from p) hu
  | int a =>
    obtain ⟨t', rfl⟩ := rx
    cases hy with
    | non => cases (show v = Value.none from ry); unfold eqD; exact SeqAt.RcNeAt.int_none a t'
    | bl b => cases (show v = Value.bool b from ry); unfold eqD; exact SeqAt.RcNeAt.int_bool a t' b
    | int b => obtain ⟨t, rfl⟩ := ry; unfold eqD; exact SeqAt.RcNeAt.int_int a t' b t
    | str b => obtain ⟨t, rfl⟩ := ry; unfold eqD; exact SeqAt.RcNeAt.int_str a t' b t
    | lst h t => cases ry; obtain ⟨its, r, p, _⟩ := I.list h; unfold eqD; exact SeqAt.RcNeAt.int_list a t' p.isList hu
    | tup h t => cases ry; obtain ⟨its, r, p, _⟩ := I.tuple h; unfold eqD; exact SeqAt.RcNeAt.int_tuple a t' (show s.heap.IsTuple _ its.toArray from p) hu
  | str a =>
    obtain ⟨t', rfl⟩ := rx
    cases hy with
    | non => cases (show v = Value.none from ry); unfold eqD; exact SeqAt.RcNeAt.str_none a t'
    | bl b => cases (show v = Value.bool b from ry); unfold eqD; exact SeqAt.RcNeAt.str_bool a t' b
    | int b => obtain ⟨t, rfl⟩ := ry; unfold eqD; exact SeqAt.RcNeAt.str_int a t' b t
    | str b => obtain ⟨t, rfl⟩ := ry; unfold eqD; exact SeqAt.RcNeAt.str_str a t' b t
    | lst h t => cases ry; obtain ⟨its, r, p, _⟩ := I.list h; unfold eqD; exact SeqAt.RcNeAt.str_list a t' p.isList hu
    | tup h t => cases ry; obtain ⟨its, r, p, _⟩ := I.tuple h; unfold eqD; exact SeqAt.RcNeAt.str_tuple a t' (show s.heap.IsTuple _ its.toArray from p) hu
  | @lst a xs ds h t1 =>
    cases rx
    obtain ⟨its, r, p, _⟩ := I.list h
    cases hy with
    | non => cases (show v = Value.none from ry); unfold eqD; exact SeqAt.RcNeAt.list_none p.isList hu
    | bl b => cases (show v = Value.bool b from ry); unfold eqD; exact SeqAt.RcNeAt.list_bool b p.isList hu
    | int b => obtain ⟨t, rfl⟩ := ry; unfold eqD; exact SeqAt.RcNeAt.list_int b t p.isList hu
    | str b => obtain ⟨t, rfl⟩ := ry; unfold eqD; exact SeqAt.RcNeAt.list_str b t p.isList hu
    | @lst b ys es h2 t2 =>
      cases ry
      obtain ⟨its2, r2, p2, _⟩ := I.list h2
      have l1 := r.length
      have l2 := r2.length
      have m1 := t1.length
      have m2 := t2.length
      have it := items_eq (A := A.in1) r r2 t1 t2 fun d' hd' e x y u v a b c d => ih d' (by rw [ht_lst]; exact hlt hd') e x y u v a b c d
      unfold eqD
      by_cases hl : ds.length = es.length
      · have q := SeqAt.RcNeAt.lists (e := eAt ds es) p.isList p2.isList (by simp only [List.size_toArray]; trivial) hu it
        rw [← all_eAt ds es hl]
        have e1 : its.toArray.size = ds.length := by simp only [List.size_toArray]; trivial
        rw [e1] at q
        exact q
      · have q := SeqAt.RcNeAt.lists_lengths (A := A) p.isList p2.isList (by simp only [List.size_toArray, bne_iff_ne]; trivial) hu
        cases z : eqDs ds es with
        | false => exact q
        | true => exact absurd (eqDs_len z) hl
    | @tup b ys es h2 t2 =>
      cases ry
      obtain ⟨its2, r2, p2, _⟩ := I.tuple h2
      unfold eqD
      exact SeqAt.RcNeAt.list_tuple p.isList (show s.heap.IsTuple b its2.toArray from p2) hu
  | @tup a xs ds h t1 =>
    cases rx
    obtain ⟨its, r, p, _⟩ := I.tuple h
    have p' : s.heap.IsTuple a its.toArray := p
    cases hy with
    | non => cases (show v = Value.none from ry); unfold eqD; exact SeqAt.RcNeAt.tuple_none p' hu
    | bl b => cases (show v = Value.bool b from ry); unfold eqD; exact SeqAt.RcNeAt.tuple_bool b p' hu
    | int b => obtain ⟨t, rfl⟩ := ry; unfold eqD; exact SeqAt.RcNeAt.tuple_int b t p' hu
    | str b => obtain ⟨t, rfl⟩ := ry; unfold eqD; exact SeqAt.RcNeAt.tuple_str b t p' hu
    | @lst b ys es h2 t2 =>
      cases ry
      obtain ⟨its2, r2, p2, _⟩ := I.list h2
      unfold eqD
      exact SeqAt.RcNeAt.tuple_list p' p2.isList hu
    | @tup b ys es h2 t2 =>
      cases ry
      obtain ⟨its2, r2, p2, _⟩ := I.tuple h2
      have p2' : s.heap.IsTuple b its2.toArray := p2
      have l1 := r.length
      have l2 := r2.length
      have m1 := t1.length
      have m2 := t2.length
      have it := items_eq (A := A.in1) r r2 t1 t2 fun d' hd' e x y u v a b c d => ih d' (by rw [ht_tup]; exact hlt hd') e x y u v a b c d
      unfold eqD
      have q := SeqAt.RcNeAt.tuples (e := eAt ds es) p' p2' hu it
      have e1 : its.toArray.size = ds.length := by simp only [List.size_toArray]; trivial
      have e2 : its2.toArray.size = es.length := by simp only [List.size_toArray]; trivial
      rw [e1, e2, all_eAt_min] at q
      exact q
end
noncomputable def rEqD (K : Frag) : R2 := fun x y H Q => ∃ d e, Deep K H x d ∧ Deep K H y e ∧ ht d ≤ 60 ∧ Q (.bl (eqD d e)) H
theorem op_eqD {X : Cx} (hu : X.A.units + 64 < cLine) : OpR X (compareOp .Eq) (rEqD X.K) := by
  intro pins s σ H x y v u Q I rx ry h
  obtain ⟨d, e, hx, hy, hh, q⟩ := h
  have rc := rc_deep I (A := X.A) d e x y v u hx hy rx ry (by trivial) (fun d' h => eq_deep I 60 d' (by trivial) (by rw [Around.in1_units]; trivial))
  exact rc X.prog X.w X.xe _ ⟨.bl _, H, I, rfl, q⟩
noncomputable def rNeD (K : Frag) : R2 := fun x y H Q => ∃ d e, Deep K H x d ∧ Deep K H y e ∧ ht d ≤ 60 ∧ Q (.bl (!eqD d e)) H
theorem op_neD {X : Cx} (hu : X.A.units + 64 < cLine) : OpR X (compareOp .NotEq) (rNeD X.K) := by
  intro pins s σ H x y v u Q I rx ry h
  obtain ⟨d, e, hx, hy, hh, q⟩ := h
  have rc := rcne_deep I (A := X.A) d e x y v u hx hy rx ry (by trivial) (fun d' h => eq_deep I 60 d' (by trivial) (by rw [Around.in1_units]; trivial))
  exact rc X.prog X.w X.xe _ ⟨.bl _, H, I, rfl, q⟩
end L2
set_option Elab.async false
set_option linter.all false
set_option maxRecDepth 100000
namespace L2
open PySem PySem.Spec PyProof.Rows PySem.W
noncomputable def compOk (osc : Scope) (XN N : List Str) (js : List (Option Nat)) (scope : Scope) : Bool :=
  scope.names.all (fun y => !(y.2 == NameKind.cell)) && scope.names.all (fun y => !(y.2 == NameKind.local) || scope.names.lookup y.1 == some .local) &&
  scope.names.all (fun y => !(y.2 == NameKind.free) || osc.names.lookup y.1 == some .cell || osc.names.lookup y.1 == some .free) && js.length == N.length &&
  (js.zip N).all (fun p => match p.1 with | none => true | some j => XN[j]? == some p.2 && scope.names.lookup p.2 == some .free)
theorem comp_scope {X : Cx} {N : List Str} {js : List (Option Nat)} {scope : Scope} {osc : Scope} {XN : List Str} (hk : scope.kind = .function) (e1 : X.env.scope = osc) (e2 : X.N = XN) (h : compOk osc XN N js scope = true) : CompScope X N js scope := by
  unfold compOk at h
  simp only [Bool.and_eq_true, List.all_eq_true, Bool.or_eq_true, Bool.not_eq_true', beq_iff_eq] at h
  obtain ⟨⟨⟨⟨h1, h2⟩, h3⟩, h4⟩, h5⟩ := h
  refine ⟨hk, fun y hy z => ?_, fun y hy z => ?_, fun y hy z => ?_, h4, fun i j x ej ex => ?_⟩
  · have := h1 y hy
    rw [z] at this; cases this
  · rcases h2 y hy with q | q
    · rw [z] at q; cases q
    · exact q
  · show X.env.scope.names.lookup y.1 = _ ∨ X.env.scope.names.lookup y.1 = _
    rw [e1]
    rcases h3 y hy with (q | q) | q
    · rw [z] at q; cases q
    · exact .inl q
    · exact .inr q
  · have hm : (some j, x) ∈ js.zip N := by
      refine List.mem_iff_getElem?.mpr ⟨i, ?_⟩
      rw [List.getElem?_zip_eq_some]
      exact ⟨ej, ex⟩
    have q := h5 _ hm
    simp only [Bool.and_eq_true, beq_iff_eq] at q
    rw [e2]
    exact q
noncomputable def CW (n : Nat) (Pv : Nat → St → Hp → Prop) (i m : Nat) (σ : St) (H : Hp) : Prop := m = n - i ∧ i ≤ n ∧ Pv i σ H
theorem CW.next {n : Nat} {Pv : Nat → St → Hp → Prop} {i : Nat} {σ : St} {H : Hp} (hi : i < n) (h : Pv (i + 1) σ H) : ∃ m', m' < n - i ∧ CW n Pv (i + 1) m' σ H := ⟨n - (i + 1), by trivial, rfl, hi, h⟩
theorem comp_rng {lo : Int} {n : Nat} {D : Addr} {σ0 : St} {H1 : Hp} {Q : VK} {g : TG} {tc : TT} {te : TE} (Pv : Nat → St → Hp → Prop) (h0 : Pv 0 σ0 (upd H1 D (.lst [])))
    (hs : ∀ i σ' H', i < n → Pv i σ' H' → g (.int (lo + i)) σ' H' fun σ2 H3 => tc σ2 H3 fun b H4 => if b = true then te σ2 H4 fun v H5 => rAppend (.ref D) [v] H5 fun _ H6 => ∃ m', m' < n - i ∧ CW n Pv (i + 1) m' σ2 H6 else ∃ m', m' < n - i ∧ CW n Pv (i + 1) m' σ2 H4)
    (hd : ∀ σ' H', Pv n σ' H' → Q (.ref D) H') :
    ∃ W : Nat → Nat → St → Hp → Prop, (∃ m, W 0 m σ0 (upd H1 D (.lst []))) ∧ ∀ i m σ' H', W i m σ' H' → ((Itr lo n).stop i H' ∧ Q (.ref D) H') ∨ ((Itr lo n).go i H' ∧ ∀ x H2, (Itr lo n).yld i H' x H2 → g x σ' H2 fun σ2 H3 => tc σ2 H3 fun b H4 =>
      if b = true then te σ2 H4 fun v H5 => rAppend (.ref D) [v] H5 fun _ H6 => ∃ m', m' < m ∧ W (i + 1) m' σ2 H6 else ∃ m', m' < m ∧ W (i + 1) m' σ2 H4) := by
  refine ⟨CW n Pv, ⟨n, rfl, Nat.zero_le _, h0⟩, ?_⟩
  rintro i m σ' H' ⟨rfl, hi, p⟩
  by_cases hlt : i < n
  · refine .inr ⟨hlt, fun x H2 y => ?_⟩
    obtain ⟨e, y⟩ := y
    subst e y
    exact hs i σ' _ hlt p
  · have e : i = n := by trivial
    subst e
    exact .inl ⟨Nat.le_refl _, hd σ' H' p⟩
theorem comp_lst {K : Frag} {a : Addr} {xs : List V} {D : Addr} {σ0 : St} {H1 : Hp} {Q : VK} {g : TG} {tc : TT} {te : TE} (Pv : Nat → St → Hp → Prop) (h0 : Pv 0 σ0 (upd H1 D (.lst []))) (hl : ∀ i σ H, i ≤ xs.length → Pv i σ H → SqL K H a xs)
    (hs : ∀ i x σ' H', xs[i]? = some x → Pv i σ' H' → g x σ' H' fun σ2 H3 => tc σ2 H3 fun b H4 => if b = true then te σ2 H4 fun v H5 => rAppend (.ref D) [v] H5 fun _ H6 => ∃ m', m' < xs.length - i ∧ CW xs.length Pv (i + 1) m' σ2 H6 else ∃ m', m' < xs.length - i ∧ CW xs.length Pv (i + 1) m' σ2 H4)
    (hd : ∀ σ' H', Pv xs.length σ' H' → Q (.ref D) H') :
    ∃ W : Nat → Nat → St → Hp → Prop, (∃ m, W 0 m σ0 (upd H1 D (.lst []))) ∧ ∀ i m σ' H', W i m σ' H' → ((Itl K a).stop i H' ∧ Q (.ref D) H') ∨ ((Itl K a).go i H' ∧ ∀ x H2, (Itl K a).yld i H' x H2 → g x σ' H2 fun σ2 H3 => tc σ2 H3 fun b H4 =>
      if b = true then te σ2 H4 fun v H5 => rAppend (.ref D) [v] H5 fun _ H6 => ∃ m', m' < m ∧ W (i + 1) m' σ2 H6 else ∃ m', m' < m ∧ W (i + 1) m' σ2 H4) := by
  refine ⟨CW xs.length Pv, ⟨xs.length, rfl, Nat.zero_le _, h0⟩, ?_⟩
  rintro i m σ' H' ⟨rfl, hi, p⟩
  have q := hl i σ' H' hi p
  by_cases hlt : i < xs.length
  · refine .inr ⟨⟨xs, xs[i], q, by simp [hlt]⟩, fun x H2 y => ?_⟩
    obtain ⟨e, y⟩ := y
    subst e
    exact hs i x σ' _ (y xs q) p
  · have e : i = xs.length := by trivial
    subst e
    exact .inl ⟨⟨xs, q, Nat.le_refl _⟩, hd σ' H' p⟩
theorem eqDs_ints : ∀ (a b : List Int), eqDs (a.map DV.int) (b.map DV.int) = decide (a = b)
  | [], [] => by unfold eqDs; rfl
  | [], _ :: _ => by simp [eqDs]
  | _ :: _, [] => by simp [eqDs]
  | x :: r, y :: t => by
    rw [List.map_cons, List.map_cons]
    unfold eqDs eqD
    rw [eqDs_ints r t]
    by_cases h : x = y <;> by_cases h2 : r = t <;> simp [h, h2]
theorem hts_ints : ∀ a : List Int, hts (a.map DV.int) = 0
  | [] => by unfold hts; rfl
  | x :: r => by rw [List.map_cons]; unfold hts ht; rw [hts_ints r]; rfl
noncomputable def rEqI (K : Frag) : R2 := fun x y H Q => ∃ (a b : Addr) (ns ms : List Int), x = .ref a ∧ y = .ref b ∧ SqL K H a (ns.map V.int) ∧ SqL K H b (ms.map V.int) ∧ Q (.bl (decide (ns = ms))) H
theorem op_eqL {X : Cx} (hu : X.A.units + 64 < cLine) : OpR X (compareOp .Eq) (rEqI X.K) := by
  intro pins s σ H x y v u Q I rx ry h
  obtain ⟨a, b, ns, ms, rfl, rfl, h1, h2, q⟩ := h
  refine op_eqD hu pins s σ H _ _ v u Q I rx ry ⟨_, _, .lst h1 (Deeps.ints ns), .lst h2 (Deeps.ints ms), ?_, ?_⟩
  · unfold ht; rw [hts_ints]; decide
  · unfold eqD; rw [eqDs_ints]; exact q
theorem units_of {A : Around} {k : Nat} (hr : Room k A) : A.units + 64 < cLine := by have := hr.un; trivial
theorem ifT {σ : St} {H : Hp} {A B : Hp → Prop} (h : A H) : tTrue σ H (fun b H4 => if b = true then A H4 else B H4) := by
  show if true = true then A H else B H
  exact iteT h
theorem nameT {j : Nat} {v : V} {σ : St} {H : Hp} {A B : St → Hp → Prop} (h : A (σ.set j (some v)) H) : gName j v σ H (fun σ2 H3 => tTrue σ2 H3 (fun b H4 => if b = true then A σ2 H4 else B σ2 H4)) := by
  show if true = true then A (σ.set j (some v)) H else B (σ.set j (some v)) H
  exact iteT h
end L2
namespace PH
end PH
set_option Elab.async false
set_option linter.all false
set_option maxRecDepth 100000
set_option maxHeartbeats 4000000
namespace PH
open PySem L2 PySem.W
theorem same_new {H : Hp} {p : Addr} (h : H p = none) (o : HO) : Same H (upd H p o) := fun b u q => by rw [upd_ne (ne_of_none q h)]; exact q
noncomputable def deckO (a b c : Int) : HO := .lst [.int a, .int b, .int c]
noncomputable def lsI (ns : List Int) : HO := .lst (ns.map V.int)
theorem int_at {ns : List Int} {i : Nat} {y : V} (h : (ns.map V.int)[i]? = some y) : ∃ z, y = V.int z ∧ ns[i]? = some z := by
  rw [List.getElem?_map] at h
  cases e : ns[i]? with
  | none => rw [e] at h; cases h
  | some z => rw [e] at h; exact ⟨z, (Option.some.inj h).symm, rfl⟩
theorem take_at {α : Type} {ns : List α} {i : Nat} {z : α} (h : ns[i]? = some z) : ns.take (i + 1) = ns.take i ++ [z] := by rw [List.take_add_one, h]; rfl
theorem cut_to {α : Type} {f : Int → V} (ns : List Int) (k : Nat) : cutV (ns.map f) none (some (k : Int)) = (ns.take k).map f := by
  unfold cutV
  rw [HT.sIx_none, HT.sIx_nat, List.drop_zero, Nat.sub_zero, List.length_map, ← List.map_take]
  congr 1
  rcases Nat.le_total k ns.length with h | h
  · rw [Nat.min_eq_left h]
  · rw [Nat.min_eq_right h, List.take_of_length_le (Nat.le_refl _), List.take_of_length_le h]
abbrev bmV : List Value := [.type "ValueError", .type "Exception", .type "BaseException", .type "object"]
structure Ex (K : Frag) (mg : Str → Option Value) (x : Str) (C : Addr) : Prop where
  mg : mg x = some (.ref C)
  ex : excIn K C bmV "ValueError.__new__" = true
  cl : ExcC K C
theorem kit_refl (K : Frag) (t : Value) : kitOne K t t = some true := by unfold kitOne; rw [if_pos (beq_self_eq_true t)]
theorem kit_ib (K : Frag) : kitOne K (.type "int") (.type "bool") = some false := by rfl
theorem boot_isi : bootBuiltins "isinstance" = some (.builtin "isinstance") := by decide +kernel
theorem boot_list' : bootBuiltins "list" = some (.type "list") := by decide +kernel
theorem boot_int' : bootBuiltins "int" = some (.type "int") := by decide +kernel
theorem boot_bool' : bootBuiltins "bool" = some (.type "bool") := by decide +kernel
theorem boot_max' : bootBuiltins "max" = some (.builtin "max") := by decide +kernel
structure Bl (mg : Str → Option Value) : Prop where
  isi : mg "isinstance" = none
  list : mg "list" = none
  int : mg "int" = none
  bool : mg "bool" = none
  len : mg "len" = none
  range : mg "range" = none
  max : mg "max" = none
  ve : mg "ValueError" = none
theorem cut_from (ns : List Int) (k : Nat) : cutV (ns.map V.int) (some (k : Int)) none = (ns.drop k).map V.int := by
  unfold cutV
  rw [HT.sIx_none, HT.sIx_nat, List.length_map]
  rcases Nat.le_total k ns.length with h | h
  · rw [Nat.min_eq_left h, ← List.map_drop, List.take_of_length_le (by rw [List.length_map, List.length_drop]; exact Nat.le_refl _)]
  · rw [Nat.min_eq_right h, Nat.sub_self, List.take_zero, List.drop_of_length_le h]; rfl
noncomputable def spLaw (K : PySem.W.Frag) : Sp := fun vs H Q _ => ∃ (a : Addr) (ns : List Int), vs = [.ref a] ∧ SqL K H a (ns.map V.int) ∧ ns.length ≤ 63 ∧ ∀ H', Q (.bl true) H'
theorem fits {n : Nat} (h : n ≤ 1000000) : n ≤ sizeLine := by
  have : sizeLine = 16777216 := by decide
  trivial
theorem fits_lt {n : Nat} (h : n ≤ 1000000) : n < sizeLine := by
  have : sizeLine = 16777216 := by decide
  trivial
end PH
namespace PH
end PH
set_option Elab.async false
set_option linter.all false
set_option maxRecDepth 100000
namespace L2
open PySem PySem.Spec PyProof.Rows PySem.W
section
variable {X : Cx} {tg : Expr}
end
theorem comp_tup {K : Frag} {a : Addr} {xs : List V} {D : Addr} {σ0 : St} {H1 : Hp} {Q : VK} {g : TG} {tc : TT} {te : TE} (Pv : Nat → St → Hp → Prop) (h0 : Pv 0 σ0 (upd H1 D (.lst []))) (hl : ∀ i σ H, i ≤ xs.length → Pv i σ H → SqT K H a xs)
    (hs : ∀ i x σ' H', xs[i]? = some x → Pv i σ' H' → g x σ' H' fun σ2 H3 => tc σ2 H3 fun b H4 => if b = true then te σ2 H4 fun v H5 => rAppend (.ref D) [v] H5 fun _ H6 => ∃ m', m' < xs.length - i ∧ CW xs.length Pv (i + 1) m' σ2 H6 else ∃ m', m' < xs.length - i ∧ CW xs.length Pv (i + 1) m' σ2 H4)
    (hd : ∀ σ' H', Pv xs.length σ' H' → Q (.ref D) H') :
    ∃ W : Nat → Nat → St → Hp → Prop, (∃ m, W 0 m σ0 (upd H1 D (.lst []))) ∧ ∀ i m σ' H', W i m σ' H' → ((Itt K a).stop i H' ∧ Q (.ref D) H') ∨ ((Itt K a).go i H' ∧ ∀ x H2, (Itt K a).yld i H' x H2 → g x σ' H2 fun σ2 H3 => tc σ2 H3 fun b H4 =>
      if b = true then te σ2 H4 fun v H5 => rAppend (.ref D) [v] H5 fun _ H6 => ∃ m', m' < m ∧ W (i + 1) m' σ2 H6 else ∃ m', m' < m ∧ W (i + 1) m' σ2 H4) := by
  refine ⟨CW xs.length Pv, ⟨xs.length, rfl, Nat.zero_le _, h0⟩, ?_⟩
  rintro i m σ' H' ⟨rfl, hi, p⟩
  have q := hl i σ' H' hi p
  by_cases hlt : i < xs.length
  · refine .inr ⟨⟨xs, xs[i], q, by simp [hlt]⟩, fun x H2 y => ?_⟩
    obtain ⟨e, y⟩ := y
    subst e
    exact hs i x σ' _ (y xs q) p
  · have e : i = xs.length := by trivial
    subst e
    exact .inl ⟨⟨xs, q, Nat.le_refl _⟩, hd σ' H' p⟩
theorem comp_rngQ {lo : Int} {n : Nat} {D : Addr} {σ0 : St} {H1 : Hp} {Qd : Hp → Prop} {g : TG} {tc : TT} {te : TE} (Pv : Nat → St → Hp → Prop) (h0 : Pv 0 σ0 (upd H1 D (.lst [])))
    (hs : ∀ i σ' H', i < n → Pv i σ' H' → g (.int (lo + i)) σ' H' fun σ2 H3 => tc σ2 H3 fun b H4 => if b = true then te σ2 H4 fun v H5 => rAppend (.ref D) [v] H5 fun _ H6 => ∃ m', m' < n - i ∧ CW n Pv (i + 1) m' σ2 H6 else ∃ m', m' < n - i ∧ CW n Pv (i + 1) m' σ2 H4)
    (hd : ∀ σ' H', Pv n σ' H' → Qd H') :
    ∃ W : Nat → Nat → St → Hp → Prop, (∃ m, W 0 m σ0 (upd H1 D (.lst []))) ∧ ∀ i m σ' H', W i m σ' H' → ((Itr lo n).stop i H' ∧ Qd H') ∨ ((Itr lo n).go i H' ∧ ∀ x H2, (Itr lo n).yld i H' x H2 → g x σ' H2 fun σ2 H3 => tc σ2 H3 fun b H4 =>
      if b = true then te σ2 H4 fun v H5 => rAppend (.ref D) [v] H5 fun _ H6 => ∃ m', m' < m ∧ W (i + 1) m' σ2 H6 else ∃ m', m' < m ∧ W (i + 1) m' σ2 H4) :=
  comp_rng (Q := fun _ H => Qd H) Pv h0 hs hd
theorem comp_lstQ {K : Frag} {a : Addr} {xs : List V} {D : Addr} {σ0 : St} {H1 : Hp} {Qd : Hp → Prop} {g : TG} {tc : TT} {te : TE} (Pv : Nat → St → Hp → Prop) (h0 : Pv 0 σ0 (upd H1 D (.lst []))) (hl : ∀ i σ H, i ≤ xs.length → Pv i σ H → SqL K H a xs)
    (hs : ∀ i x σ' H', xs[i]? = some x → Pv i σ' H' → g x σ' H' fun σ2 H3 => tc σ2 H3 fun b H4 => if b = true then te σ2 H4 fun v H5 => rAppend (.ref D) [v] H5 fun _ H6 => ∃ m', m' < xs.length - i ∧ CW xs.length Pv (i + 1) m' σ2 H6 else ∃ m', m' < xs.length - i ∧ CW xs.length Pv (i + 1) m' σ2 H4)
    (hd : ∀ σ' H', Pv xs.length σ' H' → Qd H') :
    ∃ W : Nat → Nat → St → Hp → Prop, (∃ m, W 0 m σ0 (upd H1 D (.lst []))) ∧ ∀ i m σ' H', W i m σ' H' → ((Itl K a).stop i H' ∧ Qd H') ∨ ((Itl K a).go i H' ∧ ∀ x H2, (Itl K a).yld i H' x H2 → g x σ' H2 fun σ2 H3 => tc σ2 H3 fun b H4 =>
      if b = true then te σ2 H4 fun v H5 => rAppend (.ref D) [v] H5 fun _ H6 => ∃ m', m' < m ∧ W (i + 1) m' σ2 H6 else ∃ m', m' < m ∧ W (i + 1) m' σ2 H4) :=
  comp_lst (Q := fun _ H => Qd H) Pv h0 hl hs hd
theorem comp_tupQ {K : Frag} {a : Addr} {xs : List V} {D : Addr} {σ0 : St} {H1 : Hp} {Qd : Hp → Prop} {g : TG} {tc : TT} {te : TE} (Pv : Nat → St → Hp → Prop) (h0 : Pv 0 σ0 (upd H1 D (.lst []))) (hl : ∀ i σ H, i ≤ xs.length → Pv i σ H → SqT K H a xs)
    (hs : ∀ i x σ' H', xs[i]? = some x → Pv i σ' H' → g x σ' H' fun σ2 H3 => tc σ2 H3 fun b H4 => if b = true then te σ2 H4 fun v H5 => rAppend (.ref D) [v] H5 fun _ H6 => ∃ m', m' < xs.length - i ∧ CW xs.length Pv (i + 1) m' σ2 H6 else ∃ m', m' < xs.length - i ∧ CW xs.length Pv (i + 1) m' σ2 H4)
    (hd : ∀ σ' H', Pv xs.length σ' H' → Qd H') :
    ∃ W : Nat → Nat → St → Hp → Prop, (∃ m, W 0 m σ0 (upd H1 D (.lst []))) ∧ ∀ i m σ' H', W i m σ' H' → ((Itt K a).stop i H' ∧ Qd H') ∨ ((Itt K a).go i H' ∧ ∀ x H2, (Itt K a).yld i H' x H2 → g x σ' H2 fun σ2 H3 => tc σ2 H3 fun b H4 =>
      if b = true then te σ2 H4 fun v H5 => rAppend (.ref D) [v] H5 fun _ H6 => ∃ m', m' < m ∧ W (i + 1) m' σ2 H6 else ∃ m', m' < m ∧ W (i + 1) m' σ2 H4) :=
  comp_tup (Q := fun _ H => Qd H) Pv h0 hl hs hd
end L2
set_option Elab.async false
set_option linter.all false
set_option maxRecDepth 100000
set_option maxHeartbeats 4000000
namespace PH
open PySem L2 PySem.W
theorem boot_tuple' : bootBuiltins "tuple" = some (.type "tuple") := by decide +kernel
structure ExR (K : Frag) (cP cN c1 c2 c3 c4 c5 c6 : Addr) : Prop where
  m : mroIn K cN (.ref cP) = some true
  v : kitOne K (.ref cN) (.type "ValueError") = some true
  o : kitAny K (.ref cN) [.ref c1, .ref c2, .ref c3, .ref c4, .ref c5, .ref c6] = some false
theorem cut_two (ns : List Int) (i j : Nat) : cutV (ns.map V.int) (some (i : Int)) (some (j : Int)) = ((ns.drop i).take (j - i)).map V.int := by
  unfold cutV
  rw [HT.sIx_nat, HT.sIx_nat, List.length_map, ← List.map_drop, ← List.map_take]
  congr 1
  rcases Nat.le_total i ns.length with h | h
  · rw [Nat.min_eq_left h]
    rcases Nat.le_total j ns.length with h2 | h2
    · rw [Nat.min_eq_left h2]
    · rw [Nat.min_eq_right h2, List.take_of_length_le (by rw [List.length_drop]; exact Nat.le_refl _), List.take_of_length_le (by rw [List.length_drop]; trivial)]
  · rw [Nat.min_eq_right h, List.drop_of_length_le (Nat.le_refl _), List.drop_of_length_le h, List.take_nil, List.take_nil]
end PH
namespace PH
end PH
set_option Elab.async false
set_option linter.all false
namespace L2
open PySem PySem.Spec PyProof.Rows
section
variable {X : Cx}
end
end L2
set_option Elab.async false
set_option linter.all false
set_option maxRecDepth 100000
set_option maxHeartbeats 4000000
namespace PH
open PySem L2 PySem.W
theorem boot_min' : bootBuiltins "min" = some (.builtin "min") := by decide +kernel
structure Bls (mg : Str → Option Value) : Prop where
  isi : mg "isinstance" = none
  list : mg "list" = none
  int : mg "int" = none
  bool : mg "bool" = none
  len : mg "len" = none
  range : mg "range" = none
  max : mg "max" = none
  ve : mg "ValueError" = none
  tuple : mg "tuple" = none
  min : mg "min" = none
  sorted : mg "sorted" = none
  all : mg "all" = none
  dict : mg "dict" = none
theorem same_upd {H H' : Hp} (s : Same H H') {q : Addr} (u : HO) (hq : H q = none) : Same H (upd H' q u) := fun b w e => by
  rw [upd_ne (ne_of_none e hq)]; exact s b w e
theorem lsI_app1 (a : List Int) (z : Int) : (.lst (a.map V.int ++ [V.int z]) : HO) = lsI (a ++ [z]) := by unfold lsI; rw [List.map_append]; rfl
end PH
set_option Elab.async false
set_option linter.all false
set_option maxRecDepth 100000
set_option maxHeartbeats 4000000
namespace PH
open PySem L2 PySem.W
structure Dks (ps : List Addr) (D : Addr) (H : Hp) : Prop where
  at_ : H D = some (.lst (ps.map V.ref))
  each : ∀ p ∈ ps, p ≠ D ∧ ∃ a b c, H p = some (deckO a b c)
theorem Dks.bits {ps : List Addr} {D p : Addr} {H H' : Hp} {a b c : Int} (h : Dks ps D H) (hp : p ∈ ps) (h1 : H' p = some (deckO a b c)) (kp : ∀ q o, q ≠ p → H q = some o → H' q = some o) : Dks ps D H' := ⟨kp _ _ (h.each p hp).1.symm h.at_, fun q hq => by
  obtain ⟨e, a', b', c', z⟩ := h.each q hq
  by_cases hqp : q = p
  · subst hqp; exact ⟨e, a, b, c, h1⟩
  · exact ⟨e, a', b', c', kp _ _ hqp z⟩⟩
end PH
set_option Elab.async false
set_option linter.all false
set_option maxRecDepth 100000
namespace L2
open PySem PySem.Spec PyProof.Rows PySem.W
end L2
set_option Elab.async false
set_option linter.all false
set_option maxRecDepth 100000
namespace L2
open PySem PySem.Spec PyProof.Rows
section
variable {κ : Type} [DecidableEq κ]
noncomputable def valV (kvs : List (κ × V)) (k : κ) : Option V := (kvs.find? fun kv => decide (kv.1 = k)).map (·.2)
noncomputable def putK (kvs : List (κ × V)) (k : κ) (v : V) : List (κ × V) :=
  if (kvs.any fun kv => decide (kv.1 = k)) = true then kvs.map (fun kv => if kv.1 = k then (kv.1, v) else kv) else kvs ++ [(k, v)]
theorem valV_pos {p : κ × V} {r : List (κ × V)} {k : κ} (e : p.1 = k) : valV (p :: r) k = some p.2 := by simp [valV, List.find?_cons, e]
theorem valV_neg {p : κ × V} {r : List (κ × V)} {k : κ} (e : ¬ p.1 = k) : valV (p :: r) k = valV r k := by simp [valV, List.find?_cons, e]
theorem valV_any (k : κ) : ∀ kvs : List (κ × V), (kvs.any fun kv => decide (kv.1 = k)) = (valV kvs k).isSome
  | [] => rfl
  | p :: r => by
    rw [List.any_cons]
    by_cases e : p.1 = k
    · simp only [valV_pos e, decide_eq_true e, Bool.true_or, Option.isSome_some]
    · rw [valV_neg e, decide_eq_false e, Bool.false_or]; exact valV_any k r
theorem RelO.isSome_eq {o : Option V} {u : Option Value} (r : RelO o u) : o.isSome = u.isSome := by
  cases o with
  | none => cases u with
    | none => rfl
    | some _ => exact (show False from r).elim
  | some _ => cases u with
    | none => exact (show False from r).elim
    | some _ => rfl
theorem RelO.getD {o : Option V} {u : Option Value} {d : V} {d' : Value} (r : RelO o u) (rd : RelV d d') : RelV (o.getD d) (u.getD d') := by
  cases o with
  | none => cases u with
    | none => exact rd
    | some _ => exact (show False from r).elim
  | some _ => cases u with
    | none => exact (show False from r).elim
    | some _ => exact r
theorem KV.any {kvs : List (κ × V)} {vs : List (κ × Value)} (r : KV kvs vs) (k : κ) : (kvs.any fun kv => decide (kv.1 = k)) = vs.any fun kv => decide (kv.1 = k) := by
  unfold KV at r
  induction r with
  | nil => rfl
  | cons h t ih => rw [List.any_cons, List.any_cons, ih, h.1]
theorem KV.repl {kvs : List (κ × V)} {vs : List (κ × Value)} (r : KV kvs vs) (k : κ) {y : V} {u : Value} (ry : RelV y u) :
    KV (kvs.map fun kv => if kv.1 = k then (kv.1, y) else kv) (vs.map fun kv => if kv.1 = k then (kv.1, u) else kv) := by
  unfold KV at r ⊢
  induction r with
  | nil => exact .nil
  | @cons p q ps qs h t ih =>
    rw [List.map_cons, List.map_cons]
    refine .cons ?_ ih
    obtain ⟨h1, h2⟩ := h
    by_cases e : p.1 = k
    · rw [if_pos e, if_pos (h1.symm.trans e)]; exact ⟨h1, ry⟩
    · rw [if_neg e, if_neg (fun z => e (h1.trans z))]; exact ⟨h1, h2⟩
theorem KV.put {kvs : List (κ × V)} {vs : List (κ × Value)} (r : KV kvs vs) (k : κ) {y : V} {u : Value} (ry : RelV y u) : KV (putK kvs k y) (stored vs k u) := by
  unfold putK stored
  rw [r.any k]
  by_cases e : (vs.any fun kv => decide (kv.1 = k)) = true
  · rw [if_pos e, if_pos e]; exact r.repl k ry
  · rw [if_neg e, if_neg e]; exact Paired.snoc r ⟨rfl, ry⟩
theorem KV.length {kvs : List (κ × V)} {vs : List (κ × Value)} (r : KV kvs vs) : kvs.length = vs.length := Paired.length r
end
noncomputable abbrev KT (H : Hp) : List (List Key × V) → List (List Key × Addr × Value) → Prop := Paired fun p q => p.1 = q.1 ∧ H q.2.1 = some (.tup (p.1.map kV)) ∧ RelV p.2 q.2.2
theorem KT.val {H : Hp} {kvs : List (List Key × V)} {xs : List (List Key × Addr × Value)} (r : KT H kvs xs) (k : List Key) : RelO (valV kvs k) ((atKey xs k).map (·.2)) := by
  induction r with
  | nil => exact True.intro
  | @cons p q ps qs h t ih =>
    obtain ⟨h1, _, h2⟩ := h
    by_cases e : p.1 = k
    · have e' : q.1 = k := h1.symm.trans e
      have b : atKey (q :: qs) k = some q.2 := by simp [atKey, List.find?_cons, e']
      rw [valV_pos e, b]; exact h2
    · have e' : ¬ q.1 = k := fun z => e (h1.trans z)
      have b : atKey (q :: qs) k = atKey qs k := by simp [atKey, List.find?_cons, e']
      rw [valV_neg e, b]; exact ih
theorem KT.repl {H : Hp} {kvs : List (List Key × V)} {xs : List (List Key × Addr × Value)} (r : KT H kvs xs) (k : List Key) {y : V} {u : Value} (ry : RelV y u) :
    KT H (kvs.map fun kv => if kv.1 = k then (kv.1, y) else kv) (xs.map (putAt k u)) := by
  induction r with
  | nil => exact .nil
  | @cons p q ps qs h t ih =>
    rw [List.map_cons, List.map_cons]
    refine .cons ?_ ih
    obtain ⟨h1, h2, h3⟩ := h
    unfold putAt
    by_cases e : p.1 = k
    · rw [if_pos e, if_pos (h1.symm.trans e)]; exact ⟨h1, h2, ry⟩
    · rw [if_neg e, if_neg (fun z => e (h1.trans z))]; exact ⟨h1, h2, h3⟩
theorem KT.put {H : Hp} {kvs : List (List Key × V)} {xs : List (List Key × Addr × Value)} (r : KT H kvs xs) (k : List Key) {b : Addr} {y : V} {u : Value} (hb : H b = some (.tup (k.map kV))) (ry : RelV y u) :
    KT H (putK kvs k y) (storedH xs k b u) := by
  have e : (kvs.any fun kv => decide (kv.1 = k)) = (atKey xs k).isSome := by
    rw [valV_any, (r.val k).isSome_eq, Option.isSome_map]
  unfold putK storedH
  rw [e]
  by_cases q : (atKey xs k).isSome = true
  · rw [if_pos q, if_pos q]; exact r.repl k ry
  · rw [if_neg q, if_neg q]; exact Paired.snoc r ⟨rfl, hb, ry⟩
section
variable {P : Program} {w : World} {H : Hp} {h : Heap} {a : Addr}
end
noncomputable def DGet (H : Hp) (a : Addr) (y : V) (r : Option V) : Prop :=
  (∃ kvs k, Rd H a (.dK kvs) ∧ y = kV k ∧ r = valV kvs k) ∨ ∃ kvs k b, Rd H a (.dT kvs) ∧ y = .ref b ∧ H b = some (.tup (k.map kV)) ∧ r = valV kvs k
noncomputable def DPut (H : Hp) (a : Addr) (y v : V) (H' : Hp) : Prop :=
  (∃ kvs k, H a = some (.dK kvs) ∧ y = kV k ∧ kvs.length < sizeLine ∧ H' = upd H a (.dK (putK kvs k v))) ∨
  ∃ kvs k b, H a = some (.dT kvs) ∧ y = .ref b ∧ H b = some (.tup (k.map kV)) ∧ kvs.length < sizeLine ∧ H' = upd H a (.dT (putK kvs k v))
theorem DGet.t {H : Hp} {a b : Addr} {kvs : List (List Key × V)} {k : List Key} (e : H a = some (.dT kvs)) (eb : H b = some (.tup (k.map kV))) : DGet H a (.ref b) (valV kvs k) := .inr ⟨kvs, k, b, .inl e, rfl, eb, rfl⟩
theorem DPut.t {H : Hp} {a b : Addr} {kvs : List (List Key × V)} {k : List Key} {v : V} (e : H a = some (.dT kvs)) (eb : H b = some (.tup (k.map kV))) (hl : kvs.length < sizeLine) :
    DPut H a (.ref b) v (upd H a (.dT (putK kvs k v))) := .inr ⟨kvs, k, b, e, rfl, eb, hl, rfl⟩
section
variable {X : Cx} {pins : List (Addr × Obj)} {σ : St} {H : Hp} {s : Shared} {a : Addr} {y v : V} {u r : Value} {o : Option V} {A : Around} {E : Value → Shared → Prop}
end
section
variable {X : Cx} {pins : List (Addr × Obj)} {σ : St} {H : Hp} {s : Shared} {a : Addr} {kvs : List (Key × V)} {k : Key} {u : Value} {A : Around} {E : Value → Shared → Prop}
end
section
variable {X : Cx} {o i e value : Expr} {pos pos' tpos : Pos} {td ty tv : TE}
end
section
variable {X : Cx} {pos : Pos}
end
structure M1 (X : Cx) (o : Expr) (m : Str) (apos : Pos) (e : Expr) (cpos : Pos) : Prop where
  base : attributeBase o m X.env (eval o X.env) = eval o X.env
  few : ((backTo cpos (starEach [e] X.env)).all (fun x => !x.1) && (backToKw cpos (keywordEach [] X.env)).all (fun x => x.1.isSome)
    && decide (([e] : List Expr).length + ([] : List Keyword).length + (if ([] : List Keyword).isEmpty then 0 else 1) < 30)) = true
  line : (apos.endLine == cpos.line) = true
  trees : backTo cpos (starEach [e] X.env) = [(false, eval e X.env)]
structure M2 (X : Cx) (o : Expr) (m : Str) (apos : Pos) (e f : Expr) (cpos : Pos) : Prop where
  base : attributeBase o m X.env (eval o X.env) = eval o X.env
  few : ((backTo cpos (starEach [e, f] X.env)).all (fun x => !x.1) && (backToKw cpos (keywordEach [] X.env)).all (fun x => x.1.isSome)
    && decide (([e, f] : List Expr).length + ([] : List Keyword).length + (if ([] : List Keyword).isEmpty then 0 else 1) < 30)) = true
  line : (apos.endLine == cpos.line) = true
  trees : backTo cpos (starEach [e, f] X.env) = [(false, eval e X.env), (false, eval f X.env)]
section
variable {X : Cx} {pins : List (Addr × Obj)} {σ : St} {H : Hp} {s : Shared} {a : Addr} {y d : V} {u r : Value} {o : Option V} {A : Around} {E : Value → Shared → Prop}
end
section
variable {X : Cx} {o e f : Expr} {apos cpos : Pos} {td ty tx : TE}
end
section
variable {X : Cx} {pins : List (Addr × Obj)} {σ : St} {H : Hp} {s : Shared} {a : Addr} {kvs : List (Key × V)} {A : Around} {E : Value → Shared → Prop}
end
section
variable {X : Cx} {pins : List (Addr × Obj)} {σ : St} {H : Hp} {s : Shared} {a : Addr} {y : V} {u : Value} {A : Around} {E : Value → Shared → Prop}
end
end L2
namespace L2
open PySem PySem.Spec PyProof.Rows
section
variable {X : Cx}
end
section
variable {κ : Type} [DecidableEq κ]
end
end L2
set_option linter.all false
namespace TS
open PySem PyProof.Rows
noncomputable def gallop' : Bool → Keyed → Array Keyed → Nat → Nat → Nat → StateT SortSt Sem (Option Nat) := sortPriv% PySem.Builtin.gallop
noncomputable def mergeLo' : Array Keyed → Array Keyed → StateT SortSt Sem (Array Keyed) := sortPriv% PySem.Builtin.mergeLo
noncomputable def mergeHi' : Array Keyed → Array Keyed → StateT SortSt Sem (Array Keyed) := sortPriv% PySem.Builtin.mergeHi
noncomputable def mergeAt' : Nat → StateT SortSt Sem Bool := sortPriv% PySem.Builtin.mergeAt
section
variable {prog : Program} {w : World} {A : Around} {E : Value → Shared → Prop} {s : Shared}
structure Cmp (prog : Program) (w : World) (A : Around) (s : Shared) (kd : SortKind) (O : KeyOrd) (ky : Keyed → O.α) (S : Keyed → Prop) : Prop where
  lt : ∀ p q, S p → S q → ∀ {E : Value → Shared → Prop} {Q : Bool → Shared → Prop}, Q (O.blt (ky p) (ky q)) s → wpAny (model prog w) A (keyLt' kd p.1 q.1) Q E s
variable {kd : SortKind} {O : KeyOrd} {ky : Keyed → O.α} {S : Keyed → Prop}
theorem wpS_lt (C : Cmp prog w A s kd O ky S) {st : SortSt} {p q : Keyed} {Q : Option Bool → SortSt → Prop} (hk : kindOf st = kd) (hp : S p) (hq : S q) (h : Q (some (O.blt (ky p) (ky q))) st) : wpS (model prog w) A E s (lt' p q) Q st := by
  rw [lt'_eq]
  refine wpS_bind (wpS_get ?_)
  rw [hk]
  refine wpS_bind (wpS_lift (wpAny_attempt (C.lt p q hp hq ⟨rfl, ?_⟩)))
  exact wpS_pure h
theorem wpS_elem {arr : Array Keyed} {i : Nat} {p : Keyed} {Q : Keyed → SortSt → Prop} {st : SortSt} (h : arr[i]? = some p) (hq : Q p st) : wpS (model prog w) A E s (elem' arr i) Q st := by
  rw [elem'_eq, h]
  exact wpS_pure hq
noncomputable def bey (O : KeyOrd) (ky : Keyed → O.α) (left : Bool) (key p : Keyed) : Bool := if left then O.blt (ky p) (ky key) else !O.blt (ky key) (ky p)
theorem wpS_bey (C : Cmp prog w A s kd O ky S) {st : SortSt} {left : Bool} {key p : Keyed} {arr : Array Keyed} {i : Nat} {Q : Option Bool → SortSt → Prop} (hk : kindOf st = kd) (hs : S key) (hp : arr[i]? = some p) (hsp : S p) (h : Q (some (bey O ky left key p)) st) :
    wpS (model prog w) A E s (do
      let x ← elem' arr i
      if left = true then lt' x key else do
        let r ← lt' key x
        pure (Option.map (fun x => !x) r)) Q st := by
  refine wpS_bind (wpS_elem hp ?_)
  unfold bey at h
  cases left with
  | true =>
    rw [if_pos rfl] at h ⊢
    exact wpS_lt C hk hsp hs h
  | false =>
    rw [if_neg Bool.false_ne_true] at h ⊢
    exact wpS_bind (wpS_lt C hk hs hsp (wpS_pure h))
theorem wpS_gallop (C : Cmp prog w A s kd O ky S) {st : SortSt} {left : Bool} {key : Keyed} {arr : Array Keyed} {base n hint : Nat} {Q : Option Nat → SortSt → Prop} (hk : kindOf st = kd) (hs : S key) {el : Nat → Keyed} (hel : ∀ i, i < n → arr[base + i]? = some (el i) ∧ S (el i))
    (anti : ∀ i j, i ≤ j → j < n → bey O ky left key (el j) = true → bey O ky left key (el i) = true) (hh : hint < n)
    (h : ∀ k, k ≤ n → (∀ i, i < k → bey O ky left key (el i) = true) → (∀ i, k ≤ i → i < n → bey O ky left key (el i) = false) → Q (some k) st) :
    wpS (model prog w) A E s (gallop' left key arr base n hint) Q st := by
  have anti' : ∀ i j, i ≤ j → j < n → bey O ky left key (el i) = false → bey O ky left key (el j) = false := fun i j h1 h2 h3 => by
    cases e : bey O ky left key (el j) with
    | false => rfl
    | true => rw [anti i j h1 h2 e] at h3; cases h3
  have ask : ∀ (i : Nat) {Q : Option Bool → SortSt → Prop}, i < n → Q (some (bey O ky left key (el i))) st → wpS (model prog w) A E s (do
      let x ← elem' arr (base + i)
      if left = true then lt' x key else do
        let r ← lt' key x
        pure (Option.map (fun x => !x) r)) Q st := fun i Q hi hq => wpS_bey C hk hs (hel i hi).1 (hel i hi).2 hq
  unfold gallop'
  refine wpS_bind (ask hint hh ?_)
  -- the last search
  have fin : ∀ lo hi, lo ≤ hi → hi ≤ n → (∀ i, i < lo → bey O ky left key (el i) = true) → (∀ i, hi ≤ i → i < n → bey O ky left key (el i) = false) → ∀ {f : Nat → Option (Option Nat) × Nat × Nat → StateT SortSt Sem (ForInStep (Option (Option Nat) × Nat × Nat))},
      (∀ (x : Nat) lo hi, lo ≤ hi → hi ≤ n → ∀ {R : ForInStep (Option (Option Nat) × Nat × Nat) → SortSt → Prop}, (lo ≥ hi → R (.done (none, lo, hi)) st) → (∀ m, lo ≤ m → m < hi → bey O ky left key (el m) = true → R (.yield (none, m + 1, hi)) st) → (∀ m, lo ≤ m → m < hi → bey O ky left key (el m) = false → R (.yield (none, lo, m)) st) → wpS (model prog w) A E s (f x (none, lo, hi)) R st) →
      ∀ {g : Option (Option Nat) × Nat × Nat → StateT SortSt Sem (Option Nat)}, (∀ lo hi, g (none, lo, hi) = pure (some hi)) → wpS (model prog w) A E s (forIn [:n] (none, lo, hi) f >>= g) Q st := by
    intro lo hi h1 h2 h3 h4 f hf g hg
    refine wpS_bind (wpS_mono (wpS_forRange (I := fun x c st' => st' = st ∧ ∃ lo hi, c = (none, lo, hi) ∧ lo ≤ hi ∧ hi ≤ n ∧ hi - lo ≤ n - x ∧ (∀ i, i < lo → bey O ky left key (el i) = true) ∧ (∀ i, hi ≤ i → i < n → bey O ky left key (el i) = false))
      (Q := fun c st' => st' = st ∧ ∃ hi, c = (none, hi, hi) ∧ hi ≤ n ∧ (∀ i, i < hi → bey O ky left key (el i) = true) ∧ (∀ i, hi ≤ i → i < n → bey O ky left key (el i) = false)) ?step ?fin ⟨rfl, lo, hi, rfl, h1, h2, by trivial, h3, h4⟩) ?post)
    case fin =>
      rintro c st' ⟨rfl, lo, hi, rfl, a1, a2, a3, a4, a5⟩
      have : lo = hi := by trivial
      subst this
      exact ⟨rfl, lo, rfl, a2, a4, a5⟩
    case post =>
      rintro c st' ⟨rfl, hi, rfl, a2, a4, a5⟩
      rw [hg]
      exact wpS_pure (h hi a2 a4 a5)
    case step =>
      rintro x c st' _ hx ⟨rfl, lo, hi, rfl, a1, a2, a3, a4, a5⟩
      refine hf x lo hi a1 a2 (fun q => ?_) (fun m m1 m2 mb => ?_) (fun m m1 m2 mb => ?_)
      · have : lo = hi := by trivial
        subst this
        exact ⟨rfl, lo, rfl, a2, a4, a5⟩
      · exact ⟨rfl, m + 1, hi, rfl, by trivial, a2, by trivial, fun i hi' => anti i m (by trivial) (by trivial) mb, a5⟩
      · exact ⟨rfl, lo, m, rfl, m1, by trivial, by trivial, a4, fun i i1 i2 => anti' m i i1 i2 mb⟩
  have body : ∀ (x : Nat) lo hi, lo ≤ hi → hi ≤ n → ∀ {R : ForInStep (Option (Option Nat) × Nat × Nat) → SortSt → Prop}, (lo ≥ hi → R (.done (none, lo, hi)) st) → (∀ m, lo ≤ m → m < hi → bey O ky left key (el m) = true → R (.yield (none, m + 1, hi)) st) → (∀ m, lo ≤ m → m < hi → bey O ky left key (el m) = false → R (.yield (none, lo, m)) st) →
      wpS (model prog w) A E s (if lo ≥ hi then pure (ForInStep.done ((none : Option (Option Nat)), lo, hi)) else do
        let r ← (do
          let x ← elem' arr (base + (lo + (hi - lo) / 2))
          if left = true then lt' x key else do
            let r ← lt' key x
            pure (Option.map (fun x => !x) r))
        match r with
          | some more => if more = true then pure (ForInStep.yield (none, lo + (hi - lo) / 2 + 1, hi)) else pure (ForInStep.yield (none, lo, lo + (hi - lo) / 2))
          | x => pure (ForInStep.done (some none, lo, hi))) R st := by
    intro x lo hi h1 h2 R r1 r2 r3
    by_cases hge : lo ≥ hi
    · rw [if_pos hge]; exact wpS_pure (r1 hge)
    · rw [if_neg hge]
      refine wpS_bind (ask _ (by trivial) ?_)
      dsimp only
      cases e : bey O ky left key (el (lo + (hi - lo) / 2)) with
      | true => rw [if_pos rfl]; exact wpS_pure (r2 _ (by trivial) (by trivial) e)
      | false => rw [if_neg Bool.false_ne_true]; exact wpS_pure (r3 _ (by trivial) (by trivial) e)
  dsimp only
  cases e0 : bey O ky left key (el hint) with
  | true =>
    rw [if_pos rfl]
    refine wpS_bind (wpS_mono (wpS_forRange (I := fun x c st' => st' = st ∧ ∃ la of_, c = (none, la, of_) ∧ la < of_ ∧ hint + la < n ∧ x + 1 ≤ of_ ∧ bey O ky left key (el (hint + la)) = true)
      (Q := fun c st' => st' = st ∧ ∃ la of_, c = (none, la, of_) ∧ la < of_ ∧ hint + la < n ∧ bey O ky left key (el (hint + la)) = true ∧ (n - hint ≤ of_ ∨ (hint + of_ < n ∧ bey O ky left key (el (hint + of_)) = false))) ?step ?fin ⟨rfl, 0, 1, rfl, by trivial, by trivial, by trivial, e0⟩) ?post)
    case fin =>
      rintro c st' ⟨rfl, la, of_, rfl, a1, a2, a3, a4⟩
      exact ⟨rfl, la, of_, rfl, a1, a2, a4, .inl (by trivial)⟩
    case step =>
      rintro x c st' _ hx ⟨rfl, la, of_, rfl, a1, a2, a3, a4⟩
      dsimp only
      by_cases hge : of_ ≥ n - hint
      · rw [if_pos hge]; exact wpS_pure ⟨rfl, la, of_, rfl, a1, a2, a4, .inl hge⟩
      · rw [if_neg hge]
        refine wpS_bind (ask (hint + of_) (by trivial) ?_)
        dsimp only
        cases e : bey O ky left key (el (hint + of_)) with
        | true =>
          rw [if_neg (by decide)]
          exact wpS_pure ⟨rfl, of_, 2 * of_ + 1, rfl, by trivial, by trivial, by trivial, e⟩
        | false =>
          rw [if_pos (by decide)]
          exact wpS_pure ⟨rfl, la, of_, rfl, a1, a2, a4, .inr ⟨by trivial, e⟩⟩
    case post =>
      rintro c st' ⟨rfl, la, of_, rfl, a1, a2, a4, a5⟩
      dsimp only
      refine fin (hint + la + 1) (hint + min of_ (n - hint)) (by trivial) (by trivial) (fun i hi => anti i (hint + la) (by trivial) a2 a4) (fun i i1 i2 => ?_) (body) (fun lo hi => rfl)
      rcases a5 with a5 | ⟨a5, a6⟩
      · trivial
      · exact anti' (hint + of_) i (by trivial) i2 a6
  | false =>
    rw [if_neg Bool.false_ne_true]
    refine wpS_bind (wpS_mono (wpS_forRange (I := fun x c st' => st' = st ∧ ∃ la of_, c = (none, la, of_) ∧ la < of_ ∧ la ≤ hint ∧ x + 1 ≤ of_ ∧ bey O ky left key (el (hint - la)) = false)
      (Q := fun c st' => st' = st ∧ ∃ la of_, c = (none, la, of_) ∧ la < of_ ∧ la ≤ hint ∧ bey O ky left key (el (hint - la)) = false ∧ (hint + 1 ≤ of_ ∨ (of_ ≤ hint ∧ bey O ky left key (el (hint - of_)) = true))) ?step ?fin ⟨rfl, 0, 1, rfl, by trivial, by trivial, by trivial, e0⟩) ?post)
    case fin =>
      rintro c st' ⟨rfl, la, of_, rfl, a1, a2, a3, a4⟩
      exact ⟨rfl, la, of_, rfl, a1, a2, a4, .inl (by trivial)⟩
    case step =>
      rintro x c st' _ hx ⟨rfl, la, of_, rfl, a1, a2, a3, a4⟩
      dsimp only
      by_cases hge : of_ ≥ hint + 1
      · rw [if_pos hge]; exact wpS_pure ⟨rfl, la, of_, rfl, a1, a2, a4, .inl hge⟩
      · rw [if_neg hge]
        refine wpS_bind (ask (hint - of_) (by trivial) ?_)
        dsimp only
        cases e : bey O ky left key (el (hint - of_)) with
        | true =>
          rw [if_pos rfl]
          exact wpS_pure ⟨rfl, la, of_, rfl, a1, a2, a4, .inr ⟨by trivial, e⟩⟩
        | false =>
          rw [if_neg Bool.false_ne_true]
          exact wpS_pure ⟨rfl, of_, 2 * of_ + 1, rfl, by trivial, by trivial, by trivial, e⟩
    case post =>
      rintro c st' ⟨rfl, la, of_, rfl, a1, a2, a4, a5⟩
      dsimp only
      refine fin (hint + 1 - min of_ (hint + 1)) (hint - la) (by trivial) (by trivial) (fun i hi => ?_) (fun i i1 i2 => anti' (hint - la) i (by trivial) i2 a4) (body) (fun lo hi => rfl)
      rcases a5 with a5 | ⟨a5, a6⟩
      · trivial
      · exact anti i (hint - of_) (by trivial) (by trivial) a6
end
end TS
set_option linter.all false
namespace TT
open PySem PyProof.Rows TS
section
variable (O : KeyOrd) (ky : Keyed → O.α) (ix : Keyed → Nat)
noncomputable def R (p q : Keyed) : Prop := O.kle (ky p) (ky q) ∧ (O.kle (ky q) (ky p) → ix p ≤ ix q)
theorem R.refl {O : KeyOrd} {ky : Keyed → O.α} {ix : Keyed → Nat} (p : Keyed) : R O ky ix p p := ⟨KeyOrd.kle_refl _, fun _ => Nat.le_refl _⟩
theorem R.trans {O : KeyOrd} {ky : Keyed → O.α} {ix : Keyed → Nat} {p q r : Keyed} (h : R O ky ix p q) (h' : R O ky ix q r) : R O ky ix p r := ⟨KeyOrd.kle_trans h.1 h'.1, fun z => Nat.le_trans (h.2 (KeyOrd.kle_trans h'.1 z)) (h'.2 (KeyOrd.kle_trans z h.1))⟩
theorem R.lt {O : KeyOrd} {ky : Keyed → O.α} {ix : Keyed → Nat} {p q : Keyed} (h : O.klt (ky p) (ky q)) : R O ky ix p q := ⟨KeyOrd.kle_of_klt h, fun z => by
  unfold KeyOrd.klt at h
  unfold KeyOrd.kle at z
  rw [h] at z; cases z⟩
theorem R.le {O : KeyOrd} {ky : Keyed → O.α} {ix : Keyed → Nat} {p q : Keyed} (h : O.kle (ky p) (ky q)) (h' : ix p ≤ ix q) : R O ky ix p q := ⟨h, fun _ => h'⟩
noncomputable def Srt (l : List Keyed) : Prop := l.Pairwise (R O ky ix)
structure MI (a b out : Array Keyed) (ia ib : Nat) : Prop where
  ha : ia ≤ a.size
  hb : ib ≤ b.size
  perm : out.toList.Perm (a.toList.take ia ++ b.toList.take ib)
  srt : Srt O ky ix out.toList
  ra : ∀ x ∈ out.toList, ∀ y ∈ a.toList.drop ia, R O ky ix x y
  rb : ∀ x ∈ out.toList, ∀ y ∈ b.toList.drop ib, R O ky ix x y
noncomputable def Good (a b o : Array Keyed) : Prop := o.toList.Perm (a.toList ++ b.toList) ∧ Srt O ky ix o.toList
variable {O ky ix} {a b out o : Array Keyed} {ia ib : Nat}
theorem drop_srt {l : List Keyed} (h : Srt O ky ix l) (k : Nat) : Srt O ky ix (l.drop k) := List.Pairwise.sublist (List.drop_sublist k l) h
theorem take_srt {l : List Keyed} (h : Srt O ky ix l) (k : Nat) : Srt O ky ix (l.take k) := List.Pairwise.sublist (List.take_sublist k l) h
theorem split_srt {l : List Keyed} (h : Srt O ky ix l) (k : Nat) : ∀ x ∈ l.take k, ∀ y ∈ l.drop k, R O ky ix x y := by
  have e := (List.take_append_drop k l).symm
  unfold Srt at h
  rw [e, List.pairwise_append] at h
  exact h.2.2
theorem mem_drop_le {l : List Keyed} {i j : Nat} (h : i ≤ j) {x : Keyed} (hx : x ∈ l.drop j) : x ∈ l.drop i := by
  rw [show j = i + (j - i) by trivial, ← List.drop_drop] at hx
  exact List.mem_of_mem_drop hx
theorem mem_take_le {l : List Keyed} {i j : Nat} (h : i ≤ j) {x : Keyed} (hx : x ∈ l.take i) : x ∈ l.take j := by
  rw [show i = min i j by trivial, ← List.take_take] at hx
  exact List.mem_of_mem_take hx
theorem MI.addA (h : MI O ky ix a b out ia ib) (sa : Srt O ky ix a.toList) {k : Nat} (hk : ia + k ≤ a.size) (hx : ∀ x ∈ (a.toList.drop ia).take k, ∀ y ∈ b.toList.drop ib, R O ky ix x y) (ho : o.toList = out.toList ++ (a.toList.drop ia).take k) : MI O ky ix a b o (ia + k) ib := by
  refine ⟨hk, h.hb, ?_, ?_, fun x hm y hy => ?_, fun x hm y hy => ?_⟩
  · rw [ho, List.take_add, List.append_assoc]
    refine (h.perm.append_right _).trans ?_
    rw [List.append_assoc]
    exact List.Perm.append_left _ List.perm_append_comm
  · unfold Srt
    rw [ho, List.pairwise_append]
    exact ⟨h.srt, take_srt (drop_srt sa _) _, fun x hx' y hy => h.ra x hx' y (List.mem_of_mem_take hy)⟩
  · rw [ho] at hm
    rcases List.mem_append.mp hm with hm | hm
    · exact h.ra x hm y (mem_drop_le (by trivial) hy)
    · rw [← List.drop_drop] at hy
      exact split_srt (drop_srt sa ia) k x hm y hy
  · rw [ho] at hm
    rcases List.mem_append.mp hm with hm | hm
    · exact h.rb x hm y hy
    · exact hx x hm y hy
theorem MI.swap (h : MI O ky ix a b out ia ib) : MI O ky ix b a out ib ia := ⟨h.hb, h.ha, h.perm.trans List.perm_append_comm, h.srt, h.rb, h.ra⟩
theorem MI.addB (h : MI O ky ix a b out ia ib) (sb : Srt O ky ix b.toList) {k : Nat} (hk : ib + k ≤ b.size) (hx : ∀ x ∈ (b.toList.drop ib).take k, ∀ y ∈ a.toList.drop ia, R O ky ix x y) (ho : o.toList = out.toList ++ (b.toList.drop ib).take k) : MI O ky ix a b o ia (ib + k) := (h.swap.addA sb hk hx ho).swap
theorem ext_all (x : Array Keyed) (i : Nat) : (x.extract i x.size).toList = x.toList.drop i := by simp [List.extract, List.take_of_length_le]
theorem ext_some (x : Array Keyed) (i k : Nat) : (x.extract i (i + k)).toList = (x.toList.drop i).take k := by simp [List.extract]
theorem MI.done (h : MI O ky ix a b out ia ib) (sa : Srt O ky ix a.toList) (sb : Srt O ky ix b.toList) (hor : ia = a.size ∨ ib = b.size) : Good O ky ix a b (out ++ a.extract ia a.size ++ b.extract ib b.size) := by
  unfold Good Srt
  rw [Array.toList_append, Array.toList_append, ext_all, ext_all]
  refine ⟨?_, ?_⟩
  · have e1 := List.take_append_drop ia a.toList
    have e2 := List.take_append_drop ib b.toList
    conv => rhs; rw [← e1, ← e2]
    rw [List.append_assoc]
    refine (h.perm.append_right _).trans ?_
    rw [List.append_assoc, List.append_assoc]
    refine List.Perm.append_left _ ?_
    rw [← List.append_assoc, ← List.append_assoc]
    exact List.perm_append_comm.append_right _
  · rw [List.pairwise_append, List.pairwise_append]
    refine ⟨⟨h.srt, drop_srt sa _, h.ra⟩, drop_srt sb _, fun x hx y hy => ?_⟩
    rcases List.mem_append.mp hx with hx | hx
    · exact h.rb x hx y hy
    · rcases hor with q | q
      · rw [q, List.drop_of_length_le (by simp)] at hx; cases hx
      · rw [q, List.drop_of_length_le (by simp)] at hy; cases hy
theorem MI.last (h : MI O ky ix a b out ia ib) (sa : Srt O ky ix a.toList) (sb : Srt O ky ix b.toList) (hl : ∀ y ∈ b.toList, ∀ x ∈ a.toList.drop ia, R O ky ix y x) : Good O ky ix a b (out ++ b.extract ib b.size ++ a.extract ia a.size) := by
  unfold Good Srt
  rw [Array.toList_append, Array.toList_append, ext_all, ext_all]
  refine ⟨?_, ?_⟩
  · have e1 := List.take_append_drop ia a.toList
    have e2 := List.take_append_drop ib b.toList
    conv => rhs; rw [← e1, ← e2]
    rw [List.append_assoc]
    refine (h.perm.append_right _).trans ?_
    rw [List.append_assoc, List.append_assoc]
    refine List.Perm.append_left _ ?_
    rw [← List.append_assoc]
    exact List.perm_append_comm
  · rw [List.pairwise_append, List.pairwise_append]
    refine ⟨⟨h.srt, drop_srt sb _, h.rb⟩, drop_srt sa _, fun x hx y hy => ?_⟩
    rcases List.mem_append.mp hx with hx | hx
    · exact h.ra x hx y hy
    · exact hl x (List.mem_of_mem_drop hx) y hy
structure MH (O : KeyOrd) (ky : Keyed → O.α) (ix : Keyed → Nat) (a b out : Array Keyed) (na nb : Nat) : Prop where
  ha : na ≤ a.size
  hb : nb ≤ b.size
  perm : out.toList.Perm (a.toList.drop na ++ b.toList.drop nb)
  srt : out.toList.Pairwise fun x y => R O ky ix y x
  ra : ∀ x ∈ out.toList, ∀ y ∈ a.toList.take na, R O ky ix y x
  rb : ∀ x ∈ out.toList, ∀ y ∈ b.toList.take nb, R O ky ix y x
theorem MH.swap {na nb : Nat} (h : MH O ky ix a b out na nb) : MH O ky ix b a out nb na := ⟨h.hb, h.ha, h.perm.trans List.perm_append_comm, h.srt, h.rb, h.ra⟩
theorem MH.addA {na nb k : Nat} (h : MH O ky ix a b out na nb) (sa : Srt O ky ix a.toList) (hk : k ≤ na) (hx : ∀ x ∈ (a.toList.take na).drop k, ∀ y ∈ b.toList.take nb, R O ky ix y x) (ho : o.toList = out.toList ++ ((a.toList.take na).drop k).reverse) : MH O ky ix a b o k nb := by
  have hd : a.toList.drop k = (a.toList.take na).drop k ++ a.toList.drop na := by
    conv => lhs; rw [← List.take_append_drop na a.toList]
    rw [List.drop_append_of_le_length (by have := h.ha; rw [List.length_take]; simp; trivial)]
  refine ⟨Nat.le_trans hk h.ha, h.hb, ?_, ?_, fun x hm y hy => ?_, fun x hm y hy => ?_⟩
  · rw [ho, hd]
    refine (h.perm.append_right _).trans ?_
    refine (List.perm_append_comm).trans ?_
    rw [← List.append_assoc]
    exact ((List.reverse_perm _).append_right _).append_right _
  · rw [ho, List.pairwise_append]
    refine ⟨h.srt, ?_, fun x hx' y hy => h.ra x hx' y (List.mem_of_mem_drop (List.mem_reverse.mp hy))⟩
    rw [List.pairwise_reverse]
    exact drop_srt (take_srt sa _) _
  · rw [ho] at hm
    rcases List.mem_append.mp hm with hm | hm
    · exact h.ra x hm y (mem_take_le hk hy)
    · have := split_srt (take_srt sa na) k y (by rw [List.take_take, Nat.min_eq_left hk]; exact hy) x (List.mem_reverse.mp hm)
      exact this
  · rw [ho] at hm
    rcases List.mem_append.mp hm with hm | hm
    · exact h.rb x hm y hy
    · exact hx x (List.mem_reverse.mp hm) y hy
theorem MH.addB {na nb k : Nat} (h : MH O ky ix a b out na nb) (sb : Srt O ky ix b.toList) (hk : k ≤ nb) (hx : ∀ x ∈ (b.toList.take nb).drop k, ∀ y ∈ a.toList.take na, R O ky ix y x) (ho : o.toList = out.toList ++ ((b.toList.take nb).drop k).reverse) : MH O ky ix a b o na k := (h.swap.addA sb hk hx ho).swap
theorem ext0 (x : Array Keyed) (k : Nat) : (x.extract 0 k).toList = x.toList.take k := by simp [List.extract]
theorem ext2 (x : Array Keyed) {i j : Nat} : (x.extract i j).toList = (x.toList.take j).drop i := by
  simp [List.extract]
  rw [List.drop_take]
theorem MH.done {na nb : Nat} (h : MH O ky ix a b out na nb) (sa : Srt O ky ix a.toList) (sb : Srt O ky ix b.toList) (hor : na = 0 ∨ nb = 0) : Good O ky ix a b (a.extract 0 na ++ b.extract 0 nb ++ out.reverse) := by
  unfold Good Srt
  rw [Array.toList_append, Array.toList_append, ext0, ext0, Array.toList_reverse]
  refine ⟨?_, ?_⟩
  · have e1 := List.take_append_drop na a.toList
    have e2 := List.take_append_drop nb b.toList
    conv => rhs; rw [← e1, ← e2]
    refine (List.Perm.append_left _ ((List.reverse_perm _).trans h.perm)).trans ?_
    rw [List.append_assoc, List.append_assoc]
    refine List.Perm.append_left _ ?_
    rw [← List.append_assoc, ← List.append_assoc]
    exact List.perm_append_comm.append_right _
  · rw [List.pairwise_append, List.pairwise_append, List.pairwise_reverse]
    refine ⟨⟨take_srt sa _, take_srt sb _, fun x hx y hy => ?_⟩, h.srt, fun x hx y hy => ?_⟩
    · rcases hor with q | q
      · rw [q, List.take_zero] at hx; cases hx
      · rw [q, List.take_zero] at hy; cases hy
    · rcases List.mem_append.mp hx with hx | hx
      · exact h.ra y (List.mem_reverse.mp hy) x hx
      · exact h.rb y (List.mem_reverse.mp hy) x hx
theorem MH.first {na nb : Nat} (h : MH O ky ix a b out na nb) (sa : Srt O ky ix a.toList) (sb : Srt O ky ix b.toList) (hl : ∀ x ∈ b.toList.take nb, ∀ y ∈ a.toList, R O ky ix x y) : Good O ky ix a b (b.extract 0 nb ++ a.extract 0 na ++ out.reverse) := by
  unfold Good Srt
  rw [Array.toList_append, Array.toList_append, ext0, ext0, Array.toList_reverse]
  refine ⟨?_, ?_⟩
  · have e1 := List.take_append_drop na a.toList
    have e2 := List.take_append_drop nb b.toList
    conv => rhs; rw [← e1, ← e2]
    refine (List.Perm.append_left _ ((List.reverse_perm _).trans h.perm)).trans ?_
    refine (List.perm_append_comm.append_right _).trans ?_
    rw [List.append_assoc, List.append_assoc]
    refine List.Perm.append_left _ ?_
    rw [← List.append_assoc, ← List.append_assoc]
    exact List.perm_append_comm.append_right _
  · rw [List.pairwise_append, List.pairwise_append, List.pairwise_reverse]
    refine ⟨⟨take_srt sb _, take_srt sa _, fun x hx y hy => hl x hx y (List.mem_of_mem_take hy)⟩, h.srt, fun x hx y hy => ?_⟩
    rcases List.mem_append.mp hx with hx | hx
    · exact h.rb y (List.mem_reverse.mp hy) x hx
    · exact h.ra y (List.mem_reverse.mp hy) x hx
end
end TT
set_option linter.all false
namespace TT
open PySem PyProof.Rows TS
structure SameSt (st st' : SortSt) : Prop where
  kind : kindOf st' = kindOf st
  arr : arrOf st' = arrOf st
  pend : pendingOf st' = pendingOf st
  fail : failedOf st' = failedOf st
theorem SameSt.refl (st : SortSt) : SameSt st st := ⟨rfl, rfl, rfl, rfl⟩
noncomputable def at_ (a : Array Keyed) (i : Nat) : Keyed := (a[i]?).getD (.none, .none)
theorem at_eq {a : Array Keyed} {i : Nat} (h : i < a.size) : a[i]? = some (at_ a i) := by unfold at_; rw [getElem?_pos a i h]; rfl
theorem at_list {a : Array Keyed} {i : Nat} (h : i < a.size) : a.toList[i]? = some (at_ a i) := by rw [← at_eq h]; simp
theorem at_mem {a : Array Keyed} {i : Nat} (h : i < a.size) : at_ a i ∈ a.toList := List.mem_of_getElem? (at_list h)
theorem at_cons {a : Array Keyed} {i : Nat} (h : i < a.size) : a.toList.drop i = at_ a i :: a.toList.drop (i + 1) := by
  have e := at_list h
  obtain ⟨hl, e2⟩ := List.getElem?_eq_some_iff.mp e
  rw [List.drop_eq_getElem_cons hl, e2]
theorem at_one {a : Array Keyed} {i : Nat} (h : i < a.size) : (a.toList.drop i).take 1 = [at_ a i] := by rw [at_cons h]; rfl
section
variable {O : KeyOrd} {ky : Keyed → O.α} {ix : Keyed → Nat}
theorem at_le {a : Array Keyed} (sa : Srt O ky ix a.toList) {i : Nat} (h : i < a.size) : ∀ y ∈ a.toList.drop i, R O ky ix (at_ a i) y := by
  intro y hy
  have s := drop_srt sa i
  rw [at_cons h] at hy s
  rcases List.mem_cons.mp hy with e | hy
  · rw [e]; exact R.refl _
  · exact (List.pairwise_cons.mp s).1 y hy
theorem at_ij {a : Array Keyed} (sa : Srt O ky ix a.toList) {i j : Nat} (hij : i ≤ j) (h : j < a.size) : R O ky ix (at_ a i) (at_ a j) := at_le sa (by trivial) _ (by
  have : at_ a j ∈ a.toList.drop j := by rw [at_cons h]; exact List.mem_cons_self
  exact mem_drop_le hij this)
theorem mem_at {a : Array Keyed} {i k : Nat} {x : Keyed} (hx : x ∈ (a.toList.drop i).take k) : ∃ j, j < k ∧ i + j < a.size ∧ x = at_ a (i + j) := by
  obtain ⟨j, hj, e⟩ := List.getElem_of_mem hx
  rw [List.length_take, List.length_drop] at hj
  have hl : i + j < a.size := by simp at hj; trivial
  refine ⟨j, by trivial, hl, ?_⟩
  have e2 : ((a.toList.drop i).take k)[j]? = some x := by rw [← e]; exact List.getElem?_eq_getElem _
  rw [List.getElem?_take, if_pos (by trivial), List.getElem?_drop, at_list hl] at e2
  exact (Option.some.inj e2).symm
end
section
variable {prog : Program} {w : World} {A : Around} {E : Value → Shared → Prop} {s : Shared}
variable {kd : SortKind} {O : KeyOrd} {ky : Keyed → O.α} {ix : Keyed → Nat} {S : Keyed → Prop}
theorem wpS_gal (C : Cmp prog w A s kd O ky S) {st : SortSt} {left : Bool} {key : Keyed} {arr : Array Keyed} {base n hint : Nat} {Q : Option Nat → SortSt → Prop} (hk : kindOf st = kd) (hs : S key) (hS : ∀ p ∈ arr.toList, S p) (sr : ∀ i j, i ≤ j → j < n → R O ky ix (at_ arr (base + i)) (at_ arr (base + j))) (hix : ∀ i, i < n → if left then ix key ≤ ix (at_ arr (base + i)) else ix (at_ arr (base + i)) ≤ ix key) (hn : base + n ≤ arr.size) (hh : hint < n)
    (h : ∀ k, k ≤ n → (∀ i, i < k → if left then O.klt (ky (at_ arr (base + i))) (ky key) else R O ky ix (at_ arr (base + i)) key) → (∀ i, k ≤ i → i < n → if left then R O ky ix key (at_ arr (base + i)) else O.klt (ky key) (ky (at_ arr (base + i)))) → Q (some k) st) :
    wpS (model prog w) A E s (gallop' left key arr base n hint) Q st := by
  refine wpS_gallop C hk hs (el := fun i => at_ arr (base + i)) (fun i hi => ⟨at_eq (by trivial), hS _ (at_mem (by trivial))⟩) (fun i j hij hj hb => ?_) hh (fun k hkn h1 h2 => h k hkn (fun i hi => ?_) (fun i hi hin => ?_))
  · have r := sr i j hij hj
    unfold bey at hb ⊢
    cases left with
    | true =>
      rw [if_pos rfl] at hb ⊢
      exact KeyOrd.klt_of_kle_of_klt r.1 hb
    | false =>
      rw [if_neg Bool.false_ne_true] at hb ⊢
      have hb' : O.blt (ky key) (ky (at_ arr (base + j))) = false := by simpa using hb
      have : O.kle (ky (at_ arr (base + i))) (ky key) := KeyOrd.kle_trans r.1 hb'
      unfold KeyOrd.kle at this
      rw [this]; rfl
  · have := h1 i hi
    unfold bey at this
    cases left with
    | true =>
      rw [if_pos rfl] at this ⊢
      exact this
    | false =>
      rw [if_neg Bool.false_ne_true] at this ⊢
      have hb' : O.blt (ky key) (ky (at_ arr (base + i))) = false := by simpa using this
      have hx := hix i (by trivial)
      rw [if_neg Bool.false_ne_true] at hx
      exact R.le hb' hx
  · have := h2 i hi hin
    unfold bey at this
    cases left with
    | true =>
      rw [if_pos rfl] at this ⊢
      have hx := hix i hin
      rw [if_pos rfl] at hx
      exact R.le this hx
    | false =>
      rw [if_neg Bool.false_ne_true] at this ⊢
      have hb' : O.blt (ky key) (ky (at_ arr (base + i))) = true := by simpa using this
      exact hb'
theorem wpS_mergeLo (C : Cmp prog w A s kd O ky S) {st : SortSt} {a b : Array Keyed} {Q : Array Keyed → SortSt → Prop} (hk : kindOf st = kd) (hSa : ∀ p ∈ a.toList, S p) (hSb : ∀ p ∈ b.toList, S p) (sa : Srt O ky ix a.toList) (sb : Srt O ky ix b.toList) (hix : ∀ x ∈ a.toList, ∀ y ∈ b.toList, ix x ≤ ix y) (na : 1 ≤ a.size) (nb : 1 ≤ b.size)
    (h0 : ∀ y ∈ a.toList, R O ky ix (at_ b 0) y) (hl : ∀ y ∈ b.toList, R O ky ix y (at_ a (a.size - 1))) (h : ∀ o st', Good O ky ix a b o → SameSt st st' → Q o st') : wpS (model prog w) A E s (mergeLo' a b) Q st := by
  have lst : ∀ {ia}, ia + 1 = a.size → ∀ y ∈ b.toList, ∀ x ∈ a.toList.drop ia, R O ky ix y x := fun {ia} e y hy x hx => by
    rw [at_cons (by trivial), List.drop_of_length_le (by simp; trivial)] at hx
    have : x = at_ a ia := by simpa using hx
    rw [this, show ia = a.size - 1 by trivial]
    exact hl y hy
  unfold mergeLo'
  refine wpS_bind (wpS_lift (wpAny_rule ⟨rfl, ?_⟩))
  dsimp only
  refine wpS_bind (wpS_elem (at_eq (by trivial)) ?_)
  have m0 : MI O ky ix a b #[at_ b 0] 0 1 := by
    have z : MI O ky ix a b #[] 0 0 := ⟨by trivial, by trivial, by simp, List.Pairwise.nil, fun x hx => by simp at hx, fun x hx => by simp at hx⟩
    have := z.addB sb (k := 1) (o := #[at_ b 0]) (by trivial) (fun x hx y hy => ?_) (by rw [at_one (by trivial)]; rfl)
    · exact this
    · rw [at_one (by trivial)] at hx
      have : x = at_ b 0 := by simpa using hx
      rw [this]; exact h0 y hy
  by_cases e1 : (1 == b.size) = true
  · rw [if_pos e1]
    exact wpS_pure (h _ _ (m0.done sa sb (.inr (by simpa using e1))) (SameSt.refl _))
  rw [if_neg e1]
  have e1' : ¬ 1 = b.size := by simpa using e1
  by_cases e2 : (0 + 1 == a.size) = true
  · rw [if_pos e2]
    exact wpS_pure (h _ _ (m0.last sa sb (lst (by simpa using e2))) (SameSt.refl _))
  rw [if_neg e2]
  have e2' : ¬ 0 + 1 = a.size := by simpa using e2
  refine wpS_bind (wpS_get ?_)
  refine wpS_bind (wpS_mono (wpS_forRange
    (I := fun x c st' => SameSt st st' ∧ c.1 = none ∧ MI O ky ix a b c.2.1 c.2.2.1 c.2.2.2.1 ∧ c.2.2.1 + 1 < a.size ∧ c.2.2.2.1 < b.size ∧ x + 1 ≤ c.2.2.1 + c.2.2.2.1)
    (Q := fun c st' => SameSt st st' ∧ ∃ r, c.1 = some r ∧ Good O ky ix a b r) ?step ?fin ⟨SameSt.refl _, rfl, m0, by dsimp only; trivial, by dsimp only; trivial, by dsimp only; trivial⟩) ?post)
  case fin =>
    rintro c st' ⟨_, _, m, c1, c2, c3⟩
    trivial
  case post =>
    rintro ⟨r, out, ia, ib, mg⟩ st' ⟨ss, r', hr, g⟩
    dsimp only at hr ⊢
    subst hr
    exact wpS_pure (h _ _ g ss)
  case step =>
    rintro x ⟨r, out, ia, ib, mg⟩ st1 _ hx ⟨ss, hr, m, c1, c2, c3⟩
    dsimp only at hr m c1 c2 c3 ⊢
    subst hr
    -- one by one
    refine wpS_bind (wpS_mono (wpS_forRange
      (I := fun y c st' => st' = st1 ∧ c.1 = none ∧ MI O ky ix a b c.2.1 c.2.2.1 c.2.2.2.1 ∧ c.2.2.1 + 1 < a.size ∧ c.2.2.2.1 < b.size ∧ ia + ib + y ≤ c.2.2.1 + c.2.2.2.1)
      (Q := fun c st' => st' = st1 ∧ ((∃ r, c.1 = some r ∧ Good O ky ix a b r) ∨ (c.1 = none ∧ MI O ky ix a b c.2.1 c.2.2.1 c.2.2.2.1 ∧ c.2.2.1 + 1 < a.size ∧ c.2.2.2.1 < b.size ∧ ia + ib + 1 ≤ c.2.2.1 + c.2.2.2.1))) ?step1 ?fin1 ⟨rfl, rfl, m, c1, c2, by dsimp only; trivial⟩) ?post1)
    case fin1 =>
      rintro c st' ⟨_, _, m, c1, c2, c3⟩
      trivial
    case step1 =>
      rintro y ⟨r, out, ia', ib', ac, bc⟩ st' _ hy ⟨rfl, hr, m, c1, c2, c3⟩
      dsimp only at hr m c1 c2 c3 ⊢
      subst hr
      have ka : kindOf st' = kd := ss.kind.trans hk
      refine wpS_bind (wpS_elem (at_eq c2) (wpS_bind (wpS_elem (at_eq (by trivial)) (wpS_bind (wpS_lt C ka (hSb _ (at_mem c2)) (hSa _ (at_mem (by trivial))) ?_)))))
      dsimp only
      cases hw : O.blt (ky (at_ b ib')) (ky (at_ a ia')) with
      | true =>
        rw [if_pos rfl]
        have m1 : MI O ky ix a b (out.push (at_ b ib')) ia' (ib' + 1) := m.addB sb (k := 1) (by trivial) (fun x hx y hy => by
          rw [at_one c2] at hx
          have : x = at_ b ib' := by simpa using hx
          rw [this]
          exact R.trans (R.lt hw) (at_le sa (by trivial) y hy)) (by rw [at_one c2]; simp)
        refine wpS_bind (wpS_elem (at_eq c2) ?_)
        split
        · rename_i q
          exact wpS_pure ⟨rfl, .inl ⟨_, rfl, m1.done sa sb (.inr (by simpa using q))⟩⟩
        · rename_i q
          have q' : ¬ ib' + 1 = b.size := by simpa using q
          split
          · exact wpS_pure ⟨rfl, .inr ⟨rfl, m1, c1, by dsimp only; trivial, by dsimp only; trivial⟩⟩
          · exact wpS_pure ⟨rfl, rfl, m1, c1, by dsimp only; trivial, by dsimp only; trivial⟩
      | false =>
        rw [if_neg Bool.false_ne_true]
        have m1 : MI O ky ix a b (out.push (at_ a ia')) (ia' + 1) ib' := m.addA sa (k := 1) (by trivial) (fun x hx y hy => by
          rw [at_one (by trivial)] at hx
          have : x = at_ a ia' := by simpa using hx
          rw [this]
          exact R.trans (R.le hw (hix _ (at_mem (by trivial)) _ (at_mem c2))) (at_le sb c2 y hy)) (by rw [at_one (by trivial)]; simp)
        refine wpS_bind (wpS_elem (at_eq (by trivial)) ?_)
        split
        · rename_i q
          exact wpS_pure ⟨rfl, .inl ⟨_, rfl, m1.last sa sb (lst (by simpa using q))⟩⟩
        · rename_i q
          have q' : ¬ ia' + 1 + 1 = a.size := by simpa using q
          split
          · exact wpS_pure ⟨rfl, .inr ⟨rfl, m1, by dsimp only; trivial, c2, by dsimp only; trivial⟩⟩
          · exact wpS_pure ⟨rfl, rfl, m1, by dsimp only; trivial, c2, by dsimp only; trivial⟩
    case post1 =>
      rintro ⟨r, out, ia1, ib1, ac, bc⟩ st' ⟨rfl, hc⟩
      dsimp only at hc ⊢
      rcases hc with ⟨r, rfl, g⟩ | ⟨rfl, m, c1', c2', c3'⟩
      · exact wpS_pure ⟨ss, r, rfl, g⟩
      dsimp only
      refine wpS_bind (wpS_lift (wpAny_rule ⟨rfl, ?_⟩))
      refine wpS_bind (wpS_mono (wpS_forRange
        (I := fun y c st' => SameSt st st' ∧ c.1 = none ∧ MI O ky ix a b c.2.1 c.2.2.1 c.2.2.2.1 ∧ c.2.2.1 + 1 < a.size ∧ c.2.2.2.1 < b.size ∧ ia + ib + 1 ≤ c.2.2.1 + c.2.2.2.1)
        (Q := fun c st' => SameSt st st' ∧ ((∃ r, c.1 = some r ∧ Good O ky ix a b r) ∨ (c.1 = none ∧ MI O ky ix a b c.2.1 c.2.2.1 c.2.2.2.1 ∧ c.2.2.1 + 1 < a.size ∧ c.2.2.2.1 < b.size ∧ ia + ib + 1 ≤ c.2.2.1 + c.2.2.2.1))) ?step2 ?fin2 ⟨ss, rfl, m, c1', c2', by dsimp only; trivial⟩) ?post2)
      case fin2 =>
        rintro c st' ⟨s', h1, h2, h3, h4, h5⟩
        exact ⟨s', .inr ⟨h1, h2, h3, h4, h5⟩⟩
      case post2 =>
        rintro ⟨r, out, ia2, ib2, mg2, ac2, bc2⟩ st2 ⟨s2, hc⟩
        dsimp only at hc ⊢
        rcases hc with ⟨r, rfl, g⟩ | ⟨rfl, m, d1, d2, d3⟩
        · exact wpS_pure ⟨s2, r, rfl, g⟩
        dsimp only
        refine wpS_bind (wpS_modify (wpS_pure ⟨⟨s2.kind, s2.arr, s2.pend, s2.fail⟩, rfl, m, d1, d2, by dsimp only; trivial⟩))
      case step2 =>
        rintro y ⟨r, out, ia', ib', mg', ac', bc'⟩ st2 _ hy ⟨s2, hr, m, c1, c2, c3⟩
        dsimp only at hr m c1 c2 c3 ⊢
        subst hr
        -- behind the gallop in a
        have T2 : ∀ {out : Array Keyed} {ia2 ib2 : Nat}, MI O ky ix a b out ia2 ib2 → ia2 + 1 < a.size → ib2 < b.size → ia + ib + 1 ≤ ia2 + ib2 → (∀ y ∈ b.toList.drop ib2, R O ky ix (at_ a ia2) y) → MI O ky ix a b (out.push (at_ a ia2)) (ia2 + 1) ib2 := fun {out ia2 ib2} m i1 i2 i3 hle => m.addA sa (k := 1) (by trivial) (fun x hx y hy => by
            rw [at_one (by trivial)] at hx
            have : x = at_ a ia2 := by simpa using hx
            rw [this]; exact hle y hy) (by rw [at_one (by trivial)]; simp)
        have T1 : ∀ {out : Array Keyed} {ia2 ib2 : Nat}, MI O ky ix a b out ia2 ib2 → ib2 < b.size → (∀ y ∈ a.toList.drop ia2, R O ky ix (at_ b ib2) y) → MI O ky ix a b (out.push (at_ b ib2)) ia2 (ib2 + 1) := fun {out ia2 ib2} m i2 hle => m.addB sb (k := 1) (by trivial) (fun x hx y hy => by
            rw [at_one (by trivial)] at hx
            have : x = at_ b ib2 := by simpa using hx
            rw [this]; exact hle y hy) (by rw [at_one (by trivial)]; simp)
        by_cases hmg : mg' > 1
        · rw [if_pos hmg]
          refine wpS_bind (wpS_modify ?_)
          refine wpS_bind (wpS_elem (at_eq c2) ?_)
          refine wpS_bind (wpS_gal C (s2.kind.trans hk) (hSb _ (at_mem c2)) hSa (fun i j hij hj => at_ij sa (by trivial) (by trivial)) (fun i hi => by simp only [Bool.false_eq_true, if_false]; exact hix _ (at_mem (by trivial)) _ (at_mem (by trivial))) (by trivial) (by trivial) fun k hkn k1 k2 => ?_)
          dsimp only
          simp only [Bool.false_eq_true, if_false] at k1 k2
          have hle : ∀ y ∈ a.toList.drop (ia' + k), R O ky ix (at_ b ib') y := fun y hy => by
            by_cases hlt : ia' + k < a.size
            · exact R.trans (R.lt (k2 k (Nat.le_refl _) (by trivial))) (at_le sa hlt y hy)
            · rw [List.drop_of_length_le (by simp; trivial)] at hy; cases hy
          have mA : MI O ky ix a b (out ++ a.extract ia' (ia' + k)) (ia' + k) ib' := m.addA sa (by trivial) (fun x hx y hy => by
            obtain ⟨j, j1, j2, rfl⟩ := mem_at hx
            exact R.trans (k1 j j1) (at_le sb c2 y hy)) (by rw [Array.toList_append, ext_some])
          by_cases hk0 : k > 0
          · rw [if_pos hk0]
            by_cases p1 : (ia' + k + 1 == a.size) = true
            · rw [if_pos p1]
              exact wpS_pure ⟨⟨s2.kind, s2.arr, s2.pend, s2.fail⟩, .inl ⟨_, rfl, mA.last sa sb (lst (by simpa using p1))⟩⟩
            rw [if_neg p1]
            by_cases p2 : (ia' + k == a.size) = true
            · rw [if_pos p2]
              exact wpS_pure ⟨⟨s2.kind, s2.arr, s2.pend, s2.fail⟩, .inl ⟨_, rfl, mA.done sa sb (.inl (by simpa using p2))⟩⟩
            rw [if_neg p2]
            have p1' : ¬ ia' + k + 1 = a.size := by simpa using p1
            have p2' : ¬ ia' + k = a.size := by simpa using p2
            refine wpS_bind (wpS_elem (at_eq c2) ?_)
            have m1 := T1 mA c2 hle
            by_cases q1 : (ib' + 1 == b.size) = true
            · rw [if_pos q1]
              exact wpS_pure ⟨⟨s2.kind, s2.arr, s2.pend, s2.fail⟩, .inl ⟨_, rfl, m1.done sa sb (.inr (by simpa using q1))⟩⟩
            rw [if_neg q1]
            have q1' : ¬ ib' + 1 = b.size := by simpa using q1
            refine wpS_bind (wpS_elem (at_eq (by trivial)) ?_)
            refine wpS_bind (wpS_gal C (s2.kind.trans hk) (hSa _ (at_mem (by trivial))) hSb (fun i j hij hj => at_ij sb (by trivial) (by trivial)) (fun i hi => by simp only [if_true]; exact hix _ (at_mem (by trivial)) _ (at_mem (by trivial))) (by trivial) (by trivial) fun k' hkn' k1' k2' => ?_)
            dsimp only
            simp only [if_true] at k1' k2'
            have hle2 : ∀ y ∈ b.toList.drop (ib' + 1 + k'), R O ky ix (at_ a (ia' + k)) y := fun y hy => by
              by_cases hlt : ib' + 1 + k' < b.size
              · exact R.trans (k2' k' (Nat.le_refl _) (by trivial)) (at_le sb hlt y hy)
              · rw [List.drop_of_length_le (by simp; trivial)] at hy; cases hy
            have mB := m1.addB sb (k := k') (o := (out ++ a.extract ia' (ia' + k)).push (at_ b ib') ++ b.extract (ib' + 1) (ib' + 1 + k')) (by trivial) (fun x hx y hy => by
              obtain ⟨j, j1, j2, rfl⟩ := mem_at hx
              exact R.trans (R.lt (k1' j j1)) (at_le sa (by trivial) y hy)) (by rw [Array.toList_append, ext_some])
            by_cases hk1 : k' > 0
            · rw [if_pos hk1]
              by_cases q2 : (ib' + 1 + k' == b.size) = true
              · rw [if_pos q2]
                exact wpS_pure ⟨⟨s2.kind, s2.arr, s2.pend, s2.fail⟩, .inl ⟨_, rfl, mB.done sa sb (.inr (by simpa using q2))⟩⟩
              rw [if_neg q2]
              have q2' : ¬ ib' + 1 + k' = b.size := by simpa using q2
              refine wpS_bind (wpS_elem (at_eq (by trivial)) ?_)
              have m2 := T2 mB (by trivial) (by trivial) (by trivial) hle2
              by_cases q3 : (ia' + k + 1 + 1 == a.size) = true
              · rw [if_pos q3]
                exact wpS_pure ⟨⟨s2.kind, s2.arr, s2.pend, s2.fail⟩, .inl ⟨_, rfl, m2.last sa sb (lst (by simpa using q3))⟩⟩
              rw [if_neg q3]
              have q3' : ¬ ia' + k + 1 + 1 = a.size := by simpa using q3
              by_cases q4 : (decide (k < 7) && decide (k' < 7)) = true
              · rw [if_pos q4]
                exact wpS_pure ⟨⟨s2.kind, s2.arr, s2.pend, s2.fail⟩, .inr ⟨rfl, m2, by dsimp only; trivial, by dsimp only; trivial, by dsimp only; trivial⟩⟩
              · rw [if_neg q4]
                exact wpS_pure ⟨⟨s2.kind, s2.arr, s2.pend, s2.fail⟩, rfl, m2, by dsimp only; trivial, by dsimp only; trivial, by dsimp only; trivial⟩
            · rw [if_neg hk1]
              have hle3 : ∀ y ∈ b.toList.drop (ib' + 1), R O ky ix (at_ a (ia' + k)) y := by
                have h' := hle2
                rw [show ib' + 1 + k' = ib' + 1 by trivial] at h'
                exact h'
              refine wpS_bind (wpS_elem (at_eq (by trivial)) ?_)
              have m2 := T2 m1 (by trivial) (by trivial) (by trivial) hle3
              by_cases q3 : (ia' + k + 1 + 1 == a.size) = true
              · rw [if_pos q3]
                exact wpS_pure ⟨⟨s2.kind, s2.arr, s2.pend, s2.fail⟩, .inl ⟨_, rfl, m2.last sa sb (lst (by simpa using q3))⟩⟩
              rw [if_neg q3]
              have q3' : ¬ ia' + k + 1 + 1 = a.size := by simpa using q3
              by_cases q4 : (decide (k < 7) && decide (k' < 7)) = true
              · rw [if_pos q4]
                exact wpS_pure ⟨⟨s2.kind, s2.arr, s2.pend, s2.fail⟩, .inr ⟨rfl, m2, by dsimp only; trivial, by dsimp only; trivial, by dsimp only; trivial⟩⟩
              · rw [if_neg q4]
                exact wpS_pure ⟨⟨s2.kind, s2.arr, s2.pend, s2.fail⟩, rfl, m2, by dsimp only; trivial, by dsimp only; trivial, by dsimp only; trivial⟩
          · rw [if_neg hk0]
            have hle0 : ∀ y ∈ a.toList.drop ia', R O ky ix (at_ b ib') y := by
              have h' := hle
              rw [show ia' + k = ia' by trivial] at h'
              exact h'
            refine wpS_bind (wpS_elem (at_eq c2) ?_)
            have m1 := T1 m c2 hle0
            by_cases q1 : (ib' + 1 == b.size) = true
            · rw [if_pos q1]
              exact wpS_pure ⟨⟨s2.kind, s2.arr, s2.pend, s2.fail⟩, .inl ⟨_, rfl, m1.done sa sb (.inr (by simpa using q1))⟩⟩
            rw [if_neg q1]
            have q1' : ¬ ib' + 1 = b.size := by simpa using q1
            refine wpS_bind (wpS_elem (at_eq (by trivial)) ?_)
            refine wpS_bind (wpS_gal C (s2.kind.trans hk) (hSa _ (at_mem (by trivial))) hSb (fun i j hij hj => at_ij sb (by trivial) (by trivial)) (fun i hi => by simp only [if_true]; exact hix _ (at_mem (by trivial)) _ (at_mem (by trivial))) (by trivial) (by trivial) fun k' hkn' k1' k2' => ?_)
            dsimp only
            simp only [if_true] at k1' k2'
            have hle2 : ∀ y ∈ b.toList.drop (ib' + 1 + k'), R O ky ix (at_ a (ia')) y := fun y hy => by
              by_cases hlt : ib' + 1 + k' < b.size
              · exact R.trans (k2' k' (Nat.le_refl _) (by trivial)) (at_le sb hlt y hy)
              · rw [List.drop_of_length_le (by simp; trivial)] at hy; cases hy
            have mB := m1.addB sb (k := k') (o := out.push (at_ b ib') ++ b.extract (ib' + 1) (ib' + 1 + k')) (by trivial) (fun x hx y hy => by
              obtain ⟨j, j1, j2, rfl⟩ := mem_at hx
              exact R.trans (R.lt (k1' j j1)) (at_le sa (by trivial) y hy)) (by rw [Array.toList_append, ext_some])
            by_cases hk1 : k' > 0
            · rw [if_pos hk1]
              by_cases q2 : (ib' + 1 + k' == b.size) = true
              · rw [if_pos q2]
                exact wpS_pure ⟨⟨s2.kind, s2.arr, s2.pend, s2.fail⟩, .inl ⟨_, rfl, mB.done sa sb (.inr (by simpa using q2))⟩⟩
              rw [if_neg q2]
              have q2' : ¬ ib' + 1 + k' = b.size := by simpa using q2
              refine wpS_bind (wpS_elem (at_eq (by trivial)) ?_)
              have m2 := T2 mB (by trivial) (by trivial) (by trivial) hle2
              by_cases q3 : (ia' + 1 + 1 == a.size) = true
              · rw [if_pos q3]
                exact wpS_pure ⟨⟨s2.kind, s2.arr, s2.pend, s2.fail⟩, .inl ⟨_, rfl, m2.last sa sb (lst (by simpa using q3))⟩⟩
              rw [if_neg q3]
              have q3' : ¬ ia' + 1 + 1 = a.size := by simpa using q3
              by_cases q4 : (decide (k < 7) && decide (k' < 7)) = true
              · rw [if_pos q4]
                exact wpS_pure ⟨⟨s2.kind, s2.arr, s2.pend, s2.fail⟩, .inr ⟨rfl, m2, by dsimp only; trivial, by dsimp only; trivial, by dsimp only; trivial⟩⟩
              · rw [if_neg q4]
                exact wpS_pure ⟨⟨s2.kind, s2.arr, s2.pend, s2.fail⟩, rfl, m2, by dsimp only; trivial, by dsimp only; trivial, by dsimp only; trivial⟩
            · rw [if_neg hk1]
              have hle3 : ∀ y ∈ b.toList.drop (ib' + 1), R O ky ix (at_ a (ia')) y := by
                have h' := hle2
                rw [show ib' + 1 + k' = ib' + 1 by trivial] at h'
                exact h'
              refine wpS_bind (wpS_elem (at_eq (by trivial)) ?_)
              have m2 := T2 m1 (by trivial) (by trivial) (by trivial) hle3
              by_cases q3 : (ia' + 1 + 1 == a.size) = true
              · rw [if_pos q3]
                exact wpS_pure ⟨⟨s2.kind, s2.arr, s2.pend, s2.fail⟩, .inl ⟨_, rfl, m2.last sa sb (lst (by simpa using q3))⟩⟩
              rw [if_neg q3]
              have q3' : ¬ ia' + 1 + 1 = a.size := by simpa using q3
              by_cases q4 : (decide (k < 7) && decide (k' < 7)) = true
              · rw [if_pos q4]
                exact wpS_pure ⟨⟨s2.kind, s2.arr, s2.pend, s2.fail⟩, .inr ⟨rfl, m2, by dsimp only; trivial, by dsimp only; trivial, by dsimp only; trivial⟩⟩
              · rw [if_neg q4]
                exact wpS_pure ⟨⟨s2.kind, s2.arr, s2.pend, s2.fail⟩, rfl, m2, by dsimp only; trivial, by dsimp only; trivial, by dsimp only; trivial⟩
        · rw [if_neg hmg]
          refine wpS_bind (wpS_modify ?_)
          refine wpS_bind (wpS_elem (at_eq c2) ?_)
          refine wpS_bind (wpS_gal C (s2.kind.trans hk) (hSb _ (at_mem c2)) hSa (fun i j hij hj => at_ij sa (by trivial) (by trivial)) (fun i hi => by simp only [Bool.false_eq_true, if_false]; exact hix _ (at_mem (by trivial)) _ (at_mem (by trivial))) (by trivial) (by trivial) fun k hkn k1 k2 => ?_)
          dsimp only
          simp only [Bool.false_eq_true, if_false] at k1 k2
          have hle : ∀ y ∈ a.toList.drop (ia' + k), R O ky ix (at_ b ib') y := fun y hy => by
            by_cases hlt : ia' + k < a.size
            · exact R.trans (R.lt (k2 k (Nat.le_refl _) (by trivial))) (at_le sa hlt y hy)
            · rw [List.drop_of_length_le (by simp; trivial)] at hy; cases hy
          have mA : MI O ky ix a b (out ++ a.extract ia' (ia' + k)) (ia' + k) ib' := m.addA sa (by trivial) (fun x hx y hy => by
            obtain ⟨j, j1, j2, rfl⟩ := mem_at hx
            exact R.trans (k1 j j1) (at_le sb c2 y hy)) (by rw [Array.toList_append, ext_some])
          by_cases hk0 : k > 0
          · rw [if_pos hk0]
            by_cases p1 : (ia' + k + 1 == a.size) = true
            · rw [if_pos p1]
              exact wpS_pure ⟨⟨s2.kind, s2.arr, s2.pend, s2.fail⟩, .inl ⟨_, rfl, mA.last sa sb (lst (by simpa using p1))⟩⟩
            rw [if_neg p1]
            by_cases p2 : (ia' + k == a.size) = true
            · rw [if_pos p2]
              exact wpS_pure ⟨⟨s2.kind, s2.arr, s2.pend, s2.fail⟩, .inl ⟨_, rfl, mA.done sa sb (.inl (by simpa using p2))⟩⟩
            rw [if_neg p2]
            have p1' : ¬ ia' + k + 1 = a.size := by simpa using p1
            have p2' : ¬ ia' + k = a.size := by simpa using p2
            refine wpS_bind (wpS_elem (at_eq c2) ?_)
            have m1 := T1 mA c2 hle
            by_cases q1 : (ib' + 1 == b.size) = true
            · rw [if_pos q1]
              exact wpS_pure ⟨⟨s2.kind, s2.arr, s2.pend, s2.fail⟩, .inl ⟨_, rfl, m1.done sa sb (.inr (by simpa using q1))⟩⟩
            rw [if_neg q1]
            have q1' : ¬ ib' + 1 = b.size := by simpa using q1
            refine wpS_bind (wpS_elem (at_eq (by trivial)) ?_)
            refine wpS_bind (wpS_gal C (s2.kind.trans hk) (hSa _ (at_mem (by trivial))) hSb (fun i j hij hj => at_ij sb (by trivial) (by trivial)) (fun i hi => by simp only [if_true]; exact hix _ (at_mem (by trivial)) _ (at_mem (by trivial))) (by trivial) (by trivial) fun k' hkn' k1' k2' => ?_)
            dsimp only
            simp only [if_true] at k1' k2'
            have hle2 : ∀ y ∈ b.toList.drop (ib' + 1 + k'), R O ky ix (at_ a (ia' + k)) y := fun y hy => by
              by_cases hlt : ib' + 1 + k' < b.size
              · exact R.trans (k2' k' (Nat.le_refl _) (by trivial)) (at_le sb hlt y hy)
              · rw [List.drop_of_length_le (by simp; trivial)] at hy; cases hy
            have mB := m1.addB sb (k := k') (o := (out ++ a.extract ia' (ia' + k)).push (at_ b ib') ++ b.extract (ib' + 1) (ib' + 1 + k')) (by trivial) (fun x hx y hy => by
              obtain ⟨j, j1, j2, rfl⟩ := mem_at hx
              exact R.trans (R.lt (k1' j j1)) (at_le sa (by trivial) y hy)) (by rw [Array.toList_append, ext_some])
            by_cases hk1 : k' > 0
            · rw [if_pos hk1]
              by_cases q2 : (ib' + 1 + k' == b.size) = true
              · rw [if_pos q2]
                exact wpS_pure ⟨⟨s2.kind, s2.arr, s2.pend, s2.fail⟩, .inl ⟨_, rfl, mB.done sa sb (.inr (by simpa using q2))⟩⟩
              rw [if_neg q2]
              have q2' : ¬ ib' + 1 + k' = b.size := by simpa using q2
              refine wpS_bind (wpS_elem (at_eq (by trivial)) ?_)
              have m2 := T2 mB (by trivial) (by trivial) (by trivial) hle2
              by_cases q3 : (ia' + k + 1 + 1 == a.size) = true
              · rw [if_pos q3]
                exact wpS_pure ⟨⟨s2.kind, s2.arr, s2.pend, s2.fail⟩, .inl ⟨_, rfl, m2.last sa sb (lst (by simpa using q3))⟩⟩
              rw [if_neg q3]
              have q3' : ¬ ia' + k + 1 + 1 = a.size := by simpa using q3
              by_cases q4 : (decide (k < 7) && decide (k' < 7)) = true
              · rw [if_pos q4]
                exact wpS_pure ⟨⟨s2.kind, s2.arr, s2.pend, s2.fail⟩, .inr ⟨rfl, m2, by dsimp only; trivial, by dsimp only; trivial, by dsimp only; trivial⟩⟩
              · rw [if_neg q4]
                exact wpS_pure ⟨⟨s2.kind, s2.arr, s2.pend, s2.fail⟩, rfl, m2, by dsimp only; trivial, by dsimp only; trivial, by dsimp only; trivial⟩
            · rw [if_neg hk1]
              have hle3 : ∀ y ∈ b.toList.drop (ib' + 1), R O ky ix (at_ a (ia' + k)) y := by
                have h' := hle2
                rw [show ib' + 1 + k' = ib' + 1 by trivial] at h'
                exact h'
              refine wpS_bind (wpS_elem (at_eq (by trivial)) ?_)
              have m2 := T2 m1 (by trivial) (by trivial) (by trivial) hle3
              by_cases q3 : (ia' + k + 1 + 1 == a.size) = true
              · rw [if_pos q3]
                exact wpS_pure ⟨⟨s2.kind, s2.arr, s2.pend, s2.fail⟩, .inl ⟨_, rfl, m2.last sa sb (lst (by simpa using q3))⟩⟩
              rw [if_neg q3]
              have q3' : ¬ ia' + k + 1 + 1 = a.size := by simpa using q3
              by_cases q4 : (decide (k < 7) && decide (k' < 7)) = true
              · rw [if_pos q4]
                exact wpS_pure ⟨⟨s2.kind, s2.arr, s2.pend, s2.fail⟩, .inr ⟨rfl, m2, by dsimp only; trivial, by dsimp only; trivial, by dsimp only; trivial⟩⟩
              · rw [if_neg q4]
                exact wpS_pure ⟨⟨s2.kind, s2.arr, s2.pend, s2.fail⟩, rfl, m2, by dsimp only; trivial, by dsimp only; trivial, by dsimp only; trivial⟩
          · rw [if_neg hk0]
            have hle0 : ∀ y ∈ a.toList.drop ia', R O ky ix (at_ b ib') y := by
              have h' := hle
              rw [show ia' + k = ia' by trivial] at h'
              exact h'
            refine wpS_bind (wpS_elem (at_eq c2) ?_)
            have m1 := T1 m c2 hle0
            by_cases q1 : (ib' + 1 == b.size) = true
            · rw [if_pos q1]
              exact wpS_pure ⟨⟨s2.kind, s2.arr, s2.pend, s2.fail⟩, .inl ⟨_, rfl, m1.done sa sb (.inr (by simpa using q1))⟩⟩
            rw [if_neg q1]
            have q1' : ¬ ib' + 1 = b.size := by simpa using q1
            refine wpS_bind (wpS_elem (at_eq (by trivial)) ?_)
            refine wpS_bind (wpS_gal C (s2.kind.trans hk) (hSa _ (at_mem (by trivial))) hSb (fun i j hij hj => at_ij sb (by trivial) (by trivial)) (fun i hi => by simp only [if_true]; exact hix _ (at_mem (by trivial)) _ (at_mem (by trivial))) (by trivial) (by trivial) fun k' hkn' k1' k2' => ?_)
            dsimp only
            simp only [if_true] at k1' k2'
            have hle2 : ∀ y ∈ b.toList.drop (ib' + 1 + k'), R O ky ix (at_ a (ia')) y := fun y hy => by
              by_cases hlt : ib' + 1 + k' < b.size
              · exact R.trans (k2' k' (Nat.le_refl _) (by trivial)) (at_le sb hlt y hy)
              · rw [List.drop_of_length_le (by simp; trivial)] at hy; cases hy
            have mB := m1.addB sb (k := k') (o := out.push (at_ b ib') ++ b.extract (ib' + 1) (ib' + 1 + k')) (by trivial) (fun x hx y hy => by
              obtain ⟨j, j1, j2, rfl⟩ := mem_at hx
              exact R.trans (R.lt (k1' j j1)) (at_le sa (by trivial) y hy)) (by rw [Array.toList_append, ext_some])
            by_cases hk1 : k' > 0
            · rw [if_pos hk1]
              by_cases q2 : (ib' + 1 + k' == b.size) = true
              · rw [if_pos q2]
                exact wpS_pure ⟨⟨s2.kind, s2.arr, s2.pend, s2.fail⟩, .inl ⟨_, rfl, mB.done sa sb (.inr (by simpa using q2))⟩⟩
              rw [if_neg q2]
              have q2' : ¬ ib' + 1 + k' = b.size := by simpa using q2
              refine wpS_bind (wpS_elem (at_eq (by trivial)) ?_)
              have m2 := T2 mB (by trivial) (by trivial) (by trivial) hle2
              by_cases q3 : (ia' + 1 + 1 == a.size) = true
              · rw [if_pos q3]
                exact wpS_pure ⟨⟨s2.kind, s2.arr, s2.pend, s2.fail⟩, .inl ⟨_, rfl, m2.last sa sb (lst (by simpa using q3))⟩⟩
              rw [if_neg q3]
              have q3' : ¬ ia' + 1 + 1 = a.size := by simpa using q3
              by_cases q4 : (decide (k < 7) && decide (k' < 7)) = true
              · rw [if_pos q4]
                exact wpS_pure ⟨⟨s2.kind, s2.arr, s2.pend, s2.fail⟩, .inr ⟨rfl, m2, by dsimp only; trivial, by dsimp only; trivial, by dsimp only; trivial⟩⟩
              · rw [if_neg q4]
                exact wpS_pure ⟨⟨s2.kind, s2.arr, s2.pend, s2.fail⟩, rfl, m2, by dsimp only; trivial, by dsimp only; trivial, by dsimp only; trivial⟩
            · rw [if_neg hk1]
              have hle3 : ∀ y ∈ b.toList.drop (ib' + 1), R O ky ix (at_ a (ia')) y := by
                have h' := hle2
                rw [show ib' + 1 + k' = ib' + 1 by trivial] at h'
                exact h'
              refine wpS_bind (wpS_elem (at_eq (by trivial)) ?_)
              have m2 := T2 m1 (by trivial) (by trivial) (by trivial) hle3
              by_cases q3 : (ia' + 1 + 1 == a.size) = true
              · rw [if_pos q3]
                exact wpS_pure ⟨⟨s2.kind, s2.arr, s2.pend, s2.fail⟩, .inl ⟨_, rfl, m2.last sa sb (lst (by simpa using q3))⟩⟩
              rw [if_neg q3]
              have q3' : ¬ ia' + 1 + 1 = a.size := by simpa using q3
              by_cases q4 : (decide (k < 7) && decide (k' < 7)) = true
              · rw [if_pos q4]
                exact wpS_pure ⟨⟨s2.kind, s2.arr, s2.pend, s2.fail⟩, .inr ⟨rfl, m2, by dsimp only; trivial, by dsimp only; trivial, by dsimp only; trivial⟩⟩
              · rw [if_neg q4]
                exact wpS_pure ⟨⟨s2.kind, s2.arr, s2.pend, s2.fail⟩, rfl, m2, by dsimp only; trivial, by dsimp only; trivial, by dsimp only; trivial⟩
end
end TT
set_option linter.all false
namespace TT
open PySem PyProof.Rows TS
section
variable {O : KeyOrd} {ky : Keyed → O.α} {ix : Keyed → Nat}
theorem at_snoc {a : Array Keyed} {i : Nat} (h : i < a.size) : a.toList.take (i + 1) = a.toList.take i ++ [at_ a i] := by rw [List.take_add_one, at_list h]; rfl
theorem at_ge {a : Array Keyed} (sa : Srt O ky ix a.toList) {i : Nat} (h : i < a.size) : ∀ y ∈ a.toList.take (i + 1), R O ky ix y (at_ a i) := by
  intro y hy
  have s := take_srt sa (i + 1)
  unfold Srt at s
  rw [at_snoc h] at hy s
  rcases List.mem_append.mp hy with hy | hy
  · exact (List.pairwise_append.mp s).2.2 y hy _ List.mem_cons_self
  · have : y = at_ a i := by simpa using hy
    rw [this]; exact R.refl _
theorem at_one' {a : Array Keyed} {i : Nat} (h : i < a.size) : (a.toList.take (i + 1)).drop i = [at_ a i] := by
  rw [at_snoc h, List.drop_append_of_le_length (by simp; trivial), List.drop_of_length_le (by simp; trivial)]; rfl
theorem mem_at' {a : Array Keyed} {i k : Nat} (hk : k ≤ a.size) {x : Keyed} (hx : x ∈ (a.toList.take k).drop i) : ∃ j, i ≤ j ∧ j < k ∧ x = at_ a j := by
  rw [List.drop_take] at hx
  obtain ⟨j, j1, j2, e⟩ := mem_at hx
  exact ⟨i + j, by trivial, by trivial, e⟩
theorem mem_take' {a : Array Keyed} {k : Nat} (hk : k ≤ a.size) {x : Keyed} (hx : x ∈ a.toList.take k) : ∃ j, j < k ∧ x = at_ a j := by
  obtain ⟨j, _, j2, e⟩ := mem_at' (i := 0) hk (by rw [List.drop_zero]; exact hx)
  exact ⟨j, j2, e⟩
theorem MH.pushA {a b out : Array Keyed} {na nb : Nat} (m : MH O ky ix a b out na nb) (sa : Srt O ky ix a.toList) (h1 : 1 ≤ na) (hx : ∀ y ∈ b.toList.take nb, R O ky ix y (at_ a (na - 1))) : MH O ky ix a b (out.push (at_ a (na - 1))) (na - 1) nb := by
  have ha := m.ha
  obtain ⟨j, rfl⟩ : ∃ j, na = j + 1 := ⟨na - 1, by trivial⟩
  rw [Nat.add_sub_cancel] at hx ⊢
  exact m.addA sa (by trivial) (fun x hx' y hy => by
    rw [at_one' (by trivial)] at hx'
    have : x = at_ a j := by simpa using hx'
    rw [this]; exact hx y hy) (by rw [at_one' (by trivial)]; simp)
theorem MH.pushB {a b out : Array Keyed} {na nb : Nat} (m : MH O ky ix a b out na nb) (sb : Srt O ky ix b.toList) (h1 : 1 ≤ nb) (hx : ∀ y ∈ a.toList.take na, R O ky ix y (at_ b (nb - 1))) : MH O ky ix a b (out.push (at_ b (nb - 1))) na (nb - 1) := (m.swap.pushA sb h1 hx).swap
end
section
variable {prog : Program} {w : World} {A : Around} {E : Value → Shared → Prop} {s : Shared}
variable {kd : SortKind} {O : KeyOrd} {ky : Keyed → O.α} {ix : Keyed → Nat} {S : Keyed → Prop}
theorem wpS_mergeHi (C : Cmp prog w A s kd O ky S) {st : SortSt} {a b : Array Keyed} {Q : Array Keyed → SortSt → Prop} (hk : kindOf st = kd) (hSa : ∀ p ∈ a.toList, S p) (hSb : ∀ p ∈ b.toList, S p) (sa : Srt O ky ix a.toList) (sb : Srt O ky ix b.toList) (hix : ∀ x ∈ a.toList, ∀ y ∈ b.toList, ix x ≤ ix y) (na1 : 1 ≤ a.size) (nb1 : 1 ≤ b.size)
    (h0 : ∀ y ∈ a.toList, R O ky ix (at_ b 0) y) (hl : ∀ y ∈ b.toList, R O ky ix y (at_ a (a.size - 1))) (h : ∀ o st', Good O ky ix a b o → SameSt st st' → Q o st') : wpS (model prog w) A E s (mergeHi' a b) Q st := by
  have fst : ∀ {nb}, nb = 1 → ∀ x ∈ b.toList.take nb, ∀ y ∈ a.toList, R O ky ix x y := fun {nb} e x hx y hy => by
    obtain ⟨j, j1, rfl⟩ := mem_take' (by trivial) hx
    rw [show j = 0 by trivial]
    exact h0 y hy
  unfold mergeHi'
  refine wpS_bind (wpS_lift (wpAny_rule ⟨rfl, ?_⟩))
  dsimp only
  refine wpS_bind (wpS_elem (at_eq (by trivial)) ?_)
  have m0 : MH O ky ix a b #[at_ a (a.size - 1)] (a.size - 1) b.size := by
    have z : MH O ky ix a b #[] a.size b.size := ⟨Nat.le_refl _, Nat.le_refl _, by simp, List.Pairwise.nil, fun x hx => by simp at hx, fun x hx => by simp at hx⟩
    exact z.pushA sa na1 (fun y hy => hl y (List.mem_of_mem_take hy))
  by_cases e1 : (a.size - 1 == 0) = true
  · rw [if_pos e1]
    exact wpS_pure (h _ _ (m0.done sa sb (.inl (by simpa using e1))) (SameSt.refl _))
  rw [if_neg e1]
  have e1' : ¬ a.size - 1 = 0 := by simpa using e1
  by_cases e2 : (b.size == 1) = true
  · rw [if_pos e2]
    exact wpS_pure (h _ _ (m0.first sa sb (fst (by simpa using e2))) (SameSt.refl _))
  rw [if_neg e2]
  have e2' : ¬ b.size = 1 := by simpa using e2
  refine wpS_bind (wpS_get ?_)
  refine wpS_bind (wpS_mono (wpS_forRange
    (I := fun x c st' => SameSt st st' ∧ c.1 = none ∧ MH O ky ix a b c.2.2.2.1 c.2.1 c.2.2.1 ∧ 1 ≤ c.2.1 ∧ 2 ≤ c.2.2.1 ∧ c.2.1 + c.2.2.1 + x + 1 ≤ a.size + b.size)
    (Q := fun c st' => SameSt st st' ∧ ∃ r, c.1 = some r ∧ Good O ky ix a b r) ?step ?fin ⟨SameSt.refl _, rfl, m0, by dsimp only; trivial, by dsimp only; trivial, by dsimp only; trivial⟩) ?post)
  case fin =>
    rintro c st' ⟨_, _, m, c1, c2, c3⟩
    trivial
  case post =>
    rintro ⟨r, na, nb, out, mg⟩ st' ⟨ss, r', hr, g⟩
    dsimp only at hr ⊢
    subst hr
    exact wpS_pure (h _ _ g ss)
  case step =>
    rintro x ⟨r, na, nb, out, mg⟩ st1 _ hx ⟨ss, hr, m, c1, c2, c3⟩
    dsimp only at hr m c1 c2 c3 ⊢
    subst hr
    have ha0 := m.ha
    have hb0 := m.hb
    refine wpS_bind (wpS_mono (wpS_forRange
      (I := fun y c st' => st' = st1 ∧ c.1 = none ∧ MH O ky ix a b c.2.2.2.1 c.2.1 c.2.2.1 ∧ 1 ≤ c.2.1 ∧ 2 ≤ c.2.2.1 ∧ c.2.1 + c.2.2.1 + y ≤ na + nb)
      (Q := fun c st' => st' = st1 ∧ ((∃ r, c.1 = some r ∧ Good O ky ix a b r) ∨ (c.1 = none ∧ MH O ky ix a b c.2.2.2.1 c.2.1 c.2.2.1 ∧ 1 ≤ c.2.1 ∧ 2 ≤ c.2.2.1 ∧ c.2.1 + c.2.2.1 + 1 ≤ na + nb))) ?step1 ?fin1 ⟨rfl, rfl, m, c1, c2, by dsimp only; trivial⟩) ?post1)
    case fin1 =>
      rintro c st' ⟨_, _, m, c1, c2, c3⟩
      trivial
    case step1 =>
      rintro y ⟨r, na', nb', out, ac, bc⟩ st' _ hy ⟨rfl, hr, m, c1, c2, c3⟩
      dsimp only at hr m c1 c2 c3 ⊢
      subst hr
      have ha' := m.ha
      have hb' := m.hb
      have ka : kindOf st' = kd := ss.kind.trans hk
      refine wpS_bind (wpS_elem (at_eq (by trivial)) (wpS_bind (wpS_elem (at_eq (by trivial)) (wpS_bind (wpS_lt C ka (hSb _ (at_mem (by trivial))) (hSa _ (at_mem (by trivial))) ?_)))))
      dsimp only
      cases hw : O.blt (ky (at_ b (nb' - 1))) (ky (at_ a (na' - 1))) with
      | true =>
        rw [if_pos rfl]
        have m1 := m.pushA sa c1 (fun y hy => by
          have := at_ge sb (i := nb' - 1) (by trivial) y (by rw [show nb' - 1 + 1 = nb' by trivial]; exact hy)
          exact R.trans this (R.lt hw))
        refine wpS_bind (wpS_elem (at_eq (by trivial)) ?_)
        split
        · rename_i q
          exact wpS_pure ⟨rfl, .inl ⟨_, rfl, m1.done sa sb (.inl (by simpa using q))⟩⟩
        · rename_i q
          have q' : ¬ na' - 1 = 0 := by simpa using q
          split
          · exact wpS_pure ⟨rfl, .inr ⟨rfl, m1, by dsimp only; trivial, c2, by dsimp only; trivial⟩⟩
          · exact wpS_pure ⟨rfl, rfl, m1, by dsimp only; trivial, c2, by dsimp only; trivial⟩
      | false =>
        rw [if_neg Bool.false_ne_true]
        have m1 := m.pushB sb (by trivial) (fun y hy => by
          have := at_ge sa (i := na' - 1) (by trivial) y (by rw [show na' - 1 + 1 = na' by trivial]; exact hy)
          exact R.trans this (R.le hw (hix _ (at_mem (by trivial)) _ (at_mem (by trivial)))))
        refine wpS_bind (wpS_elem (at_eq (by trivial)) ?_)
        split
        · rename_i q
          exact wpS_pure ⟨rfl, .inl ⟨_, rfl, m1.first sa sb (fst (by simpa using q))⟩⟩
        · rename_i q
          have q' : ¬ nb' - 1 = 1 := by simpa using q
          split
          · exact wpS_pure ⟨rfl, .inr ⟨rfl, m1, c1, by dsimp only; trivial, by dsimp only; trivial⟩⟩
          · exact wpS_pure ⟨rfl, rfl, m1, c1, by dsimp only; trivial, by dsimp only; trivial⟩
    case post1 =>
      rintro ⟨r, na2, nb2, out, ac, bc⟩ st' ⟨rfl, hc⟩
      dsimp only at hc ⊢
      rcases hc with ⟨r, rfl, g⟩ | ⟨rfl, m, c1', c2', c3'⟩
      · exact wpS_pure ⟨ss, r, rfl, g⟩
      dsimp only
      refine wpS_bind (wpS_lift (wpAny_rule ⟨rfl, ?_⟩))
      refine wpS_bind (wpS_mono (wpS_forRange
        (I := fun y c st' => SameSt st st' ∧ c.1 = none ∧ MH O ky ix a b c.2.2.2.1 c.2.1 c.2.2.1 ∧ 1 ≤ c.2.1 ∧ 2 ≤ c.2.2.1 ∧ c.2.1 + c.2.2.1 + 1 ≤ na + nb)
        (Q := fun c st' => SameSt st st' ∧ ((∃ r, c.1 = some r ∧ Good O ky ix a b r) ∨ (c.1 = none ∧ MH O ky ix a b c.2.2.2.1 c.2.1 c.2.2.1 ∧ 1 ≤ c.2.1 ∧ 2 ≤ c.2.2.1 ∧ c.2.1 + c.2.2.1 + 1 ≤ na + nb))) ?step2 ?fin2 ⟨ss, rfl, m, c1', c2', by dsimp only; trivial⟩) ?post2)
      case fin2 =>
        rintro c st' ⟨s', h1, h2, h3, h4, h5⟩
        exact ⟨s', .inr ⟨h1, h2, h3, h4, h5⟩⟩
      case post2 =>
        rintro ⟨r, na3, nb3, out, mg2, ac2, bc2⟩ st2 ⟨s2, hc⟩
        dsimp only at hc ⊢
        rcases hc with ⟨r, rfl, g⟩ | ⟨rfl, m, d1, d2, d3⟩
        · exact wpS_pure ⟨s2, r, rfl, g⟩
        dsimp only
        refine wpS_bind (wpS_modify (wpS_pure ⟨⟨s2.kind, s2.arr, s2.pend, s2.fail⟩, rfl, m, d1, d2, by dsimp only; trivial⟩))
      case step2 =>
        rintro y ⟨r, na', nb', out, mg', ac', bc'⟩ st2 _ hy ⟨s2, hr, m, c1, c2, c3⟩
        dsimp only at hr m c1 c2 c3 ⊢
        subst hr
        have ha' := m.ha
        have hb' := m.hb
        by_cases hmg : mg' > 1
        · rw [if_pos hmg]
          refine wpS_bind (wpS_modify ?_)
          refine wpS_bind (wpS_elem (at_eq (by trivial)) ?_)
          refine wpS_bind (wpS_gal C (s2.kind.trans hk) (hSb _ (at_mem (by trivial))) hSa (fun i j hij hj => at_ij sa (by trivial) (by trivial)) (fun i hi => by simp only [Bool.false_eq_true, if_false]; exact hix _ (at_mem (by trivial)) _ (at_mem (by trivial))) (by trivial) (by trivial) fun k hkn k1 k2 => ?_)
          dsimp only
          simp only [Bool.false_eq_true, if_false, Nat.zero_add] at k1 k2
          have hle : ∀ y ∈ a.toList.take k, R O ky ix y (at_ b (nb' - 1)) := fun y hy => by
            obtain ⟨j, j1, rfl⟩ := mem_take' (by trivial) hy
            exact k1 j j1
          have mA : MH O ky ix a b (out ++ (a.extract k na').reverse) k nb' := m.addA sa hkn (fun x hx y hy => by
            obtain ⟨j, j1, j2, rfl⟩ := mem_at' (by trivial) hx
            exact R.trans (at_ge sb (i := nb' - 1) (by trivial) y (by rw [show nb' - 1 + 1 = nb' by trivial]; exact hy)) (R.lt (k2 j j1 j2))) (by rw [Array.toList_append, Array.toList_reverse, ext2])
          by_cases hk0 : na' - k > 0
          · rw [if_pos hk0]
            by_cases p1 : (k == 0) = true
            · rw [if_pos p1]
              exact wpS_pure ⟨⟨s2.kind, s2.arr, s2.pend, s2.fail⟩, .inl ⟨_, rfl, mA.done sa sb (.inl (by simpa using p1))⟩⟩
            rw [if_neg p1]
            have p1' : ¬ k = 0 := by simpa using p1
            refine wpS_bind (wpS_elem (at_eq (by trivial)) ?_)
            have m1 := MH.pushB mA sb (by trivial) hle
            by_cases q1 : (nb' - 1 == 1) = true
            · rw [if_pos q1]
              exact wpS_pure ⟨⟨s2.kind, s2.arr, s2.pend, s2.fail⟩, .inl ⟨_, rfl, m1.first sa sb (fst (by simpa using q1))⟩⟩
            rw [if_neg q1]
            have q1' : ¬ nb' - 1 = 1 := by simpa using q1
            refine wpS_bind (wpS_elem (at_eq (by trivial)) ?_)
            refine wpS_bind (wpS_gal C (s2.kind.trans hk) (hSa _ (at_mem (by trivial))) hSb (fun i j hij hj => at_ij sb (by trivial) (by trivial)) (fun i hi => by simp only [if_true]; exact hix _ (at_mem (by trivial)) _ (at_mem (by trivial))) (by trivial) (by trivial) fun k' hkn' k1' k2' => ?_)
            dsimp only
            simp only [if_true, Nat.zero_add] at k1' k2'
            have hle2 : ∀ y ∈ b.toList.take k', R O ky ix y (at_ a (k - 1)) := fun y hy => by
              obtain ⟨j, j1, rfl⟩ := mem_take' (by trivial) hy
              exact R.lt (k1' j j1)
            have mB := m1.addB sb (k := k') (o := (out ++ (a.extract k na').reverse).push (at_ b (nb' - 1)) ++ (b.extract k' (nb' - 1)).reverse) hkn' (fun x hx y hy => by
              obtain ⟨j, j1, j2, rfl⟩ := mem_at' (by trivial) hx
              exact R.trans (at_ge sa (i := k - 1) (by trivial) y (by rw [show k - 1 + 1 = k by trivial]; exact hy)) (k2' j j1 j2)) (by rw [Array.toList_append, Array.toList_reverse, ext2])
            by_cases hk1 : nb' - 1 - k' > 0
            · rw [if_pos hk1]
              by_cases q2 : (k' == 1) = true
              · rw [if_pos q2]
                exact wpS_pure ⟨⟨s2.kind, s2.arr, s2.pend, s2.fail⟩, .inl ⟨_, rfl, mB.first sa sb (fst (by simpa using q2))⟩⟩
              rw [if_neg q2]
              by_cases q5 : (k' == 0) = true
              · rw [if_pos q5]
                exact wpS_pure ⟨⟨s2.kind, s2.arr, s2.pend, s2.fail⟩, .inl ⟨_, rfl, mB.done sa sb (.inr (by simpa using q5))⟩⟩
              rw [if_neg q5]
              have q2' : ¬ k' = 1 := by simpa using q2
              have q5' : ¬ k' = 0 := by simpa using q5
              refine wpS_bind (wpS_elem (at_eq (by trivial)) ?_)
              have m2 := MH.pushA mB sa (by trivial) hle2
              by_cases q3 : (k - 1 == 0) = true
              · rw [if_pos q3]
                exact wpS_pure ⟨⟨s2.kind, s2.arr, s2.pend, s2.fail⟩, .inl ⟨_, rfl, m2.done sa sb (.inl (by simpa using q3))⟩⟩
              rw [if_neg q3]
              have q3' : ¬ k - 1 = 0 := by simpa using q3
              by_cases q4 : (decide (na' - k < 7) && decide (nb' - 1 - k' < 7)) = true
              · rw [if_pos q4]
                exact wpS_pure ⟨⟨s2.kind, s2.arr, s2.pend, s2.fail⟩, .inr ⟨rfl, m2, by dsimp only; trivial, by dsimp only; trivial, by dsimp only; trivial⟩⟩
              · rw [if_neg q4]
                exact wpS_pure ⟨⟨s2.kind, s2.arr, s2.pend, s2.fail⟩, rfl, m2, by dsimp only; trivial, by dsimp only; trivial, by dsimp only; trivial⟩
            · rw [if_neg hk1]
              have hle3 : ∀ y ∈ b.toList.take (nb' - 1), R O ky ix y (at_ a (k - 1)) := by
                have h' := hle2
                rw [show k' = nb' - 1 by trivial] at h'
                exact h'
              refine wpS_bind (wpS_elem (at_eq (by trivial)) ?_)
              have m2 := MH.pushA m1 sa (by trivial) hle3
              by_cases q3 : (k - 1 == 0) = true
              · rw [if_pos q3]
                exact wpS_pure ⟨⟨s2.kind, s2.arr, s2.pend, s2.fail⟩, .inl ⟨_, rfl, m2.done sa sb (.inl (by simpa using q3))⟩⟩
              rw [if_neg q3]
              have q3' : ¬ k - 1 = 0 := by simpa using q3
              by_cases q4 : (decide (na' - k < 7) && decide (nb' - 1 - k' < 7)) = true
              · rw [if_pos q4]
                exact wpS_pure ⟨⟨s2.kind, s2.arr, s2.pend, s2.fail⟩, .inr ⟨rfl, m2, by dsimp only; trivial, by dsimp only; trivial, by dsimp only; trivial⟩⟩
              · rw [if_neg q4]
                exact wpS_pure ⟨⟨s2.kind, s2.arr, s2.pend, s2.fail⟩, rfl, m2, by dsimp only; trivial, by dsimp only; trivial, by dsimp only; trivial⟩
          · rw [if_neg hk0]
            have hle0 : ∀ y ∈ a.toList.take na', R O ky ix y (at_ b (nb' - 1)) := by
              have h' := hle
              rw [show k = na' by trivial] at h'
              exact h'
            refine wpS_bind (wpS_elem (at_eq (by trivial)) ?_)
            have m1 := MH.pushB m sb (by trivial) hle0
            by_cases q1 : (nb' - 1 == 1) = true
            · rw [if_pos q1]
              exact wpS_pure ⟨⟨s2.kind, s2.arr, s2.pend, s2.fail⟩, .inl ⟨_, rfl, m1.first sa sb (fst (by simpa using q1))⟩⟩
            rw [if_neg q1]
            have q1' : ¬ nb' - 1 = 1 := by simpa using q1
            refine wpS_bind (wpS_elem (at_eq (by trivial)) ?_)
            refine wpS_bind (wpS_gal C (s2.kind.trans hk) (hSa _ (at_mem (by trivial))) hSb (fun i j hij hj => at_ij sb (by trivial) (by trivial)) (fun i hi => by simp only [if_true]; exact hix _ (at_mem (by trivial)) _ (at_mem (by trivial))) (by trivial) (by trivial) fun k' hkn' k1' k2' => ?_)
            dsimp only
            simp only [if_true, Nat.zero_add] at k1' k2'
            have hle2 : ∀ y ∈ b.toList.take k', R O ky ix y (at_ a (na' - 1)) := fun y hy => by
              obtain ⟨j, j1, rfl⟩ := mem_take' (by trivial) hy
              exact R.lt (k1' j j1)
            have mB := m1.addB sb (k := k') (o := out.push (at_ b (nb' - 1)) ++ (b.extract k' (nb' - 1)).reverse) hkn' (fun x hx y hy => by
              obtain ⟨j, j1, j2, rfl⟩ := mem_at' (by trivial) hx
              exact R.trans (at_ge sa (i := na' - 1) (by trivial) y (by rw [show na' - 1 + 1 = na' by trivial]; exact hy)) (k2' j j1 j2)) (by rw [Array.toList_append, Array.toList_reverse, ext2])
            by_cases hk1 : nb' - 1 - k' > 0
            · rw [if_pos hk1]
              by_cases q2 : (k' == 1) = true
              · rw [if_pos q2]
                exact wpS_pure ⟨⟨s2.kind, s2.arr, s2.pend, s2.fail⟩, .inl ⟨_, rfl, mB.first sa sb (fst (by simpa using q2))⟩⟩
              rw [if_neg q2]
              by_cases q5 : (k' == 0) = true
              · rw [if_pos q5]
                exact wpS_pure ⟨⟨s2.kind, s2.arr, s2.pend, s2.fail⟩, .inl ⟨_, rfl, mB.done sa sb (.inr (by simpa using q5))⟩⟩
              rw [if_neg q5]
              have q2' : ¬ k' = 1 := by simpa using q2
              have q5' : ¬ k' = 0 := by simpa using q5
              refine wpS_bind (wpS_elem (at_eq (by trivial)) ?_)
              have m2 := MH.pushA mB sa (by trivial) hle2
              by_cases q3 : (na' - 1 == 0) = true
              · rw [if_pos q3]
                exact wpS_pure ⟨⟨s2.kind, s2.arr, s2.pend, s2.fail⟩, .inl ⟨_, rfl, m2.done sa sb (.inl (by simpa using q3))⟩⟩
              rw [if_neg q3]
              have q3' : ¬ na' - 1 = 0 := by simpa using q3
              by_cases q4 : (decide (na' - k < 7) && decide (nb' - 1 - k' < 7)) = true
              · rw [if_pos q4]
                exact wpS_pure ⟨⟨s2.kind, s2.arr, s2.pend, s2.fail⟩, .inr ⟨rfl, m2, by dsimp only; trivial, by dsimp only; trivial, by dsimp only; trivial⟩⟩
              · rw [if_neg q4]
                exact wpS_pure ⟨⟨s2.kind, s2.arr, s2.pend, s2.fail⟩, rfl, m2, by dsimp only; trivial, by dsimp only; trivial, by dsimp only; trivial⟩
            · rw [if_neg hk1]
              have hle3 : ∀ y ∈ b.toList.take (nb' - 1), R O ky ix y (at_ a (na' - 1)) := by
                have h' := hle2
                rw [show k' = nb' - 1 by trivial] at h'
                exact h'
              refine wpS_bind (wpS_elem (at_eq (by trivial)) ?_)
              have m2 := MH.pushA m1 sa (by trivial) hle3
              by_cases q3 : (na' - 1 == 0) = true
              · rw [if_pos q3]
                exact wpS_pure ⟨⟨s2.kind, s2.arr, s2.pend, s2.fail⟩, .inl ⟨_, rfl, m2.done sa sb (.inl (by simpa using q3))⟩⟩
              rw [if_neg q3]
              have q3' : ¬ na' - 1 = 0 := by simpa using q3
              by_cases q4 : (decide (na' - k < 7) && decide (nb' - 1 - k' < 7)) = true
              · rw [if_pos q4]
                exact wpS_pure ⟨⟨s2.kind, s2.arr, s2.pend, s2.fail⟩, .inr ⟨rfl, m2, by dsimp only; trivial, by dsimp only; trivial, by dsimp only; trivial⟩⟩
              · rw [if_neg q4]
                exact wpS_pure ⟨⟨s2.kind, s2.arr, s2.pend, s2.fail⟩, rfl, m2, by dsimp only; trivial, by dsimp only; trivial, by dsimp only; trivial⟩
        · rw [if_neg hmg]
          refine wpS_bind (wpS_modify ?_)
          refine wpS_bind (wpS_elem (at_eq (by trivial)) ?_)
          refine wpS_bind (wpS_gal C (s2.kind.trans hk) (hSb _ (at_mem (by trivial))) hSa (fun i j hij hj => at_ij sa (by trivial) (by trivial)) (fun i hi => by simp only [Bool.false_eq_true, if_false]; exact hix _ (at_mem (by trivial)) _ (at_mem (by trivial))) (by trivial) (by trivial) fun k hkn k1 k2 => ?_)
          dsimp only
          simp only [Bool.false_eq_true, if_false, Nat.zero_add] at k1 k2
          have hle : ∀ y ∈ a.toList.take k, R O ky ix y (at_ b (nb' - 1)) := fun y hy => by
            obtain ⟨j, j1, rfl⟩ := mem_take' (by trivial) hy
            exact k1 j j1
          have mA : MH O ky ix a b (out ++ (a.extract k na').reverse) k nb' := m.addA sa hkn (fun x hx y hy => by
            obtain ⟨j, j1, j2, rfl⟩ := mem_at' (by trivial) hx
            exact R.trans (at_ge sb (i := nb' - 1) (by trivial) y (by rw [show nb' - 1 + 1 = nb' by trivial]; exact hy)) (R.lt (k2 j j1 j2))) (by rw [Array.toList_append, Array.toList_reverse, ext2])
          by_cases hk0 : na' - k > 0
          · rw [if_pos hk0]
            by_cases p1 : (k == 0) = true
            · rw [if_pos p1]
              exact wpS_pure ⟨⟨s2.kind, s2.arr, s2.pend, s2.fail⟩, .inl ⟨_, rfl, mA.done sa sb (.inl (by simpa using p1))⟩⟩
            rw [if_neg p1]
            have p1' : ¬ k = 0 := by simpa using p1
            refine wpS_bind (wpS_elem (at_eq (by trivial)) ?_)
            have m1 := MH.pushB mA sb (by trivial) hle
            by_cases q1 : (nb' - 1 == 1) = true
            · rw [if_pos q1]
              exact wpS_pure ⟨⟨s2.kind, s2.arr, s2.pend, s2.fail⟩, .inl ⟨_, rfl, m1.first sa sb (fst (by simpa using q1))⟩⟩
            rw [if_neg q1]
            have q1' : ¬ nb' - 1 = 1 := by simpa using q1
            refine wpS_bind (wpS_elem (at_eq (by trivial)) ?_)
            refine wpS_bind (wpS_gal C (s2.kind.trans hk) (hSa _ (at_mem (by trivial))) hSb (fun i j hij hj => at_ij sb (by trivial) (by trivial)) (fun i hi => by simp only [if_true]; exact hix _ (at_mem (by trivial)) _ (at_mem (by trivial))) (by trivial) (by trivial) fun k' hkn' k1' k2' => ?_)
            dsimp only
            simp only [if_true, Nat.zero_add] at k1' k2'
            have hle2 : ∀ y ∈ b.toList.take k', R O ky ix y (at_ a (k - 1)) := fun y hy => by
              obtain ⟨j, j1, rfl⟩ := mem_take' (by trivial) hy
              exact R.lt (k1' j j1)
            have mB := m1.addB sb (k := k') (o := (out ++ (a.extract k na').reverse).push (at_ b (nb' - 1)) ++ (b.extract k' (nb' - 1)).reverse) hkn' (fun x hx y hy => by
              obtain ⟨j, j1, j2, rfl⟩ := mem_at' (by trivial) hx
              exact R.trans (at_ge sa (i := k - 1) (by trivial) y (by rw [show k - 1 + 1 = k by trivial]; exact hy)) (k2' j j1 j2)) (by rw [Array.toList_append, Array.toList_reverse, ext2])
            by_cases hk1 : nb' - 1 - k' > 0
            · rw [if_pos hk1]
              by_cases q2 : (k' == 1) = true
              · rw [if_pos q2]
                exact wpS_pure ⟨⟨s2.kind, s2.arr, s2.pend, s2.fail⟩, .inl ⟨_, rfl, mB.first sa sb (fst (by simpa using q2))⟩⟩
              rw [if_neg q2]
              by_cases q5 : (k' == 0) = true
              · rw [if_pos q5]
                exact wpS_pure ⟨⟨s2.kind, s2.arr, s2.pend, s2.fail⟩, .inl ⟨_, rfl, mB.done sa sb (.inr (by simpa using q5))⟩⟩
              rw [if_neg q5]
              have q2' : ¬ k' = 1 := by simpa using q2
              have q5' : ¬ k' = 0 := by simpa using q5
              refine wpS_bind (wpS_elem (at_eq (by trivial)) ?_)
              have m2 := MH.pushA mB sa (by trivial) hle2
              by_cases q3 : (k - 1 == 0) = true
              · rw [if_pos q3]
                exact wpS_pure ⟨⟨s2.kind, s2.arr, s2.pend, s2.fail⟩, .inl ⟨_, rfl, m2.done sa sb (.inl (by simpa using q3))⟩⟩
              rw [if_neg q3]
              have q3' : ¬ k - 1 = 0 := by simpa using q3
              by_cases q4 : (decide (na' - k < 7) && decide (nb' - 1 - k' < 7)) = true
              · rw [if_pos q4]
                exact wpS_pure ⟨⟨s2.kind, s2.arr, s2.pend, s2.fail⟩, .inr ⟨rfl, m2, by dsimp only; trivial, by dsimp only; trivial, by dsimp only; trivial⟩⟩
              · rw [if_neg q4]
                exact wpS_pure ⟨⟨s2.kind, s2.arr, s2.pend, s2.fail⟩, rfl, m2, by dsimp only; trivial, by dsimp only; trivial, by dsimp only; trivial⟩
            · rw [if_neg hk1]
              have hle3 : ∀ y ∈ b.toList.take (nb' - 1), R O ky ix y (at_ a (k - 1)) := by
                have h' := hle2
                rw [show k' = nb' - 1 by trivial] at h'
                exact h'
              refine wpS_bind (wpS_elem (at_eq (by trivial)) ?_)
              have m2 := MH.pushA m1 sa (by trivial) hle3
              by_cases q3 : (k - 1 == 0) = true
              · rw [if_pos q3]
                exact wpS_pure ⟨⟨s2.kind, s2.arr, s2.pend, s2.fail⟩, .inl ⟨_, rfl, m2.done sa sb (.inl (by simpa using q3))⟩⟩
              rw [if_neg q3]
              have q3' : ¬ k - 1 = 0 := by simpa using q3
              by_cases q4 : (decide (na' - k < 7) && decide (nb' - 1 - k' < 7)) = true
              · rw [if_pos q4]
                exact wpS_pure ⟨⟨s2.kind, s2.arr, s2.pend, s2.fail⟩, .inr ⟨rfl, m2, by dsimp only; trivial, by dsimp only; trivial, by dsimp only; trivial⟩⟩
              · rw [if_neg q4]
                exact wpS_pure ⟨⟨s2.kind, s2.arr, s2.pend, s2.fail⟩, rfl, m2, by dsimp only; trivial, by dsimp only; trivial, by dsimp only; trivial⟩
          · rw [if_neg hk0]
            have hle0 : ∀ y ∈ a.toList.take na', R O ky ix y (at_ b (nb' - 1)) := by
              have h' := hle
              rw [show k = na' by trivial] at h'
              exact h'
            refine wpS_bind (wpS_elem (at_eq (by trivial)) ?_)
            have m1 := MH.pushB m sb (by trivial) hle0
            by_cases q1 : (nb' - 1 == 1) = true
            · rw [if_pos q1]
              exact wpS_pure ⟨⟨s2.kind, s2.arr, s2.pend, s2.fail⟩, .inl ⟨_, rfl, m1.first sa sb (fst (by simpa using q1))⟩⟩
            rw [if_neg q1]
            have q1' : ¬ nb' - 1 = 1 := by simpa using q1
            refine wpS_bind (wpS_elem (at_eq (by trivial)) ?_)
            refine wpS_bind (wpS_gal C (s2.kind.trans hk) (hSa _ (at_mem (by trivial))) hSb (fun i j hij hj => at_ij sb (by trivial) (by trivial)) (fun i hi => by simp only [if_true]; exact hix _ (at_mem (by trivial)) _ (at_mem (by trivial))) (by trivial) (by trivial) fun k' hkn' k1' k2' => ?_)
            dsimp only
            simp only [if_true, Nat.zero_add] at k1' k2'
            have hle2 : ∀ y ∈ b.toList.take k', R O ky ix y (at_ a (na' - 1)) := fun y hy => by
              obtain ⟨j, j1, rfl⟩ := mem_take' (by trivial) hy
              exact R.lt (k1' j j1)
            have mB := m1.addB sb (k := k') (o := out.push (at_ b (nb' - 1)) ++ (b.extract k' (nb' - 1)).reverse) hkn' (fun x hx y hy => by
              obtain ⟨j, j1, j2, rfl⟩ := mem_at' (by trivial) hx
              exact R.trans (at_ge sa (i := na' - 1) (by trivial) y (by rw [show na' - 1 + 1 = na' by trivial]; exact hy)) (k2' j j1 j2)) (by rw [Array.toList_append, Array.toList_reverse, ext2])
            by_cases hk1 : nb' - 1 - k' > 0
            · rw [if_pos hk1]
              by_cases q2 : (k' == 1) = true
              · rw [if_pos q2]
                exact wpS_pure ⟨⟨s2.kind, s2.arr, s2.pend, s2.fail⟩, .inl ⟨_, rfl, mB.first sa sb (fst (by simpa using q2))⟩⟩
              rw [if_neg q2]
              by_cases q5 : (k' == 0) = true
              · rw [if_pos q5]
                exact wpS_pure ⟨⟨s2.kind, s2.arr, s2.pend, s2.fail⟩, .inl ⟨_, rfl, mB.done sa sb (.inr (by simpa using q5))⟩⟩
              rw [if_neg q5]
              have q2' : ¬ k' = 1 := by simpa using q2
              have q5' : ¬ k' = 0 := by simpa using q5
              refine wpS_bind (wpS_elem (at_eq (by trivial)) ?_)
              have m2 := MH.pushA mB sa (by trivial) hle2
              by_cases q3 : (na' - 1 == 0) = true
              · rw [if_pos q3]
                exact wpS_pure ⟨⟨s2.kind, s2.arr, s2.pend, s2.fail⟩, .inl ⟨_, rfl, m2.done sa sb (.inl (by simpa using q3))⟩⟩
              rw [if_neg q3]
              have q3' : ¬ na' - 1 = 0 := by simpa using q3
              by_cases q4 : (decide (na' - k < 7) && decide (nb' - 1 - k' < 7)) = true
              · rw [if_pos q4]
                exact wpS_pure ⟨⟨s2.kind, s2.arr, s2.pend, s2.fail⟩, .inr ⟨rfl, m2, by dsimp only; trivial, by dsimp only; trivial, by dsimp only; trivial⟩⟩
              · rw [if_neg q4]
                exact wpS_pure ⟨⟨s2.kind, s2.arr, s2.pend, s2.fail⟩, rfl, m2, by dsimp only; trivial, by dsimp only; trivial, by dsimp only; trivial⟩
            · rw [if_neg hk1]
              have hle3 : ∀ y ∈ b.toList.take (nb' - 1), R O ky ix y (at_ a (na' - 1)) := by
                have h' := hle2
                rw [show k' = nb' - 1 by trivial] at h'
                exact h'
              refine wpS_bind (wpS_elem (at_eq (by trivial)) ?_)
              have m2 := MH.pushA m1 sa (by trivial) hle3
              by_cases q3 : (na' - 1 == 0) = true
              · rw [if_pos q3]
                exact wpS_pure ⟨⟨s2.kind, s2.arr, s2.pend, s2.fail⟩, .inl ⟨_, rfl, m2.done sa sb (.inl (by simpa using q3))⟩⟩
              rw [if_neg q3]
              have q3' : ¬ na' - 1 = 0 := by simpa using q3
              by_cases q4 : (decide (na' - k < 7) && decide (nb' - 1 - k' < 7)) = true
              · rw [if_pos q4]
                exact wpS_pure ⟨⟨s2.kind, s2.arr, s2.pend, s2.fail⟩, .inr ⟨rfl, m2, by dsimp only; trivial, by dsimp only; trivial, by dsimp only; trivial⟩⟩
              · rw [if_neg q4]
                exact wpS_pure ⟨⟨s2.kind, s2.arr, s2.pend, s2.fail⟩, rfl, m2, by dsimp only; trivial, by dsimp only; trivial, by dsimp only; trivial⟩
end
end TT
set_option linter.all false
namespace TT
open PySem PyProof.Rows TS
structure Chg (lo : Nat) (st st' : SortSt) : Prop where
  kind : kindOf st' = kindOf st
  pend : pendingOf st' = pendingOf st
  fail : failedOf st' = failedOf st
  perm : (arrOf st').Perm (arrOf st)
  low : ∀ i, i < lo → (arrOf st')[i]? = (arrOf st)[i]?
theorem Chg.refl (lo : Nat) (st : SortSt) : Chg lo st st := ⟨rfl, rfl, rfl, Array.Perm.refl _, fun _ _ => rfl⟩
theorem Chg.trans {lo : Nat} {a b c : SortSt} (h : Chg lo a b) (h' : Chg lo b c) : Chg lo a c := ⟨h'.kind.trans h.kind, h'.pend.trans h.pend, h'.fail.trans h.fail, h'.perm.trans h.perm, fun i hi => (h'.low i hi).trans (h.low i hi)⟩
theorem Chg.size {lo : Nat} {a b : SortSt} (h : Chg lo a b) : (arrOf b).size = (arrOf a).size := h.perm.size_eq
theorem Chg.all {lo : Nat} {a b : SortSt} {S : Keyed → Prop} (h : Chg lo a b) (hS : ∀ p ∈ (arrOf a).toList, S p) : ∀ p ∈ (arrOf b).toList, S p := fun p hp => hS p ((Array.perm_iff_toList_perm.mp h.perm).mem_iff.mp hp)
theorem chg_mirror {lo i j : Nat} {st : SortSt} (h : lo ≤ i) (hj : j ≤ (arrOf st).size) : Chg lo st (setArr st (mirror (arrOf st) i j ((j - i) / 2))) := ⟨rfl, rfl, rfl, mirror_perm _ _ _ _, fun k hk => by
  show (mirror (arrOf st) i j ((j - i) / 2))[k]? = _
  rw [getElem?_mirror_all hj, if_neg (by trivial)]⟩
theorem chg_bubble {lo src d : Nat} {st : SortSt} (hs : src < (arrOf st).size) (hd : d ≤ src) (h : lo ≤ src - d) : Chg lo st (setArr st (bubble (arrOf st) src d)) := ⟨rfl, rfl, rfl, bubble_perm _ _ _, fun k hk => by
  show (bubble (arrOf st) src d)[k]? = _
  rw [getElem?_bubble hs d hd, if_neg (by trivial), if_neg (by trivial)]⟩
theorem at_congr {a b : Array Keyed} {i j : Nat} (h : a[i]? = b[j]?) : at_ a i = at_ b j := by unfold at_; rw [h]
theorem at_mirror {xs : Array Keyed} {i j : Nat} (hj : j ≤ xs.size) (k : Nat) : at_ (mirror xs i j ((j - i) / 2)) k = if i ≤ k ∧ k < j then at_ xs (i + j - 1 - k) else at_ xs k := by
  have e := getElem?_mirror_all (i := i) hj k
  split at e
  · rename_i c; rw [if_pos c]; exact at_congr e
  · rename_i c; rw [if_neg c]; exact at_congr e
theorem at_bubble {xs : Array Keyed} {src d : Nat} (hs : src < xs.size) (hd : d ≤ src) (k : Nat) : at_ (bubble xs src d) k = if k = src - d then at_ xs src else if src - d < k ∧ k ≤ src then at_ xs (k - 1) else at_ xs k := by
  have e := getElem?_bubble hs d hd k
  split at e
  · rename_i c; rw [if_pos c]; exact at_congr e
  · rename_i c
    rw [if_neg c]
    split at e
    · rename_i c2; rw [if_pos c2]; exact at_congr e
    · rename_i c2; rw [if_neg c2]; exact at_congr e
section
variable {prog : Program} {w : World} {A : Around} {E : Value → Shared → Prop} {s : Shared}
variable {kd : SortKind} {O : KeyOrd} {ky : Keyed → O.α} {ix : Keyed → Nat} {S : Keyed → Prop}
noncomputable abbrev kf (ky : Keyed → O.α) (st : SortSt) (lo i : Nat) : O.α := ky (at_ (arrOf st) (lo + i))
noncomputable def Up (O : KeyOrd) (ky : Keyed → O.α) (ix : Keyed → Nat) (st : SortSt) (lo n : Nat) : Prop := ∀ i j, i ≤ j → j < n → R O ky ix (at_ (arrOf st) (lo + i)) (at_ (arrOf st) (lo + j))
noncomputable def Dn (O : KeyOrd) (ky : Keyed → O.α) (ix : Keyed → Nat) (st : SortSt) (lo n : Nat) : Prop := ∀ i j, i ≤ j → j < n → R O ky ix (at_ (arrOf st) (lo + j)) (at_ (arrOf st) (lo + i))
structure Lap (ix : Keyed → Nat) (st : SortSt) (lo n m : Nat) : Prop where
  cross : ∀ i j, i < n → n ≤ j → j < m → ix (at_ (arrOf st) (lo + i)) ≤ ix (at_ (arrOf st) (lo + j))
  rise : ∀ i j, n ≤ i → i ≤ j → j < m → ix (at_ (arrOf st) (lo + i)) ≤ ix (at_ (arrOf st) (lo + j))
theorem Lap.on {st : SortSt} {lo n m k : Nat} (h : Lap ix st lo n m) (hk : n ≤ k) : Lap ix st lo k m := ⟨fun i j h1 h2 h3 => by
  by_cases c : i < n
  · exact h.cross i j c (by trivial) h3
  · exact h.rise i j (by trivial) (by trivial) h3, fun i j h1 h2 h3 => h.rise i j (by trivial) h2 h3⟩
theorem Lap.any {st : SortSt} {lo n m i j : Nat} (h : Lap ix st lo n m) (h1 : i ≤ j) (h2 : n ≤ j) (h3 : j < m) : ix (at_ (arrOf st) (lo + i)) ≤ ix (at_ (arrOf st) (lo + j)) := by
  by_cases c : i < n
  · exact h.cross i j c h2 h3
  · exact h.rise i j (by trivial) h1 h3
theorem Lap.of {st st' : SortSt} {lo n m : Nat} (h : Lap ix st lo n m) (h1 : ∀ i, i < n → ∃ k, k < n ∧ at_ (arrOf st') (lo + i) = at_ (arrOf st) (lo + k)) (h2 : ∀ i, n ≤ i → at_ (arrOf st') (lo + i) = at_ (arrOf st) (lo + i)) : Lap ix st' lo n m := ⟨fun i j a b c => by
  obtain ⟨k, k1, e⟩ := h1 i a
  rw [e, h2 j b]
  exact h.cross k j k1 b c, fun i j a b c => by
  rw [h2 i a, h2 j (by trivial)]
  exact h.rise i j a b c⟩
theorem Lap.mirror {st : SortSt} {lo n m i j : Nat} (h : Lap ix st lo n m) (hj : lo + j ≤ (arrOf st).size) (hn : j ≤ n) : Lap ix (setArr st (mirror (arrOf st) (lo + i) (lo + j) ((lo + j - (lo + i)) / 2))) lo n m := by
  refine h.of (fun k hk => ?_) (fun k hk => ?_)
  · show ∃ k', k' < n ∧ at_ (PyProof.Rows.mirror (arrOf st) (lo + i) (lo + j) ((lo + j - (lo + i)) / 2)) (lo + k) = _
    rw [at_mirror hj]
    by_cases c : lo + i ≤ lo + k ∧ lo + k < lo + j
    · rw [if_pos c]
      exact ⟨i + j - 1 - k, by trivial, by congr 1; trivial⟩
    · rw [if_neg c]; exact ⟨k, hk, rfl⟩
  · show at_ (PyProof.Rows.mirror (arrOf st) (lo + i) (lo + j) ((lo + j - (lo + i)) / 2)) (lo + k) = _
    rw [at_mirror hj, if_neg (by trivial)]
theorem wpS_ltAt' (C : Cmp prog w A s kd O ky S) {st : SortSt} {i j : Nat} {Q : Option Bool → SortSt → Prop} (hk : kindOf st = kd) (hS : ∀ p ∈ (arrOf st).toList, S p) (hi : i < (arrOf st).size) (hj : j < (arrOf st).size)
    (h : Q (some (O.blt (ky (at_ (arrOf st) i)) (ky (at_ (arrOf st) j)))) st) : wpS (model prog w) A E s (ltAt' i j) Q st := by
  rw [ltAt'_eq]
  refine wpS_bind (wpS_get ?_)
  exact wpS_bind (wpS_elem (at_eq hi) (wpS_bind (wpS_elem (at_eq hj) (wpS_lt C hk (hS _ (at_mem hi)) (hS _ (at_mem hj)) h))))
theorem asc_loop {st : SortSt} {lo a nrem : Nat} {Q : Option (Option Nat) × Nat → SortSt → Prop} {f : Nat → Option (Option Nat) × Nat → StateT SortSt Sem (ForInStep (Option (Option Nat) × Nat))} (h1 : 1 ≤ a) (h2 : a ≤ nrem) (hu : Up O ky ix st lo a) (hl : Lap ix st lo a nrem)
    (hf : ∀ (x n : Nat), 1 ≤ n → n < nrem → ∀ {R : ForInStep (Option (Option Nat) × Nat) → SortSt → Prop}, (O.klt (kf ky st lo n) (kf ky st lo (n - 1)) → R (.done (none, n)) st) → (O.kle (kf ky st lo (n - 1)) (kf ky st lo n) → R (.yield (none, n + 1)) st) → wpS (model prog w) A E s (f x (none, n)) R st)
    (h : ∀ n, a ≤ n → n ≤ nrem → Up O ky ix st lo n → (n = nrem ∨ O.klt (kf ky st lo n) (kf ky st lo (n - 1))) → Q (none, n) st) : wpS (model prog w) A E s (forIn [a:nrem] (none, a) f) Q st := by
  refine wpS_forRange (I := fun x c st' => st' = st ∧ c = (none, x) ∧ Up O ky ix st lo x) ?step ?fin ⟨rfl, rfl, hu⟩
  case fin =>
    rintro c st' ⟨rfl, rfl, hs'⟩
    rw [show max a nrem = nrem by trivial] at hs' ⊢
    exact h nrem h2 (Nat.le_refl _) hs' (.inl rfl)
  case step =>
    rintro x c st' hax hxn ⟨rfl, rfl, hs'⟩
    refine hf x x (by trivial) hxn (fun q => h x hax (by trivial) hs' (.inr q)) (fun q => ⟨rfl, rfl, fun i j hij hj => ?_⟩)
    by_cases e : j = x
    · by_cases e2 : i = x
      · rw [e, e2]; exact R.refl _
      · rw [e]; exact R.trans (hs' i (x - 1) (by trivial) (by trivial)) (R.le q (hl.any (by trivial) hax hxn))
    · exact hs' i j hij (by trivial)
theorem kf_mirror {st : SortSt} {lo i j k : Nat} (hj : lo + j ≤ (arrOf st).size) : kf ky (setArr st (mirror (arrOf st) (lo + i) (lo + j) ((lo + j - (lo + i)) / 2))) lo k = if i ≤ k ∧ k < j then kf ky st lo (i + j - 1 - k) else kf ky st lo k := by
  show ky (at_ (mirror (arrOf st) (lo + i) (lo + j) ((lo + j - (lo + i)) / 2)) (lo + k)) = _
  rw [at_mirror hj]
  by_cases c : i ≤ k ∧ k < j
  · rw [if_pos c, if_pos (by trivial)]
    show ky (at_ _ _) = ky (at_ _ _)
    congr 2; trivial
  · rw [if_neg c, if_neg (by trivial)]
theorem kf_mirror_eq {st : SortSt} {lo i j : Nat} (hj : lo + j ≤ (arrOf st).size) (he : ∀ k, i ≤ k → k < j → kf ky st lo k = kf ky st lo (j - 1)) (k : Nat) : kf ky (setArr st (mirror (arrOf st) (lo + i) (lo + j) ((lo + j - (lo + i)) / 2))) lo k = kf ky st lo k := by
  rw [kf_mirror hj]
  split
  · rw [he _ (by trivial) (by trivial), he k (by trivial) (by trivial)]
  · rfl
theorem wpS_rev {st : SortSt} {i j : Nat} {Q : Unit → SortSt → Prop} (h : Q () (setArr st (mirror (arrOf st) i j ((j - i) / 2)))) : wpS (model prog w) A E s (reverseSlice' i j) Q st := by
  rw [reverseSlice'_eq]
  exact wpS_modify h
structure Des (O : KeyOrd) (ky : Keyed → O.α) (ix : Keyed → Nat) (st : SortSt) (lo x neq m : Nat) : Prop where
  le : neq + 1 ≤ x
  dn : Dn O ky ix st lo (x - (neq + 1))
  lt : ∀ i j, i < x - (neq + 1) → x - (neq + 1) ≤ j → j < x → O.klt (kf ky st lo j) (kf ky st lo i)
  eq : ∀ i, x - (neq + 1) ≤ i → i < x → kf ky st lo i = kf ky st lo (x - 1)
  lap : Lap ix st lo (x - (neq + 1)) m
theorem Des.one {st : SortSt} {lo x m : Nat} (hd : Dn O ky ix st lo x) (hx : 1 ≤ x) (hlt : O.klt (kf ky st lo x) (kf ky st lo (x - 1))) (hl : Lap ix st lo x m) : Des O ky ix st lo (x + 1) 0 m := by
  refine ⟨by trivial, by rw [show x + 1 - (0 + 1) = x by trivial]; exact hd, fun i j h1 h2 h3 => ?_, fun i h1 h2 => by congr 1; trivial, by rw [show x + 1 - (0 + 1) = x by trivial]; exact hl⟩
  obtain rfl : j = x := by trivial
  exact KeyOrd.klt_of_klt_of_kle hlt (hd i (j - 1) (by trivial) (by trivial)).1
theorem Des.done {st : SortSt} {lo x m : Nat} (h : Des O ky ix st lo x 0 m) : Dn O ky ix st lo x ∧ Lap ix st lo x m := by
  have h1 := h.le
  refine ⟨fun i j hij hj => ?_, h.lap.on (by trivial)⟩
  by_cases c : j < x - (0 + 1)
  · exact h.dn i j hij c
  · by_cases c2 : i = j
    · rw [c2]; exact R.refl _
    · exact R.lt (h.lt i j (by trivial) (by trivial) hj)
theorem Des.turn {st : SortSt} {lo x neq m : Nat} (h : Des O ky ix st lo x neq m) (hx : lo + x ≤ (arrOf st).size) (hm : x ≤ m) :
    Dn O ky ix (setArr st (mirror (arrOf st) (lo + (x - (neq + 1))) (lo + x) ((lo + x - (lo + (x - (neq + 1)))) / 2))) lo x ∧ Lap ix (setArr st (mirror (arrOf st) (lo + (x - (neq + 1))) (lo + x) ((lo + x - (lo + (x - (neq + 1)))) / 2))) lo x m := by
  have h1 := h.le
  refine ⟨fun i j hij hj => ?_, (h.lap.on (by trivial)).mirror hx (Nat.le_refl _)⟩
  show R O ky ix (at_ (mirror (arrOf st) (lo + (x - (neq + 1))) (lo + x) ((lo + x - (lo + (x - (neq + 1)))) / 2)) (lo + j)) (at_ (mirror (arrOf st) (lo + (x - (neq + 1))) (lo + x) ((lo + x - (lo + (x - (neq + 1)))) / 2)) (lo + i))
  rw [at_mirror hx, at_mirror hx]
  by_cases cj : j < x - (neq + 1)
  · rw [if_neg (by trivial), if_neg (by trivial)]
    exact h.dn i j hij cj
  · rw [if_pos (by trivial)]
    rw [show lo + (x - (neq + 1)) + (lo + x) - 1 - (lo + j) = lo + (x - (neq + 1) + x - 1 - j) by trivial]
    by_cases ci : i < x - (neq + 1)
    · rw [if_neg (by trivial)]
      exact R.lt (h.lt i (x - (neq + 1) + x - 1 - j) ci (by trivial) (by trivial))
    · rw [if_pos (by trivial)]
      rw [show lo + (x - (neq + 1)) + (lo + x) - 1 - (lo + i) = lo + (x - (neq + 1) + x - 1 - i) by trivial]
      have e1 := h.eq (x - (neq + 1) + x - 1 - j) (by trivial) (by trivial)
      have e2 := h.eq (x - (neq + 1) + x - 1 - i) (by trivial) (by trivial)
      refine R.le ?_ (h.lap.rise _ _ (by trivial) (by trivial) (by trivial))
      rw [show ky (at_ (arrOf st) (lo + (x - (neq + 1) + x - 1 - j))) = ky (at_ (arrOf st) (lo + (x - (neq + 1) + x - 1 - i))) from e1.trans e2.symm]
      exact KeyOrd.kle_refl _
theorem Des.more {st : SortSt} {lo x neq m : Nat} (h : Des O ky ix st lo x neq m) (he : kf ky st lo x = kf ky st lo (x - 1)) : Des O ky ix st lo (x + 1) (neq + 1) m := by
  have h1 := h.le
  have eb : x + 1 - (neq + 1 + 1) = x - (neq + 1) := by trivial
  refine ⟨by trivial, by rw [eb]; exact h.dn, fun i j a b c => ?_, fun i a b => ?_, by rw [eb]; exact h.lap⟩
  · rw [eb] at a b
    by_cases e : j = x
    · rw [e, he]; exact h.lt i (x - 1) a (by trivial) (by trivial)
    · exact h.lt i j a b (by trivial)
  · rw [eb] at a
    rw [show x + 1 - 1 = x by trivial]
    by_cases e : i = x
    · rw [e]
    · rw [he]; exact h.eq i a (by trivial)
theorem Dn.up {st : SortSt} {lo m : Nat} (h : Dn O ky ix st lo m) (hs : lo + m ≤ (arrOf st).size) : Up O ky ix (setArr st (mirror (arrOf st) (lo + 0) (lo + m) ((lo + m - (lo + 0)) / 2))) lo m := fun i j hij hj => by
  show R O ky ix (at_ (mirror (arrOf st) (lo + 0) (lo + m) ((lo + m - (lo + 0)) / 2)) (lo + i)) (at_ (mirror (arrOf st) (lo + 0) (lo + m) ((lo + m - (lo + 0)) / 2)) (lo + j))
  rw [at_mirror hs, at_mirror hs, if_pos (by trivial), if_pos (by trivial), show lo + 0 + (lo + m) - 1 - (lo + i) = lo + (m - 1 - i) by trivial, show lo + 0 + (lo + m) - 1 - (lo + j) = lo + (m - 1 - j) by trivial]
  exact h _ _ (by trivial) (by trivial)
theorem wpS_run (C : Cmp prog w A s kd O ky S) {st0 : SortSt} {lo nrem : Nat} {Q : Option Nat → SortSt → Prop} (hk0 : kindOf st0 = kd) (hS0 : ∀ p ∈ (arrOf st0).toList, S p) (hn : lo + nrem ≤ (arrOf st0).size) (h1 : 1 ≤ nrem) (lap0 : Lap ix st0 lo 0 nrem)
    (h : ∀ n st', Chg lo st0 st' → 1 ≤ n → n ≤ nrem → Up O ky ix st' lo n → Lap ix st' lo n nrem → Q (some n) st') : wpS (model prog w) A E s (countRun' lo nrem) Q st0 := by
  have ask : ∀ {st : SortSt}, Chg lo st0 st → ∀ (i j : Nat) {Q : Option Bool → SortSt → Prop}, i < lo + nrem → j < lo + nrem → Q (some (O.blt (ky (at_ (arrOf st) i)) (ky (at_ (arrOf st) j)))) st → wpS (model prog w) A E s (ltAt' i j) Q st := fun {st} ch i j Q hi hj hq =>
    wpS_ltAt' C (ch.kind.trans hk0) (ch.all hS0) (by rw [ch.size]; trivial) (by rw [ch.size]; trivial) hq
  unfold countRun'
  refine wpS_bind (asc_loop (O := O) (ky := ky) (ix := ix) (lo := lo) (Nat.le_refl 1) h1 (fun i j hij hj => by rw [show i = j by trivial]; exact R.refl _) (lap0.on (by trivial)) ?hf ?hq)
  case hf =>
    intro x n n1 n2 R r1 r2
    refine wpS_bind (ask (Chg.refl _ _) _ _ (by trivial) (by trivial) ?_)
    dsimp only
    rw [show lo + n - 1 = lo + (n - 1) by trivial]
    cases e : O.blt (ky (at_ (arrOf st0) (lo + n))) (ky (at_ (arrOf st0) (lo + (n - 1)))) with
    | true => exact wpS_pure (r1 e)
    | false => exact wpS_pure (r2 e)
  case hq =>
  intro n n1 n2 hup hor
  dsimp only
  by_cases e1 : (n == nrem) = true
  · rw [if_pos e1]
    exact wpS_pure (h n _ (Chg.refl _ _) n1 n2 hup (lap0.on (by trivial)))
  rw [if_neg e1]
  have e1' : ¬ n = nrem := by simpa using e1
  have hlt := hor.resolve_left e1'
  by_cases hgt : n > 1
  · rw [if_pos hgt]
    refine wpS_bind (ask (Chg.refl _ _) _ _ (by trivial) (by trivial) ?_)
    dsimp only
    rw [show lo + n - 1 = lo + (n - 1) by trivial]
    cases e : O.blt (ky (at_ (arrOf st0) lo)) (ky (at_ (arrOf st0) (lo + (n - 1)))) with
    | true =>
      rw [if_pos rfl]
      exact wpS_pure (h n _ (Chg.refl _ _) n1 n2 hup (lap0.on (by trivial)))
    | false =>
      rw [if_neg Bool.false_ne_true]
      have hsz0 : lo + n ≤ (arrOf st0).size := by trivial
      have e' : O.kle (kf ky st0 lo (n - 1)) (kf ky st0 lo 0) := e
      have hall : ∀ k, 0 ≤ k → k < n → kf ky st0 lo k = kf ky st0 lo (n - 1) := fun k _ hk => by
        have a1 := (hup 0 k (by trivial) hk).1
        have a2 := (hup k (n - 1) (by trivial) (by trivial)).1
        exact KeyOrd.kle_antisymm a2 (KeyOrd.kle_trans e' a1)
      refine wpS_bind (wpS_rev ?_)
      have ch1 := chg_mirror (lo := lo) (i := lo + 0) (j := lo + n) (st := st0) (by trivial) hsz0
      have dd : Des O ky ix st0 lo n (n - 1) nrem := by
        have en : n - (n - 1 + 1) = 0 := by trivial
        refine ⟨by trivial, by rw [en]; exact fun i j a b => by trivial, by rw [en]; exact fun i j a => by trivial, fun i a b => hall i (by trivial) b, by rw [en]; exact lap0⟩
      have d1 := dd.turn hsz0 n2
      rw [show n - (n - 1 + 1) = 0 by trivial] at d1
      have hlt1 : O.klt (kf ky (setArr st0 (mirror (arrOf st0) (lo + 0) (lo + n) ((lo + n - (lo + 0)) / 2))) lo n) (kf ky (setArr st0 (mirror (arrOf st0) (lo + 0) (lo + n) ((lo + n - (lo + 0)) / 2))) lo (n - 1)) := by
        rw [kf_mirror_eq hsz0 hall, kf_mirror_eq hsz0 hall]; exact hlt
      rw [show mirror (arrOf st0) lo (lo + n) ((lo + n - lo) / 2) = mirror (arrOf st0) (lo + 0) (lo + n) ((lo + n - (lo + 0)) / 2) from rfl]
      generalize setArr st0 (mirror (arrOf st0) (lo + 0) (lo + n) ((lo + n - (lo + 0)) / 2)) = st1 at ch1 d1 hlt1 ⊢
      have des1 := Des.one d1.1 n1 hlt1 d1.2
      refine wpS_bind (wpS_lift (wpAny_rule ⟨rfl, ?_⟩))
      refine wpS_bind (wpS_mono (wpS_forRange
        (I := fun x c st' => ∃ neq, c = (none, x, neq) ∧ Chg lo st0 st' ∧ Des O ky ix st' lo x neq nrem)
        (Q := fun c st' => ∃ m neq, c = (none, m, neq) ∧ n + 1 ≤ m ∧ m ≤ nrem ∧ Chg lo st0 st' ∧ Des O ky ix st' lo m neq nrem) ?step ?fin ⟨0, rfl, ch1, des1⟩) ?post)
      case fin =>
        rintro c st' ⟨neq, rfl, ch, d⟩
        rw [show max (n + 1) nrem = nrem by trivial] at d ⊢
        exact ⟨nrem, neq, rfl, by trivial, Nat.le_refl _, ch, d⟩
      case step =>
        rintro x c st' hx1 hx2 ⟨neq, rfl, ch, d⟩
        dsimp only
        have q1 := d.le
        have hsz : lo + x ≤ (arrOf st').size := by rw [ch.size]; trivial
        refine wpS_bind (ask ch _ _ (by trivial) (by trivial) ?_)
        dsimp only
        rw [show lo + x - 1 = lo + (x - 1) by trivial]
        cases e : O.blt (ky (at_ (arrOf st') (lo + x))) (ky (at_ (arrOf st') (lo + (x - 1)))) with
        | true =>
          rw [if_pos rfl]
          by_cases hne : neq > 0
          · rw [if_pos hne]
            rw [show lo + x - (neq + 1) = lo + (x - (neq + 1)) by trivial]
            have t := d.turn hsz (by trivial)
            have lt2 : O.klt (kf ky (setArr st' (mirror (arrOf st') (lo + (x - (neq + 1))) (lo + x) ((lo + x - (lo + (x - (neq + 1)))) / 2))) lo x) (kf ky (setArr st' (mirror (arrOf st') (lo + (x - (neq + 1))) (lo + x) ((lo + x - (lo + (x - (neq + 1)))) / 2))) lo (x - 1)) := by
              rw [kf_mirror_eq hsz d.eq, kf_mirror_eq hsz d.eq]; exact e
            refine wpS_bind (wpS_rev (wpS_pure ⟨0, rfl, ch.trans (chg_mirror (by trivial) hsz), Des.one t.1 (by trivial) lt2 t.2⟩))
          · rw [if_neg hne]
            obtain rfl : neq = 0 := by trivial
            exact wpS_pure ⟨0, rfl, ch, Des.one d.done.1 (by trivial) e d.done.2⟩
        | false =>
          rw [if_neg Bool.false_ne_true]
          refine wpS_bind (ask ch _ _ (by trivial) (by trivial) ?_)
          dsimp only
          cases e2 : O.blt (ky (at_ (arrOf st') (lo + (x - 1)))) (ky (at_ (arrOf st') (lo + x))) with
          | true =>
            rw [if_pos rfl]
            exact wpS_pure ⟨x, neq, rfl, by trivial, by trivial, ch, d⟩
          | false =>
            rw [if_neg Bool.false_ne_true]
            have heq : kf ky st' lo x = kf ky st' lo (x - 1) := KeyOrd.kle_antisymm e2 e
            exact wpS_pure ⟨neq + 1, rfl, ch, d.more heq⟩
      case post =>
        rintro c st' ⟨m, neq, rfl, m1, m2, ch, d⟩
        dsimp only
        have q1 := d.le
        have hsz : lo + m ≤ (arrOf st').size := by rw [ch.size]; trivial
        by_cases hne : neq > 0
        · rw [if_pos hne]
          rw [show lo + m - (neq + 1) = lo + (m - (neq + 1)) by trivial]
          refine wpS_bind (wpS_rev ?_)
          have ch2 := ch.trans (chg_mirror (lo := lo) (i := lo + (m - (neq + 1))) (j := lo + m) (st := st') (by trivial) hsz)
          have d2 := d.turn hsz m2
          generalize setArr st' (mirror (arrOf st') (lo + (m - (neq + 1))) (lo + m) ((lo + m - (lo + (m - (neq + 1)))) / 2)) = st4 at ch2 d2 ⊢
          refine wpS_bind (wpS_rev ?_)
          have hsz3 : lo + m ≤ (arrOf st4).size := by rw [(ch2).size]; trivial
          have ch3 := (ch2).trans (chg_mirror (lo := lo) (i := lo + 0) (j := lo + m) (st := st4) (by trivial) hsz3)
          have up3 := d2.1.up hsz3
          have lap3 := d2.2.mirror (i := 0) hsz3 (Nat.le_refl _)
          refine wpS_bind (asc_loop (O := O) (ky := ky) (ix := ix) (lo := lo) (by trivial) (by trivial) up3 lap3 ?_ (fun n3 a1 a2 a3 _ => wpS_pure (h n3 _ ch3 (by trivial) a2 a3 (lap3.on a1))))
          intro x n' b1 b2 R r1 r2
          refine wpS_bind (ask ch3 _ _ (by trivial) (by trivial) ?_)
          dsimp only
          rw [show lo + n' - 1 = lo + (n' - 1) by trivial]
          cases e : O.blt (ky (at_ (mirror (arrOf st4) (lo + 0) (lo + m) ((lo + m - (lo + 0)) / 2)) (lo + n'))) (ky (at_ (mirror (arrOf st4) (lo + 0) (lo + m) ((lo + m - (lo + 0)) / 2)) (lo + (n' - 1)))) with
          | true => exact wpS_pure (r1 e)
          | false => exact wpS_pure (r2 e)
        · rw [if_neg hne]
          obtain rfl : neq = 0 := by trivial
          have ch2 := ch
          have d2 := d.done
          generalize st' = st4 at ch2 d2 ⊢
          refine wpS_bind (wpS_rev ?_)
          have hsz3 : lo + m ≤ (arrOf st4).size := by rw [(ch2).size]; trivial
          have ch3 := (ch2).trans (chg_mirror (lo := lo) (i := lo + 0) (j := lo + m) (st := st4) (by trivial) hsz3)
          have up3 := d2.1.up hsz3
          have lap3 := d2.2.mirror (i := 0) hsz3 (Nat.le_refl _)
          refine wpS_bind (asc_loop (O := O) (ky := ky) (ix := ix) (lo := lo) (by trivial) (by trivial) up3 lap3 ?_ (fun n3 a1 a2 a3 _ => wpS_pure (h n3 _ ch3 (by trivial) a2 a3 (lap3.on a1))))
          intro x n' b1 b2 R r1 r2
          refine wpS_bind (ask ch3 _ _ (by trivial) (by trivial) ?_)
          dsimp only
          rw [show lo + n' - 1 = lo + (n' - 1) by trivial]
          cases e : O.blt (ky (at_ (mirror (arrOf st4) (lo + 0) (lo + m) ((lo + m - (lo + 0)) / 2)) (lo + n'))) (ky (at_ (mirror (arrOf st4) (lo + 0) (lo + m) ((lo + m - (lo + 0)) / 2)) (lo + (n' - 1)))) with
          | true => exact wpS_pure (r1 e)
          | false => exact wpS_pure (r2 e)
  · rw [if_neg hgt]
    have ch1 := Chg.refl lo st0
    have des1 : Des O ky ix st0 lo (n + 1) 0 nrem := Des.one (fun i j a b => by rw [show i = j by trivial]; exact R.refl _) n1 hlt (lap0.on (by trivial))
    refine wpS_bind (wpS_lift (wpAny_rule ⟨rfl, ?_⟩))
    refine wpS_bind (wpS_mono (wpS_forRange
      (I := fun x c st' => ∃ neq, c = (none, x, neq) ∧ Chg lo st0 st' ∧ Des O ky ix st' lo x neq nrem)
      (Q := fun c st' => ∃ m neq, c = (none, m, neq) ∧ n + 1 ≤ m ∧ m ≤ nrem ∧ Chg lo st0 st' ∧ Des O ky ix st' lo m neq nrem) ?step ?fin ⟨0, rfl, ch1, des1⟩) ?post)
    case fin =>
      rintro c st' ⟨neq, rfl, ch, d⟩
      rw [show max (n + 1) nrem = nrem by trivial] at d ⊢
      exact ⟨nrem, neq, rfl, by trivial, Nat.le_refl _, ch, d⟩
    case step =>
      rintro x c st' hx1 hx2 ⟨neq, rfl, ch, d⟩
      dsimp only
      have q1 := d.le
      have hsz : lo + x ≤ (arrOf st').size := by rw [ch.size]; trivial
      refine wpS_bind (ask ch _ _ (by trivial) (by trivial) ?_)
      dsimp only
      rw [show lo + x - 1 = lo + (x - 1) by trivial]
      cases e : O.blt (ky (at_ (arrOf st') (lo + x))) (ky (at_ (arrOf st') (lo + (x - 1)))) with
      | true =>
        rw [if_pos rfl]
        by_cases hne : neq > 0
        · rw [if_pos hne]
          rw [show lo + x - (neq + 1) = lo + (x - (neq + 1)) by trivial]
          have t := d.turn hsz (by trivial)
          have lt2 : O.klt (kf ky (setArr st' (mirror (arrOf st') (lo + (x - (neq + 1))) (lo + x) ((lo + x - (lo + (x - (neq + 1)))) / 2))) lo x) (kf ky (setArr st' (mirror (arrOf st') (lo + (x - (neq + 1))) (lo + x) ((lo + x - (lo + (x - (neq + 1)))) / 2))) lo (x - 1)) := by
            rw [kf_mirror_eq hsz d.eq, kf_mirror_eq hsz d.eq]; exact e
          refine wpS_bind (wpS_rev (wpS_pure ⟨0, rfl, ch.trans (chg_mirror (by trivial) hsz), Des.one t.1 (by trivial) lt2 t.2⟩))
        · rw [if_neg hne]
          obtain rfl : neq = 0 := by trivial
          exact wpS_pure ⟨0, rfl, ch, Des.one d.done.1 (by trivial) e d.done.2⟩
      | false =>
        rw [if_neg Bool.false_ne_true]
        refine wpS_bind (ask ch _ _ (by trivial) (by trivial) ?_)
        dsimp only
        cases e2 : O.blt (ky (at_ (arrOf st') (lo + (x - 1)))) (ky (at_ (arrOf st') (lo + x))) with
        | true =>
          rw [if_pos rfl]
          exact wpS_pure ⟨x, neq, rfl, by trivial, by trivial, ch, d⟩
        | false =>
          rw [if_neg Bool.false_ne_true]
          have heq : kf ky st' lo x = kf ky st' lo (x - 1) := KeyOrd.kle_antisymm e2 e
          exact wpS_pure ⟨neq + 1, rfl, ch, d.more heq⟩
    case post =>
      rintro c st' ⟨m, neq, rfl, m1, m2, ch, d⟩
      dsimp only
      have q1 := d.le
      have hsz : lo + m ≤ (arrOf st').size := by rw [ch.size]; trivial
      by_cases hne : neq > 0
      · rw [if_pos hne]
        rw [show lo + m - (neq + 1) = lo + (m - (neq + 1)) by trivial]
        refine wpS_bind (wpS_rev ?_)
        have ch2 := ch.trans (chg_mirror (lo := lo) (i := lo + (m - (neq + 1))) (j := lo + m) (st := st') (by trivial) hsz)
        have d2 := d.turn hsz m2
        generalize setArr st' (mirror (arrOf st') (lo + (m - (neq + 1))) (lo + m) ((lo + m - (lo + (m - (neq + 1)))) / 2)) = st4 at ch2 d2 ⊢
        refine wpS_bind (wpS_rev ?_)
        have hsz3 : lo + m ≤ (arrOf st4).size := by rw [(ch2).size]; trivial
        have ch3 := (ch2).trans (chg_mirror (lo := lo) (i := lo + 0) (j := lo + m) (st := st4) (by trivial) hsz3)
        have up3 := d2.1.up hsz3
        have lap3 := d2.2.mirror (i := 0) hsz3 (Nat.le_refl _)
        refine wpS_bind (asc_loop (O := O) (ky := ky) (ix := ix) (lo := lo) (by trivial) (by trivial) up3 lap3 ?_ (fun n3 a1 a2 a3 _ => wpS_pure (h n3 _ ch3 (by trivial) a2 a3 (lap3.on a1))))
        intro x n' b1 b2 R r1 r2
        refine wpS_bind (ask ch3 _ _ (by trivial) (by trivial) ?_)
        dsimp only
        rw [show lo + n' - 1 = lo + (n' - 1) by trivial]
        cases e : O.blt (ky (at_ (mirror (arrOf st4) (lo + 0) (lo + m) ((lo + m - (lo + 0)) / 2)) (lo + n'))) (ky (at_ (mirror (arrOf st4) (lo + 0) (lo + m) ((lo + m - (lo + 0)) / 2)) (lo + (n' - 1)))) with
        | true => exact wpS_pure (r1 e)
        | false => exact wpS_pure (r2 e)
      · rw [if_neg hne]
        obtain rfl : neq = 0 := by trivial
        have ch2 := ch
        have d2 := d.done
        generalize st' = st4 at ch2 d2 ⊢
        refine wpS_bind (wpS_rev ?_)
        have hsz3 : lo + m ≤ (arrOf st4).size := by rw [(ch2).size]; trivial
        have ch3 := (ch2).trans (chg_mirror (lo := lo) (i := lo + 0) (j := lo + m) (st := st4) (by trivial) hsz3)
        have up3 := d2.1.up hsz3
        have lap3 := d2.2.mirror (i := 0) hsz3 (Nat.le_refl _)
        refine wpS_bind (asc_loop (O := O) (ky := ky) (ix := ix) (lo := lo) (by trivial) (by trivial) up3 lap3 ?_ (fun n3 a1 a2 a3 _ => wpS_pure (h n3 _ ch3 (by trivial) a2 a3 (lap3.on a1))))
        intro x n' b1 b2 R r1 r2
        refine wpS_bind (ask ch3 _ _ (by trivial) (by trivial) ?_)
        dsimp only
        rw [show lo + n' - 1 = lo + (n' - 1) by trivial]
        cases e : O.blt (ky (at_ (mirror (arrOf st4) (lo + 0) (lo + m) ((lo + m - (lo + 0)) / 2)) (lo + n'))) (ky (at_ (mirror (arrOf st4) (lo + 0) (lo + m) ((lo + m - (lo + 0)) / 2)) (lo + (n' - 1)))) with
        | true => exact wpS_pure (r1 e)
        | false => exact wpS_pure (r2 e)
theorem wpS_bin (C : Cmp prog w A s kd O ky S) {st0 : SortSt} {lo n ok : Nat} {Q : Bool → SortSt → Prop} (hk0 : kindOf st0 = kd) (hS0 : ∀ p ∈ (arrOf st0).toList, S p) (hn : lo + n ≤ (arrOf st0).size) (hok : ok ≤ n) (hu : Up O ky ix st0 lo ok) {nrem : Nat} (hnr : n ≤ nrem) (lap0 : Lap ix st0 lo ok nrem)
    (h : ∀ st', Chg lo st0 st' → Up O ky ix st' lo n → Lap ix st' lo n nrem → Q true st') : wpS (model prog w) A E s (binarySort' lo n ok) Q st0 := by
  unfold binarySort'
  refine wpS_bind (wpS_mono (wpS_forRange (I := fun k c st' => c = (none, ()) ∧ Chg lo st0 st' ∧ Up O ky ix st' lo (min k n) ∧ Lap ix st' lo (min k n) nrem) (Q := fun c st' => c = (none, ()) ∧ Chg lo st0 st' ∧ Up O ky ix st' lo n ∧ Lap ix st' lo n nrem) ?step ?fin ?init) ?post)
  case post =>
    rintro c st' ⟨rfl, ch, u, lp⟩
    exact wpS_pure (h st' ch u lp)
  case init =>
    refine ⟨rfl, Chg.refl _ _, fun i j hij hj => ?_, lap0.on (by trivial)⟩
    by_cases z : i = j
    · rw [z]; exact R.refl _
    · exact hu i j hij (by trivial)
  case fin =>
    rintro c st' ⟨hc, ch, u, lp⟩
    rw [show min (max (max ok 1) n) n = n by trivial] at u lp
    exact ⟨hc, ch, u, lp⟩
  case step =>
    rintro k c st' hk1 hk2 ⟨rfl, ch, u, lp⟩
    rw [show min k n = k by trivial] at u lp
    have hsz := ch.size
    dsimp only
    refine wpS_bind (wpS_mono (wpS_forRange (I := fun x c st2 => st2 = st' ∧ ∃ l r, c = (none, l, r) ∧ l ≤ r ∧ r ≤ k ∧ r - l ≤ k - x ∧ (∀ i, i < l → R O ky ix (at_ (arrOf st') (lo + i)) (at_ (arrOf st') (lo + k))) ∧ (∀ i, r ≤ i → i < k → O.klt (kf ky st' lo k) (kf ky st' lo i)))
      (Q := fun c st2 => st2 = st' ∧ ∃ l r, c = (none, l, r) ∧ l ≤ k ∧ (∀ i, i < l → R O ky ix (at_ (arrOf st') (lo + i)) (at_ (arrOf st') (lo + k))) ∧ (∀ i, l ≤ i → i < k → O.klt (kf ky st' lo k) (kf ky st' lo i))) ?s2 ?f2 ⟨rfl, 0, k, rfl, by trivial, by trivial, by trivial, fun i hi => by trivial, fun i i1 i2 => by trivial⟩) ?p2)
    case f2 =>
      rintro c st2 ⟨rfl, l, r, rfl, a1, a2, a3, a4, a5⟩
      obtain rfl : l = r := by trivial
      exact ⟨rfl, l, l, rfl, a2, a4, a5⟩
    case s2 =>
      rintro x c st2 _ hx ⟨rfl, l, r, rfl, a1, a2, a3, a4, a5⟩
      dsimp only
      by_cases hge : l ≥ r
      · rw [if_pos hge]
        obtain rfl : l = r := by trivial
        exact wpS_pure ⟨rfl, l, l, rfl, a2, a4, a5⟩
      · rw [if_neg hge]
        refine wpS_bind (wpS_ltAt' C (ch.kind.trans hk0) (ch.all hS0) (by trivial) (by trivial) ?_)
        dsimp only
        cases e : O.blt (ky (at_ (arrOf st2) (lo + k))) (ky (at_ (arrOf st2) (lo + (l + r) / 2))) with
        | true =>
          rw [if_pos rfl]
          exact wpS_pure ⟨rfl, l, (l + r) / 2, rfl, by trivial, by trivial, by trivial, a4, fun i i1 i2 => KeyOrd.klt_of_klt_of_kle e (u _ i i1 i2).1⟩
        | false =>
          rw [if_neg Bool.false_ne_true]
          exact wpS_pure ⟨rfl, (l + r) / 2 + 1, r, rfl, by trivial, by trivial, by trivial, fun i i1 => R.trans (u i ((l + r) / 2) (by trivial) (by trivial)) (R.le e (lp.any (by trivial) (Nat.le_refl _) (by trivial))), a5⟩
    case p2 =>
      rintro c st2 ⟨rfl, l, r, rfl, a1, a4, a5⟩
      dsimp only
      have hks : lo + k < (arrOf st2).size := by trivial
      show wpS _ _ _ _ (moveDown' (lo + k) (lo + l) >>= fun _ => pure (ForInStep.yield (none, ()))) _ _
      rw [moveDown'_eq]
      refine wpS_bind (wpS_modify (wpS_pure ⟨rfl, ch.trans (chg_bubble hks (by trivial) (by trivial)), ?_, ?_⟩))
      · rw [show min (k + 1) n = k + 1 by trivial]
        intro i j hij hj
        show R O ky ix (at_ (bubble (arrOf st2) (lo + k) (lo + k - (lo + l))) (lo + i)) (at_ (bubble (arrOf st2) (lo + k) (lo + k - (lo + l))) (lo + j))
        rw [at_bubble hks (by trivial), at_bubble hks (by trivial), show lo + k - (lo + k - (lo + l)) = lo + l by trivial]
        by_cases i1 : i = l
        · rw [if_pos (by trivial)]
          by_cases j1 : j = l
          · rw [if_pos (by trivial)]; exact R.refl _
          · rw [if_neg (by trivial), if_pos (by trivial), show lo + j - 1 = lo + (j - 1) by trivial]
            exact R.lt (a5 (j - 1) (by trivial) (by trivial))
        · rw [if_neg (by trivial)]
          by_cases i2 : l < i
          · rw [if_pos (by trivial), if_neg (by trivial), if_pos (by trivial), show lo + i - 1 = lo + (i - 1) by trivial, show lo + j - 1 = lo + (j - 1) by trivial]
            exact u _ _ (by trivial) (by trivial)
          · rw [if_neg (by trivial)]
            by_cases j1 : j = l
            · rw [if_pos (by trivial)]; exact a4 i (by trivial)
            · rw [if_neg (by trivial)]
              by_cases j2 : l < j
              · rw [if_pos (by trivial), show lo + j - 1 = lo + (j - 1) by trivial]; exact u _ _ (by trivial) (by trivial)
              · rw [if_neg (by trivial)]; exact u _ _ hij (by trivial)
      · rw [show min (k + 1) n = k + 1 by trivial]
        refine (lp.on (Nat.le_succ k)).of (fun i hi => ?_) (fun i hi => ?_)
        · show ∃ k', k' < k + 1 ∧ at_ (bubble (arrOf st2) (lo + k) (lo + k - (lo + l))) (lo + i) = _
          rw [at_bubble hks (by trivial), show lo + k - (lo + k - (lo + l)) = lo + l by trivial]
          by_cases i1 : lo + i = lo + l
          · rw [if_pos i1]; exact ⟨k, by trivial, rfl⟩
          · rw [if_neg i1]
            by_cases i2 : lo + l < lo + i ∧ lo + i ≤ lo + k
            · rw [if_pos i2, show lo + i - 1 = lo + (i - 1) by trivial]; exact ⟨i - 1, by trivial, rfl⟩
            · rw [if_neg i2]; exact ⟨i, hi, rfl⟩
        · show at_ (bubble (arrOf st2) (lo + k) (lo + k - (lo + l))) (lo + i) = _
          rw [at_bubble hks (by trivial), if_neg (by trivial), if_neg (by trivial)]
end
end TT
set_option linter.all false
namespace TT
open PySem PyProof.Rows TS
noncomputable def offs : Nat → List (List Keyed) → List (Nat × Nat)
  | _, [] => []
  | o, g :: r => (o, g.length) :: offs (o + g.length) r
theorem offs_append : ∀ (p q : List (List Keyed)) (o : Nat), offs o (p ++ q) = offs o p ++ offs (o + p.flatten.length) q
  | [], q, o => by simp [offs]
  | g :: r, q, o => by
    show (o, g.length) :: offs (o + g.length) (r ++ q) = (o, g.length) :: offs (o + g.length) r ++ _
    rw [offs_append r q, List.cons_append, List.flatten_cons, List.length_append, Nat.add_assoc]
theorem offs_length : ∀ (p : List (List Keyed)) (o : Nat), (offs o p).length = p.length
  | [], _ => rfl
  | g :: r, o => by show (offs (o + g.length) r).length + 1 = _; rw [offs_length r]; rfl
noncomputable def two (p : Nat × Nat × Nat) : Nat × Nat := (p.1, p.2.1)
noncomputable def Ord (ix : Keyed → Nat) (l : List (List Keyed)) : Prop := l.Pairwise fun g h => ∀ x ∈ g, ∀ y ∈ h, ix x ≤ ix y
theorem Ord.two {ix : Keyed → Nat} {pre post : List (List Keyed)} {F G : List Keyed} (h : Ord ix (pre ++ F :: G :: post)) : ∀ x ∈ F, ∀ y ∈ G, ix x ≤ ix y :=
  (List.pairwise_cons.mp (List.pairwise_append.mp h).2.1).1 G List.mem_cons_self
theorem Ord.join {ix : Keyed → Nat} {pre post : List (List Keyed)} {F G M : List Keyed} (h : Ord ix (pre ++ F :: G :: post)) (hm : ∀ x ∈ M, x ∈ F ∨ x ∈ G) : Ord ix (pre ++ M :: post) := by
  unfold Ord at h ⊢
  rw [List.pairwise_append, List.pairwise_cons, List.pairwise_cons] at h
  rw [List.pairwise_append, List.pairwise_cons]
  obtain ⟨h1, ⟨h2, h3, h4⟩, h5⟩ := h
  refine ⟨h1, ⟨fun g hg x hx y hy => ?_, h4⟩, fun g hg k hk x hx y hy => ?_⟩
  · rcases hm x hx with z | z
    · exact h2 g (List.mem_cons_of_mem _ hg) x z y hy
    · exact h3 g hg x z y hy
  · rcases List.mem_cons.mp hk with e | hk
    · subst e
      rcases hm y hy with z | z
      · exact h5 g hg F List.mem_cons_self x hx y z
      · exact h5 g hg G (List.mem_cons_of_mem _ List.mem_cons_self) x hx y z
    · exact h5 g hg k (List.mem_cons_of_mem _ (List.mem_cons_of_mem _ hk)) x hx y hy
theorem Ord.last {ix : Keyed → Nat} {l : List (List Keyed)} {r r' : List Keyed} (h : Ord ix (l ++ [r])) (hm : ∀ x ∈ r', x ∈ r) : Ord ix (l ++ [r']) := by
  unfold Ord at h ⊢
  rw [List.pairwise_append] at h ⊢
  refine ⟨h.1, List.pairwise_singleton _ _, fun g hg k hk x hx y hy => ?_⟩
  rw [List.mem_singleton.mp hk] at hy
  exact h.2.2 g hg r List.mem_cons_self x hx y (hm y hy)
theorem Ord.cut {ix : Keyed → Nat} {l : List (List Keyed)} {a b : List Keyed} (h : Ord ix (l ++ [a ++ b])) (hm : ∀ x ∈ a, ∀ y ∈ b, ix x ≤ ix y) : Ord ix ((l ++ [a]) ++ [b]) := by
  unfold Ord at h ⊢
  rw [List.pairwise_append] at h
  rw [List.append_assoc, List.pairwise_append]
  refine ⟨h.1, List.pairwise_pair.mpr hm, fun g hg k hk x hx y hy => ?_⟩
  have hk' : k = a ∨ k = b := by simpa using hk
  rcases hk' with rfl | rfl
  · exact h.2.2 g hg _ List.mem_cons_self x hx y (List.mem_append_left _ hy)
  · exact h.2.2 g hg _ List.mem_cons_self x hx y (List.mem_append_right _ hy)
structure Stk (O : KeyOrd) (ky : Keyed → O.α) (ix : Keyed → Nat) (kd : SortKind) (a0 : Array Keyed) (st : SortSt) (segs : List (List Keyed)) (rest : List Keyed) : Prop where
  kind : kindOf st = kd
  fail : failedOf st = none
  arr : (arrOf st).toList = segs.flatten ++ rest
  perm : (arrOf st).Perm a0
  pend : (pendingOf st).toList.map two = offs 0 segs
  each : ∀ g ∈ segs, g ≠ [] ∧ Srt O ky ix g
  ord : Ord ix (segs ++ [rest])
theorem at_seg {arr : Array Keyed} {P G T : List Keyed} (h : arr.toList = P ++ (G ++ T)) {i : Nat} {x : Keyed} (hx : G[i]? = some x) : at_ arr (P.length + i) = x := by
  have e : arr.toList[P.length + i]? = some x := by
    rw [h, List.getElem?_append_right (by trivial), show P.length + i - P.length = i by trivial, List.getElem?_append_left (List.getElem?_eq_some_iff.mp hx).1]
    exact hx
  unfold at_
  rw [← Array.getElem?_toList, e]; rfl
section
variable {O : KeyOrd} {ky : Keyed → O.α} {ix : Keyed → Nat}
theorem srt_ij {G : List Keyed} (h : Srt O ky ix G) {i j : Nat} {x y : Keyed} (hij : i ≤ j) (hx : G[i]? = some x) (hy : G[j]? = some y) : R O ky ix x y := by
  obtain ⟨h1, e1⟩ := List.getElem?_eq_some_iff.mp hx
  obtain ⟨h2, e2⟩ := List.getElem?_eq_some_iff.mp hy
  by_cases e : i = j
  · subst e
    rw [hx] at hy
    cases hy
    exact R.refl _
  · have := List.pairwise_iff_getElem.mp h i j h1 h2 (by trivial)
    rw [e1, e2] at this
    exact this
theorem seg_srt {arr : Array Keyed} {P G T : List Keyed} (h : arr.toList = P ++ (G ++ T)) (hs : Srt O ky ix G) : ∀ i j, i ≤ j → j < G.length → R O ky ix (at_ arr (P.length + i)) (at_ arr (P.length + j)) := fun i j hij hj => by
  have e1 : G[i]? = some G[i] := List.getElem?_eq_getElem _
  have e2 : G[j]? = some G[j] := List.getElem?_eq_getElem _
  rw [at_seg h e1, at_seg h e2]
  exact srt_ij hs hij e1 e2
end
theorem write_back (sa : Nat) : ∀ (m : List Keyed) (n : Nat) (arr : Array Keyed), sa + n + m.length ≤ arr.size →
    ((m.zipIdx n).foldl (fun a (x : Keyed × Nat) => match x with | (p, j) => a.setIfInBounds (sa + j) p) arr).toList = arr.toList.take (sa + n) ++ (m ++ arr.toList.drop (sa + n + m.length))
  | [], n, arr, _ => by simp
  | p :: r, n, arr, h => by
    rw [List.length_cons] at h
    rw [List.zipIdx_cons, List.foldl_cons]
    have ih := write_back sa r (n + 1) (arr.setIfInBounds (sa + n) p) (by simp; trivial)
    rw [ih]
    have hlt : sa + n < arr.toList.length := by simp; trivial
    have el : (arr.setIfInBounds (sa + n) p).toList = arr.toList.set (sa + n) p := by simp
    rw [el, show sa + (n + 1) = sa + n + 1 by trivial, List.take_add_one, List.length_cons]
    rw [List.take_set_of_le (by trivial), List.getElem?_set_self hlt, List.drop_set_of_lt (by trivial)]
    simp [Nat.add_assoc, Nat.add_comm, Nat.add_left_comm]
section
variable {prog : Program} {w : World} {A : Around} {E : Value → Shared → Prop} {s : Shared}
variable {kd : SortKind} {O : KeyOrd} {ky : Keyed → O.α} {ix : Keyed → Nat} {S : Keyed → Prop} {a0 : Array Keyed}
theorem pend_split {st : SortSt} {pre post : List (List Keyed)} {F G : List Keyed} (h : (pendingOf st).toList.map two = offs 0 (pre ++ F :: G :: post)) : ∃ p1 w1 w2 p2, (pendingOf st).toList = p1 ++ (pre.flatten.length, F.length, w1) :: (pre.flatten.length + F.length, G.length, w2) :: p2 ∧ p1.length = pre.length ∧ p1.map two = offs 0 pre ∧ p2.map two = offs (pre.flatten.length + F.length + G.length) post := by
  rw [offs_append] at h
  obtain ⟨p1, p2, e, e1, e2⟩ := List.map_eq_append_iff.mp h
  have h2 : p2.map two = (0 + pre.flatten.length, F.length) :: (0 + pre.flatten.length + F.length, G.length) :: offs (0 + pre.flatten.length + F.length + G.length) post := e2
  rw [Nat.zero_add] at h2
  obtain ⟨q1, p3, rfl, f1, f2⟩ := List.map_eq_cons_iff.mp h2
  obtain ⟨q2, p4, rfl, g1, g2⟩ := List.map_eq_cons_iff.mp f2
  obtain ⟨x1, x2, x3⟩ := q1
  obtain ⟨y1, y2, y3⟩ := q2
  obtain ⟨rfl, rfl⟩ := Prod.mk.inj (show (x1, x2) = _ from f1)
  obtain ⟨rfl, rfl⟩ := Prod.mk.inj (show (y1, y2) = _ from g1)
  refine ⟨p1, x3, y3, p4, e, ?_, e1, g2⟩
  have := congrArg List.length e1
  rw [List.length_map, offs_length] at this
  exact this
theorem wpS_mergeAt (C : Cmp prog w A s kd O ky S) {st : SortSt} {pre post : List (List Keyed)} {F G : List Keyed} {rest : List Keyed} {i : Nat} {Q : Bool → SortSt → Prop} (hS : ∀ p ∈ a0.toList, S p) (h : Stk O ky ix kd a0 st (pre ++ F :: G :: post) rest) (hi : i = pre.length)
    (k : ∀ st' M, Stk O ky ix kd a0 st' (pre ++ M :: post) rest → M.length = F.length + G.length → Q true st') : wpS (model prog w) A E s (TS.mergeAt' i) Q st := by
  obtain ⟨p1, w1, w2, p2, ep, l1, q1, q2⟩ := pend_split h.pend
  have hSa : ∀ p ∈ (arrOf st).toList, S p := fun p hp => hS p ((Array.perm_iff_toList_perm.mp h.perm).mem_iff.mp hp)
  have hF := h.each F (List.mem_append_right _ List.mem_cons_self)
  have hG := h.each G (List.mem_append_right _ (List.mem_cons_of_mem _ List.mem_cons_self))
  have lF : 1 ≤ F.length := List.length_pos_iff.mpr hF.1
  have lG : 1 ≤ G.length := List.length_pos_iff.mpr hG.1
  have arrF : (arrOf st).toList = pre.flatten ++ (F ++ (G ++ (post.flatten ++ rest))) := by
    rw [h.arr]; simp
  have arrG : (arrOf st).toList = (pre.flatten ++ F) ++ (G ++ (post.flatten ++ rest)) := by
    rw [arrF]; simp
  have lenG : (pre.flatten ++ F).length = pre.flatten.length + F.length := List.length_append
  have hsz : pre.flatten.length + F.length + G.length ≤ (arrOf st).size := by
    have := congrArg List.length arrF
    rw [List.length_append, List.length_append, List.length_append, Array.length_toList] at this
    trivial
  have srF := seg_srt arrF hF.2
  have srG := seg_srt arrG hG.2
  rw [lenG] at srG
  have g1 : (pendingOf st)[i]? = some (pre.flatten.length, F.length, w1) := by
    rw [← Array.getElem?_toList, ep, hi, ← l1]; simp
  have g2 : (pendingOf st)[i + 1]? = some (pre.flatten.length + F.length, G.length, w2) := by
    rw [← Array.getElem?_toList, ep, hi, ← l1, List.getElem?_append_right (by trivial)]; simp
  unfold TS.mergeAt'
  refine wpS_bind (wpS_get ?_)
  rw [show (pendingOf st)[i]? = _ from g1, show (pendingOf st)[i + 1]? = _ from g2]
  dsimp only
  -- what is told whatever is merged
  have fin : ∀ (st' : SortSt) (M : List Keyed), kindOf st' = kindOf st → failedOf st' = failedOf st → (arrOf st').toList = pre.flatten ++ (M ++ (post.flatten ++ rest)) → M.Perm (F ++ G) → Srt O ky ix M →
      pendingOf st' = ((pendingOf st).setIfInBounds i (pre.flatten.length, F.length + G.length, w1)).eraseIdxIfInBounds (i + 1) → Q true st' := by
    intro st' M k1 k2 k3 k4 k5 k6
    refine k st' M ⟨k1.trans h.kind, k2.trans h.fail, ?_, ?_, ?_, fun g hg => ?_, ?_⟩ (by rw [k4.length_eq, List.length_append])
    · rw [k3]; simp
    · refine Array.Perm.trans (Array.perm_iff_toList_perm.mpr ?_) h.perm
      rw [k3, arrF]
      refine List.Perm.append_left _ ?_
      rw [← List.append_assoc F]
      exact k4.append_right _
    · rw [k6]
      have e : (((pendingOf st).setIfInBounds i (pre.flatten.length, F.length + G.length, w1)).eraseIdxIfInBounds (i + 1)).toList = p1 ++ (pre.flatten.length, F.length + G.length, w1) :: p2 := by
        simp [ep]
        rw [hi, ← l1, List.set_append_right _ _ (Nat.le_refl _), Nat.sub_self, List.set_cons_zero, List.eraseIdx_append_of_length_le (by trivial), show p1.length + 1 - p1.length = 1 by trivial]
        rfl
      rw [e, List.map_append, q1, List.map_cons, q2, offs_append, Nat.zero_add]
      show _ = offs 0 pre ++ (pre.flatten.length, M.length) :: offs (pre.flatten.length + M.length) post
      rw [k4.length_eq, List.length_append, ← Nat.add_assoc]
      rfl
    · rcases List.mem_append.mp hg with hg | hg
      · exact h.each g (List.mem_append_left _ hg)
      · rcases List.mem_cons.mp hg with hg | hg
        · subst hg
          refine ⟨fun z => ?_, k5⟩
          have := k4.length_eq
          rw [z, List.length_append] at this
          simp at this
          trivial
        · exact h.each g (List.mem_append_right _ (List.mem_cons_of_mem _ (List.mem_cons_of_mem _ hg)))
    · have o := h.ord
      rw [List.append_assoc, List.cons_append, List.cons_append] at o
      rw [List.append_assoc, List.cons_append]
      exact o.join fun x hx => List.mem_append.mp (k4.mem_iff.mp hx)
  have fG : ∀ {i : Nat}, i < G.length → ∃ x, G[i]? = some x ∧ at_ (arrOf st) (pre.flatten.length + F.length + i) = x := fun {i} hi => by
    refine ⟨G[i], List.getElem?_eq_getElem _, ?_⟩
    have := at_seg arrG (i := i) (List.getElem?_eq_getElem hi)
    rw [lenG] at this
    exact this
  have fF : ∀ {i : Nat}, i < F.length → ∃ x, F[i]? = some x ∧ at_ (arrOf st) (pre.flatten.length + i) = x := fun {i} hi => ⟨F[i], List.getElem?_eq_getElem _, at_seg arrF (List.getElem?_eq_getElem hi)⟩
  have memF : ∀ {x : Keyed} {i j : Nat}, x ∈ (F.take j).drop i → ∃ n, i ≤ n ∧ n < j ∧ n < F.length ∧ at_ (arrOf st) (pre.flatten.length + n) = x := fun {x i j} hx => by
    obtain ⟨n, hn, e⟩ := List.getElem_of_mem hx
    rw [List.length_drop, List.length_take] at hn
    refine ⟨i + n, by trivial, by trivial, by trivial, at_seg arrF ?_⟩
    have e2 : ((F.take j).drop i)[n]? = some x := by rw [← e]; exact List.getElem?_eq_getElem _
    rw [List.getElem?_drop, List.getElem?_take, if_pos (by trivial)] at e2
    exact e2
  have memG : ∀ {x : Keyed} {i j : Nat}, x ∈ (G.take j).drop i → ∃ n, i ≤ n ∧ n < j ∧ n < G.length ∧ at_ (arrOf st) (pre.flatten.length + F.length + n) = x := fun {x i j} hx => by
    obtain ⟨n, hn, e⟩ := List.getElem_of_mem hx
    rw [List.length_drop, List.length_take] at hn
    have e2 : ((G.take j).drop i)[n]? = some x := by rw [← e]; exact List.getElem?_eq_getElem _
    rw [List.getElem?_drop, List.getElem?_take, if_pos (by trivial)] at e2
    have := at_seg arrG e2
    rw [lenG] at this
    exact ⟨i + n, by trivial, by trivial, by trivial, this⟩
  have allF : F = (F.take F.length).drop 0 := by simp
  have allG : G = (G.take G.length).drop 0 := by simp
  have hix : ∀ x ∈ F, ∀ y ∈ G, ix x ≤ ix y := by
    have o := h.ord
    rw [List.append_assoc, List.cons_append, List.cons_append] at o
    exact o.two
  have hixA : ∀ m n, m < F.length → n < G.length → ix (at_ (arrOf st) (pre.flatten.length + m)) ≤ ix (at_ (arrOf st) (pre.flatten.length + F.length + n)) := fun m n hm hn => by
    obtain ⟨x, x1, x2⟩ := fF hm
    obtain ⟨y, y1, y2⟩ := fG hn
    rw [x2, y2]
    exact hix x (List.mem_of_getElem? x1) y (List.mem_of_getElem? y1)
  refine wpS_bind (wpS_modify (f := fun _ => _) ?_)
  refine wpS_bind (wpS_elem (at_eq (show pre.flatten.length + F.length < (arrOf st).size by trivial)) ?_)
  refine wpS_bind (wpS_gal C h.kind (hSa _ (at_mem (show pre.flatten.length + F.length < (arrOf st).size by trivial))) hSa srF (fun i hi => by simp only [Bool.false_eq_true, if_false]; exact hixA i 0 hi lG) (show pre.flatten.length + F.length ≤ (arrOf st).size by trivial) (by trivial) fun kk hkk r1 r2 => ?_)
  dsimp only
  simp only [Bool.false_eq_true, if_false] at r1 r2
  have G0 : ∀ y ∈ G, R O ky ix (at_ (arrOf st) (pre.flatten.length + F.length)) y := fun y hy => by
    rw [allG] at hy
    obtain ⟨n, _, _, n3, rfl⟩ := memG hy
    exact srG 0 n (by trivial) n3
  by_cases z1 : (F.length - kk == 0) = true
  · rw [if_pos z1]
    have z1' : F.length - kk = 0 := by simpa using z1
    refine wpS_pure (fin _ (F ++ G) rfl rfl ?_ (List.Perm.refl _) ?_ rfl)
    · show (arrOf st).toList = _
      rw [arrF]; simp
    · unfold Srt
      rw [List.pairwise_append]
      refine ⟨hF.2, hG.2, fun x hx y hy => ?_⟩
      rw [allF] at hx
      obtain ⟨n, _, _, n3, rfl⟩ := memF hx
      exact R.trans (r1 n (by trivial)) (G0 y hy)
  rw [if_neg z1]
  have z1' : ¬ F.length - kk = 0 := by simpa using z1
  have elast : pre.flatten.length + kk + (F.length - kk) - 1 = pre.flatten.length + (F.length - 1) := by trivial
  rw [elast]
  refine wpS_bind (wpS_elem (at_eq (show pre.flatten.length + (F.length - 1) < (arrOf st).size by trivial)) ?_)
  refine wpS_bind (wpS_gal C h.kind (hSa _ (at_mem (show pre.flatten.length + (F.length - 1) < (arrOf st).size by trivial))) hSa srG (fun i hi => by simp only [if_true]; exact hixA (F.length - 1) i (by trivial) hi) (show pre.flatten.length + F.length + G.length ≤ (arrOf st).size by trivial) (by trivial) fun nn hnn t1 t2 => ?_)
  dsimp only
  simp only [if_true] at t1 t2
  have FL : ∀ x ∈ F, R O ky ix x (at_ (arrOf st) (pre.flatten.length + (F.length - 1))) := fun x hx => by
    rw [allF] at hx
    obtain ⟨n, _, _, n3, rfl⟩ := memF hx
    exact srF n (F.length - 1) (by trivial) (by trivial)
  by_cases z2 : (nn == 0) = true
  · rw [if_pos z2]
    have z2' : nn = 0 := by simpa using z2
    refine wpS_pure (fin _ (F ++ G) rfl rfl ?_ (List.Perm.refl _) ?_ rfl)
    · show (arrOf st).toList = _
      rw [arrF]; simp
    · unfold Srt
      rw [List.pairwise_append]
      refine ⟨hF.2, hG.2, fun x hx y hy => ?_⟩
      rw [allG] at hy
      obtain ⟨n, _, _, n3, rfl⟩ := memG hy
      exact R.trans (FL x hx) (t2 n (by trivial) n3)
  rw [if_neg z2]
  have z2' : ¬ nn = 0 := by simpa using z2
  have hx : ((arrOf st).extract (pre.flatten.length + kk) (pre.flatten.length + F.length)).toList = F.drop kk := by
    rw [ext2, arrG, ← lenG, List.take_append_of_le_length (Nat.le_refl _), List.take_length, ← List.drop_drop]
    simp
  have hy : ((arrOf st).extract (pre.flatten.length + F.length) (pre.flatten.length + F.length + nn)).toList = G.take nn := by
    rw [ext_some, arrG, ← lenG, List.drop_append_of_le_length (Nat.le_refl _), List.drop_length, List.nil_append, List.take_append_of_le_length hnn]
  have szx : ((arrOf st).extract (pre.flatten.length + kk) (pre.flatten.length + F.length)).size = F.length - kk := by
    rw [← Array.length_toList, hx, List.length_drop]
  have szy : ((arrOf st).extract (pre.flatten.length + F.length) (pre.flatten.length + F.length + nn)).size = nn := by
    rw [← Array.length_toList, hy, List.length_take]; trivial
  generalize (arrOf st).extract (pre.flatten.length + kk) (pre.flatten.length + F.length) = x at hx szx ⊢
  generalize (arrOf st).extract (pre.flatten.length + F.length) (pre.flatten.length + F.length + nn) = y at hy szy ⊢
  have inF : ∀ p ∈ F, S p := fun p hp => hSa p (by rw [arrF]; exact List.mem_append_right _ (List.mem_append_left _ hp))
  have inG : ∀ p ∈ G, S p := fun p hp => hSa p (by rw [arrF]; exact List.mem_append_right _ (List.mem_append_right _ (List.mem_append_left _ hp)))
  have hSx : ∀ p ∈ x.toList, S p := fun p hp => inF p (by rw [hx] at hp; exact List.mem_of_mem_drop hp)
  have hSy : ∀ p ∈ y.toList, S p := fun p hp => inG p (by rw [hy] at hp; exact List.mem_of_mem_take hp)
  have sx : Srt O ky ix x.toList := by rw [hx]; exact drop_srt hF.2 _
  have sy : Srt O ky ix y.toList := by rw [hy]; exact take_srt hG.2 _
  have hixy : ∀ p ∈ x.toList, ∀ q ∈ y.toList, ix p ≤ ix q := fun p hp q hq => by
    rw [hx] at hp
    rw [hy] at hq
    exact hix p (List.mem_of_mem_drop hp) q (List.mem_of_mem_take hq)
  have y0 : at_ y 0 = at_ (arrOf st) (pre.flatten.length + F.length) := by
    obtain ⟨g, hg1, hg2⟩ := fG (i := 0) lG
    have e : y.toList[0]? = some g := by rw [hy, List.getElem?_take, if_pos (by trivial)]; exact hg1
    rw [show pre.flatten.length + F.length = pre.flatten.length + F.length + 0 from rfl, hg2]
    unfold at_
    rw [← Array.getElem?_toList, e]; rfl
  have xl : at_ x (x.size - 1) = at_ (arrOf st) (pre.flatten.length + (F.length - 1)) := by
    obtain ⟨g, hg1, hg2⟩ := fF (i := F.length - 1) (by trivial)
    have e : x.toList[x.size - 1]? = some g := by rw [hx, szx, List.getElem?_drop, show kk + (F.length - kk - 1) = F.length - 1 by trivial]; exact hg1
    rw [hg2]
    unfold at_
    rw [← Array.getElem?_toList, e]; rfl
  have h0 : ∀ p ∈ x.toList, R O ky ix (at_ y 0) p := fun p hp => by
    rw [hx, show F.drop kk = (F.take F.length).drop kk by rw [List.take_length]] at hp
    obtain ⟨n, n1, _, n3, rfl⟩ := memF hp
    rw [y0]
    exact R.lt (r2 n n1 n3)
  have hl : ∀ p ∈ y.toList, R O ky ix p (at_ x (x.size - 1)) := fun p hp => by
    rw [hy, show G.take nn = (G.take nn).drop 0 by rw [List.drop_zero]] at hp
    obtain ⟨n, _, n2, n3, rfl⟩ := memG hp
    rw [xl]
    exact R.lt (t1 n n2)
  have last : ∀ (o : Array Keyed) (st' : SortSt), Good O ky ix x y o → SameSt (SortSt.mk' (kindOf st) (arrOf st) (((pendingOf st).setIfInBounds i (pre.flatten.length, F.length + G.length, w1)).eraseIdxIfInBounds (i + 1)) (gallopOf st) (failedOf st)) st' →
      (failedOf st').isNone = true ∧ Q true (SortSt.mk' (kindOf st') (o.toList.zipIdx.foldl (fun a (x : Keyed × Nat) => match x with | (p, j) => a.setIfInBounds (pre.flatten.length + kk + j) p) (arrOf st')) (pendingOf st') (gallopOf st') (failedOf st')) := by
    intro o st' go ss
    obtain ⟨pm, so⟩ := go
    rw [hx, hy] at pm
    have lo : o.toList.length = F.length - kk + nn := by rw [pm.length_eq, List.length_append, List.length_drop, List.length_take]; trivial
    refine ⟨by rw [show failedOf st' = failedOf st from ss.fail, h.fail]; rfl, ?_⟩
    refine fin _ (F.take kk ++ (o.toList ++ G.drop nn)) ss.kind ss.fail ?_ ?_ ?_ ss.pend
    · show (o.toList.zipIdx.foldl _ (arrOf st')).toList = _
      rw [show arrOf st' = arrOf st from ss.arr]
      have wb := write_back (pre.flatten.length + kk) o.toList 0 (arrOf st) (by trivial)
      rw [Nat.add_zero] at wb
      refine wb.trans ?_
      have d1 : (arrOf st).toList.take (pre.flatten.length + kk) = pre.flatten ++ F.take kk := by
        rw [arrF, List.take_length_add_append, List.take_append_of_le_length (by trivial)]
      have d2 : (arrOf st).toList.drop (pre.flatten.length + kk + o.toList.length) = G.drop nn ++ (post.flatten ++ rest) := by
        rw [arrG, lo, show pre.flatten.length + kk + (F.length - kk + nn) = (pre.flatten ++ F).length + nn by rw [lenG]; trivial, List.drop_length_add_append, List.drop_append_of_le_length hnn]
      rw [d1, d2]; simp
    · have e1 := List.take_append_drop kk F
      have e2 := List.take_append_drop nn G
      conv => rhs; rw [← e1, ← e2]
      rw [List.append_assoc]
      refine List.Perm.append_left _ ?_
      rw [← List.append_assoc]
      exact pm.append_right _
    · have mo : ∀ p ∈ o.toList, p ∈ F.drop kk ∨ p ∈ G.take nn := fun p hp => List.mem_append.mp (pm.mem_iff.mp hp)
      unfold Srt
      rw [List.pairwise_append, List.pairwise_append]
      refine ⟨take_srt hF.2 _, ⟨so, drop_srt hG.2 _, fun p hp q hq => ?_⟩, fun p hp q hq => ?_⟩
      · rcases mo p hp with hp | hp
        · rw [show G.drop nn = (G.take G.length).drop nn by rw [List.take_length]] at hq
          obtain ⟨n, n1, _, n3, rfl⟩ := memG hq
          exact R.trans (FL p (List.mem_of_mem_drop hp)) (t2 n n1 n3)
        · exact split_srt hG.2 nn p hp q hq
      · have ub : R O ky ix p (at_ (arrOf st) (pre.flatten.length + F.length)) := by
          rw [show F.take kk = (F.take kk).drop 0 by rw [List.drop_zero]] at hp
          obtain ⟨n, _, n2, n3, rfl⟩ := memF hp
          exact r1 n n2
        rcases List.mem_append.mp hq with hq | hq
        · rcases mo q hq with hq | hq
          · exact split_srt hF.2 kk p hp q hq
          · exact R.trans ub (G0 q (List.mem_of_mem_take hq))
        · exact R.trans ub (G0 q (List.mem_of_mem_drop hq))
  by_cases hle : F.length - kk ≤ nn
  · rw [if_pos hle]
    refine wpS_bind (wpS_mergeLo C h.kind hSx hSy sx sy hixy (by trivial) (by trivial) h0 hl fun o st' go ss => ?_)
    obtain ⟨l1, l2⟩ := last o st' go ss
    refine wpS_bind (wpS_modify (wpS_bind (wpS_get (wpS_pure ?_))))
    rw [show (failedOf st').isNone = true from l1]
    exact l2
  · rw [if_neg hle]
    refine wpS_bind (wpS_mergeHi C h.kind hSx hSy sx sy hixy (by trivial) (by trivial) h0 hl fun o st' go ss => ?_)
    obtain ⟨l1, l2⟩ := last o st' go ss
    refine wpS_bind (wpS_modify (wpS_bind (wpS_get (wpS_pure ?_))))
    rw [show (failedOf st').isNone = true from l1]
    exact l2
end
end TT
set_option linter.all false
namespace TT
open PySem PyProof.Rows TS
section
variable {prog : Program} {w : World} {A : Around} {E : Value → Shared → Prop} {s : Shared}
variable {kd : SortKind} {O : KeyOrd} {ky : Keyed → O.α} {ix : Keyed → Nat} {S : Keyed → Prop} {a0 : Array Keyed}
theorem Stk.chg {st st' : SortSt} {segs : List (List Keyed)} {rest : List Keyed} {lo : Nat} (h : Stk O ky ix kd a0 st segs rest) (c : Chg lo st st') (hl : segs.flatten.length = lo) : Stk O ky ix kd a0 st' segs ((arrOf st').toList.drop lo) := by
  have e : (arrOf st').toList.take lo = segs.flatten := by
    have e0 : (arrOf st).toList.take lo = segs.flatten := by rw [h.arr, ← hl, List.take_append_of_le_length (Nat.le_refl _), List.take_length]
    rw [← e0]
    apply List.ext_getElem?
    intro i
    rw [List.getElem?_take, List.getElem?_take]
    by_cases hi : i < lo
    · rw [if_pos hi, if_pos hi, Array.getElem?_toList, Array.getElem?_toList]; exact c.low i hi
    · rw [if_neg hi, if_neg hi]
  have ea : (arrOf st').toList = segs.flatten ++ (arrOf st').toList.drop lo := by rw [← e, List.take_append_drop]
  refine ⟨c.kind.trans h.kind, c.fail.trans h.fail, ea, c.perm.trans h.perm, by rw [c.pend]; exact h.pend, h.each, h.ord.last fun x hx => ?_⟩
  have p := Array.perm_iff_toList_perm.mp c.perm
  rw [ea, h.arr] at p
  exact ((List.perm_append_left_iff _).mp p).mem_iff.mp hx
theorem up_srt {st : SortSt} {lo n : Nat} (hn : lo + n ≤ (arrOf st).size) (h : Up O ky ix st lo n) : Srt O ky ix (((arrOf st).toList.drop lo).take n) := by
  unfold Srt
  rw [List.pairwise_iff_getElem]
  intro i j hi hj hij
  rw [List.length_take, List.length_drop] at hi hj
  have hat : ∀ k (hk : k < (((arrOf st).toList.drop lo).take n).length), (((arrOf st).toList.drop lo).take n)[k] = at_ (arrOf st) (lo + k) := fun k hk => by
    have hk' := hk
    rw [List.length_take, List.length_drop] at hk'
    have e : (((arrOf st).toList.drop lo).take n)[k]? = some (((arrOf st).toList.drop lo).take n)[k] := List.getElem?_eq_getElem _
    rw [List.getElem?_take, if_pos (by trivial), List.getElem?_drop, at_list (by trivial)] at e
    exact (Option.some.inj e).symm
  rw [hat, hat]
  exact h i j (by trivial) (by trivial)
theorem Stk.push {st : SortSt} {segs : List (List Keyed)} {rest : List Keyed} {lo n : Nat} (h : Stk O ky ix kd a0 st segs rest) (hl : segs.flatten.length = lo) (h1 : 1 ≤ n) (hn : n ≤ rest.length) (hs : Srt O ky ix (rest.take n)) (hc : ∀ x ∈ rest.take n, ∀ y ∈ rest.drop n, ix x ≤ ix y) {st' : SortSt} (k1 : kindOf st' = kindOf st) (k2 : failedOf st' = failedOf st) (k3 : arrOf st' = arrOf st) (k4 : (pendingOf st').toList.map two = (pendingOf st).toList.map two ++ [(lo, n)]) :
    Stk O ky ix kd a0 st' (segs ++ [rest.take n]) (rest.drop n) := by
  have hln : (rest.take n).length = n := by rw [List.length_take]; trivial
  refine ⟨k1.trans h.kind, k2.trans h.fail, ?_, by rw [k3]; exact h.perm, ?_, fun g hg => ?_, Ord.cut (by rw [List.take_append_drop]; exact h.ord) hc⟩
  · rw [k3, h.arr]; simp
  · rw [k4, h.pend, offs_append, Nat.zero_add, hl]
    show _ = _ ++ [(lo, (rest.take n).length)]
    rw [hln]
  · rcases List.mem_append.mp hg with hg | hg
    · exact h.each g hg
    · have : g = rest.take n := by simpa using hg
      subst this
      refine ⟨fun z => ?_, hs⟩
      rw [z] at hln
      simp at hln
      trivial
theorem lap_list {st : SortSt} {lo n m : Nat} (h : Lap ix st lo n m) (hm : lo + m = (arrOf st).size) (hn : n ≤ m) : (∀ x ∈ ((arrOf st).toList.drop lo).take n, ∀ y ∈ ((arrOf st).toList.drop lo).drop n, ix x ≤ ix y) ∧ (((arrOf st).toList.drop lo).drop n).Pairwise (fun x y => ix x ≤ ix y) := by
  refine ⟨fun x hx y hy => ?_, ?_⟩
  · obtain ⟨i, i1, i2, rfl⟩ := mem_at hx
    obtain ⟨j, j1, e⟩ := List.getElem_of_mem hy
    rw [List.length_drop, List.length_drop, Array.length_toList] at j1
    have e2 : (((arrOf st).toList.drop lo).drop n)[j]? = some y := by rw [← e]; exact List.getElem?_eq_getElem _
    rw [List.getElem?_drop, List.getElem?_drop, at_list (by trivial)] at e2
    rw [← Option.some.inj e2]
    exact h.cross i (n + j) i1 (by trivial) (by trivial)
  · rw [List.pairwise_iff_getElem]
    intro i j hi hj hij
    have hat : ∀ k (hk : k < (((arrOf st).toList.drop lo).drop n).length), (((arrOf st).toList.drop lo).drop n)[k] = at_ (arrOf st) (lo + (n + k)) := fun k hk => by
      have hk' := hk
      rw [List.length_drop, List.length_drop, Array.length_toList] at hk'
      have e2 : (((arrOf st).toList.drop lo).drop n)[k]? = some (((arrOf st).toList.drop lo).drop n)[k] := List.getElem?_eq_getElem _
      rw [List.getElem?_drop, List.getElem?_drop, at_list (by trivial)] at e2
      exact (Option.some.inj e2).symm
    rw [hat, hat]
    rw [List.length_drop, List.length_drop, Array.length_toList] at hi hj
    exact h.rise _ _ (by trivial) (by trivial) (by trivial)
theorem lap_of_list {st : SortSt} {P T : List Keyed} {m : Nat} (h : (arrOf st).toList = P ++ T) (hm : m ≤ T.length) (hp : T.Pairwise (fun x y => ix x ≤ ix y)) : Lap ix st P.length 0 m := by
  refine ⟨fun i j h1 => by trivial, fun i j h1 h2 h3 => ?_⟩
  by_cases e : i = j
  · rw [e]; exact Nat.le_refl _
  · have hat : ∀ k (hk : k < T.length), at_ (arrOf st) (P.length + k) = T[k] := fun k hk => by
      have := at_seg (P := P) (G := T) (T := []) (i := k) (by rw [h, List.append_nil]) (List.getElem?_eq_getElem hk)
      exact this
    rw [hat i (by trivial), hat j (by trivial)]
    exact List.pairwise_iff_getElem.mp hp i j (by trivial) (by trivial) (by trivial)
theorem pend_size {st : SortSt} {segs : List (List Keyed)} {rest : List Keyed} (h : Stk O ky ix kd a0 st segs rest) : (pendingOf st).size = segs.length := by
  have := congrArg List.length h.pend
  rw [List.length_map, offs_length, Array.length_toList] at this
  exact this
theorem two_modify (p : Array (Nat × Nat × Nat)) (i v : Nat) : (p.modify i fun x => (x.1, x.2.1, v)).toList.map two = p.toList.map two := by
  apply List.ext_getElem?
  intro j
  rw [List.getElem?_map, List.getElem?_map, Array.getElem?_toList, Array.getElem?_toList, Array.getElem?_modify]
  split
  · cases p[j]? with
    | none => rfl
    | some x => rfl
  · rfl
theorem snoc2 {α : Type} {l : List α} (h : 2 ≤ l.length) {i : Nat} (hi : i + 2 = l.length ∨ i + 3 = l.length) : ∃ pre F G post, l = pre ++ F :: G :: post ∧ pre.length = i := by
  have h1 : i < l.length := by trivial
  have h2 : i + 1 < l.length := by trivial
  refine ⟨l.take i, l[i], l[i + 1], l.drop (i + 2), ?_, by rw [List.length_take]; trivial⟩
  conv => lhs; rw [← List.take_append_drop i l, List.drop_eq_getElem_cons h1, List.drop_eq_getElem_cons h2]
theorem pick {m i : Nat} {o : Option Nat} {f : Nat → Bool} (h2 : 2 ≤ m) (hb : (if Option.any f (if m - 2 > 0 then o else none) = true then m - 2 - 1 else m - 2) = i) : i + 2 = m ∨ i + 3 = m := by
  by_cases c : Option.any f (if m - 2 > 0 then o else none) = true
  · rw [if_pos c] at hb
    by_cases z : m - 2 > 0
    · right; trivial
    · rw [if_neg z] at c; simp at c
  · rw [if_neg c] at hb; left; trivial
theorem flat_join {pre post : List (List Keyed)} {F G M : List Keyed} (h : M.length = F.length + G.length) : (pre ++ M :: post).flatten.length = (pre ++ F :: G :: post).flatten.length := by
  simp [h, Nat.add_assoc]
theorem wpS_sort (C : Cmp prog w A s kd O ky S) {st0 : SortSt} {Q : Unit → SortSt → Prop} (hS : ∀ p ∈ (arrOf st0).toList, S p) (hk : kindOf st0 = kd) (hf : failedOf st0 = none) (hp : pendingOf st0 = #[]) (hrise : (arrOf st0).toList.Pairwise (fun x y => ix x ≤ ix y))
    (h : ∀ st', (arrOf st').Perm (arrOf st0) → failedOf st' = none → Srt O ky ix (arrOf st').toList → Q () st') : wpS (model prog w) A E s sortRuns' Q st0 := by
  unfold sortRuns'
  refine wpS_bind (wpS_get ?_)
  dsimp only
  generalize hsz : (arrOf st0).size = size
  generalize (sortPriv% PySem.Builtin.minRun) size size 0 = minrun
  have base : Stk O ky ix kd (arrOf st0) st0 [] (arrOf st0).toList := ⟨hk, hf, rfl, Array.Perm.refl _, by rw [hp]; rfl, (fun _ z => by cases z), List.pairwise_singleton _ _⟩
  have szof : ∀ {st : SortSt} {segs : List (List Keyed)} {rest : List Keyed}, Stk O ky ix kd (arrOf st0) st segs rest → (arrOf st).size = size ∧ segs.flatten.length + rest.length = size := fun {st segs rest} k => by
    have e := k.perm.size_eq
    have e2 := congrArg List.length k.arr
    rw [List.length_append, Array.length_toList] at e2
    exact ⟨by trivial, by trivial⟩
  have allS : ∀ {st : SortSt} {segs : List (List Keyed)} {rest : List Keyed}, Stk O ky ix kd (arrOf st0) st segs rest → ∀ p ∈ (arrOf st).toList, S p := fun {st segs rest} k p hp => hS p ((Array.perm_iff_toList_perm.mp k.perm).mem_iff.mp hp)
  refine wpS_bind (wpS_mono (wpS_forRange
    (I := fun x c st' => c.1 = none ∧ x ≤ c.2 ∧ ∃ segs rest, Stk O ky ix kd (arrOf st0) st' segs rest ∧ segs.flatten.length = c.2 ∧ rest.Pairwise (fun x y => ix x ≤ ix y))
    (Q := fun c st' => c.1 = none ∧ ∃ segs, Stk O ky ix kd (arrOf st0) st' segs []) ?step ?fin ⟨rfl, Nat.le_refl _, [], _, base, rfl, hrise⟩) ?post)
  case fin =>
    rintro c st' ⟨c1, c2, segs, rest, k, kl, _⟩
    obtain ⟨_, e⟩ := szof k
    have : rest = [] := List.eq_nil_of_length_eq_zero (by trivial)
    subst this
    exact ⟨c1, segs, k⟩
  case post =>
    rintro ⟨r, lo⟩ st1 ⟨c1, segs, k⟩
    dsimp only at c1 ⊢
    subst c1
    dsimp only
    obtain ⟨_, esz⟩ := szof k
    have ls : segs.length ≤ size := by
      have : ∀ l : List (List Keyed), (∀ g ∈ l, g ≠ [] ∧ Srt O ky ix g) → l.length ≤ l.flatten.length := by
        intro l
        induction l with
        | nil => intro _; exact Nat.le_refl _
        | cons g r ih =>
          intro hg
          have a := ih fun x hx => hg x (List.mem_cons_of_mem _ hx)
          have b := List.length_pos_iff.mpr (hg g List.mem_cons_self).1
          rw [List.length_cons, List.flatten_cons, List.length_append]
          trivial
      have := this segs k.each
      simp at esz
      simp at this
      trivial
    refine wpS_bind (wpS_mono (wpS_forRange
      (I := fun x c st' => c = (none, ()) ∧ ∃ segs, Stk O ky ix kd (arrOf st0) st' segs [] ∧ (segs.length ≤ 1 ∨ segs.length + x ≤ size))
      (Q := fun c st' => c = (none, ()) ∧ ∃ segs, Stk O ky ix kd (arrOf st0) st' segs [] ∧ segs.length ≤ 1) ?st2 ?fn2 ⟨rfl, segs, k, .inr (by trivial)⟩) ?ps2)
    case fn2 =>
      rintro c st' ⟨c1, segs, k, hor⟩
      exact ⟨c1, segs, k, by rcases hor with q | q <;> trivial⟩
    case ps2 =>
      rintro c st' ⟨rfl, segs, k, hle⟩
      refine wpS_pure (h st' k.perm k.fail ?_)
      rw [k.arr, List.append_nil]
      match segs, hle, k.each with
      | [], _, _ => exact List.Pairwise.nil
      | [g], _, he =>
        rw [List.flatten_cons, List.flatten_nil, List.append_nil]
        exact (he g List.mem_cons_self).2
    case st2 =>
      rintro x c st' _ hx ⟨rfl, segs, k, hor⟩
      have ps := pend_size k
      refine wpS_bind (wpS_get ?_)
      by_cases hle : (pendingOf st').size ≤ 1
      · rw [if_pos hle]
        exact wpS_pure ⟨rfl, segs, k, by trivial⟩
      · rw [if_neg hle]
        generalize hb : (if Option.any _ _ = true then (pendingOf st').size - 2 - 1 else (pendingOf st').size - 2) = i
        have hi := pick (show 2 ≤ (pendingOf st').size by trivial) hb
        rw [ps] at hi
        obtain ⟨pre, F, G, post, rfl, hpl⟩ := snoc2 (by trivial) hi
        refine wpS_bind (wpS_mergeAt C hS k hpl.symm fun st2 M k2 ml => ?_)
        rw [if_neg (by decide)]
        refine wpS_pure ⟨rfl, pre ++ M :: post, k2, .inr ?_⟩
        simp only [List.length_append, List.length_cons] at hor hle ps ⊢
        trivial
  case step =>
    rintro x ⟨r, lo⟩ st1 _ hx ⟨c1, c2, segs, rest, k, kl, asc⟩
    dsimp only at c1 c2 kl ⊢
    subst c1
    obtain ⟨ea, er⟩ := szof k
    by_cases hge : lo ≥ size
    · rw [if_pos hge]
      have : rest = [] := List.eq_nil_of_length_eq_zero (by trivial)
      subst this
      exact wpS_pure ⟨rfl, segs, k⟩
    rw [if_neg hge]
    have lap0 : Lap ix st1 lo 0 (size - lo) := by
      rw [← kl]
      exact lap_of_list k.arr (by trivial) asc
    refine wpS_bind (wpS_run C (ix := ix) k.kind (allS k) (by trivial) (by trivial) lap0 fun n st2 ch n1 n2 up lap => ?_)
    have k2 := k.chg ch kl
    dsimp only
    by_cases hmr : n < minrun
    · rw [if_pos hmr]
      refine wpS_bind (wpS_lift (wpAny_rule ⟨rfl, ?_⟩))
      obtain ⟨ea2, _⟩ := szof k2
      refine wpS_bind (wpS_bin C k2.kind (allS k2) (by trivial) (by trivial) up (nrem := size - lo) (by trivial) lap fun stB chB upB lapB => ?_)
      rw [if_neg (by decide)]
      have kB := k2.chg chB kl
      generalize hfo : min (size - lo) minrun = force at upB lapB ⊢
      have es := szof kB
      have hrl : ((arrOf stB).toList.drop lo).length = size - lo := by rw [List.length_drop, Array.length_toList]; trivial
      have hsr : Srt O ky ix (((arrOf stB).toList.drop lo).take (force)) := up_srt (by trivial) upB
      obtain ⟨hcr, hasc⟩ := lap_list lapB (by trivial) (by trivial)
      generalize (arrOf stB).toList.drop lo = rest2 at kB es hrl hsr hcr hasc
      refine wpS_bind (wpS_get ?_)
      cases hb : (pendingOf stB).back? with
      | none =>
        dsimp only
        refine wpS_bind (wpS_modify (wpS_pure ⟨rfl, by dsimp only; trivial, _, _, Stk.push kB kl (by trivial) (by trivial) hsr hcr rfl rfl rfl (by
          show (((pendingOf stB).push (lo, force, 0)).toList.map two) = _
          rw [Array.toList_push, List.map_append]; rfl), ?_, hasc⟩))
        dsimp only
        rw [List.flatten_append, List.length_append, kl]
        simp
        trivial
      | some q =>
        obtain ⟨s1, n1', w1'⟩ := q
        dsimp only
        refine wpS_bind (wpS_mono (wpS_forRange
          (I := fun x c st' => c = (none, ()) ∧ ∃ segs, Stk O ky ix kd (arrOf st0) st' segs rest2 ∧ segs.flatten.length = lo)
          (Q := fun c st' => c = (none, ()) ∧ ∃ segs, Stk O ky ix kd (arrOf st0) st' segs rest2 ∧ segs.flatten.length = lo) ?sA (fun _ _ z => z) ⟨rfl, segs, kB, kl⟩) ?pA)
        case sA =>
          rintro x' c st3 _ hx' ⟨rfl, segs3, k3, kl3⟩
          have ps := pend_size k3
          refine wpS_bind (wpS_get ?_)
          cases ho : (if (pendingOf st3).size > 1 then (pendingOf st3)[(pendingOf st3).size - 2]? else none) with
          | none => exact wpS_pure ⟨rfl, segs3, k3, kl3⟩
          | some q3 =>
            obtain ⟨u1, u2, older⟩ := q3
            dsimp only
            have hp1 : (pendingOf st3).size > 1 := by
              by_cases z : (pendingOf st3).size > 1
              · exact z
              · rw [if_neg z] at ho; cases ho
            split
            · exact wpS_pure ⟨rfl, segs3, k3, kl3⟩
            · obtain ⟨pre, F, G, post, rfl, hpl⟩ := snoc2 (l := segs3) (i := (pendingOf st3).size - 2) (by trivial) (.inl (by trivial))
              refine wpS_bind (wpS_mergeAt C hS k3 hpl.symm fun st4 M k4 ml => ?_)
              rw [if_neg (by decide)]
              exact wpS_pure ⟨rfl, pre ++ M :: post, k4, by rw [flat_join ml]; exact kl3⟩
        case pA =>
          rintro c st3 ⟨rfl, segs3, k3, kl3⟩
          dsimp only
          refine wpS_bind (wpS_modify ?_)
          refine wpS_bind (wpS_modify (wpS_pure ⟨rfl, by dsimp only; trivial, _, _, Stk.push k3 kl3 (by trivial) (by trivial) hsr hcr rfl rfl rfl (by
            show (((Array.modify (pendingOf st3) ((pendingOf st3).size - 1) _).push (lo, force, 0)).toList.map two) = _
            rw [Array.toList_push, List.map_append, two_modify]; rfl), ?_, hasc⟩))
          dsimp only
          rw [List.flatten_append, List.length_append, kl3]
          simp
          trivial
    · rw [if_neg hmr]
      have es := szof k2
      have hrl : ((arrOf st2).toList.drop lo).length = size - lo := by rw [List.length_drop, Array.length_toList]; trivial
      have hsr : Srt O ky ix (((arrOf st2).toList.drop lo).take (n)) := up_srt (by trivial) up
      obtain ⟨hcr, hasc⟩ := lap_list lap (by trivial) (by trivial)
      generalize (arrOf st2).toList.drop lo = rest2 at k2 es hrl hsr hcr hasc
      refine wpS_bind (wpS_get ?_)
      cases hb : (pendingOf st2).back? with
      | none =>
        dsimp only
        refine wpS_bind (wpS_modify (wpS_pure ⟨rfl, by dsimp only; trivial, _, _, Stk.push k2 kl (by trivial) (by trivial) hsr hcr rfl rfl rfl (by
          show (((pendingOf st2).push (lo, n, 0)).toList.map two) = _
          rw [Array.toList_push, List.map_append]; rfl), ?_, hasc⟩))
        dsimp only
        rw [List.flatten_append, List.length_append, kl]
        simp
        trivial
      | some q =>
        obtain ⟨s1, n1', w1'⟩ := q
        dsimp only
        refine wpS_bind (wpS_mono (wpS_forRange
          (I := fun x c st' => c = (none, ()) ∧ ∃ segs, Stk O ky ix kd (arrOf st0) st' segs rest2 ∧ segs.flatten.length = lo)
          (Q := fun c st' => c = (none, ()) ∧ ∃ segs, Stk O ky ix kd (arrOf st0) st' segs rest2 ∧ segs.flatten.length = lo) ?sA (fun _ _ z => z) ⟨rfl, segs, k2, kl⟩) ?pA)
        case sA =>
          rintro x' c st3 _ hx' ⟨rfl, segs3, k3, kl3⟩
          have ps := pend_size k3
          refine wpS_bind (wpS_get ?_)
          cases ho : (if (pendingOf st3).size > 1 then (pendingOf st3)[(pendingOf st3).size - 2]? else none) with
          | none => exact wpS_pure ⟨rfl, segs3, k3, kl3⟩
          | some q3 =>
            obtain ⟨u1, u2, older⟩ := q3
            dsimp only
            have hp1 : (pendingOf st3).size > 1 := by
              by_cases z : (pendingOf st3).size > 1
              · exact z
              · rw [if_neg z] at ho; cases ho
            split
            · exact wpS_pure ⟨rfl, segs3, k3, kl3⟩
            · obtain ⟨pre, F, G, post, rfl, hpl⟩ := snoc2 (l := segs3) (i := (pendingOf st3).size - 2) (by trivial) (.inl (by trivial))
              refine wpS_bind (wpS_mergeAt C hS k3 hpl.symm fun st4 M k4 ml => ?_)
              rw [if_neg (by decide)]
              exact wpS_pure ⟨rfl, pre ++ M :: post, k4, by rw [flat_join ml]; exact kl3⟩
        case pA =>
          rintro c st3 ⟨rfl, segs3, k3, kl3⟩
          dsimp only
          refine wpS_bind (wpS_modify ?_)
          refine wpS_bind (wpS_modify (wpS_pure ⟨rfl, by dsimp only; trivial, _, _, Stk.push k3 kl3 (by trivial) (by trivial) hsr hcr rfl rfl rfl (by
            show (((Array.modify (pendingOf st3) ((pendingOf st3).size - 1) _).push (lo, n, 0)).toList.map two) = _
            rw [Array.toList_push, List.map_append, two_modify]; rfl), ?_, hasc⟩))
          dsimp only
          rw [List.flatten_append, List.length_append, kl3]
          simp
          trivial
end
end TT
set_option linter.all false
namespace TS
open PySem PyProof.Rows
section
variable (O : KeyOrd) (ky : Keyed → O.α)
noncomputable def R (p q : Keyed) : Prop := O.kle (ky p) (ky q)
noncomputable def Srt (l : List Keyed) : Prop := l.Pairwise (R O ky)
end
section
variable {prog : Program} {w : World} {A : Around} {E : Value → Shared → Prop} {s : Shared}
variable {kd : SortKind} {O : KeyOrd} {ky : Keyed → O.α} {S : Keyed → Prop}
theorem wpS_sort (C : Cmp prog w A s kd O ky S) {st0 : SortSt} {Q : Unit → SortSt → Prop} (hS : ∀ p ∈ (arrOf st0).toList, S p) (hk : kindOf st0 = kd) (hf : failedOf st0 = none) (hp : pendingOf st0 = #[])
    (h : ∀ st', (arrOf st').Perm (arrOf st0) → failedOf st' = none → Srt O ky (arrOf st').toList → Q () st') : wpS (model prog w) A E s sortRuns' Q st0 :=
  TT.wpS_sort (ix := fun _ => 0) C hS hk hf hp (List.pairwise_iff_getElem.mpr fun _ _ _ _ _ => Nat.le_refl _) fun st' h1 h2 h3 => h st' h1 h2 (h3.imp fun r => r.1)
end
end TS
set_option linter.all false
set_option maxRecDepth 100000
namespace TS
open PySem PyProof.Rows
section
variable {prog : Program} {w : World} {A : Around} {E : Value → Shared → Prop} {s : Shared}
variable {kd : SortKind} {O : KeyOrd} {ky : Keyed → O.α} {S : Keyed → Prop}
noncomputable def Rises (O : KeyOrd) (ky : Keyed → O.α) (l : List Value) : Prop := l.Pairwise fun x y => O.kle (ky (x, x)) (ky (y, y))
theorem out_of {vs : List Value} {xs : Array Keyed} (hp : xs.Perm (pairsOf vs)) (hs : Srt O ky xs.toList) : (xs.map (·.2)).toList.Perm vs ∧ Rises O ky (xs.map (·.2)).toList := by
  have hl : xs.toList.Perm (vs.zip vs) := by rw [← pairsOf_toList]; exact Array.perm_iff_toList_perm.mp hp
  have same : ∀ p ∈ xs.toList, p = (p.2, p.2) := fun p hp' => by
    have e := (mem_zip_self (hl.mem_iff.mp hp')).1
    exact Prod.ext e rfl
  rw [Array.toList_map]
  refine ⟨?_, ?_⟩
  · have q := hl.map (·.2)
    rwa [List.map_snd_zip (Nat.le_refl _)] at q
  · unfold Rises
    rw [List.pairwise_map]
    unfold Srt at hs
    refine List.Pairwise.imp_of_mem ?_ hs
    intro p q h1 h2 r
    have e1 := same p h1
    have e2 := same q h2
    unfold R at r
    rw [e1, e2] at r
    exact r
theorem sort_tree {a : Addr} {vs : List Value} {n : Nat} {P : Fin → Shared → Prop} (ho : s.heap.get? a = some (seqObj "list" vs.toArray n)) (hz : vs.length ≤ sizeLine) (hS : ∀ v ∈ vs, S (v, v))
    (hkk : ∀ s' : Shared, 2 ≤ vs.length → (∀ b o, b ≠ a → s.heap.get? b = some o → s'.heap.get? b = some o) → ∀ Q : SortKind → Shared → Prop, Q kd s' → wpAny (model prog w) A (keyKind' vs.toArray) Q E s')
    (hC : ∀ s' : Shared, (∀ b o, b ≠ a → s.heap.get? b = some o → s'.heap.get? b = some o) → Cmp prog w A s' kd O ky S)
    (h : ∀ out : Array Value, out.toList.Perm vs → Rises O ky out.toList → P (.done (.ret .none)) { s with heap := sortedHeap s.heap a vs out }) :
    wpAny (model prog w) A (Builtin.«list.sort» ⟨[.ref a], []⟩) P E s := by
  have ha : a < s.heap.objs.size := Heap.lt_size ho
  have hsz : vs.toArray.size = vs.length := by simp
  rw [list_sort_plain]
  refine wpAny_bind (listItems_at ho rfl (wpAny_bind (listUpdate_at ho rfl ?_ (by rw [hsz]; exact hz) (Nat.zero_le _))))
  have ho1 := get?_update_seq ho (fun _ => #[])
  generalize hh1 : s.heap.update a (Obj.mapSeq fun _ => #[]) = h1 at ho1 ⊢
  have hs1 : h1.objs.size = s.heap.objs.size := by rw [← hh1, Heap.size_update]
  have k1 : ∀ b o, b ≠ a → s.heap.get? b = some o → h1.get? b = some o := fun b o hb e => by rw [← hh1, Heap.get?_update_ne _ _ _ _ hb]; exact e
  refine wpAny_bind (seqEpoch_at ho1 rfl (wpAny_bind (wpAny_newTuple (wpAny_bind (wpAny_newList (wpAny_holding ?_))) (by show vs.toArray.toList.length ≤ _; exact hz))))
  have ho3 : ((h1.push (seqObj "tuple" vs.toArray 0)).push (seqObj "list" #[] 0)).get? a = some (seqObj "list" #[] _) := Heap.get?_push_of_some _ (Heap.get?_push_of_some _ ho1)
  have k3 : ∀ b o, b ≠ a → s.heap.get? b = some o → ((h1.push (seqObj "tuple" vs.toArray 0)).push (seqObj "list" #[] 0)).get? b = some o := fun b o hb e => Heap.get?_push_of_some _ (Heap.get?_push_of_some _ (k1 b o hb e))
  show wpAny (model prog w) A _ P E { s with heap := (h1.push (seqObj "tuple" vs.toArray 0)).push (seqObj "list" #[] 0) }
  dsimp only
  have fin : ∀ out : Array Value, out.toList.Perm vs → Rises O ky out.toList → P (.done (.ret .none)) { s with heap := ((h1.push (seqObj "tuple" vs.toArray 0)).push (seqObj "list" #[] 0)).update a (Obj.mapSeq fun _ => out) } := fun out p r => by
    have := h out p r
    unfold sortedHeap at this
    rw [hh1] at this
    exact this
  have olen : ∀ out : Array Value, out.toList.Perm vs → out.size ≤ sizeLine + 1 := fun out p => by
    have := p.length_eq
    rw [Array.length_toList] at this
    trivial
  by_cases h2 : vs.toArray.size < 2
  · rw [if_pos h2, if_pos h2]
    refine wpAny_bind (wpAny_pure ?_)
    rw [StateT.run_pure]
    refine wpAny_bind (wpAny_pure ?_)
    have hp : ((vs.toArray.zip vs.toArray).map (·.2)).toList = vs := by simp [List.map_snd_zip]
    dsimp only
    refine wpAny_bind (seqEpoch_at ho3 rfl (wpAny_bind (listUpdate_at ho3 rfl ?_ (Nat.zero_le _) (olen _ (by rw [hp])))))
    simp only [bne_self_eq_false, Bool.false_eq_true, if_false]
    refine wpAny_pure (fin _ (by rw [hp]) ?_)
    rw [hp]
    match vs, hsz ▸ h2 with
    | [], _ => exact List.Pairwise.nil
    | [v], _ => exact List.pairwise_singleton _ _
    | _ :: _ :: _, z => simp at z; trivial
  · rw [if_neg h2, if_neg h2]
    refine wpAny_bind (hkk _ (by trivial) k3 _ ?_)
    refine wpAny_bind (wpAny_mono (wpS_sort (hC _ k3) (st0 := SortSt.mk' kd (vs.toArray.zip vs.toArray) #[] 7 none) (Q := fun _ st' => (arrOf st').Perm (pairsOf vs) ∧ failedOf st' = none ∧ Srt O ky (arrOf st').toList) (fun p hp => ?_) rfl rfl rfl fun st' a1 a2 a3 => ⟨a1, a2, a3⟩) ?_ fun _ _ e => e)
    · have hp' : p ∈ vs.zip vs := by
        have : p ∈ (pairsOf vs).toList := hp
        rwa [pairsOf_toList] at this
      have e := mem_zip_self hp'
      have : p = (p.1, p.1) := Prod.ext rfl e.1.symm
      rw [this]; exact hS _ e.2
    · rintro ⟨⟨⟩, st'⟩ s' ⟨rfl, hp, hf, hs⟩
      obtain ⟨o1, o2⟩ := out_of hp hs
      dsimp only
      refine wpAny_bind (seqEpoch_at ho3 rfl (wpAny_bind (listUpdate_at ho3 rfl ?_ (Nat.zero_le _) (olen _ o1))))
      rw [hf]
      simp only [bne_self_eq_false, Bool.false_eq_true, if_false]
      exact wpAny_pure (fin _ o1 o2)
noncomputable def intOrd : KeyOrd where
  α := Int
  blt := fun a b => decide (a < b)
  irrefl := fun a => by simp
  trans := fun a b c h1 h2 => by simp at *; trivial
  negTrans := fun a b c h => by simp at *; trivial
  total := fun a b h1 h2 => by simp at *; trivial
noncomputable def intKy (p : Keyed) : Int := numOf p.1
theorem cmp_int : Cmp prog w A s oneType' intOrd intKy (fun p => ∃ n t, p.1 = .int n t) where
  lt := fun p q ⟨n, t, e1⟩ ⟨m, u, e2⟩ E Q h => by
    rw [e1, e2, keyLt'_oneType]
    refine oneLt_int ?_
    have : intOrd.blt (intKy p) (intKy q) = decide (n < m) := by
      show decide (numOf p.1 < numOf q.1) = _
      rw [e1, e2]; rfl
    rw [← this]; exact h
theorem rises_ints {vs out : List Value} {ns : List Int} (hI : IntsAre vs ns) (hp : out.Perm vs) (hr : Rises intOrd intKy out) : ∃ ns', IntsAre out ns' ∧ ns'.Perm ns ∧ ns'.Pairwise (· ≤ ·) := by
  have hall : ∀ v ∈ out, ∃ n t, v = .int n t := fun v hv => hI.all v (hp.mem_iff.mp hv)
  refine ⟨out.map numOf, intsAre_map out hall, ?_, ?_⟩
  · have := hp.map numOf
    rwa [hI.nums] at this
  · rw [List.pairwise_map]
    refine List.Pairwise.imp (fun {x y} r => ?_) hr
    have r' : decide (numOf y < numOf x) = false := r
    have := of_decide_eq_false r'
    trivial
theorem sorted_gen {r : Value} {V : List Value → Prop} {Q : Value → Shared → Prop} (hz : ∀ vs, V vs → vs.length ≤ sizeLine) (hS : ∀ vs, V vs → ∀ v ∈ vs, S (v, v))
    (hcol : ∀ {E : Value → Shared → Prop} {R : List Value → Shared → Prop}, (∀ (h' : Heap) (tk : Nat) (vs : List Value), V vs → (∀ b o, s.heap.get? b = some o → h'.get? b = some o) → R vs { s with heap := h', toks := tk }) → wpAny (model prog w) A.in1 (collect r) R E s)
    (hkk : ∀ (vs : List Value) (s' : Shared), V vs → 2 ≤ vs.length → (∀ b o, s.heap.get? b = some o → s'.heap.get? b = some o) → ∀ {A : Around} {E : Value → Shared → Prop} {Q : SortKind → Shared → Prop}, Q kd s' → wpAny (model prog w) A (keyKind' vs.toArray) Q E s')
    (hC : ∀ s' : Shared, (∀ b o, s.heap.get? b = some o → s'.heap.get? b = some o) → Cmp prog w A.in1.in1 s' kd O ky S)
    (h : ∀ (h1 h' : Heap) (tk : Nat) (vs : List Value) (out : Array Value) (n : Nat), V vs → (∀ b o, s.heap.get? b = some o → h1.get? b = some o) → (∀ b o, h1.get? b = some o → h'.get? b = some o) → h'.get? h1.objs.size = some (seqObj "list" out n) → out.toList.Perm vs → Rises O ky out.toList → Q (.ref h1.objs.size) { s with heap := h', toks := tk }) :
    wpAny (model prog w) A (call (.builtin "sorted") [r]) Q E s := by
  refine Calls.call_function_entry kind_sorted plain_sorted entry_sorted (args_sorted1 _) ?_
  unfold Builtin.«sorted»
  refine wpAny_bind (m := checkCount "sorted" 1 1 _) (wpAny_pure ?_)
  refine wpAny_bind (hcol fun h' tk vs hV hk => ?_)
  refine wpAny_bind (wpAny_newList ?_ (hz vs hV))
  have hoL : (h'.push (seqObj "list" vs.toArray 0)).get? h'.objs.size = some (seqObj "list" vs.toArray 0) := Heap.get?_push_size _ rfl
  have keep : ∀ s' : Shared, (∀ b o, b ≠ h'.objs.size → (h'.push (seqObj "list" vs.toArray 0)).get? b = some o → s'.heap.get? b = some o) → ∀ b o, s.heap.get? b = some o → s'.heap.get? b = some o := fun s' k b o e =>
    k b o (Nat.ne_of_lt (Heap.lt_size (hk b o e))) (Heap.get?_push_of_some _ (hk b o e))
  refine wpAny_bind (wpAny_holding (wpAny_call_entry slot_list_sort ⟨_, hoL, rfl⟩ entry_list_sort (sort_tree hoL (hz vs hV) (hS vs hV) (fun s' h2 k Q q => hkk vs s' hV h2 (keep s' k) q) (fun s' k => hC s' (keep s' k)) fun out p r => ⟨_, rfl, ?_⟩) (args_list_sort _)))
  refine wpAny_pure ⟨_, rfl, ?_⟩
  have hu := get?_update_seq hoL (fun _ => (#[] : Array Value))
  have hu2 := get?_update_seq (Heap.get?_push_of_some (seqObj "list" #[] 0) (Heap.get?_push_of_some (seqObj "tuple" vs.toArray 0) hu)) (fun _ => out)
  refine h h' (sortedHeap (h'.push (seqObj "list" vs.toArray 0)) h'.objs.size vs out) tk vs out _ hV hk (fun b o e => ?_) hu2 p r
  have hb : b ≠ h'.objs.size := Nat.ne_of_lt (Heap.lt_size e)
  unfold sortedHeap
  rw [Heap.get?_update_ne _ _ _ _ hb]
  refine Heap.get?_push_of_some _ (Heap.get?_push_of_some _ ?_)
  rw [Heap.get?_update_ne _ _ _ _ hb]
  exact Heap.get?_push_of_some _ e
end
end TS
set_option Elab.async false
set_option linter.all false
set_option maxRecDepth 100000
namespace L2
open PySem PySem.Spec PyProof.Rows PySem.W
theorem vals_intsAre : ∀ {ns : List Int} {us : List Value}, Vals (ns.map V.int) us → IntsAre us ns
  | [], _, r => by
    rw [List.map_nil] at r
    cases r; exact .nil
  | n :: ns, _, r => by
    rw [List.map_cons] at r
    cases r with
    | cons h t =>
      obtain ⟨t', rfl⟩ := (show ∃ t, _ = Value.int n t from h)
      exact .cons n t' (vals_intsAre t)
theorem intsAre_vals : ∀ {us : List Value} {ns : List Int}, IntsAre us ns → Vals (ns.map V.int) us
  | _, _, .nil => .nil
  | _, _, .cons n t h => .cons ⟨t, rfl⟩ (intsAre_vals h)
theorem kk_ints {prog : Program} {w : World} {vs : List Value} {ns : List Int} (hI : IntsAre vs ns) (h2 : 2 ≤ vs.length) {A : Around} {E : Value → Shared → Prop} {Q : SortKind → Shared → Prop} {s' : Shared} (q : Q oneType' s') : wpAny (model prog w) A (keyKind' vs.toArray) Q E s' := by
  obtain ⟨v1, v2, rest, rfl⟩ : ∃ v1 v2 rest, vs = v1 :: v2 :: rest := by
    match vs, h2 with
    | v1 :: v2 :: rest, _ => exact ⟨v1, v2, rest, rfl⟩
  rw [keyKind_ints hI]
  exact wpAny_pure q
section
variable {X : Cx}
end
end L2
set_option Elab.async false
set_option linter.all false
set_option maxRecDepth 100000
namespace L2
open PySem PySem.Spec PyProof.Rows PySem.W
section
variable {X : Cx} {pins : List (Addr × Obj)} {σ : St} {H : Hp} {s : Shared}
noncomputable abbrev rListOf (K : Frag) : List V → Hp → VK → Prop := fun xs H Q => ∃ p ys, xs = [.ref p] ∧ (SqL K H p ys ∨ SqT K H p ys) ∧ ∀ l, H l = none → Q (.ref l) (upd H l (.lst ys))
end
end L2
set_option Elab.async false
set_option linter.all false
set_option maxRecDepth 100000
set_option maxHeartbeats 4000000
namespace PH
open PySem L2 PySem.W
structure Prs (H : Hp) (p : Addr) (zs : List (Addr × Int × Int)) : Prop where
  at_ : H p = some (.lst (zs.map fun z => V.ref z.1))
  each : ∀ z ∈ zs, H z.1 = some (.tup [.int z.2.1, .int z.2.2])
noncomputable def pD (c : Int × Int) : DV := .tup [.int c.1, .int c.2]
noncomputable def prD (cs : List (Int × Int)) : DV := .lst (cs.map pD)
theorem Prs.same {H H' : Hp} {p : Addr} {zs : List (Addr × Int × Int)} (h : Prs H p zs) (s : Same H H') : Prs H' p zs := ⟨s _ _ h.at_, fun z hz => s _ _ (h.each z hz)⟩
theorem deeps_prs {K : Frag} {H : Hp} : ∀ {zs : List (Addr × Int × Int)}, (∀ z ∈ zs, H z.1 = some (.tup [.int z.2.1, .int z.2.2])) → Deeps K H (zs.map fun z => V.ref z.1) ((zs.map (·.2)).map pD)
  | [], _ => .nil
  | z :: r, h => .cons (.tup (SqT.of (h z List.mem_cons_self)) (.cons (.int _) (.cons (.int _) .nil))) (deeps_prs fun y hy => h y (List.mem_cons_of_mem _ hy))
theorem Prs.deep {K : Frag} {H : Hp} {p : Addr} {zs : List (Addr × Int × Int)} (h : Prs H p zs) : Deep K H (.ref p) (prD (zs.map (·.2))) := .lst (SqL.of h.at_) (deeps_prs h.each)
theorem ht_pD (c : Int × Int) : ht (pD c) ≤ 2 := by
  unfold pD
  rw [ht_tup]
  unfold hts hts hts ht
  decide
theorem hts_pD : ∀ cs : List (Int × Int), hts (cs.map pD) ≤ 2
  | [] => by unfold List.map hts; decide
  | c :: r => by
    rw [List.map_cons]
    unfold hts
    have := ht_pD c
    have := hts_pD r
    trivial
theorem ht_prD (cs : List (Int × Int)) : ht (prD cs) ≤ 60 := by
  unfold prD
  rw [ht_lst]
  have := hts_pD cs
  trivial
theorem ref_at {zs : List (Addr × Int × Int)} {i : Nat} {y : V} (h : (zs.map fun z => V.ref z.1)[i]? = some y) : ∃ z, zs[i]? = some z ∧ y = V.ref z.1 := by
  rw [List.getElem?_map] at h
  cases e : zs[i]? with
  | none => rw [e] at h; cases h
  | some z => rw [e] at h; exact ⟨z, rfl, (Option.some.inj h).symm⟩
end PH
set_option Elab.async false
set_option linter.all false
set_option maxRecDepth 100000
namespace L2
open PySem PySem.Spec PyProof.Rows PySem.W
section
variable {X : Cx}
end
end L2
set_option linter.all false
namespace PH
open L2
end PH
set_option Elab.async false
set_option linter.all false
set_option maxRecDepth 100000
set_option maxHeartbeats 4000000
namespace PH
open PySem L2 PySem.W
theorem Prs.ne {H : Hp} {p : Addr} {zs : List (Addr × Int × Int)} (h : Prs H p zs) {q : Addr} {xs : List V} (hq : H q = some (.lst xs)) : ∀ z ∈ zs, z.1 ≠ q := fun z hz e => by
  have := h.each z hz
  rw [e, hq] at this
  cases this
theorem Prs.app {H : Hp} {p t : Addr} {zs : List (Addr × Int × Int)} {a b : Int} (h : Prs H p zs) (ht : H t = some (.tup [.int a, .int b])) : Prs (upd H p (.lst ((zs.map fun z => V.ref z.1) ++ [V.ref t]))) p (zs ++ [(t, a, b)]) := by
  have n1 := h.ne h.at_
  have n2 : t ≠ p := fun e => by rw [e, h.at_] at ht; cases ht
  refine ⟨by rw [upd_same, List.map_append]; rfl, fun z hz => ?_⟩
  rcases List.mem_append.mp hz with q | q
  · rw [upd_ne (n1 z q)]; exact h.each z q
  · have : z = (t, a, b) := by simpa using q
    subst this
    rw [upd_ne n2]; exact ht
theorem Prs.other {H : Hp} {p q : Addr} {zs : List (Addr × Int × Int)} {xs ys : List V} (h : Prs H p zs) (hq : H q = some (.lst xs)) (hne : p ≠ q) : Prs (upd H q (.lst ys)) p zs := ⟨by rw [upd_ne hne]; exact h.at_, fun z hz => by rw [upd_ne (h.ne hq z hz)]; exact h.each z hz⟩
end PH
set_option Elab.async false
set_option linter.all false
set_option maxRecDepth 100000
set_option maxHeartbeats 4000000
namespace PH
open PySem L2 PySem.W
end PH
set_option Elab.async false
set_option linter.all false
set_option maxRecDepth 100000
namespace L2
open PySem PySem.Spec PyProof.Rows
theorem ps_setC {X : Cx} {elt tg iter : Expr} {ifs : List Expr} {scope : Scope} {pos : Pos} {N : List Str} {js : List (Option Nat)} {wi : TI} {g : TG} {tc : TT} {te : TE} {y : Str} {iy : Nat} {py spos : Pos} (hN : X.N.Nodup) (hiy : X.N[iy]? = some y) (hy : X.env.scope.names.lookup y = some .local) (hcalm : X.calm = true) (S : CompScope X N js scope)
    (hi : PI X tg iter wi) (hg : ∀ C s H fp, PG (compCx X N scope C s H fp) tg g) (ht : ∀ C s H fp, PIfs (compCx X N scope C s H fp) ifs tc) (he : ∀ C s H fp, PE (compCx X N scope C s H fp) elt te)
    (hs : ∀ x, foldedSetIterable iter X.env x = pure x := by intro _; rfl) (hsw : swapsWith (.ListComp elt [⟨tg, iter, ifs, 0⟩] scope pos) (some (.Name y py)) spos.line X.env = pure true := by rfl) :
    PS X (.Assign [.Name y py] (.ListComp elt [⟨tg, iter, ifs, 0⟩] scope pos) spos) (tAsg (tComp js wi g tc te) (gName iy)) := by
  intro pins s σ H ED I h
  have hc : ∀ x ∈ scope.names, x.2 = .free → ∃ c, X.env.cells.lookup x.1 = some c := fun x hx e => I.ok.has _ (S.free x hx e)
  rw [exec_Assign_Name_used _ _ _ _ hsw]
  refine wpAny_bind (wpAny_standAt (wpAny_bind ?_))
  show wpAny _ X.A (do let _ ← comprehension (.ListComp elt [⟨tg, iter, ifs, 0⟩] scope pos) scope X.env _ (newList []) false (eval iter X.env) (some (assign (.Name y py) X.env))) _ _ s
  refine wpAny_bind (wpAny_mono (Q := fun _ s' => SP X pins ED .next s') ?_ (fun _ s' hq => wpAny_pure (wpAny_pure hq)) fun _ _ e => e)
  refine wpAny_comprehension_free (use := some (assign (.Name y py) X.env)) rfl hs (clos_eq hc) S.kind S.locs (thn (hi pins s σ H _ I h) fun v s1 h1 => thn h1 fun itv s2 h2 => ?_)
  obtain ⟨it, fp, tn, J, H2, e, I2, T, st2, f2, q⟩ := h2
  subst e
  refine wpAny_newObj_type (wpAny_newFunctionEnv S.nocell (by intro y hy; simp at hy) (fun h₁ hns₁ hsb₁ => ?_) S.kind)
  dsimp only at hns₁ hsb₁ ⊢
  generalize hH2 : s2.heap.push { cls := .type "list", dict := none, data := .seq ([] : List Value).toArray } = G2 at hns₁ hsb₁ ⊢
  have hC : G2.objs.size = s2.heap.objs.size + 1 := by rw [← hH2, Heap.size_push]
  have hDC : s2.heap.objs.size ≠ G2.objs.size := by rw [hC]; exact Nat.ne_of_lt (Nat.lt_succ_self _)
  have hC0 : s2.heap.objs.size ≤ G2.objs.size := by rw [hC]; exact Nat.le_succ _
  have below : ∀ b, b < s2.heap.objs.size → b ≠ G2.objs.size := fun b hb => by rw [hC]; exact Nat.ne_of_lt (Nat.lt_succ_of_lt hb)
  have old : ∀ b o, s2.heap.get? b = some o → h₁.get? b = some o := fun b o e => hsb₁.extBut b o (below b (Heap.lt_size e)) (Heap.get?_push_of_some _ (hH2 ▸ Heap.get?_push_of_some _ e))
  have hacc : h₁.get? s2.heap.objs.size = some { cls := .type "list", data := .seq ([] : List Value).toArray } := hsb₁.extBut _ _ hDC (Heap.get?_push_of_some _ (hH2 ▸ Heap.get?_push_size _ rfl))
  have hfp : ∀ b ∈ fp, b < s2.heap.objs.size := fun b hb => by obtain ⟨o, e, _⟩ := T.obj 0 _ st2 b hb; exact Heap.lt_size e
  obtain ⟨W, ⟨m0, w0⟩, turn⟩ := q s2.heap.objs.size (I2.hok.fresh (Nat.le_refl _))
  have stat : ∀ {H' : Hp}, (∀ b ∈ fp, H' b = none) → ∀ b ∈ fp, FpOk (compCx X N scope G2.objs.size s2 H2 fp) [] H' b := fun {H'} hn b hb =>
    ⟨hn b hb, below b (hfp b hb), fun z => by
      rcases List.mem_cons.mp (I2.stkSub b z) with q | q
      · exact (f2 b hb).2.1 q
      · exact (f2 b hb).2.2.1 q, .inl hb, fun x c e => (f2 b hb).2.2.2.2.1 x c (clos_sub _ _ (fun _ _ z => by simp at z) e), fun p hp => absurd hp (by simp [compCx])⟩
  have loop : ∀ s3 : Shared, s3 = { s2 with heap := h₁, toks := s2.toks + ([] : List (Str × Value)).length } →
      codeAny (model X.prog X.w) X.A (.compLoop (.ListComp elt [⟨tg, iter, ifs, 0⟩] scope pos) 0 (.ref it) (.ref s2.heap.objs.size) (compEnvC scope (clos X.env.cells scope.names []) G2.objs.size X.env))
        (compPost (model X.prog X.w) X.A X.xe (some (assign (.Name y py) X.env)) (fun _ s' => SP X pins ED .next s') (.ref s2.heap.objs.size) G2.objs.size) s3 := by
    rintro s3 rfl
    have I3 : Inv (compCx X N scope G2.objs.size s2 H2 fp) [] (innerSt js σ) (upd H2 s2.heap.objs.size (.lst [])) { s2 with heap := h₁, toks := s2.toks + ([] : List (Str × Value)).length } :=
      inv_comp S I2 f2 hfp old (Nat.le_refl _) hC0 hDC ⟨_, hacc⟩ hns₁
    refine compLoop_gen (fun n s' => ∃ i σ' H', Inv (compCx X N scope G2.objs.size s2 H2 fp) [] σ' H' s' ∧ tn i s'.heap ∧ (∀ b ∈ fp, H' b = none) ∧ W i n σ' H') ?_ m0
      ⟨0, _, _, I3, T.keep 0 _ _ st2 fun b _ o e => old b o e, fun b hb => by rw [upd_ne (Nat.ne_of_lt (hfp b hb))]; exact (f2 b hb).1, w0⟩
    rintro n s4 ⟨i, σ4, H4, I4, st4, fr4, w4⟩
    rcases turn i n σ4 H4 w4 with ⟨stop, qn⟩ | ⟨go, step⟩
    · refine thn (T.done (compCx X N scope G2.objs.size s2 H2 fp) rfl rfl rfl hcalm i [] s4 σ4 H4 (fun _ _ => False) I4 (stat fr4) st4 stop) fun r s5 ⟨hr, I5⟩ => ?_
      subst hr
      obtain ⟨m5, n5, _⟩ := I5.loc
      have hos : s5.os = s2.os := I5.os
      obtain ⟨hh, gg, dd, tt, os5⟩ := s5
      obtain rfl : os5 = s2.os := hos
      have sb : Heap.SameBut G2.objs.size hh hh := ⟨rfl, fun _ _ => rfl⟩
      have un : Un (frs X.stack) fp H2 H4 s2.heap hh := by
        have u := I5.base
        have nC : ∀ b o, s2.heap.get? b = some o → b ≠ G2.objs.size := fun b o e => below b (Heap.lt_size e)
        exact ⟨fun b o e n hf hx => sb.extBut b o (nC b o e) (u.keep b o e n hf hx), fun b o e n hf hx => by
            obtain ⟨sl, z⟩ := u.slot b o e n hf hx
            exact ⟨sl, sb.extBut b _ (nC b o e) z⟩, u.free, fun b o e hx => by
            obtain ⟨o', z⟩ := u.there b o e hx
            exact ⟨o', sb.extBut b _ (nC b o e) z⟩, u.tups, u.frzs, u.tbls⟩
      have hok : HOk X.prog X.w H4 hh := fun b ob e => (I5.hok b ob e).stay (fun c v hcv z => sb.extBut c v (fun q => by
        rcases hcv with hcv | hcv
        · rw [← hcv, q] at e
          have := I5.free
          have this' : H4 G2.objs.size = none := this
          rw [e] at this'; cases this'
        · rw [q] at hcv
          have this' : H4 G2.objs.size = none := I5.free
          rw [hcv] at this'; cases this') z) (fun _ z => z) fun _ _ z => z
      have IE := I2.call (h' := hh) (g' := gg) (d' := dd) (t' := tt) (ch := fp) un hok I5.bare fun b hb => ⟨(f2 b hb).2.2.2.1, (f2 b hb).2.1, (f2 b hb).2.2.2.2.1, (f2 b hb).2.2.2.2.2⟩
      have hCf : H4 G2.objs.size = none := I5.free
      have hCL : G2.objs.size ≠ X.env.locals := Ne.symm (below _ I2.lt)
      have hCc : ∀ x c, X.env.cells.lookup x = some c → c ≠ G2.objs.size := fun x c e => by
        obtain ⟨v', o', e', _⟩ := I2.cell x c e
        exact below _ (Heap.lt_size e')
      refine wpAny_assign_Name (store_ok2 IE hN hiy (.inl hy) (show RelV (.ref s2.heap.objs.size) (.ref s2.heap.objs.size) from rfl) (fun s6 I6 ⟨a6, sb6, ha6⟩ => ?_) (.inr hy))
      have nea : G2.objs.size ≠ a6 := by
        rcases ha6 with z | z
        · rw [z]; exact hCL
        · exact Ne.symm (hCc _ _ z)
      refine ⟨m5, n5.sameBut sb6 nea, fun h' sb' => ⟨_, H4, ?_, qn⟩⟩
      have := I6.turned (h' := h') (t' := s6.toks) (it := G2.objs.size) (fun b o ne e => (sb'.2 b ne).trans e) hCf hCL (.inr (Nat.le_trans I2.sz hC0)) hCc (fun p hp => below _ (Heap.lt_size (I2.pin p hp).1))
      exact this
    · refine thn (T.item (compCx X N scope G2.objs.size s2 H2 fp) rfl rfl rfl hcalm i [] s4 σ4 H4 (fun _ _ => False) I4 (stat fr4) st4 go) fun r s5 ⟨u, hr, h5⟩ => ?_
      subst hr
      refine thn h5 fun _ s6 ⟨x, H6, I6, r6, y6, st6, fr6⟩ => ?_
      have I6' := I6.pinned (stat fr6) (T.obj _ _ st6)
      refine thn (hg _ _ _ _ _ s6 σ4 H6 x u _ I6' r6 (step x H6 y6)) fun _ s7 ⟨σ7, H7, I7, q7⟩ => ?_
      refine thn (ht _ _ _ _ _ s7 σ7 H7 _ I7 q7) fun b s8 ⟨H8, I8, q8⟩ => ?_
      have again : ∀ {s9 : Shared} {H9 : Hp}, Inv (compCx X N scope G2.objs.size s2 H2 fp) ([] ++ pinsAt fp s6.heap) σ7 H9 s9 → (∃ m', m' < n ∧ W (i + 1) m' σ7 H9) → ∃ m, m < n ∧ ∃ i σ' H', Inv (compCx X N scope G2.objs.size s2 H2 fp) [] σ' H' s9 ∧ tn i s9.heap ∧ (∀ b ∈ fp, H' b = none) ∧ W i m σ' H' := fun {s9 H9} I9 ⟨m', hm, w9⟩ => by
        refine ⟨m', hm, i + 1, σ7, H9, I9.unpinned, T.keep _ _ _ st6 fun b hb o e => (I9.pin (b, o) (List.mem_append_right _ (List.mem_append_right _ (mem_pinsAt hb e)))).1, fun b hb => ?_, w9⟩
        obtain ⟨o, e, d⟩ := T.obj _ _ st6 b hb
        exact (I9.pin (b, o) (List.mem_append_right _ (List.mem_append_right _ (mem_pinsAt hb e)))).2.1
      cases b with
      | false =>
        rw [if_neg Bool.false_ne_true] at q8 ⊢
        exact again I8 q8
      | true =>
        rw [if_pos rfl] at q8 ⊢
        refine thn (he _ _ _ _ _ s8 σ7 H8 _ I8 q8) fun xv s9 ⟨xx, H9, I9, r9, q9⟩ => ?_
        refine thn (mt_append _ s9 σ7 H9 (.ref s2.heap.objs.size) [xx] (.ref s2.heap.objs.size) [xv] _ I9 rfl (.cons r9 .nil) q9) fun _ s10 ⟨_, H10, I10, _, q10⟩ => ?_
        exact again I10 q10
  exact codeAny_compStart_list (loop _ rfl) (T.self _ _ _ _ _ (T.keep 0 _ _ st2 fun b _ o e => old b o e) (loop _ rfl))
end L2
set_option Elab.async false
set_option linter.all false
set_option maxRecDepth 100000
namespace L2
open PySem PySem.Spec PyProof.Rows PySem.W
section
variable {X : Cx}
theorem boot_all' : bootBuiltins "all" = some (.builtin "all") := by decide +kernel
noncomputable def rAll (K : Frag) : List V → Hp → VK → Prop := fun xs H Q => ∃ (p : Addr) (bs : List Bool), xs = [.ref p] ∧ SqL K H p (bs.map V.bl) ∧ Q (.bl (bs.all id)) H
theorem bl_at {bs : List Bool} {us : List Value} (r : Vals (bs.map V.bl) us) : us = bs.map Value.bool := by
  induction bs generalizing us with
  | nil => cases r; rfl
  | cons b t ih =>
    cases r with
    | cons h t' =>
      rw [ih t']
      cases h
      rfl
theorem range_allB : ∀ (bs : List Bool), ((List.range bs.length).all fun i => (bs[i]?).getD true) = bs.all id := fun bs => by
  rw [Bool.eq_iff_iff, List.all_eq_true, List.all_eq_true]
  constructor
  · intro h b hb
    obtain ⟨i, hi, e⟩ := List.mem_iff_getElem.mp hb
    have := h i (List.mem_range.mpr hi)
    rw [List.getElem?_eq_getElem hi, e] at this
    exact this
  · intro h i hi
    have hi := List.mem_range.mp hi
    rw [List.getElem?_eq_getElem hi]
    exact h _ (List.getElem_mem hi)
theorem call_allL (hc : X.calm = true) : CallR X (.builtin "all") (rAll X.K) := by
  intro pins s σ H xs us Q I r h
  obtain ⟨p, bs, rfl, hs, q⟩ := h
  obtain ⟨u, rfl, ru⟩ := r.one
  cases ru
  obtain ⟨its, rv, pl, hz⟩ := I.list hs
  have e := bl_at rv
  subst e
  have hl := pl.isList
  have hlt : p < s.heap.objs.size := by obtain ⟨_, e, _⟩ := hl; exact Heap.lt_size e
  refine call_all_walk (wpAny_pyIter_list hl ?_)
  refine ⟨s.heap.objs.size, [s.heap.objs.size, p], [s.heap.objs.size], (bs.map Value.bool).toArray.size, _, _, fun i => (bs[i]?).getD true, rfl, Walks.list (A := X.A.in1) (I.ok.hd hc) _ p (Nat.ne_of_lt hlt) (bs.map Value.bool).toArray,
    ⟨⟨_, Heap.get?_push_size _ rfl, rfl, rfl⟩, hl.push _⟩, fun i v s' Q' E' hP hQ => ?_, fun h' tk hk => ?_⟩
  · have hP' : (bs.map Value.bool)[i]? = some v := by simpa using hP
    rw [List.getElem?_map] at hP'
    cases eb : bs[i]? with
    | none => rw [eb] at hP'; cases hP'
    | some b =>
      rw [eb] at hP'
      cases hP'
      simp only [eb, Option.getD_some] at hQ
      exact wpAny_truthy_bool hQ
  · have e : ((List.range (bs.map Value.bool).toArray.size).all fun i => (bs[i]?).getD true) = bs.all id := by
      rw [List.size_toArray, List.length_map]; exact range_allB bs
    rw [e]
    exact ⟨.bl _, H, I.kept (h' := h') (t' := tk) (fun b x e => hk b x (fun hm => by rw [List.mem_singleton.mp hm] at e; exact Nat.lt_irrefl _ (Heap.lt_size e)) (Heap.get?_push_of_some _ e)), rfl, q⟩
end
end L2
set_option Elab.async false
set_option linter.all false
set_option maxRecDepth 100000
namespace L2
open PySem PySem.Spec PyProof.Rows PySem.W
section
variable {X : Cx}
end
end L2
namespace PH
open PySem L2 PySem.W
end PH
set_option Elab.async false
set_option linter.all false
namespace PH
noncomputable def lcp : List Int → List Int → Nat
  | x :: a, y :: b => if x = y then lcp a b + 1 else 0
  | _, _ => 0
noncomputable def tal (t : List Int) (b a : Nat) : Nat := lcp (t.drop b) (t.drop a)
noncomputable def lng (t : List Int) (a : Nat) : Nat → Nat × Nat
  | 0 => (a, 0)
  | n + 1 => if (lng t a n).2 ≤ tal t n a then (n, tal t n a) else lng t a n
noncomputable def cpl (t : List Int) (a : Nat) : Nat := (lng t a a).2
end PH
set_option Elab.async false
set_option linter.all false
set_option maxRecDepth 100000
set_option maxHeartbeats 4000000
namespace PH
open PySem L2 PySem.W
theorem gNz {i : Nat} {v v' : V} {σ : St} {H : Hp} {Q : St → Hp → Prop} (e : v' = v) (h : gName i v' σ H Q) : gName i v σ H Q := by
  subst e; exact h
theorem at_intsZ {ns : List Int} {i : Nat} {z : Int} (h : ns[i]? = some z) : atI (ns.map V.int) (i : Int) = some (.int z) := atI_nat (by rw [List.getElem?_map, h]; rfl)
inductive Pce where
  | sg (s : Int)
  | cp (b n : Int)
noncomputable def pO : Pce → HO
  | .sg s => .tup [.str "sign", .int s]
  | .cp b n => .tup [.str "copy", .int b, .int n]
structure Tel (H : Hp) (p : Addr) (zs : List (Addr × Pce)) : Prop where
  at_ : H p = some (.lst (zs.map fun z => V.ref z.1))
  each : ∀ z ∈ zs, H z.1 = some (pO z.2)
theorem Tel.ne {H : Hp} {p : Addr} {zs : List (Addr × Pce)} (h : Tel H p zs) : ∀ z ∈ zs, z.1 ≠ p := fun z hz e => by
  have h1 := h.each z hz
  rw [e, h.at_] at h1
  cases hz2 : z.2 <;> rw [hz2] at h1 <;> cases h1
noncomputable def spWh : Sp := fun vs H Q _ => ∃ n : Int, vs = [.int n] ∧ Q (.bl true) H
noncomputable def spCellAt (K : Frag) : Sp := fun vs H Q _ => ∃ (a : Addr) (ns : List Int) (k : Nat), vs = [.ref a, .int (k : Int)] ∧ SqL K H a (ns.map V.int) ∧ ∀ x : Int, Q (.int x) H
end PH
set_option Elab.async false
set_option linter.all false
namespace PH
end PH
set_option Elab.async false
set_option linter.all false
set_option maxRecDepth 100000
set_option maxHeartbeats 4000000
namespace PH
open PySem L2 PySem.W
end PH
set_option Elab.async false
set_option linter.all false
set_option maxRecDepth 100000
namespace L2
open PySem PySem.Spec PyProof.Rows PySem.W
section
variable {X : Cx}
end
end L2
namespace L2
open PySem PySem.Spec PyProof.Rows PySem.W
section
variable {prog : Program} {w : World} {A : Around} {E : Value → Shared → Prop} {s : Shared}
theorem draw_listL {it l : Addr} {items : Array Value} (hne : l ≠ it) : ∀ (n i : Nat) (s : Shared) (Q : List Value → Shared → Prop), s.heap.IsListIter it l i → s.heap.IsList l items → i + n ≤ items.size →
    (∀ h', h'.IsListIter it l (i + n) → Heap.SameBut it s.heap h' → Q ((items.toList.drop i).take n) { s with heap := h' }) → wpAny (model prog w) A (draw (.ref it) n) Q E s
  | 0, i, s, Q, hit, _, _, hQ => by
    show wpAny _ _ (pure []) Q E s
    exact wpAny_pure (by simpa using hQ s.heap hit (Heap.SameBut.refl ..))
  | n + 1, i, s, Q, hit, hl, hle, hQ => by
    have hlt : i < items.size := by trivial
    show wpAny _ _ (pyNext (.ref it) >>= _) Q E s
    refine wpAny_bind (wpAny_pyNext_list_item hit hl (x := items[i]) (by simp [hlt]) fun h₁ hit₁ hs₁ => ?_)
    refine wpAny_bind (wpAny_holding (draw_listL hne n (i + 1) _ _ hit₁ (hl.at fun o e => (hs₁.2 l hne).trans e) (by trivial) fun h₂ hit₂ hs₂ => wpAny_pure ?_))
    have hd : items.toList.drop i = items[i] :: items.toList.drop (i + 1) := by simp [List.drop_eq_getElem_cons, hlt]
    have := hQ h₂ (by rw [show i + (n + 1) = i + 1 + n by trivial]; exact hit₂) (hs₁.trans hs₂)
    rw [hd, List.take_succ_cons] at this
    exact this
theorem unpackItems_listL {l : Addr} {items : Array Value} {Q : List Value → Shared → Prop} (hh : A.handled = none) (hl : s.heap.IsList l items)
    (hQ : ∀ h', Heap.ExtBut s.heap.objs.size s.heap h' → Q items.toList { s with heap := h' }) : wpAny (model prog w) A (unpackItems (.ref l) items.size none) Q E s := by
  have hlt : l ≠ s.heap.objs.size := by obtain ⟨o, ho, _⟩ := id hl; exact Nat.ne_of_lt (Heap.lt_size ho)
  have hty : s.TypeIs (.ref l) "list" := by obtain ⟨o, ho, hc, _⟩ := id hl; exact ⟨o, ho, hc⟩
  unfold unpackItems
  refine wpAny_bind ?_
  · unfold notIterableAtAll
    refine wpAny_bind (wpAny_specialOf hty slot_list_iter.lookup ?_)
    refine wpAny_pure ?_
    simp only [Bool.false_eq_true, if_false]
    refine wpAny_bind (wpAny_holding (wpAny_pyIter_list hl ?_))
    have hl1 : (s.heap.push { cls := .type "list_iterator", data := .fields #[.ref l, .int 0 0] }).IsList l items := hl.at fun o e => Heap.get?_push_of_some _ e
    refine wpAny_bind (wpAny_holding (draw_listL hlt items.size 0 _ _ ⟨_, Heap.get?_push_size _ rfl, rfl, rfl⟩ hl1 (by trivial) fun h₁ hit₁ hs₁ => ?_))
    have hall : List.take items.size (List.drop 0 items.toList) = items.toList := by
      rw [List.drop_zero]; exact List.take_of_length_le (by simp)
    rw [hall]
    rw [if_neg (by simp)]
    have hl₁ : h₁.IsList l items := hl1.at fun o e => (hs₁.2 l hlt).trans e
    refine wpAny_bind (wpAny_holding (wpAny_pyNext_list_end hh hit₁ hl₁ (by simp) fun h₂ he₂ => ?_))
    simp only [Option.isSome_none, Bool.false_eq_true, if_false]
    refine wpAny_pure (hQ h₂ fun b o hb e => he₂ b o hb (hs₁.extBut b o hb (Heap.get?_push_of_some _ e)))
theorem assign_Tuple_listL {env : Env} {elts : List Expr} {x1} {pos : Pos} {l : Addr} {items : Array Value} {Q : Unit → Shared → Prop} (hh : A.handled = none) (hl : s.heap.IsList l items)
    (hn : (assignEach elts env).length = items.size) (hstar : (assignEach elts env).findIdx? (·.1) = none)
    (h : ∀ h', Heap.ExtBut s.heap.objs.size s.heap h' → wpAny (model prog w) A (assignInOrder ((assignEach elts env).map (·.2)) items.toList) Q E { s with heap := h' }) :
    wpAny (model prog w) A (assign (.Tuple elts x1 pos) env (.ref l)) Q E s := by
  rw [assign_Tuple]
  refine wpAny_bind (wpAny_standAt ?_)
  unfold unpack
  rw [hn, hstar]
  exact wpAny_bind (wpAny_holding (unpackItems_listL hh hl h))
end
section
variable {X : Cx} {pos : Pos}
noncomputable def gLst (K : PySem.W.Frag) (n : Nat) (t : TGs) : TG := fun v σ H Q => ∃ a xs, v = .ref a ∧ SqL K H a xs ∧ xs.length = n ∧ t xs σ H Q
theorem pg_lst {es : List Expr} {k : Nat} {t : TGs} {n : Nat} (hc : X.calm = true) (h : PGs X es t)
    (hn : (assignEach es X.env).length = n := by rfl) (hst : (assignEach es X.env).findIdx? (·.1) = none := by rfl) : PG X (.Tuple es k pos) (gLst X.K n t) := by
  intro pins s σ H v u Q I r hw
  obtain ⟨a, xs, e1, hq, hl, hw⟩ := hw
  subst e1
  cases r
  obtain ⟨its, rv, ht, hz⟩ := I.list hq
  refine assign_Tuple_listL (I.ok.hd hc) ht.isList (by simp [hn, ← hl, rv.length]) hst fun h' hx => ?_
  have I1 : Inv X pins σ H { s with heap := h' } := I.kept (t' := s.toks) fun b o e => hx b o (Nat.ne_of_lt (Heap.lt_size e)) e
  exact h pins _ σ H xs _ Q I1 (by simpa using rv) hw
end
end L2
set_option Elab.async false
set_option linter.all false
set_option maxRecDepth 100000
set_option maxHeartbeats 4000000
namespace PH
open PySem L2 PySem.W
noncomputable def Stp (t : List Int) (a : Nat) : Pce → Nat → Prop
  | .sg s, a' => t[a]? = some s ∧ a' = a + 1
  | .cp b n, a' => ∃ k m : Nat, b = (k : Int) ∧ n = (m : Int) ∧ 1 ≤ k ∧ k ≤ a ∧ 1 ≤ m ∧ m ≤ tal t (a - k) a ∧ a' = a + m
noncomputable def Chn (t : List Int) : Nat → List Pce → Prop
  | a, [] => a = t.length
  | a, p :: r => ∃ a', Stp t a p a' ∧ Chn t a' r
noncomputable def nx : Pce → Nat
  | .sg _ => 0
  | .cp _ n => n.toNat
noncomputable def lgB (t : List Int) : Nat → List Pce → Bool
  | _, [] => true
  | _, [_] => true
  | a, p :: q :: r => decide (cpl t a ≤ nx p) && lgB t (a + max 1 (nx p)) (q :: r)
noncomputable def LSg (mg : Str → Option Value) : Prop := ∃ u, mg "LAST_SIGN" = some u ∧ RelV (.int 255) u
structure Sofar (t : List Int) (a : Nat) (ps : List Pce) (lg : Bool) : Prop where
  ch : ∀ r, Chn t a r → Chn t 0 (ps ++ r)
  on : a < t.length → ∀ q r, lgB t 0 (ps ++ q :: r) = (lg && lgB t a (q :: r))
  en : a = t.length → lgB t 0 ps = lg
end PH
set_option Elab.async false
set_option linter.all false
set_option maxRecDepth 100000
namespace L2
open PySem PySem.Spec PyProof.Rows PySem.W
section
variable {X : Cx} {pins : List (Addr × Obj)} {σ : St} {H : Hp} {s : Shared}
theorem Inv.turned2L {h' : Heap} {t' : Nat} {i1 i2 a : Addr} {o : HO} (I : Inv X pins σ H s) (k : ∀ b o, b ≠ i1 → b ≠ i2 → s.heap.get? b = some o → h'.get? b = some o) (f1 : FpOk X pins H i1) (f2 : FpOk X pins H i2)
    (hp : s.heap.objs.size ≤ a) (new : ObjOk X.prog X.w (upd H a o) h' a o) : Inv X pins σ (upd H a o) { s with heap := h', toks := t' } := by
  obtain ⟨a0, a1, a2, a3, a4, a5⟩ := f1
  obtain ⟨b0, b1, b2, b3, b4, b5⟩ := f2
  have n1 : ∀ b u, H b = some u → b ≠ i1 := fun b u e z => by rw [z, a0] at e; cases e
  have n2 : ∀ b u, H b = some u → b ≠ i2 := fun b u e z => by rw [z, b0] at e; cases e
  have hn : H a = none := I.hok.fresh hp
  refine I.step (g' := s.gens) (d' := s.drawn) (ch := [i1, i2]) (fun b hb => ?_) (fun b o _ _ hc e _ => k b o (fun z => hc (by simp [z])) (fun z => hc (by simp [z])) e) (fun b o _ _ hc e _ => ⟨o.slots, k b o (fun z => hc (by simp [z])) (fun z => hc (by simp [z])) e⟩) (fun b u _ q n => ?_)
    (fun b o hc e => ⟨o, k b o (fun z => hc (by simp [z])) (fun z => hc (by simp [z])) e⟩) (fun b xs q => by rw [upd_ne (ne_of_none q hn)]; exact q) (fun b u xs q => by rw [upd_ne (ne_of_none q hn)]; exact q) (fun b ps q => ⟨#[], by rw [upd_ne (ne_of_none q hn), q]; simp⟩) (fun m hm => ?_) (fun b u e => ?_) I.bare
  · have e : b = i1 ∨ b = i2 := by simpa using hb
    rcases e with e | e
    · subst e
      exact ⟨a3, a1, a4, a5⟩
    · subst e
      exact ⟨b3, b1, b4, b5⟩
  · rw [upd_ne (Nat.ne_of_lt (Nat.lt_of_lt_of_le (Heap.lt_size q) hp))]; exact n
  · obtain ⟨o, es, ep, ho, r⟩ := hm
    exact ⟨o, es, ep, k _ o (Ne.symm a1) (Ne.symm b1) ho, r⟩
  · by_cases hb : b = a
    · subst hb
      rw [upd_same] at e
      cases e
      exact new
    · rw [upd_ne hb] at e
      refine (I.hok b u e).stay (fun c v hc q => k c v ?_ ?_ q) (fun c q => by rw [upd_ne (ne_of_none q hn)]; exact q) fun c xs q => by rw [upd_ne (ne_of_none q hn)]; exact q
      · rcases hc with z | z
        · rw [z]; exact n1 b u e
        · exact n1 c _ z
      · rcases hc with z | z
        · rw [z]; exact n2 b u e
        · exact n2 c _ z
noncomputable def Ite (K : Frag) (a : Addr) : It :=
  ⟨fun i H => ∃ xs x, SqL K H a xs ∧ xs[i]? = some x, fun i H x H' => ∃ t y, x = .ref t ∧ H t = none ∧ H' = upd H t (.tup [.int (i : Nat), y]) ∧ ∀ xs, SqL K H a xs → xs[i]? = some y, fun i H => ∃ xs, SqL K H a xs ∧ xs.length ≤ i⟩
theorem turn_enum {P : Program} {w : World} {K : Frag} {elts : List Expr} {x1} {pos : Pos} (a e it : Addr) : Turn P w K (.Tuple elts x1 pos) (Ite K a) [e, it] e (fun i h => (∃ old, IsEnum h e it ((i : Nat) : Int) old) ∧ h.IsListIter it a i ∧ e ≠ it) where
  mem := by simp
  obj := fun i h st b hb => by
    obtain ⟨⟨old, he⟩, ⟨o, ho, c, d⟩, _⟩ := st
    have e' : b = e ∨ b = it := by simpa using hb
    rcases e' with rfl | rfl
    · exact ⟨_, he, fun v z => by cases z⟩
    · exact ⟨o, ho, fun v z => by rw [d] at z; cases z⟩
  keep := fun i h h' st k => by
    obtain ⟨⟨old, he⟩, hi, hne⟩ := st
    exact ⟨⟨old, k e (by simp) _ he⟩, hi.at fun o q => k it (by simp) o q, hne⟩
  item := by
    intro X hP hw hK hc i pins s σ H E I hf st hg
    subst hP hw hK
    obtain ⟨xs, x, hq, hx⟩ := hg
    obtain ⟨⟨old, he⟩, hi, hne⟩ := st
    obtain ⟨its, rv, p, hz⟩ := I.list hq
    obtain ⟨u, hu, ru⟩ := rv.get hx
    have fe := hf e (by simp)
    have fi := hf it (by simp)
    have hel : e < s.heap.objs.size := Heap.lt_size he
    have hil : it < s.heap.objs.size := by obtain ⟨_, q, _⟩ := id hi; exact Heap.lt_size q
    refine wpAny_pyNext_enum_item he hi p.isList (x := u) (by simpa using hu) hne fun h' ho hi' hT hsz hk => ?_
    refine ⟨_, rfl, wpAny_letOwnedTupleGo_enum ho fun h2 he2 hs2 => ?_⟩
    have hfr : H s.heap.objs.size = none := I.hok.fresh (Nat.le_refl _)
    have hT2 : h2.get? s.heap.objs.size = some { cls := .type "tuple", data := .seq #[.int i s.toks, u] } := (hs2.2 _ (Nat.ne_of_gt hel)).trans hT
    have k2 : ∀ b o, b ≠ e → b ≠ it → s.heap.get? b = some o → h2.get? b = some o := fun b o n1 n2 q => (hs2.2 b n1).trans (hk b o n1 n2 q)
    have I2 : Inv X pins σ (upd H s.heap.objs.size (.tup [.int (i : Nat), x])) { s with heap := h2, toks := s.toks + 1 } :=
      I.turned2L k2 fe fi (Nat.le_refl _) (show ObjOk X.prog X.w _ h2 _ (.tup [.int (i : Nat), x]) from ⟨by show 2 ≤ sizeLine; decide, [.int i s.toks, u], .cons ⟨_, rfl⟩ (.cons ru .nil), ⟨_, hT2, rfl, _, rfl⟩⟩)
    refine ⟨.ref s.heap.objs.size, _, I2, rfl, ⟨_, x, rfl, hfr, rfl, fun ys hy => by rw [I.list_inj hy hq]; exact hx⟩, ⟨⟨_, by simpa using he2⟩, hi'.at fun o q => (hs2.2 it hne.symm).trans q, hne⟩, fun b hb => ?_⟩
    have e' : b = e ∨ b = it := by simpa using hb
    rcases e' with rfl | rfl
    · rw [upd_ne (Nat.ne_of_lt hel)]; exact fe.1
    · rw [upd_ne (Nat.ne_of_lt hil)]; exact fi.1
  done := by
    intro X hP hw hK hc i pins s σ H E I hf st hg
    subst hP hw hK
    obtain ⟨xs, hq, hx⟩ := hg
    obtain ⟨⟨old, he⟩, hi, hne⟩ := st
    obtain ⟨its, rv, p, hz⟩ := I.list hq
    obtain ⟨f0, f1, f2, f3, f4, f5⟩ := hf it (by simp)
    have hl := rv.length
    exact wpAny_pyNext_enum_end (I.ok.hd hc) he hi p.isList (by simp; trivial) fun h' eb => ⟨rfl, I.turned (t' := s.toks) (fun b o hb e => eb b o hb e) f0 f1 f3 f4 f5⟩
  self := fun _ _ _ _ _ st h => by
    obtain ⟨⟨old, he⟩, _⟩ := st
    exact wpAny_pyIter_enum he h
noncomputable def iEnum (K : Frag) (ta : TA) : TI := fun σ H R => ta σ H fun vs H1 => ∃ a, vs = [.ref a] ∧ (∃ xs, SqL K H1 a xs) ∧ R (Ite K a) H1
theorem pi_enum {elts : List Expr} {x1} {p' : Pos} {a : Expr} {ta : TA} {p pos : Pos} (hg : Gl X "enumerate") (hm : X.mg "enumerate" = none) (ha : PA X [a] ta) (hs : starEach [a] X.env = [(false, eval a X.env)] := by rfl) :
    PI X (.Tuple elts x1 p') (.Call (.Name "enumerate" p) [a] [] pos) (iEnum X.K ta) := by
  intro pins s σ H R I h
  refine Call_ (ld_blt I hg hm boot_enumerate (PyProof.Rows.callWith_type1 (thn (ha pos pins s σ H _ I h) fun us s1 ⟨vs, H1, I1, r1, q1⟩ => ?_) hs rfl))
  obtain ⟨a, e, ⟨xs, hq⟩, q⟩ := q1
  subst e
  cases r1 with
  | cons r rr =>
    cases rr
    cases r
    obtain ⟨its, rv, p, hz⟩ := I1.list hq
    refine call_enumerate_list p.isList fun h' he hit hsz hk => ?_
    refine wpAny_pyIter_enum he ?_
    refine ⟨_, [s1.heap.objs.size + 1, s1.heap.objs.size], _, Ite X.K a, H1, rfl, I1.kept (t' := s1.toks) hk, turn_enum a _ _, ⟨⟨_, he⟩, hit, Nat.succ_ne_self _⟩, fun b hb => ?_, q⟩
    have e : b = s1.heap.objs.size + 1 ∨ b = s1.heap.objs.size := by simpa using hb
    have hle : s1.heap.objs.size ≤ b := by
      rcases e with e | e
      · rw [e]; exact Nat.le_succ _
      · rw [e]; exact Nat.le_refl _
    exact I1.fpOk hle (I1.hok.fresh hle)
theorem vals_of : ∀ {xs : List V} {us : List Value}, xs.length = us.length → (∀ (i : Nat) x u, xs[i]? = some x → us[i]? = some u → RelV x u) → Vals xs us
  | [], [], _, _ => .nil
  | [], _ :: _, h, _ => by cases h
  | _ :: _, [], h, _ => by cases h
  | x :: xs, u :: us, h, r => .cons (r 0 x u rfl rfl) (vals_of (Nat.succ.inj h) fun i y w e1 e2 => r (i + 1) y w e1 e2)
end
end L2
set_option Elab.async false
set_option linter.all false
set_option maxRecDepth 100000
namespace HT
open PySem PyProof.Rows
open AutoSeq1 (wpAny_loadPart')
open MeetsSeq MeetsSeq3 SeqAt
section
variable {prog : Program} {w : World} {A : Around} {E : Value → Shared → Prop} {s : Shared}
end
end HT
namespace L2
open PySem PySem.Spec PyProof.Rows PySem.W
section
variable {X : Cx}
end
end L2
set_option Elab.async false
set_option linter.all false
set_option maxRecDepth 100000
namespace L2
open PySem PySem.Spec PyProof.Rows PySem.W PySem.Calls Att
open PySem.Builtin.Int (intBits)
section
variable {X : Cx}
end
end L2
set_option Elab.async false
set_option linter.all false
set_option maxRecDepth 100000
namespace L2
open PySem PySem.Spec PyProof.Rows PySem.W
section
variable {X : Cx}
end
end L2
set_option Elab.async false
set_option linter.all false
set_option maxRecDepth 100000
set_option maxHeartbeats 4000000
namespace PH
open PySem L2 PySem.W
end PH
set_option Elab.async false
set_option linter.all false
set_option maxRecDepth 100000
namespace L2
open PySem PySem.Spec PyProof.Rows PySem.W
section
variable {X : Cx}
end
end L2
set_option Elab.async false
set_option linter.all false
set_option maxRecDepth 100000
set_option maxHeartbeats 4000000
namespace L2
open PySem PySem.Spec PyProof.Rows PySem.W
section
variable {X : Cx}
noncomputable def rSum (K : Frag) : List V → Hp → VK → Prop := fun xs H Q => ∃ (p : Addr) (ns : List Int), xs = [.ref p] ∧ SqL K H p (ns.map V.int) ∧ Q (.int ns.sum) H
theorem call_sum (hc : X.calm = true) : CallR X (.builtin "sum") (rSum X.K) := by
  intro pins s σ H xs us Q I r h
  obtain ⟨p, ns, rfl, hs, q⟩ := h
  obtain ⟨u, rfl, rx⟩ := vals1 r
  cases rx
  obtain ⟨its, r', pl, hz⟩ := I.list hs
  have hi := vals_intsAre r'
  have hn := hi.numsOf
  obtain ⟨ys, hy⟩ := hi.allInts.items
  refine sum_intListG (I.ok.hd hc) (l := p) (xs := ys) (by rw [← hy]; exact pl.isList) fun h' tk t' hk => ?_
  have e : preSum (numAt ys) ys.size = ns.sum := by
    have e1 := nums_intItems (xs := ys)
    rw [← hy] at e1
    rw [preSum_eq, List.take_of_length_le (by simp)]
    rw [← hn]
    exact congrArg List.sum e1.symm
  rw [e]
  exact ⟨.int ns.sum, H, I.kept hk, ⟨_, rfl⟩, q⟩
end
end L2
namespace PH
open PySem L2 PySem.W
theorem boot_sum' : bootBuiltins "sum" = some (.builtin "sum") := by decide +kernel
structure ExK (K : Frag) (cN c1 c2 c3 c4 c5 c6 : Addr) : Prop where
  k1 : kitOne K (.ref cN) (.ref c1) = some false
  k2 : kitOne K (.ref cN) (.ref c2) = some false
  k3 : kitOne K (.ref cN) (.ref c3) = some false
  k4 : kitOne K (.ref cN) (.ref c4) = some false
  k5 : kitOne K (.ref cN) (.ref c5) = some false
  k6 : kitOne K (.ref cN) (.ref c6) = some false
end PH
set_option Elab.async false
set_option linter.all false
set_option maxRecDepth 100000
set_option maxHeartbeats 4000000
namespace PH
open PySem L2 PySem.W
end PH
set_option Elab.async false
set_option linter.all false
set_option maxRecDepth 100000
namespace L2
open PySem PySem.Spec PyProof.Rows PySem.W
end L2
set_option Elab.async false
set_option linter.all false
set_option maxRecDepth 100000
set_option maxHeartbeats 4000000
namespace PH
open PySem L2 PySem.W
theorem Tel.set {H : Hp} {p t : Addr} {zs : List (Addr × Pce)} {c : Pce} {j : Nat} (h : Tel H p zs) (ht : H t = some (pO c)) : Tel (upd H p (.lst ((zs.map fun z => V.ref z.1).set j (V.ref t)))) p (zs.set j (t, c)) := by
  have hne : ∀ z ∈ zs.set j (t, c), z.1 ≠ p ∧ H z.1 = some (pO z.2) := fun z hz => by
    rcases List.mem_or_eq_of_mem_set hz with q | q
    · exact ⟨h.ne z q, h.each z q⟩
    · subst q
      refine ⟨fun e => ?_, ht⟩
      have e' : t = p := e
      rw [e', h.at_] at ht
      cases c <;> cases ht
  refine ⟨by rw [upd_same, List.map_set], fun z hz => ?_⟩
  rw [upd_ne (hne z hz).1]
  exact (hne z hz).2
end PH
set_option Elab.async false
set_option linter.all false
set_option maxRecDepth 100000
namespace L2
open PySem PySem.Spec PyProof.Rows PySem.W
theorem lriLen : typeLookup (.type "list_reverseiterator") "__len__" = pure none := by
  rw [typeLookup_type, builtinLookup_eq_fast]
  kernel_rfl
theorem lriHint : typeLookup (.type "list_reverseiterator") "__length_hint__" = pure (some (.builtin "list_reverseiterator.__length_hint__")) := by
  rw [typeLookup_type, builtinLookup_eq_fast]
  kernel_rfl
theorem lriSub : isSubtype (.type "list_reverseiterator") (.type "list_reverseiterator") = pure true := by
  rw [isSubtype_type]
  kernel_rfl
section
variable {pg : Program} {w : World} {B : Around} {E : Value → Shared → Prop} {s : Shared}
theorem hintRev {r l : Addr} {i : Int} {Q : Bool → Shared → Prop} (y : s.heap.IsRevIter r l i) (q : Q false s) : wpAny (model pg w) B (Builtin.List.listLengthHint (.ref r)) Q E s := by
  unfold Builtin.List.listLengthHint
  refine wpAny_bind (wpAny_specialOf y.typeIs lriLen ?_)
  show wpAny _ B (specialOf (Value.ref r) (Str.ofString "__length_hint__") >>= _) _ _ s
  refine wpAny_bind (wpAny_specialOf y.typeIs lriHint ?_)
  generalize e0 : ("list_reverseiterator.__length_hint__" : String) = nm
  wp_delta
  rw [show splitId nm = some ("list_reverseiterator", "__length_hint__") from by subst e0; decide +kernel]
  subst e0
  refine wpAny_bind (wpAny_isInstance (T := "list_reverseiterator") (b := true) y.typeIs lriSub ?_)
  refine wpAny_ite_split (fun c => absurd c (by decide)) (fun _ => ?_)
  refine wpAny_ite_split (fun _ => ?_) (fun c => absurd (by decide +kernel) c)
  refine wpAny_ite_split (fun c => absurd c (by decide +kernel)) (fun _ => ?_)
  exact wpAny_pure q
noncomputable def RevAt (items : Array Value) : Nat → Value → Prop := fun j x => items[items.size - 1 - j]? = some x
theorem extRev {R : Result → Shared → Prop} {r l D : Addr} {items : Array Value} {out : Value} {c0 : Nat} (hB : B.handled = none) (y : s.heap.IsRevIter r l ((items.size : Int) - 1)) (hl : s.heap.IsList l items) (n1 : l ≠ r) (n2 : D ≠ r) (n3 : D ≠ l)
    (hz : items.size ≤ sizeLine) (hD : s.heap.get? D = some { cls := .type "list", data := .seq #[] c0 })
    (k : ∀ s2 ys c2, Moved (D :: [r]) (fun a b => b = a) s s2 → s2.heap.get? D = some { cls := .type "list", dict := none, data := .seq ys c2, slots := #[] } → ItemsOf (RevAt items) ys items.size → R (.ok (.ret out)) s2) :
    wpAny (model pg w) B.in1 (Builtin.List.listExtendWith (.ref D) (.ref r) out)
      (fun z s2 => match z with | .done f => R (.ok f) s2 | .again d => d.quiet = true ∧ codeAny (model pg w) B d R s2) (fun e s2 => R (.error e) s2) s := by
  have WS := (Walks.listRev (prog := pg) (w := w) (A := B.in1) hB r l n1 items).toS
  have off : D ∉ [r, l] := fun m => by
    rcases List.mem_cons.mp m with e | m
    · exact n2 e
    · exact n3 (List.mem_singleton.mp m)
  unfold Builtin.List.listExtendWith
  refine wpAny_bind (wpAny_typeOf y.typeIs ?_)
  have f1 : Builtin.List.listSameRef (.ref D) (.ref r) = false := by simp [Builtin.List.listSameRef, n2]
  have f2 : (Value.type "list_reverseiterator" == Value.type "list") = false := by decide
  have f3 : (Value.type "list_reverseiterator" == Value.type "tuple") = false := by decide
  simp only [f1, f2, f3, Bool.or_false, Bool.false_eq_true, if_false]
  refine wpAny_bind (wpAny_pyIter_revIter y ?_)
  refine wpAny_bind (wpAny_holding (hintRev y ?_))
  refine wpAny_ite_split (fun c => absurd c (by decide +kernel)) (fun _ => ?_)
  refine wpAny_pure ⟨plainId_quiet F.plain_extend_loop _, ?_⟩
  refine codeAny_extend_loopS WS hz D off out items.size 0 _ #[] c0 rfl (Nat.zero_le _) ⟨Nat.zero_le _, ?_, hl⟩ hD (ItemsOf.nil _) fun s2 ys c2 m g it => k s2 ys c2 m g it
  rw [show (items.size : Int) - 1 - ((0 : Nat) : Int) = (items.size : Int) - 1 by trivial]
  exact y
theorem initRev {R : Result → Shared → Prop} {r l D : Addr} {items : Array Value} (hB : B.handled = none) (y : s.heap.IsRevIter r l ((items.size : Int) - 1)) (hl : s.heap.IsList l items) (n1 : l ≠ r) (n2 : D ≠ r) (n3 : D ≠ l)
    (hz : items.size ≤ sizeLine) (hD : s.heap.get? D = some { cls := .type "list", data := .seq #[] })
    (k : ∀ s2 ys c2, (∀ b o, b ≠ D → b ≠ r → s.heap.get? b = some o → s2.heap.get? b = some o) → s2 = { s with heap := s2.heap, toks := s2.toks } → s2.heap.get? D = some { cls := .type "list", dict := none, data := .seq ys c2, slots := #[] } → ItemsOf (RevAt items) ys items.size → R (.ok (.ret .none)) s2) :
    wpAny (model pg w) B.in1 (Builtin.«list.__init__» ⟨[.ref D, .ref r], []⟩)
      (fun z s2 => match z with | .done f => R (.ok f) s2 | .again d => d.quiet = true ∧ codeAny (model pg w) B d R s2) (fun e s2 => R (.error e) s2) s := by
  show wpAny _ B.in1 (do let was ← Builtin.List.listItems (.ref D); Builtin.List.listUpdate (.ref D) (fun _ => #[]); letGo was.toList.reverse; Builtin.List.listExtendWith (.ref D) (.ref r) .none) _ _ s
  refine wpAny_bind ?_
  unfold Builtin.List.listItems
  refine wpAny_bind (wpAny_seqItems hD rfl (wpAny_pure ?_))
  show wpAny _ B.in1 (updateSeq D (fun _ => #[]) >>= fun _ => letGo (#[] : Array Value).toList.reverse >>= fun _ => Builtin.List.listExtendWith (.ref D) (.ref r) .none) _ _ s
  refine wpAny_bind (wpAny_updateSeq hD rfl ?_)
  have hD2 := Heap.get?_update_self (Obj.mapSeq (fun _ => (#[] : Array Value))) hD rfl
  have keep : ∀ b o, b ≠ D → s.heap.get? b = some o → (s.heap.update D (Obj.mapSeq (fun _ => (#[] : Array Value)))).get? b = some o :=
    fun b o ne g => (Heap.get?_update_other _ _ ne.symm).trans g
  refine wpAny_bind (wpAny_letGo ?_)
  refine extRev hB (y.at fun o g => keep r o n2.symm g) (hl.at fun o g => keep l o n3.symm g) n1 n2 n3 hz hD2 fun s2 ys c2 m g it => ?_
  refine k s2 ys c2 (fun b o a1 a2 g1 => m.heap b o (fun mm => ?_) (keep b o a1 g1)) m.eq_with g it
  rcases List.mem_cons.mp mm with e | mm
  · exact a1 e
  · exact a2 (List.mem_singleton.mp mm)
theorem listRev {Q : Value → Shared → Prop} {r l : Addr} {items : Array Value} (hB : B.handled = none) (y : s.heap.IsRevIter r l ((items.size : Int) - 1)) (hl : s.heap.IsList l items) (n1 : l ≠ r) (hz : items.size ≤ sizeLine)
    (k : ∀ h2 t2 ys c2, (∀ b o, b ≠ r → s.heap.get? b = some o → h2.get? b = some o) → h2.get? s.heap.objs.size = some { cls := .type "list", dict := none, data := .seq ys c2, slots := #[] } → ItemsOf (RevAt items) ys items.size → Q (.ref s.heap.objs.size) { s with heap := h2, toks := t2 }) :
    wpAny (model pg w) B (call (.type "list") [.ref r]) Q E s := by
  refine callType_codes (Q₁ := fun v s1 => v = .ref s.heap.objs.size ∧ s1 = { s with heap := s.heap.push { cls := .type "list", data := .seq #[] } }) F.called_list (F.typeCall_list_1 _) F.entry_list_init
    (code_list_new _ ⟨rfl, rfl⟩) fun v s1 e1 => ?_
  obtain ⟨rfl, rfl⟩ := e1
  have hD : (s.heap.push { cls := .type "list", data := .seq #[] }).get? s.heap.objs.size = some { cls := .type "list", data := .seq #[] } := Heap.get?_push_size _ rfl
  obtain ⟨o1, g1, _, _⟩ := id y
  obtain ⟨o2, g2, _, _⟩ := id hl
  refine ⟨⟨_, hD, rfl⟩, F.args_list_init_2 _ _, initRev (B := B.in1) hB (y.at fun o g => Heap.get?_push_of_some _ g) (hl.at fun o g => Heap.get?_push_of_some _ g) n1 (Nat.ne_of_gt (Heap.lt_size g1)) (Nat.ne_of_gt (Heap.lt_size g2)) hz hD fun s2 ys c2 kp e g it => ?_⟩
  refine ⟨rfl, ?_⟩
  have := k s2.heap s2.toks ys c2 (fun b o nb gb => kp b o (Nat.ne_of_lt (Heap.lt_size gb)) nb (Heap.get?_push_of_some _ gb)) g it
  rw [e]
  exact this
end
end L2
namespace L2
open PySem PySem.Spec PyProof.Rows PySem.W
section
variable {X : Cx} {pins : List (Addr × Obj)} {σ : St} {H : Hp} {s : Shared}
noncomputable def tLRev (ta : TA) : TE := fun σ H Q => ta σ H fun vs H1 => ∃ (p : Addr) (xs : List V), vs = [.ref p] ∧ H1 p = some (.lst xs) ∧ ∀ l, H1 l = none → Q (.ref l) (upd H1 l (.lst xs.reverse))
theorem pe_listrev {a : Expr} {ta : TA} {p p2 pos pos2 : Pos} (hg : Gl X "reversed") (hm : X.mg "reversed" = none) (hg2 : Gl X "list") (hm2 : X.mg "list" = none) (hc : X.calm = true) (ha : PA X [a] ta) (hs : starEach [a] X.env = [(false, eval a X.env)] := by rfl)
    (hs2 : starEach [.Call (.Name "reversed" p) [a] [] pos] X.env = [(false, eval (.Call (.Name "reversed" p) [a] [] pos) X.env)] := by rfl) :
    PE X (.Call (.Name "list" p2) [.Call (.Name "reversed" p) [a] [] pos] [] pos2) (tLRev ta) := by
  intro pins s σ H Q I h
  refine wpAny_Call_Name_kw (ld_blt I hg2 hm2 (show bootBuiltins "list" = some (.type "list") by decide +kernel) ?_)
  refine PyProof.Rows.callWith_type1 ?_ hs2 rfl
  rw [hs2]
  show wpAny _ _ (spliced ((false, eval (.Call (.Name "reversed" p) [a] [] pos) X.env) :: backTo pos2 [])) _ _ s
  refine Calls.spliced_cons ?_
  refine Call_ (ld_blt I hg hm (show bootBuiltins "reversed" = some (.type "reversed") by decide +kernel) (PyProof.Rows.callWith_type1 (thn (ha pos pins s σ H _ I h) fun us s1 ⟨vs, H1, I1, r1, q1⟩ => ?_) hs rfl))
  obtain ⟨l, xs, e, hl, q⟩ := q1
  subst e
  cases r1 with
  | cons r rr =>
    cases rr
    cases r
    obtain ⟨its, n, rv, ho, hz⟩ := I1.lst hl
    have isl : s1.heap.IsList l its.toArray := ⟨_, ho, rfl, n, rfl⟩
    refine call_reversed_list isl ?_
    refine Calls.spliced_nil ?_
    have hsz : its.toArray.size = its.length := List.size_toArray
    have hll := rv.length
    refine listRev (r := s1.heap.objs.size) (l := l) (items := its.toArray) (I1.ok.hd hc) ⟨_, Heap.get?_push_size _ rfl, rfl, rfl⟩ (isl.at fun o g => Heap.get?_push_of_some _ g) (Nat.ne_of_lt (Heap.lt_size ho)) (by trivial) fun h2 t2 ys c2 kp g it => ?_
    have hv : Vals xs.reverse ys.toList := by
      refine vals_of (by have h1 := it.1; have h2 : ys.toList.length = ys.size := Array.length_toList; rw [List.length_reverse]; trivial) fun i x u e1 e2 => ?_
      have hi : i < xs.length := by
        have := (List.getElem?_eq_some_iff.mp e1).1
        rw [List.length_reverse] at this
        exact this
      rw [List.getElem?_reverse hi] at e1
      have e3 := it.2 i u (by rw [← Array.getElem?_toList]; exact e2)
      have e4 : its[xs.length - 1 - i]? = some u := by
        have e5 : its.toArray[its.toArray.size - 1 - i]? = some u := e3
        rw [hsz, ← hll, List.getElem?_toArray] at e5
        exact e5
      obtain ⟨u', g1, g2⟩ := rv.get e1
      rw [e4] at g1
      rw [Option.some.inj g1]
      exact g2
    have hbig : xs.reverse.length ≤ sizeLine := by rw [List.length_reverse]; exact hz
    have kk : ∀ b o, s1.heap.get? b = some o → h2.get? b = some o := fun b o gb => kp b o (Nat.ne_of_lt (Heap.lt_size gb)) (Heap.get?_push_of_some _ gb)
    exact ⟨.ref _, _, I1.laid (t' := t2) kk (by rw [Heap.size_push]; trivial) (show ObjOk X.prog X.w _ h2 _ (.lst xs.reverse) from ⟨hbig, ys.toList, c2, hv, g⟩), rfl, q _ (I1.hok.fresh (by rw [Heap.size_push]; trivial))⟩
theorem comp_enumQ {K : Frag} {a : Addr} {xs : List V} {D : Addr} {σ0 : St} {H1 : Hp} {Qd : Hp → Prop} {g : TG} {tc : TT} {te : TE} (Pv : Nat → St → Hp → Prop) (h0 : Pv 0 σ0 (upd H1 D (.lst []))) (hl : ∀ i σ H, i ≤ xs.length → Pv i σ H → SqL K H a xs)
    (hs : ∀ i x t σ' H', xs[i]? = some x → Pv i σ' H' → H' t = none → g (.ref t) σ' (upd H' t (.tup [.int (i : Nat), x])) fun σ2 H3 => tc σ2 H3 fun b H4 => if b = true then te σ2 H4 fun v H5 => rAppend (.ref D) [v] H5 fun _ H6 => ∃ m', m' < xs.length - i ∧ CW xs.length Pv (i + 1) m' σ2 H6 else ∃ m', m' < xs.length - i ∧ CW xs.length Pv (i + 1) m' σ2 H4)
    (hd : ∀ σ' H', Pv xs.length σ' H' → Qd H') :
    ∃ W : Nat → Nat → St → Hp → Prop, (∃ m, W 0 m σ0 (upd H1 D (.lst []))) ∧ ∀ i m σ' H', W i m σ' H' → ((Ite K a).stop i H' ∧ Qd H') ∨ ((Ite K a).go i H' ∧ ∀ x H2, (Ite K a).yld i H' x H2 → g x σ' H2 fun σ2 H3 => tc σ2 H3 fun b H4 =>
      if b = true then te σ2 H4 fun v H5 => rAppend (.ref D) [v] H5 fun _ H6 => ∃ m', m' < m ∧ W (i + 1) m' σ2 H6 else ∃ m', m' < m ∧ W (i + 1) m' σ2 H4) := by
  refine ⟨CW xs.length Pv, ⟨xs.length, rfl, Nat.zero_le _, h0⟩, ?_⟩
  rintro i m σ' H' ⟨rfl, hi, p⟩
  have q := hl i σ' H' hi p
  by_cases hlt : i < xs.length
  · refine .inr ⟨⟨xs, xs[i], q, by simp [hlt]⟩, fun x H2 y => ?_⟩
    obtain ⟨t, y', rfl, hn, rfl, y⟩ := y
    exact hs i y' t σ' _ (y xs q) p hn
  · have e : i = xs.length := by trivial
    subst e
    exact .inl ⟨⟨xs, q, Nat.le_refl _⟩, hd σ' H' p⟩
end
end L2
set_option Elab.async false
set_option linter.all false
set_option maxRecDepth 100000
namespace PH
noncomputable def gx0 : List (List Int) := (List.range 256).map fun k : Nat => [(k : Int)]
noncomputable def gst (T : List (List Int)) (r : Nat × Nat) : List (List Int) := T ++ [(T[r.1]?).getD [] ++ (T[r.2]?).getD []]
noncomputable def gx (rs : List (Nat × Nat)) : List (List Int) := rs.foldl gst gx0
noncomputable def ex (rs : List (Nat × Nat)) (k : Nat) : List Int := ((gx rs)[k]?).getD []
noncomputable def exs (rs : List (Nat × Nat)) (row : List Nat) : List Int := (row.map (ex rs)).flatten
noncomputable def GrOk (rs : List (Nat × Nat)) : Prop := ∀ i r, rs[i]? = some r → r.1 < 256 + i ∧ r.2 < 256 + i
theorem gx0_len : gx0.length = 256 := by unfold gx0; rw [List.length_map, List.length_range]
theorem gx0_at {k : Nat} (h : k < 256) : gx0[k]? = some [(k : Int)] := by
  unfold gx0
  rw [List.getElem?_map, List.getElem?_range h]
  rfl
theorem fold_len : ∀ (rs : List (Nat × Nat)) (T : List (List Int)), (rs.foldl gst T).length = T.length + rs.length
  | [], T => rfl
  | r :: rs, T => by
    show (rs.foldl gst (gst T r)).length = _
    rw [fold_len rs (gst T r)]
    unfold gst
    rw [List.length_append, List.length_singleton, List.length_cons]
    trivial
theorem gx_len (rs : List (Nat × Nat)) : (gx rs).length = 256 + rs.length := by
  unfold gx
  rw [fold_len, gx0_len]
theorem fold_pre : ∀ (rs : List (Nat × Nat)) (T : List (List Int)) (k : Nat), k < T.length → (rs.foldl gst T)[k]? = T[k]?
  | [], T, k, h => rfl
  | r :: rs, T, k, h => by
    show (rs.foldl gst (gst T r))[k]? = _
    have hl : (gst T r).length = T.length + 1 := by unfold gst; rw [List.length_append]; rfl
    rw [fold_pre rs (gst T r) k (by trivial)]
    unfold gst
    rw [List.getElem?_append_left h]
theorem gx_low {rs : List (Nat × Nat)} {k : Nat} (h : k < 256) : (gx rs)[k]? = some [(k : Int)] := by
  unfold gx
  rw [fold_pre rs gx0 k (by rw [gx0_len]; exact h)]
  exact gx0_at h
theorem ex_low {rs : List (Nat × Nat)} {k : Nat} (h : k < 256) : ex rs k = [(k : Int)] := by
  unfold ex
  rw [gx_low h]
  rfl
theorem gx_snoc (rs : List (Nat × Nat)) (r : Nat × Nat) : gx (rs ++ [r]) = gx rs ++ [ex rs r.1 ++ ex rs r.2] := by
  unfold gx
  rw [List.foldl_append]
  rfl
theorem gx_pre {rs qs : List (Nat × Nat)} {k : Nat} (h : k < 256 + rs.length) : (gx (rs ++ qs))[k]? = (gx rs)[k]? := by
  unfold gx
  rw [List.foldl_append]
  exact fold_pre qs _ k (by have := gx_len rs; unfold gx at this; trivial)
theorem ex_pre {rs qs : List (Nat × Nat)} {k : Nat} (h : k < 256 + rs.length) : ex (rs ++ qs) k = ex rs k := by
  unfold ex
  rw [gx_pre h]
theorem ex_rule {rs : List (Nat × Nat)} (ok : GrOk rs) {i : Nat} {r : Nat × Nat} (h : rs[i]? = some r) : ex rs (256 + i) = ex rs r.1 ++ ex rs r.2 := by
  obtain ⟨hi, he⟩ := List.getElem?_eq_some_iff.mp h
  have hb := ok i r h
  have e : rs = rs.take i ++ [r] ++ rs.drop (i + 1) := by
    have h1 : rs.take (i + 1) = rs.take i ++ [r] := by rw [List.take_succ, h]; rfl
    rw [← h1, List.take_append_drop]
  have hl : (rs.take i).length = i := by rw [List.length_take]; trivial
  have e1 : ∀ k, k < 256 + i → ex rs k = ex (rs.take i) k := fun k hk => by
    have := ex_pre (rs := rs.take i) (qs := [r] ++ rs.drop (i + 1)) (k := k) (by trivial)
    rw [← List.append_assoc, ← e] at this
    exact this
  have e2 : ex rs (256 + i) = ex (rs.take i ++ [r]) (256 + i) := by
    have := ex_pre (rs := rs.take i ++ [r]) (qs := rs.drop (i + 1)) (k := 256 + i) (by rw [List.length_append, List.length_singleton]; trivial)
    rw [← e] at this
    exact this
  rw [e2, e1 _ hb.1, e1 _ hb.2]
  unfold ex
  rw [gx_snoc, List.getElem?_append_right (by rw [gx_len]; trivial), gx_len, show 256 + i - (256 + (rs.take i).length) = 0 by trivial]
  rfl
theorem ex_pos {rs : List (Nat × Nat)} (ok : GrOk rs) : ∀ k, k < 256 + rs.length → 1 ≤ (ex rs k).length
  | k, h => by
    by_cases hk : k < 256
    · rw [ex_low hk]; exact Nat.le_refl _
    · obtain ⟨r, hr⟩ : ∃ r, rs[k - 256]? = some r := ⟨_, List.getElem?_eq_getElem (by trivial)⟩
      have hb := ok _ _ hr
      have e := ex_rule ok hr
      rw [show 256 + (k - 256) = k by trivial] at e
      rw [e, List.length_append]
      have := ex_pos ok r.1 (by trivial)
      trivial
noncomputable def glen (rs : List (Nat × Nat)) : List Int := (gx rs).map fun t => (t.length : Int)
theorem glen_at {rs : List (Nat × Nat)} {k : Nat} (h : k < 256 + rs.length) : (glen rs)[k]? = some ((ex rs k).length : Int) := by
  have hk : k < (gx rs).length := by rw [gx_len]; exact h
  have e : (gx rs)[k]? = some (gx rs)[k] := List.getElem?_eq_getElem hk
  unfold glen ex
  rw [List.getElem?_map, e]
  rfl
theorem exs_cons (rs : List (Nat × Nat)) (k : Nat) (row : List Nat) : exs rs (k :: row) = ex rs k ++ exs rs row := rfl
theorem exs_app (rs : List (Nat × Nat)) (a b : List Nat) : exs rs (a ++ b) = exs rs a ++ exs rs b := by
  unfold exs
  rw [List.map_append, List.flatten_append]
theorem exs_len (rs : List (Nat × Nat)) : ∀ row : List Nat, ((exs rs row).length : Int) = (row.map fun k => ((ex rs k).length : Int)).sum
  | [] => rfl
  | k :: row => by
    rw [exs_cons, List.length_append, List.map_cons, List.sum_cons, ← exs_len rs row]
    trivial
noncomputable def gms (rs : List (Nat × Nat)) (row : List Nat) : Nat := (row.map fun k => 2 * (ex rs k).length - 1).sum
theorem gms_cons (rs : List (Nat × Nat)) (k : Nat) (row : List Nat) : gms rs (k :: row) = (2 * (ex rs k).length - 1) + gms rs row := rfl
theorem gms_split {rs : List (Nat × Nat)} (ok : GrOk rs) {i : Nat} {r : Nat × Nat} (h : rs[i]? = some r) (row : List Nat) : gms rs (r.1 :: r.2 :: row) < gms rs ((256 + i) :: row) ∧ exs rs (r.1 :: r.2 :: row) = exs rs ((256 + i) :: row) := by
  have hi := (List.getElem?_eq_some_iff.mp h).1
  have hb := ok i r h
  have e := ex_rule ok h
  have p1 := ex_pos ok r.1 (by trivial)
  have p2 := ex_pos ok r.2 (by trivial)
  constructor
  · rw [gms_cons, gms_cons, gms_cons, e, List.length_append]
    trivial
  · rw [exs_cons, exs_cons, exs_cons, e, List.append_assoc]
end PH
set_option Elab.async false
set_option linter.all false
set_option maxRecDepth 100000
set_option maxHeartbeats 4000000
namespace L2
open PySem PySem.Spec PyProof.Rows PySem.W
noncomputable def iOr (w1 w2 : TI) : TI := fun σ H R => w1 σ H R ∨ w2 σ H R
theorem pi_or {X : Cx} {tg it : Expr} {w1 w2 : TI} (h1 : PI X tg it w1) (h2 : PI X tg it w2) : PI X tg it (iOr w1 w2) := by
  intro pins s σ H R I h
  rcases h with h | h
  · exact h1 pins s σ H R I h
  · exact h2 pins s σ H R I h
end L2
namespace PH
open PySem L2 PySem.W
noncomputable def FRg (mg : Str → Option Value) : Prop := ∃ u, mg "FIRST_RULE" = some u ∧ RelV (.int 256) u
noncomputable def rn (zs : List (Addr × Int × Int)) : List (Nat × Nat) := zs.map fun z => (z.2.1.toNat, z.2.2.toNat)
noncomputable def GrZ (zs : List (Addr × Int × Int)) : Prop := ∀ (i : Nat) (z : Addr × Int × Int), zs[i]? = some z → 0 ≤ z.2.1 ∧ z.2.1 < (256 : Int) + (i : Int) ∧ 0 ≤ z.2.2 ∧ z.2.2 < (256 : Int) + (i : Int)
noncomputable def RwZ (n : Nat) (row : List Int) : Prop := ∀ y ∈ row, 0 ≤ y ∧ y < (256 : Int) + (n : Int)
theorem GrZ.ok {zs : List (Addr × Int × Int)} (h : GrZ zs) : GrOk (rn zs) := fun i r e => by
  unfold rn at e
  rw [List.getElem?_map] at e
  cases e1 : zs[i]? with
  | none => rw [e1] at e; cases e
  | some z =>
    rw [e1] at e
    have e2 : (z.2.1.toNat, z.2.2.toNat) = r := Option.some.inj e
    have := h i z e1
    rw [← e2]
    exact ⟨by show z.2.1.toNat < _; trivial, by show z.2.2.toNat < _; trivial⟩
theorem rn_len (zs : List (Addr × Int × Int)) : (rn zs).length = zs.length := List.length_map _
noncomputable def rwN (row : List Int) : List Nat := row.map Int.toNat
theorem _root_.L2.Same.sqT {K : Frag} {H H' : Hp} {a : Addr} {xs : List V} (e : Same H H') (h : SqT K H a xs) : SqT K H' a xs := by
  rcases h with (h | ⟨o, h⟩) | h
  · exact .inl (.inl (e _ _ h))
  · exact .inl (.inr ⟨o, e _ _ h⟩)
  · exact .inr h
theorem glen_nil : glen [] = List.replicate 256 1 := by
  unfold glen gx gx0
  rw [List.foldl_nil, List.map_map]
  show (List.range 256).map (fun _ => ((1 : Nat) : Int)) = _
  rw [List.map_const', List.length_range]
  rfl
theorem glen_snoc (rs : List (Nat × Nat)) (r : Nat × Nat) : glen (rs ++ [r]) = glen rs ++ [((ex rs r.1).length : Int) + ((ex rs r.2).length : Int)] := by
  unfold glen
  rw [gx_snoc, List.map_append]
  show _ ++ [(((ex rs r.1 ++ ex rs r.2).length : Nat) : Int)] = _
  rw [List.length_append, Int.natCast_add]
theorem all_rep (n : Nat) : (List.replicate n true).all id = true := by
  rw [List.all_eq_true]
  intro x hx
  exact List.eq_of_mem_replicate hx
theorem rep_snoc (n : Nat) : (List.replicate n true).map V.bl ++ [V.bl true] = (List.replicate (n + 1) true).map V.bl := by
  rw [List.replicate_succ', List.map_append]
  rfl
noncomputable def spSyms (K : Frag) : Sp := fun vs H Q _ => ∃ (p : Addr) (ns : List Int) (n : Nat), vs = [.ref p, .int (n : Int)] ∧ (SqL K H p (ns.map V.int) ∨ SqT K H p (ns.map V.int)) ∧ RwZ n ns ∧ ns.length ≤ 100000 ∧ ∀ H', Same H H' → Q (.bl true) H'
noncomputable def spIsRule : Sp := fun vs H Q _ => ∃ (t : Addr) (x y : Int) (n : Nat), vs = [.ref t, .int (n : Int)] ∧ H t = some (.tup [.int x, .int y]) ∧ RwZ n [x, y] ∧ ∀ H', Same H H' → Q (.bl true) H'
noncomputable def spIsGr : Sp := fun vs H Q _ => ∃ (p q : Addr) (zs : List (Addr × Int × Int)) (row : List Int), vs = [.ref p, .ref q] ∧ Prs H p zs ∧ GrZ zs ∧ H q = some (lsI row) ∧ RwZ zs.length row ∧ zs.length ≤ 10000 ∧ row.length ≤ 100000 ∧ ∀ H', Same H H' → Q (.bl true) H'
noncomputable def spNoGr : Sp := fun vs H Q _ => ∃ (p q : Addr) (zs : List (Addr × Int × Int)) (row : List Int), vs = [.ref p, .ref q] ∧ Prs H p zs ∧ GrZ zs ∧ H q = some (lsI row) ∧ RwZ zs.length row ∧ zs.length ≤ 10000 ∧ row.length ≤ 100000 ∧ ∀ H', Same H H' → Q .non H'
noncomputable def spLens : Sp := fun vs H Q _ => ∃ (p : Addr) (zs : List (Addr × Int × Int)), vs = [.ref p] ∧ Prs H p zs ∧ GrZ zs ∧ zs.length ≤ 10000 ∧ ∀ (D : Addr) (H' : Hp), Same H H' → H D = none → H' D = some (lsI (glen (rn zs))) → Q (.ref D) H'
noncomputable def spGLen : Sp := fun vs H Q _ => ∃ (p q : Addr) (zs : List (Addr × Int × Int)) (row : List Int), vs = [.ref p, .ref q] ∧ Prs H p zs ∧ GrZ zs ∧ H q = some (lsI row) ∧ RwZ zs.length row ∧ zs.length ≤ 10000 ∧ row.length ≤ 100000 ∧ ∀ H', Same H H' → Q (.int ((exs (rn zs) (rwN row)).length : Nat)) H'
noncomputable def spBetween : Sp := fun vs H Q _ => ∃ (p q : Addr) (zs : List (Addr × Int × Int)) (row : List Int) (a b : Nat), vs = [.ref p, .ref q, .int (a : Int), .int (b : Int)] ∧ Prs H p zs ∧ GrZ zs ∧ H q = some (lsI row) ∧ RwZ zs.length row ∧ zs.length ≤ 10000 ∧ row.length ≤ 100000 ∧
  a ≤ b ∧ b ≤ (exs (rn zs) (rwN row)).length ∧ b ≤ a + 1000000 ∧
  ∀ (D : Addr) (H' : Hp), Same H H' → H D = none → H' D = some (lsI (((exs (rn zs) (rwN row)).take b).drop a)) → Q (.ref D) H'
theorem RwZ.at {n : Nat} {row : List Int} {i : Nat} {y : Int} (h : RwZ n row) (e : row[i]? = some y) : 0 ≤ y ∧ y < (256 : Int) + (n : Int) := h y (List.mem_of_getElem? e)
theorem gl_at {zs : List (Addr × Int × Int)} {y : Int} (h0 : 0 ≤ y) (h1 : y < (256 : Int) + (zs.length : Int)) : (glen (rn zs))[y.toNat]? = some ((ex (rn zs) y.toNat).length : Int) := glen_at (by rw [rn_len]; trivial)
theorem rwN_back {n : Nat} {row : List Int} (h : RwZ n row) : HO.lst (row.map V.int).reverse = lsI ((rwN row).reverse.map fun k : Nat => (k : Int)) := by
  unfold lsI rwN
  have e : (row.map Int.toNat).map (fun k : Nat => (k : Int)) = row := by
    rw [List.map_map]
    have : ∀ y ∈ row, ((fun k : Nat => (k : Int)) ∘ Int.toNat) y = id y := fun y hy => by
      have := (h y hy).1
      show ((y.toNat : Nat) : Int) = y
      trivial
    rw [List.map_congr_left this, List.map_id]
  rw [List.map_reverse, e, ← List.map_reverse]
noncomputable def Stk (B : Nat) : List Nat → Prop
  | [] => True
  | k :: r => r.length + 1 + k ≤ B ∧ Stk B r
theorem Stk.len {B : Nat} : ∀ {l : List Nat}, Stk B l → l.length ≤ B
  | [], _ => Nat.zero_le _
  | k :: r, h => by have := h.1; rw [List.length_cons]; trivial
theorem Stk.first {n m : Nat} : ∀ {l : List Nat}, (∀ k ∈ l, k < 256 + n) → l.length ≤ m → Stk (m + 256 + n) l
  | [], _, _ => trivial
  | k :: r, h, hl => by
    have := h k List.mem_cons_self
    rw [List.length_cons] at hl
    exact ⟨by trivial, Stk.first (fun x hx => h x (List.mem_cons_of_mem _ hx)) (by trivial)⟩
theorem Stk.split {B k x y : Nat} {r : List Nat} (h : Stk B (k :: r)) (hx : x < k) (hy : y < k) : Stk B (x :: y :: r) := by
  have := h.1
  exact ⟨by rw [List.length_cons]; trivial, by trivial, h.2⟩
theorem exs_ne {rs : List (Nat × Nat)} {l : List Nat} (h : exs rs l ≠ []) : ∃ k r, l = k :: r := by
  cases l with
  | nil => exact absurd rfl h
  | cons k r => exact ⟨k, r, rfl⟩
end PH
namespace PH
open PySem L2 PySem.W
noncomputable def spSymb : Sp := fun vs H Q _ => ∃ (p : Addr) (zs : List (Addr × Int × Int)) (nu bs : Int), vs = [.int nu, .ref p, .int bs] ∧ Prs H p zs ∧ 0 < bs ∧ bs ≤ 256 ∧ zs.length ≤ 10000 ∧ ∀ (y : Int) (H' : Hp), Same H H' → 0 ≤ y → y < (256 : Int) + (zs.length : Int) → Q (.int y) H'
noncomputable def spSz : Sp := fun vs H Q _ => ∃ (s : Addr) (zs : List (Addr × Int × Int)) (y : Int), vs = [.ref s, .int y] ∧ H s = some (lsI ((glen (rn zs)).drop 256)) ∧ 0 ≤ y ∧ y < (256 : Int) + (zs.length : Int) ∧ Q (.int ((ex (rn zs) y.toNat).length : Nat)) H
theorem eqD_prnil (cs : List (Int × Int)) : eqD (prD cs) (.lst []) = decide (cs = []) := by
  cases cs with
  | nil => rfl
  | cons p r => rw [decide_eq_false (List.cons_ne_nil _ _)]; rfl
end PH
set_option Elab.async false
set_option linter.all false
set_option maxRecDepth 100000
set_option maxHeartbeats 4000000
namespace PH
open PySem L2 PySem.W
theorem ex_new (rs : List (Nat × Nat)) (r : Nat × Nat) : ex (rs ++ [r]) (256 + rs.length) = ex rs r.1 ++ ex rs r.2 := by
  unfold ex
  rw [gx_snoc, List.getElem?_append_right (by rw [gx_len]; trivial), gx_len, Nat.sub_self]
  rfl
structure Txs (H : Hp) (X : Addr) (as : List Addr) (f : Nat → List Int) : Prop where
  at_ : H X = some (.lst (as.map V.ref))
  each : ∀ j a, as[j]? = some a → a ≠ X ∧ H a = some (lsI (f j))
theorem at_refsA {as : List Addr} {j : Nat} {a : Addr} (h : as[j]? = some a) : atI (as.map V.ref) (j : Int) = some (.ref a) := atI_nat (by rw [List.getElem?_map, h]; rfl)
theorem exs_take {rs : List (Nat × Nat)} {row : List Int} {i : Nat} {y : Int} (h : row[i]? = some y) : exs rs (rwN (row.take (i + 1))) = exs rs (rwN (row.take i)) ++ ex rs y.toNat := by
  rw [take_at h]
  unfold rwN
  rw [List.map_append, exs_app]
  show _ ++ (ex rs y.toNat ++ []) = _
  rw [List.append_nil]
end PH
set_option Elab.async false
set_option linter.all false
set_option maxRecDepth 100000
set_option maxHeartbeats 4000000
namespace PH
open PySem L2 PySem.W
theorem iteNT {c A B : Prop} [Decidable c] (hc : ¬ c) (h : A) : if (!decide c) = true then A else B := by
  rw [decide_eq_false hc]
  exact h
end PH
set_option Elab.async false
set_option linter.all false
set_option maxRecDepth 100000
set_option maxHeartbeats 4000000
namespace PH
open PySem L2 PySem.W
structure Gsn (H : Hp) (P S : Addr) (most : Nat) (zs : List (Addr × Int × Int)) : Prop where
  pr : Prs H P zs
  sz : H S = some (lsI ((glen (rn zs)).drop 256))
  gr : GrZ zs
  few : zs.length ≤ 300
  bd : ∀ k, k < 256 + zs.length → (ex (rn zs) k).length ≤ most
theorem Gsn.same {H H' : Hp} {P S : Addr} {most : Nat} {zs : List (Addr × Int × Int)} (h : Gsn H P S most zs) (s : Same H H') : Gsn H' P S most zs := ⟨h.pr.same s, s _ _ h.sz, h.gr, h.few, h.bd⟩
theorem rn_app (zs : List (Addr × Int × Int)) (t : Addr) (x y : Int) : rn (zs ++ [(t, x, y)]) = rn zs ++ [(x.toNat, y.toNat)] := by
  unfold rn
  rw [List.map_append]
  rfl
theorem GrZ.app {zs : List (Addr × Int × Int)} {t : Addr} {x y : Int} (h : GrZ zs) (x0 : 0 ≤ x) (x1 : x < (256 : Int) + (zs.length : Int)) (y0 : 0 ≤ y) (y1 : y < (256 : Int) + (zs.length : Int)) : GrZ (zs ++ [(t, x, y)]) := fun i z e => by
  by_cases hi : i < zs.length
  · rw [List.getElem?_append_left hi] at e
    exact h i z e
  · have hi2 : i = zs.length := by
      have := (List.getElem?_eq_some_iff.mp e).1
      rw [List.length_append, List.length_singleton] at this
      trivial
    subst hi2
    rw [List.getElem?_append_right (Nat.le_refl _), Nat.sub_self] at e
    have ez : (t, x, y) = z := Option.some.inj e
    subst ez
    exact ⟨x0, x1, y0, y1⟩
theorem sz_app (zs : List (Addr × Int × Int)) (t : Addr) (x y : Int) : (glen (rn (zs ++ [(t, x, y)]))).drop 256 = (glen (rn zs)).drop 256 ++ [((ex (rn zs) x.toNat).length : Int) + ((ex (rn zs) y.toNat).length : Int)] := by
  rw [rn_app, glen_snoc, List.drop_append_of_le_length]
  unfold glen
  rw [List.length_map, gx_len]
  trivial
theorem bd_app {zs : List (Addr × Int × Int)} {t : Addr} {x y : Int} {most : Nat} (h : ∀ k, k < 256 + zs.length → (ex (rn zs) k).length ≤ most) (hs : (ex (rn zs) x.toNat).length + (ex (rn zs) y.toNat).length ≤ most) : ∀ k, k < 256 + (zs ++ [(t, x, y)]).length → (ex (rn (zs ++ [(t, x, y)])) k).length ≤ most := fun k hk => by
  rw [List.length_append, List.length_singleton] at hk
  rw [rn_app]
  by_cases h1 : k < 256 + zs.length
  · rw [ex_pre (by rw [rn_len]; exact h1)]
    exact h k h1
  · have e : k = 256 + (rn zs).length := by rw [rn_len]; trivial
    rw [e, ex_new, List.length_append]
    exact hs
theorem Gsn.nil {H : Hp} {P S : Addr} {most : Nat} (hP : H P = some (.lst [])) (hS : H S = some (.lst [])) (hm : 1 ≤ most) : Gsn H P S most [] :=
  ⟨⟨hP, fun _ z => by cases z⟩, (by rw [hS]; show _ = some (lsI ((glen []).drop 256)); rw [glen_nil, List.drop_replicate]; rfl), (fun i z e => by cases e), Nat.zero_le _, fun k hk => by
    have hk' : k < 256 := hk
    rw [ex_low hk']
    exact hm⟩
theorem Gsn.app {H : Hp} {P S t : Addr} {most : Nat} {zs : List (Addr × Int × Int)} {x y : Int} (h : Gsn H P S most zs) (hPS : P ≠ S) (ht : H t = none) (hn : zs.length < 300) (x0 : 0 ≤ x) (x1 : x < (256 : Int) + (zs.length : Int)) (y0 : 0 ≤ y) (y1 : y < (256 : Int) + (zs.length : Int))
    (hs : (ex (rn zs) x.toNat).length + (ex (rn zs) y.toNat).length ≤ most) :
    ∀ H1, H1 = upd H S (lsI ((glen (rn zs)).drop 256 ++ [((ex (rn zs) x.toNat).length : Int) + ((ex (rn zs) y.toNat).length : Int)])) → H1 t = none →
      Gsn (upd (upd H1 t (.tup [.int x, .int y])) P (.lst ((zs.map fun z => V.ref z.1) ++ [V.ref t]))) P S most (zs ++ [(t, x, y)]) := by
  rintro H1 rfl ht1
  have st := same_new ht1 (.tup [.int x, .int y])
  have p1 : Prs (upd H S (lsI ((glen (rn zs)).drop 256 ++ [((ex (rn zs) x.toNat).length : Int) + ((ex (rn zs) y.toNat).length : Int)]))) P zs := h.pr.other h.sz hPS
  refine ⟨(p1.same st).app upd_same, ?_, h.gr.app x0 x1 y0 y1, by rw [List.length_append, List.length_singleton]; trivial, bd_app h.bd hs⟩
  rw [upd_ne hPS.symm, st _ _ upd_same, sz_app]
end PH
namespace PH
open PySem L2 PySem.W
noncomputable def spGram (K : Frag) : Sp := fun vs H Q _ => ∃ (a : Addr) (ns : List Int) (most : Nat), vs = [.ref a, .int (most : Int)] ∧ SqL K H a (ns.map V.int) ∧ ns.length ≤ 63 ∧ 1 ≤ most ∧
  ∀ (R P S W : Addr) (zs : List (Addr × Int × Int)) (row : List Int) (bs : Int) (H' : Hp), Same H H' → H' R = some (.lst [.ref P, .ref S, .ref W, .int bs]) → Gsn H' P S most zs → H' W = some (lsI row) → RwZ zs.length row → row.length ≤ 12 → (exs (rn zs) (rwN row)).length ≤ most → 0 < bs → bs ≤ 256 → Q (.ref R) H'
end PH
set_option Elab.async false
set_option linter.all false
set_option maxRecDepth 100000
set_option maxHeartbeats 4000000
namespace PH
open PySem L2 PySem.W
theorem Gsn.other {H : Hp} {P S W : Addr} {most : Nat} {zs : List (Addr × Int × Int)} {xs ys : List V} (h : Gsn H P S most zs) (hW : H W = some (.lst xs)) (hP : P ≠ W) (hS : S ≠ W) : Gsn (upd H W (.lst ys)) P S most zs :=
  ⟨h.pr.other hW hP, by rw [upd_ne hS]; exact h.sz, h.gr, h.few, h.bd⟩
end PH
set_option Elab.async false
set_option linter.all false
set_option maxRecDepth 100000
set_option maxHeartbeats 4000000
namespace L2
open PySem PySem.Spec PyProof.Rows PySem.W
variable {X : Cx}
end L2
set_option Elab.async false
set_option linter.all false
set_option maxRecDepth 100000
set_option maxHeartbeats 4000000
namespace PH
open PySem L2 PySem.W
noncomputable def spStirB : Sp := fun vs H Q _ => ∃ (c : Int) (k : Nat), vs = [.int c, .int (k : Int)] ∧ k ≤ 1000 ∧ ∀ n : Int, 0 ≤ n → n < 8589934592 → Q (.int n) H
noncomputable def spNoStr (cP : Addr) : Sp := fun vs H Q E => ∃ (a b n : Int), vs = [.int a, .int b, .int n] ∧ (¬ (0 ≤ a ∧ a ≤ b ∧ b ≤ n) → E (.ref cP) none H) ∧ ((0 ≤ a ∧ a ≤ b ∧ b ≤ n) → Q .non H)
noncomputable def spGStr (cP : Addr) : Sp := fun vs H Q E => ∃ (p q : Addr) (zs : List (Addr × Int × Int)) (row : List Int) (a b : Int), vs = [.ref p, .ref q, .int a, .int b] ∧ Prs H p zs ∧ GrZ zs ∧ H q = some (lsI row) ∧ RwZ zs.length row ∧ zs.length ≤ 10000 ∧ row.length ≤ 100000 ∧
  (¬ (0 ≤ a ∧ a ≤ b ∧ b ≤ ((exs (rn zs) (rwN row)).length : Nat)) → ∀ H', Same H H' → E (.ref cP) none H') ∧
  ((0 ≤ a ∧ a ≤ b ∧ b ≤ ((exs (rn zs) (rwN row)).length : Nat)) → b ≤ a + 1000000 ∧ ∀ (D : Addr) (H' : Hp), Same H H' → H D = none → H' D = some (lsI (((exs (rn zs) (rwN row)).take b.toNat).drop a.toNat)) → Q (.ref D) H')
theorem bounded_at {α : Type} {l : List α} {k : Nat} (h : k < l.length) : ∃ x, l[k]? = some x := ⟨_, List.getElem?_eq_getElem h⟩
theorem p59N : ((10 ^ 59 : Nat) : Int) = 10 ^ (59 : Int).toNat := by decide +kernel
end PH
set_option Elab.async false
set_option linter.all false
set_option maxRecDepth 100000
set_option maxHeartbeats 4000000
namespace PH
noncomputable def cnt (w : List Int) : List Int → Nat
  | [] => 0
  | x :: t => (if (x :: t).take w.length = w then 1 else 0) + cnt w t
noncomputable def crs (w : List Int) : List Int → List Int → Nat
  | [], _ => 0
  | x :: t, u => (if (x :: t).length < w.length ∧ ((x :: t) ++ u).take w.length = w then 1 else 0) + crs w t u
noncomputable def hdw (w t : List Int) : List Int := t.take (w.length - 1)
noncomputable def tlw (w t : List Int) : List Int := t.drop (t.length - (w.length - 1))
theorem cnt_short {w : List Int} : ∀ {t : List Int}, t.length < w.length → cnt w t = 0
  | [], _ => rfl
  | x :: t, h => by
    unfold cnt
    rw [if_neg, cnt_short (t := t) (by rw [List.length_cons] at h; trivial)]
    intro e
    have := congrArg List.length e
    rw [List.length_take] at this
    trivial
theorem cnt_cons (w : List Int) (x : Int) (t : List Int) : cnt w (x :: t) = (if (x :: t).take w.length = w then 1 else 0) + cnt w t := rfl
theorem crs_cons (w : List Int) (x : Int) (t u : List Int) : crs w (x :: t) u = (if (x :: t).length < w.length ∧ ((x :: t) ++ u).take w.length = w then 1 else 0) + crs w t u := rfl
theorem cnt_app (w : List Int) : ∀ t u : List Int, cnt w (t ++ u) = cnt w t + cnt w u + crs w t u
  | [], u => by show cnt w u = 0 + cnt w u + 0; trivial
  | x :: t, u => by
    have ih := cnt_app w t u
    rw [List.cons_append, cnt_cons, cnt_cons, crs_cons, ih, List.cons_append]
    by_cases h : (x :: t).length < w.length
    · have h1 : ¬ (x :: t).take w.length = w := fun e => by
        have := congrArg List.length e
        rw [List.length_take] at this
        trivial
      rw [if_neg h1]
      by_cases h2 : (x :: (t ++ u)).take w.length = w
      · have e1 : (if (x :: t).length < w.length ∧ (x :: (t ++ u)).take w.length = w then 1 else 0) = 1 := if_pos ⟨h, h2⟩
        have e2 : (if (x :: (t ++ u)).take w.length = w then 1 else 0) = 1 := if_pos h2
        rw [e1, e2]
        trivial
      · have e1 : (if (x :: t).length < w.length ∧ (x :: (t ++ u)).take w.length = w then 1 else 0) = 0 := if_neg (fun z => h2 z.2)
        have e2 : (if (x :: (t ++ u)).take w.length = w then 1 else 0) = 0 := if_neg h2
        rw [e1, e2]
        trivial
    · have e : (x :: (t ++ u)).take w.length = (x :: t).take w.length := by
        rw [← List.cons_append, List.take_append_of_le_length (by trivial)]
      have e1 : (if (x :: t).length < w.length ∧ (x :: t).take w.length = w then 1 else 0) = 0 := if_neg (fun z => h z.1)
      rw [e, e1]
      trivial
theorem crs_tl {w : List Int} : ∀ t u : List Int, crs w t u = crs w (tlw w t) u
  | [], u => by unfold tlw; rw [List.drop_nil]
  | x :: t, u => by
    by_cases h : (x :: t).length ≤ w.length - 1
    · unfold tlw
      rw [show (x :: t).length - (w.length - 1) = 0 by trivial, List.drop_zero]
    · have e : tlw w (x :: t) = tlw w t := by
        unfold tlw
        rw [List.length_cons] at h ⊢
        rw [show t.length + 1 - (w.length - 1) = (t.length - (w.length - 1)) + 1 by trivial, List.drop_succ_cons]
      rw [e, ← crs_tl t u]
      show (if _ then 1 else 0) + crs w t u = _
      rw [if_neg (fun z => by have := z.1; trivial)]
      trivial
theorem take_hd {s u : List Int} {m : Nat} (hs : 1 ≤ s.length) : (s ++ u).take m = (s ++ u.take (m - 1)).take m := by
  rw [List.take_append, List.take_append, List.take_take]
  congr 2
  trivial
theorem crs_hd {w : List Int} : ∀ t u : List Int, crs w t u = crs w t (hdw w u)
  | [], _ => rfl
  | x :: t, u => by
    unfold crs
    rw [← crs_hd t u]
    unfold hdw
    rw [← take_hd (by rw [List.length_cons]; trivial)]
theorem hdw_len (w t : List Int) : (hdw w t).length ≤ w.length - 1 := by unfold hdw; rw [List.length_take]; trivial
theorem tlw_len (w t : List Int) : (tlw w t).length ≤ w.length - 1 := by unfold tlw; rw [List.length_drop]; trivial
theorem cnt_meet {w : List Int} (hw : 1 ≤ w.length) (t u : List Int) : cnt w (t ++ u) = cnt w t + cnt w u + cnt w (tlw w t ++ hdw w u) := by
  have h1 := hdw_len w u
  have h2 := tlw_len w t
  rw [cnt_app, cnt_app w (tlw w t), cnt_short (t := tlw w t) (by trivial), cnt_short (t := hdw w u) (by trivial), ← crs_hd, ← crs_tl]
  trivial
theorem hdw_app (w t u : List Int) : hdw w (t ++ u) = (hdw w t ++ hdw w u).take (w.length - 1) := by
  unfold hdw
  rw [List.take_append, List.take_append, List.take_take, List.take_take, List.length_take, Nat.min_self]
  congr 2
  trivial
theorem tlw_app (w t u : List Int) : tlw w (t ++ u) = (tlw w t ++ tlw w u).drop ((tlw w t ++ tlw w u).length - (w.length - 1)) := by
  have h2 := tlw_len w t
  have h3 : (tlw w t).length = t.length - (t.length - (w.length - 1)) := by unfold tlw; rw [List.length_drop]
  by_cases h : w.length - 1 ≤ u.length
  · have h1 : (tlw w u).length = w.length - 1 := by unfold tlw; rw [List.length_drop]; trivial
    rw [List.length_append, h1, Nat.add_sub_cancel, List.drop_left' rfl]
    unfold tlw
    rw [List.length_append, List.drop_append, List.drop_of_length_le (by trivial), List.nil_append]
    congr 1
    trivial
  · have h1 : tlw w u = u := by unfold tlw; rw [show u.length - (w.length - 1) = 0 by trivial, List.drop_zero]
    rw [h1, List.length_append, List.drop_append_of_le_length (by trivial)]
    unfold tlw at h2 h3 ⊢
    rw [List.length_append, List.drop_append_of_le_length (by trivial), List.drop_drop]
    congr 2
    trivial
noncomputable def ctw (w t : List Int) : Nat → Nat
  | 0 => 0
  | i + 1 => ctw w t i + (if (t.drop i).take w.length = w then 1 else 0)
theorem ctw_cons (w : List Int) (x : Int) (t : List Int) : ∀ i, ctw w (x :: t) (i + 1) = (if (x :: t).take w.length = w then 1 else 0) + ctw w t i
  | 0 => by show 0 + _ = _ + 0; rw [List.drop_zero]; trivial
  | i + 1 => by
    have := ctw_cons w x t i
    show ctw w (x :: t) (i + 1) + _ = _ + (ctw w t i + _)
    rw [this, List.drop_succ_cons]
    trivial
theorem ctw_len (w : List Int) : ∀ t : List Int, ctw w t t.length = cnt w t
  | [] => rfl
  | x :: t => by
    rw [List.length_cons, ctw_cons, ctw_len w t]
    rfl
theorem ctw_more {w t : List Int} {i : Nat} (hw : 1 ≤ w.length) (hi : t.length < i + w.length) : ∀ j, ctw w t (i + j) = ctw w t i
  | 0 => rfl
  | j + 1 => by
    have e3 : ctw w t (i + (j + 1)) = ctw w t (i + j) + (if (t.drop (i + j)).take w.length = w then 1 else 0) := rfl
    rw [e3, ctw_more hw hi j, if_neg]
    · rfl
    · intro e
      have := congrArg List.length e
      rw [List.length_take, List.length_drop] at this
      trivial
theorem ctw_all {w t : List Int} (hw : 1 ≤ w.length) : ctw w t (t.length + 1 - w.length) = cnt w t := by
  rw [← ctw_len]
  by_cases h : t.length + 1 < w.length
  · rw [show t.length + 1 - w.length = 0 by trivial]
    have := ctw_more (w := w) (t := t) (i := 0) hw (by trivial) t.length
    rw [Nat.zero_add] at this
    exact this.symm
  · have := ctw_more (w := w) (t := t) (i := t.length + 1 - w.length) hw (by trivial) (w.length - 1)
    rw [show t.length + 1 - w.length + (w.length - 1) = t.length by trivial] at this
    exact this.symm
theorem cnt_one {w : List Int} (hw : 1 ≤ w.length) (x : Int) : cnt w [x] = if w = [x] then 1 else 0 := by
  show (if [x].take w.length = w then 1 else 0) + 0 = _
  rw [List.take_of_length_le (by rw [List.length_singleton]; exact hw), Nat.add_zero]
  by_cases h : w = [x]
  · rw [if_pos h.symm, if_pos h]
  · rw [if_neg (fun e => h e.symm), if_neg h]
theorem tl_hd_one (w : List Int) (x : Int) : tlw w [x] = hdw w [x] := by
  unfold tlw hdw
  cases h : w.length - 1 with
  | zero => rw [List.take_zero]; rfl
  | succ n => rw [List.take_of_length_le (by rw [List.length_singleton]; trivial), List.length_singleton, show 1 - (n + 1) = 0 by trivial, List.drop_zero]
end PH
set_option Elab.async false
set_option linter.all false
set_option maxRecDepth 100000
set_option maxHeartbeats 4000000
namespace PH
open PySem L2 PySem.W
noncomputable def spTimes : Sp := fun vs H Q _ => ∃ (T Wd : Addr) (t w : List Int), vs = [.ref T, .ref Wd] ∧ H T = some (lsI t) ∧ H Wd = some (lsI w) ∧ 1 ≤ w.length ∧ w.length ≤ 1000 ∧ t.length ≤ 100000 ∧ ∀ H', Same H H' → Q (.int (cnt w t : Nat)) H'
noncomputable def PartA (H : Hp) (a : Addr) (w t : List Int) : Prop := ∃ h1 h2 : Addr, H a = some (.tup [.int (cnt w t : Nat), .ref h1, .ref h2]) ∧ H h1 = some (lsI (hdw w t)) ∧ H h2 = some (lsI (tlw w t))
noncomputable def spPSign : Sp := fun vs H Q _ => ∃ (x : Int) (Wd : Addr) (w : List Int), vs = [.int x, .ref Wd] ∧ H Wd = some (lsI w) ∧ 1 ≤ w.length ∧ w.length ≤ 1000 ∧
  ∀ (a h1 h2 : Addr) (H' : Hp), Same H H' → H h1 = none → H h2 = none → H' a = some (.tup [.int (cnt w [x] : Nat), .ref h1, .ref h2]) → H' h1 = some (lsI (hdw w [x])) → H' h2 = some (lsI (tlw w [x])) → Q (.ref a) H'
noncomputable def spPBoth : Sp := fun vs H Q _ => ∃ (o p Wd : Addr) (w t u : List Int), vs = [.ref o, .ref p, .ref Wd] ∧ PartA H o w t ∧ PartA H p w u ∧ H Wd = some (lsI w) ∧ 1 ≤ w.length ∧ w.length ≤ 1000 ∧
  ∀ (a h1 h2 : Addr) (H' : Hp), Same H H' → H h1 = none → H h2 = none → H' a = some (.tup [.int (cnt w (t ++ u) : Nat), .ref h1, .ref h2]) → H' h1 = some (lsI (hdw w (t ++ u))) → H' h2 = some (lsI (tlw w (t ++ u))) → Q (.ref a) H'
noncomputable def spGCnt : Sp := fun vs H Q _ => ∃ (p q Wd : Addr) (zs : List (Addr × Int × Int)) (row w : List Int), vs = [.ref p, .ref q, .ref Wd] ∧ Prs H p zs ∧ GrZ zs ∧ H q = some (lsI row) ∧ RwZ zs.length row ∧ zs.length ≤ 10000 ∧ row.length ≤ 100000 ∧ H Wd = some (lsI w) ∧ 1 ≤ w.length ∧ w.length ≤ 1000 ∧
  ∀ H', Same H H' → Q (.int (cnt w (exs (rn zs) (rwN row)) : Nat)) H'
structure Pts (H : Hp) (X : Addr) (as : List Addr) (w : List Int) (f : Nat → List Int) : Prop where
  at_ : H X = some (.lst (as.map V.ref))
  each : ∀ j a, as[j]? = some a → ∃ h1 h2 : Addr, h1 ≠ X ∧ h2 ≠ X ∧ H a = some (.tup [.int (cnt w (f j) : Nat), .ref h1, .ref h2]) ∧ H h1 = some (lsI (hdw w (f j))) ∧ H h2 = some (lsI (tlw w (f j)))
theorem Pts.part {H : Hp} {X a : Addr} {as : List Addr} {w : List Int} {f : Nat → List Int} (h : Pts H X as w f) {j : Nat} (e : as[j]? = some a) : PartA H a w (f j) := by
  obtain ⟨h1, h2, _, _, e1, e2, e3⟩ := h.each j a e
  exact ⟨h1, h2, e1, e2, e3⟩
theorem Pts.same {H H' : Hp} {X : Addr} {as : List Addr} {w : List Int} {f : Nat → List Int} (h : Pts H X as w f) (s : Same H H') : Pts H' X as w f := ⟨s _ _ h.at_, fun j a e => by
  obtain ⟨h1, h2, n1, n2, e1, e2, e3⟩ := h.each j a e
  exact ⟨h1, h2, n1, n2, s _ _ e1, s _ _ e2, s _ _ e3⟩⟩
theorem Pts.nil {H : Hp} {X : Addr} {w : List Int} {f : Nat → List Int} (h : H X = some (.lst [])) : Pts H X [] w f := ⟨h, fun j a e => by cases e⟩
theorem Pts.app {H : Hp} {X l h1 h2 : Addr} {as : List Addr} {w : List Int} {f f2 : Nat → List Int} {t : List Int} (h : Pts H X as w f) (hl : H l = some (.tup [.int (cnt w t : Nat), .ref h1, .ref h2])) (e1 : H h1 = some (lsI (hdw w t))) (e2 : H h2 = some (lsI (tlw w t))) (n1 : h1 ≠ X) (n2 : h2 ≠ X)
    (g1 : ∀ j, j < as.length → f2 j = f j) (g2 : f2 as.length = t) : Pts (upd H X (.lst (as.map V.ref ++ [V.ref l]))) X (as ++ [l]) w f2 := by
  refine ⟨by rw [upd_same, List.map_append]; rfl, fun j a e => ?_⟩
  have hup : ∀ (b : Addr) (o : List V), H b = some (.tup o) → upd H X (.lst (as.map V.ref ++ [V.ref l])) b = some (.tup o) := fun b o hb => by
    rw [upd_ne (fun z => by rw [z, h.at_] at hb; cases hb)]; exact hb
  by_cases hj : j < as.length
  · rw [List.getElem?_append_left hj] at e
    obtain ⟨k1, k2, m1, m2, q1, q2, q3⟩ := h.each j a e
    rw [g1 j hj]
    exact ⟨k1, k2, m1, m2, hup _ _ q1, by rw [upd_ne m1]; exact q2, by rw [upd_ne m2]; exact q3⟩
  · have hj2 : j = as.length := by
      have := (List.getElem?_eq_some_iff.mp e).1
      rw [List.length_append, List.length_singleton] at this
      trivial
    subst hj2
    rw [List.getElem?_append_right (Nat.le_refl _), Nat.sub_self] at e
    have ea : l = a := Option.some.inj e
    subst ea
    rw [g2]
    exact ⟨h1, h2, n1, n2, hup _ _ hl, by rw [upd_ne n1]; exact e1, by rw [upd_ne n2]; exact e2⟩
theorem sum_ones : ∀ n : Nat, (List.replicate n (1 : Int)).sum = (n : Int)
  | 0 => rfl
  | n + 1 => by rw [List.replicate_succ, List.sum_cons, sum_ones n]; trivial
theorem ctw_yes {w t : List Int} {i : Nat} (h : (t.drop i).take w.length = w) : ctw w t (i + 1) = ctw w t i + 1 := by
  show ctw w t i + (if (t.drop i).take w.length = w then 1 else 0) = _
  rw [if_pos h]
theorem ctw_no {w t : List Int} {i : Nat} (h : ¬ (t.drop i).take w.length = w) : ctw w t (i + 1) = ctw w t i := by
  show ctw w t i + (if (t.drop i).take w.length = w then 1 else 0) = _
  rw [if_neg h]
  rfl
theorem cut_from' (ns : List Int) (k : Nat) : HO.lst (cutV (ns.map V.int) (some (k : Int)) none) = lsI (ns.drop k) := congrArg HO.lst (cut_from ns k)
theorem cut_to' (ns : List Int) (k : Nat) : HO.lst (cutV (ns.map V.int) none (some (k : Int))) = lsI (ns.take k) := congrArg HO.lst (cut_to (α := Int) (f := V.int) ns k)
theorem cut_step' (ns : List Int) (i m : Nat) : HO.lst (cutV (ns.map V.int) (some (i : Int)) (some ((i : Int) + (m : Int)))) = lsI ((ns.drop i).take m) := by
  rw [show (i : Int) + (m : Int) = ((i + m : Nat) : Int) by trivial, cut_two, Nat.add_sub_cancel_left]
  rfl
theorem lsI_cat (a b : List Int) : HO.lst (a.map V.int ++ b.map V.int) = lsI (a ++ b) := by unfold lsI; rw [List.map_append]
theorem ctw_le (w t : List Int) : ∀ i, ctw w t i ≤ i
  | 0 => Nat.le_refl _
  | i + 1 => by
    have := ctw_le w t i
    show ctw w t i + (if _ then 1 else 0) ≤ _
    split <;> trivial
end PH
namespace PH
open PySem L2 PySem.W
noncomputable def Kn (H : Hp) (a h1 h2 : Addr) (w t : List Int) : Prop := H a = some (.tup [.ref h1, .ref h2, .int (cnt w t : Nat), .int (t.length : Nat)]) ∧ H h1 = some (lsI (hdw w t)) ∧ H h2 = some (lsI (tlw w t))
structure Kns (H : Hp) (X : Addr) (as : List Addr) (w : List Int) (f : Nat → List Int) : Prop where
  at_ : H X = some (.lst (as.map V.ref))
  each : ∀ j a, as[j]? = some a → ∃ h1 h2 : Addr, h1 ≠ X ∧ h2 ≠ X ∧ Kn H a h1 h2 w (f j)
end PH
set_option Elab.async false
set_option linter.all false
set_option maxRecDepth 100000
set_option maxHeartbeats 4000000
namespace PH
open PySem L2 PySem.W
structure GrL (H : Hp) (L P q : Addr) (zs : List (Addr × Int × Int)) (row : List Int) : Prop where
  at_ : H L = some (.lst [.ref P, .ref q])
  pr : Prs H P zs
  gr : GrZ zs
  rw_ : H q = some (lsI row)
  rz : RwZ zs.length row
  zl : zs.length ≤ 1000
  rl : row.length ≤ 1000
theorem RwZ.app {n : Nat} {a b : List Int} (h : RwZ n a) (h2 : RwZ n b) : RwZ n (a ++ b) := fun y hy => by
  rcases List.mem_append.mp hy with hy | hy
  · exact h y hy
  · exact h2 y hy
theorem rwN_app (a b : List Int) : rwN (a ++ b) = rwN a ++ rwN b := List.map_append
theorem exs_rw (rs : List (Nat × Nat)) (a b : List Int) : exs rs (rwN (a ++ b)) = exs rs (rwN a) ++ exs rs (rwN b) := by rw [rwN_app, exs_app]
structure Wds (H : Hp) (X : Addr) (as : List Addr) (ws : List (List Int)) : Prop where
  at_ : H X = some (.lst (as.map V.ref))
  len : as.length = ws.length
  each : ∀ (j : Nat) (a : Addr) (w : List Int), as[j]? = some a → ws[j]? = some w → H a = some (lsI w) ∧ 1 ≤ w.length ∧ w.length ≤ 100
end PH
set_option Elab.async false
set_option linter.all false
set_option maxRecDepth 100000
set_option maxHeartbeats 4000000
namespace ST
open PySem
noncomputable def Up (xs : Array Nat) : Prop := xs.toList.Pairwise (· < ·)
theorem Up.at {xs : Array Nat} (u : Up xs) {i k : Nat} (h : i < k) (hk : k < xs.size) : xs.getD i 0 < xs.getD k 0 := by
  have hi : i < xs.size := Nat.lt_trans h hk
  have := List.pairwise_iff_getElem.mp u i k (by simpa using hi) (by simpa using hk) h
  simpa [Array.getD, hi, hk] using this
theorem go_spec {xs : Array Nat} (u : Up xs) (j : Nat) : ∀ fuel lo hi : Nat, lo ≤ hi → hi ≤ xs.size → hi - lo ≤ fuel → (∀ i, i < lo → xs.getD i 0 < j) → (∀ i, hi ≤ i → i < xs.size → j ≤ xs.getD i 0) →
    SetTable.below.go xs j fuel lo hi ≤ xs.size ∧ (∀ i, i < SetTable.below.go xs j fuel lo hi → xs.getD i 0 < j) ∧ (∀ i, SetTable.below.go xs j fuel lo hi ≤ i → i < xs.size → j ≤ xs.getD i 0)
  | 0, lo, hi, h1, h2, h3, h4, h5 => by
    have : lo = hi := by trivial
    subst this
    exact ⟨h2, h4, h5⟩
  | fuel + 1, lo, hi, h1, h2, h3, h4, h5 => by
    unfold SetTable.below.go
    by_cases c : lo < hi
    · rw [if_pos c]
      have hm : (lo + hi) / 2 < xs.size := by trivial
      have e : xs.getD ((lo + hi) / 2) j = xs.getD ((lo + hi) / 2) 0 := by simp [Array.getD, hm]
      dsimp only
      rw [e]
      by_cases c2 : xs.getD ((lo + hi) / 2) 0 < j
      · rw [if_pos c2]
        refine go_spec u j fuel _ hi (by trivial) h2 (by trivial) (fun i hi' => ?_) h5
        by_cases q : i = (lo + hi) / 2
        · rw [q]; exact c2
        · exact Nat.lt_trans (u.at (show i < (lo + hi) / 2 by trivial) hm) c2
      · rw [if_neg c2]
        refine go_spec u j fuel lo _ (by trivial) (by trivial) (by trivial) h4 (fun i hi' hs => ?_)
        by_cases q : i = (lo + hi) / 2
        · rw [q]; trivial
        · have := u.at (show (lo + hi) / 2 < i by trivial) hs
          trivial
    · rw [if_neg c]
      have : lo = hi := by trivial
      subst this
      exact ⟨h2, h4, h5⟩
theorem below_spec {xs : Array Nat} (u : Up xs) (j : Nat) : SetTable.below xs j ≤ xs.size ∧ (∀ i, i < SetTable.below xs j → xs.getD i 0 < j) ∧ (∀ i, SetTable.below xs j ≤ i → i < xs.size → j ≤ xs.getD i 0) :=
  go_spec u j xs.size 0 xs.size (Nat.zero_le _) (Nat.le_refl _) (by trivial) (fun i h => absurd h (Nat.not_lt_zero _)) (fun i h h' => by trivial)
theorem below_at {xs : Array Nat} (u : Up xs) {k : Nat} (h : k < xs.size) : SetTable.below xs (xs.getD k 0) = k ∧ SetTable.below xs (xs.getD k 0 + 1) = k + 1 := by
  obtain ⟨a1, a2, a3⟩ := below_spec u (xs.getD k 0)
  obtain ⟨b1, b2, b3⟩ := below_spec u (xs.getD k 0 + 1)
  constructor
  · rcases Nat.lt_trichotomy (SetTable.below xs (xs.getD k 0)) k with q | q | q
    · have := a3 _ (Nat.le_refl _) (by trivial)
      have := u.at q h
      trivial
    · exact q
    · have := a2 k q
      trivial
  · rcases Nat.lt_trichotomy (SetTable.below xs (xs.getD k 0 + 1)) (k + 1) with q | q | q
    · have := b3 k (by trivial) h
      trivial
    · exact q
    · have h2 := b2 (k + 1) q
      have := u.at (show k < k + 1 by trivial) (show k + 1 < xs.size by trivial)
      trivial
theorem mem_getD {xs : Array Nat} {j : Nat} (h : j ∈ xs.toList) : ∃ k, k < xs.size ∧ xs.getD k 0 = j := by
  obtain ⟨k, hk, e⟩ := List.mem_iff_getElem.mp h
  have hk' : k < xs.size := by simpa using hk
  exact ⟨k, hk', by simp [Array.getD, hk']; simpa using e⟩
structure Ok (t : SetTable) (n : Nat) : Prop where
  mask : t.mask = 7 ∨ t.mask = 31 ∨ t.mask = 127 ∨ t.mask = 511
  size : t.place.size = n
  fit : n ≤ t.mask
  dum : t.dummies = #[]
  up : Up t.place
  le : ∀ j ∈ t.place.toList, j ≤ t.mask
  plain : t.plain = true
theorem has_nil (j : Nat) : SetTable.has #[] j = false := rfl
theorem slot_of {t : SetTable} {n : Nat} (o : Ok t n) (j : Nat) : (j ∉ t.place.toList ∧ t.slot j = .empty) ∨ (j ∈ t.place.toList ∧ ∃ i, t.slot j = .live i) := by
  unfold SetTable.slot
  by_cases h : j ∈ t.place.toList
  · obtain ⟨k, hk, e⟩ := mem_getD h
    have b := (below_at o.up hk).1
    rw [e] at b
    refine .inr ⟨h, k, ?_⟩
    dsimp only
    rw [b]
    have : t.place[k]? = some j := by
      rw [Array.getElem?_eq_getElem hk]
      simpa [Array.getD, hk] using e
    rw [this, if_pos (beq_self_eq_true _)]
  · refine .inl ⟨h, ?_⟩
    dsimp only
    rw [if_neg, o.dum, has_nil, if_neg Bool.false_ne_true]
    intro z
    have z := beq_iff_eq.mp z
    exact h (by
      have := List.mem_of_getElem? (l := t.place.toList) (i := SetTable.below t.place j) (a := j) (by rw [Array.getElem?_toList]; exact z)
      exact this)
noncomputable def lp (m : Nat) : Nat → Nat × Nat → Nat × Nat
  | 0, q => q
  | k + 1, q => lp m k (SetTable.leap m q.1 q.2)
theorem run_le {m i : Nat} (h : i ≤ m) : SetTable.runEnd m i - i ≤ 9 ∧ i + (SetTable.runEnd m i - i) ≤ m := by
  unfold SetTable.runEnd
  split <;> trivial
theorem leap_le (m i p : Nat) : (SetTable.leap m i p).1 ≤ m := by
  unfold SetTable.leap
  have := Nat.mod_lt (i * 5 + 1 + p / 32) (show 0 < m + 1 by trivial)
  show _ % (m + 1) ≤ m
  trivial
theorem go_ok {t : SetTable} {n : Nat} (o : Ok t n) (h : Int) {e : Nat} (he : e ∉ t.place.toList) (hem : e ≤ t.mask) : ∀ (fuel : Nat) (p : SetTable.Probe) (K : Nat), p.dummy = none → p.j + p.more ≤ t.mask → p.more ≤ 9 →
    ((K = 0 ∧ p.j = e ∧ 1 ≤ fuel) ∨ (1 ≤ K ∧ (lp t.mask K (p.i, p.perturb)).1 = e ∧ p.more + 2 + 10 * (K - 1) ≤ fuel)) →
    ∃ j, SetTable.probe.go t (fun _ => h + 1) h fuel p = some (.empty j none) ∧ j ∉ t.place.toList ∧ j ≤ t.mask
  | 0, p, K, hd, hj, hm, hk => by trivial
  | fuel + 1, p, K, hd, hj, hm, hk => by
    unfold SetTable.probe.go
    rcases slot_of o p.j with ⟨s1, s2⟩ | ⟨s1, i, s2⟩
    · rw [s2]
      exact ⟨p.j, by rw [hd], s1, by trivial⟩
    · rw [s2]
      dsimp only
      rw [if_neg (by intro z; have := beq_iff_eq.mp z; trivial)]
      rcases hk with ⟨_, q, _⟩ | ⟨k1, k2, k3⟩
      · exact absurd (by rw [← q]; exact s1) he
      unfold SetTable.advance
      by_cases c : p.more > 0
      · rw [if_pos c]
        exact go_ok o h he hem fuel _ K hd (by show p.j + 1 + (p.more - 1) ≤ _; trivial) (by show p.more - 1 ≤ 9; trivial) (.inr ⟨k1, k2, by show p.more - 1 + 2 + 10 * (K - 1) ≤ fuel; trivial⟩)
      · rw [if_neg c]
        have hle := leap_le t.mask p.i p.perturb
        obtain ⟨r1, r2⟩ := run_le hle
        refine go_ok o h he hem fuel _ (K - 1) hd r2 r1 ?_
        obtain ⟨K', rfl⟩ : ∃ K', K = K' + 1 := ⟨K - 1, by trivial⟩
        have k2' : (lp t.mask K' (SetTable.leap t.mask p.i p.perturb)).1 = e := k2
        by_cases z : K' = 0
        · subst z
          exact .inl ⟨rfl, k2', by trivial⟩
        · exact .inr ⟨by trivial, k2', by show SetTable.runEnd t.mask _ - _ + 2 + 10 * (K' + 1 - 1 - 1) ≤ fuel; trivial⟩
noncomputable def it (N : Nat) : Nat → Nat → Nat
  | 0, a => a
  | k + 1, a => it N k ((a * 5 + 1) % N)
noncomputable def orb (N : Nat) : Nat → Nat → List Nat
  | 0, _ => []
  | k + 1, a => a :: orb N k ((a * 5 + 1) % N)
theorem orb_mem (N : Nat) : ∀ (n a b : Nat), b ∈ orb N n a → ∃ k, k < n ∧ it N k a = b
  | 0, a, b, h => by cases h
  | n + 1, a, b, h => by
    rcases List.mem_cons.mp h with h | h
    · exact ⟨0, by trivial, h.symm⟩
    · obtain ⟨k, h1, h2⟩ := orb_mem N n _ b h
      exact ⟨k + 1, by trivial, h2⟩
theorem it_add (N : Nat) : ∀ (k l a : Nat), it N (k + l) a = it N l (it N k a)
  | 0, l, a => by rw [Nat.zero_add]; rfl
  | k + 1, l, a => by
    rw [show k + 1 + l = (k + l) + 1 by trivial]
    exact it_add N k l _
theorem cyc {N : Nat} (h0 : it N N 0 = 0) (hm : ∀ b, b < N → b ∈ orb N N 0) {a b : Nat} (ha : a < N) (hb : b < N) : ∃ k, k < N ∧ it N k a = b := by
  obtain ⟨i, i1, i2⟩ := orb_mem N N 0 a (hm a ha)
  obtain ⟨j, j1, j2⟩ := orb_mem N N 0 b (hm b hb)
  by_cases c : i ≤ j
  · refine ⟨j - i, by trivial, ?_⟩
    rw [← i2, ← it_add, show i + (j - i) = j by trivial, j2]
  · refine ⟨N - i + j, by trivial, ?_⟩
    rw [← i2, ← it_add, show i + (N - i + j) = N + j by trivial, it_add, h0, j2]
theorem all_mem {N : Nat} (h : ((List.range N).all fun b => (orb N N 0).contains b) = true) : ∀ b, b < N → b ∈ orb N N 0 := fun b hb => by
  have := List.all_eq_true.mp h b (List.mem_range.mpr hb)
  simpa using this
theorem cyc_all {m : Nat} (h : m = 7 ∨ m = 31 ∨ m = 127 ∨ m = 511) {a b : Nat} (ha : a ≤ m) (hb : b ≤ m) : ∃ k, k ≤ m ∧ it (m + 1) k a = b := by
  have key : ∃ k, k < m + 1 ∧ it (m + 1) k a = b := by
    rcases h with rfl | rfl | rfl | rfl
    · exact cyc (N := 8) (by decide +kernel) (all_mem (by decide +kernel)) (by trivial) (by trivial)
    · exact cyc (N := 32) (by decide +kernel) (all_mem (by decide +kernel)) (by trivial) (by trivial)
    · exact cyc (N := 128) (by decide +kernel) (all_mem (by decide +kernel)) (by trivial) (by trivial)
    · exact cyc (N := 512) (by decide +kernel) (all_mem (by decide +kernel)) (by trivial) (by trivial)
  obtain ⟨k, h1, h2⟩ := key
  exact ⟨k, by trivial, h2⟩
theorem lp_zero (m : Nat) : ∀ (k a : Nat), lp m k (a, 0) = (it (m + 1) k a, 0)
  | 0, a => rfl
  | k + 1, a => by
    show lp m k (SetTable.leap m a 0) = _
    have : SetTable.leap m a 0 = ((a * 5 + 1) % (m + 1), 0) := rfl
    rw [this, lp_zero m k]; rfl
theorem reach {m : Nat} (hm : m = 7 ∨ m = 31 ∨ m = 127 ∨ m = 511) {i pb e : Nat} (hp : pb ≤ 255) (he : e ≤ m) : ∃ K, 1 ≤ K ∧ K ≤ m + 2 ∧ (lp m K (i, pb)).1 = e := by
  have l1 := leap_le m (SetTable.leap m i pb).1 (pb / 32)
  obtain ⟨k, k1, k2⟩ := cyc_all hm l1 he
  refine ⟨k + 2, by trivial, by trivial, ?_⟩
  show (lp m k (SetTable.leap m (SetTable.leap m i pb).1 (SetTable.leap m i pb).2)).1 = e
  have e2 : SetTable.leap m (SetTable.leap m i pb).1 (SetTable.leap m i pb).2 = ((SetTable.leap m (SetTable.leap m i pb).1 (pb / 32)).1, 0) := by
    show (_, pb / 32 / 32) = (_, 0)
    rw [show pb / 32 / 32 = 0 by trivial]; rfl
  rw [e2, lp_zero, k2]
theorem gap_list : ∀ (m : Nat) (l : List Nat), l.Pairwise (· < ·) → l.length ≤ m → ∃ e, e ≤ m ∧ e ∉ l := by
  intro m l hp hl
  by_cases c : ∃ e, e ≤ m ∧ e ∉ l
  · exact c
  · exfalso
    have hall : ∀ e, e ≤ m → e ∈ l := fun e h => by
      by_cases q : e ∈ l
      · exact q
      · exact absurd ⟨e, h, q⟩ c
    have nd : (List.range (m + 1)).Nodup := List.nodup_range
    have sub : (List.range (m + 1)) ⊆ l := fun e h => hall e (by have := List.mem_range.mp h; trivial)
    have := (List.Nodup.length_le_of_subset nd sub)
    rw [List.length_range] at this
    trivial
theorem free_ok {t : SetTable} {n : Nat} (o : Ok t n) {h : Int} (h0 : 0 ≤ h) (h1 : h ≤ 255) : ∃ j, t.freeSlot h = some (j, false) ∧ j ∉ t.place.toList ∧ j ≤ t.mask := by
  obtain ⟨e, e1, e2⟩ := gap_list t.mask t.place.toList o.up (by have := o.size; have := o.fit; simp; trivial)
  have hb : SetTable.bits h ≤ 255 := by
    unfold SetTable.bits
    trivial
  obtain ⟨K, K1, K2, K3⟩ := reach o.mask (i := SetTable.bits h % (t.mask + 1)) hb e1
  have hi : SetTable.bits h % (t.mask + 1) ≤ t.mask := by have := Nat.mod_lt (SetTable.bits h) (show 0 < t.mask + 1 by trivial); trivial
  obtain ⟨r1, r2⟩ := run_le hi
  obtain ⟨j, j1, j2, j3⟩ := go_ok o h e2 e1 (10 * SetTable.turns t.mask) (t.probeStart h) K rfl r2 r1 (.inr ⟨K1, K3, by
    show SetTable.runEnd t.mask _ - _ + 2 + 10 * (K - 1) ≤ 10 * (t.mask + 15)
    trivial⟩)
  refine ⟨j, ?_, j2, j3⟩
  unfold SetTable.freeSlot SetTable.probe
  rw [j1]; rfl
end ST
set_option Elab.async false
set_option linter.all false
set_option maxRecDepth 100000
set_option maxHeartbeats 4000000
namespace ST
open PySem
theorem ins_list {α : Type} (xs : Array α) (p : Nat) (x : α) : (SetTable.insertAt xs p x).toList = xs.toList.take p ++ x :: xs.toList.drop p := by
  unfold SetTable.insertAt
  rw [Array.toList_append, Array.toList_push, Array.toList_extract, Array.toList_extract, List.extract_eq_take_drop, List.extract_eq_take_drop]
  simp
  exact List.take_of_length_le (by simp)
theorem ins_size {α : Type} (xs : Array α) {p : Nat} (h : p ≤ xs.size) (x : α) : (SetTable.insertAt xs p x).size = xs.size + 1 := by
  rw [← Array.length_toList, ins_list, List.length_append, List.length_cons, List.length_take, List.length_drop, Array.length_toList]
  trivial
theorem getD_list (xs : Array Nat) {i : Nat} (h : i < xs.toList.length) : xs.toList[i] = xs.getD i 0 := by
  have h' : i < xs.size := by simpa using h
  simp [Array.getD, h']
theorem ins_up {xs : Array Nat} (u : Up xs) {j : Nat} (h : j ∉ xs.toList) : Up (SetTable.insertAt xs (SetTable.below xs j) j) := by
  obtain ⟨b1, b2, b3⟩ := below_spec u j
  unfold Up
  rw [ins_list]
  have lo : ∀ a ∈ xs.toList.take (SetTable.below xs j), a < j := fun a ha => by
    obtain ⟨i, hi, e⟩ := List.mem_take_iff_getElem.mp ha
    rw [← e, getD_list]
    exact b2 i (by trivial)
  have hi : ∀ a ∈ xs.toList.drop (SetTable.below xs j), j < a := fun a ha => by
    obtain ⟨i, hi, e⟩ := List.mem_drop_iff_getElem.mp ha
    have hi' : SetTable.below xs j + i < xs.toList.length := by trivial
    have h1 := b3 (SetTable.below xs j + i) (by trivial) (by simpa using hi')
    rw [← getD_list xs hi', e] at h1
    have h2 : a ≠ j := fun z => h (by rw [← z, ← e]; exact List.getElem_mem hi')
    trivial
  refine List.pairwise_append.mpr ⟨List.Pairwise.sublist (List.take_sublist _ _) u, List.pairwise_cons.mpr ⟨hi, List.Pairwise.sublist (List.drop_sublist _ _) u⟩, fun a ha b hb => ?_⟩
  rcases List.mem_cons.mp hb with hb | hb
  · rw [hb]; exact lo a ha
  · exact Nat.lt_trans (lo a ha) (hi b hb)
theorem lay_ok {t : SetTable} {es : Array (Int × Value)} (o : Ok t es.size) (hr : es.size + 1 ≤ t.mask) {h : Int} (h0 : 0 ≤ h) (h1 : h ≤ 255) (x : Value) :
    ∃ es' t', layNew t es h x = (es', t', false, false) ∧ Ok t' es'.size ∧ es'.size = es.size + 1 ∧ t'.mask = t.mask ∧ t'.led = t.led := by
  obtain ⟨j, j1, j2, j3⟩ := free_ok o h0 h1
  obtain ⟨b1, _, _⟩ := below_spec o.up j
  have hp : t.put j = ({ t with place := SetTable.insertAt t.place (SetTable.below t.place j) j }, SetTable.below t.place j) := by
    unfold SetTable.put
    dsimp only
    rw [o.dum, has_nil, if_neg Bool.false_ne_true]
  have s1 : (SetTable.insertAt es (SetTable.below t.place j) (h, x)).size = es.size + 1 := ins_size es (by rw [← o.size]; exact b1) _
  have s2 : (SetTable.insertAt t.place (SetTable.below t.place j) j).size = es.size + 1 := by rw [ins_size _ b1, o.size]
  have hf : ({ t with place := SetTable.insertAt t.place (SetTable.below t.place j) j } : SetTable).fits (SetTable.insertAt es (SetTable.below t.place j) (h, x)).size = true := by
    unfold SetTable.fits SetTable.fill
    dsimp only
    rw [s1, s2, o.dum]
    simp
    exact hr
  refine ⟨SetTable.insertAt es (SetTable.below t.place j) (h, x), { t with place := SetTable.insertAt t.place (SetTable.below t.place j) j }, ?_, ⟨o.mask, by rw [s1]; exact s2, by rw [s1]; exact hr, o.dum, ins_up o.up j2, fun k hk => ?_, o.plain⟩, s1, rfl, rfl⟩
  · unfold layNew
    rw [j1]
    dsimp only
    rw [hp]
    dsimp only
    rw [hf]
    unfold SetTable.orStandIn
    rw [if_pos hf]
    rfl
  · have hk : k ∈ (SetTable.insertAt t.place (SetTable.below t.place j) j).toList := hk
    rw [ins_list] at hk
    rcases List.mem_append.mp hk with hk | hk
    · exact o.le k (List.mem_of_mem_take hk)
    · rcases List.mem_cons.mp hk with hk | hk
      · rw [hk]; exact j3
      · exact o.le k (List.mem_of_mem_drop hk)
structure Ow (m k : Nat) (ow : Array (Option Nat)) : Prop where
  size : ow.size = m + 1
  perm : (ow.toList.filterMap id).Perm (List.range k)
theorem fm_set {α : Type} : ∀ {l : List (Option α)} {j : Nat} (k : α), l[j]? = some none → ((l.set j (some k)).filterMap id).Perm (k :: l.filterMap id)
  | [], j, k, h => by cases h
  | y :: l, 0, k, h => by
    have : y = none := Option.some.inj h
    subst this
    exact .refl _
  | y :: l, j + 1, k, h => by
    have ih := fm_set (l := l) (j := j) k (by simpa using h)
    rw [List.set_cons_succ]
    cases y with
    | none => simpa using ih
    | some v =>
      show (v :: (l.set j (some k)).filterMap id).Perm (k :: v :: l.filterMap id)
      exact (ih.cons v).trans (.swap _ _ _)
theorem fm_len {α : Type} : ∀ (l : List (Option α)), (∀ x ∈ l, x ≠ none) → (l.filterMap id).length = l.length
  | [], _ => rfl
  | none :: l, h => absurd rfl (h none List.mem_cons_self)
  | some v :: l, h => by
    show (v :: l.filterMap id).length = _
    rw [List.length_cons, List.length_cons, fm_len l fun x hx => h x (List.mem_cons_of_mem _ hx)]
theorem Ow.gap {m k : Nat} {ow : Array (Option Nat)} (o : Ow m k ow) (hk : k ≤ m) : ∃ e, e ≤ m ∧ ow.getD e none = none := by
  by_cases c : ∃ e, e ≤ m ∧ ow.getD e none = none
  · exact c
  · exfalso
    have h1 := fm_len ow.toList fun x hx z => by
      obtain ⟨i, hi, e⟩ := List.mem_iff_getElem.mp hx
      have hi' : i < ow.size := by simpa using hi
      refine c ⟨i, by have := o.size; trivial, ?_⟩
      rw [z] at e
      simpa [Array.getD, hi'] using e
    have h2 := o.perm.length_eq
    rw [h1, List.length_range, Array.length_toList, o.size] at h2
    trivial
theorem free_lay {m k : Nat} {ow : Array (Option Nat)} (o : Ow m k ow) {e : Nat} (hem : e ≤ m) (he : ow.getD e none = none) : ∀ (fuel K i pb : Nat), i ≤ m → (lp m K (i, pb)).1 = e → K < fuel → ∃ j, SetTable.layClean.free m ow fuel i pb = some j ∧ j ≤ m ∧ ow.getD j none = none
  | 0, K, i, pb, hi, hk, hf => by trivial
  | fuel + 1, K, i, pb, hi, hk, hf => by
    unfold SetTable.layClean.free
    obtain ⟨r1, r2⟩ := run_le hi
    cases hfd : (List.range (SetTable.runEnd m i + 1 - i)).find? fun k => (ow.getD (i + k) (some 0)).isNone with
    | some q =>
      dsimp only
      have hq := List.find?_some hfd
      have hm := List.mem_range.mp (List.mem_of_find?_eq_some hfd)
      have hle : i + q ≤ m := by
        unfold SetTable.runEnd at hm
        split at hm <;> trivial
      have hs : i + q < ow.size := by have := o.size; trivial
      refine ⟨i + q, rfl, hle, ?_⟩
      have : ow.getD (i + q) (some 0) = none := by simpa using hq
      simpa [Array.getD, hs] using this
    | none =>
      dsimp only
      cases K with
      | zero =>
        exfalso
        have hie : i = e := hk
        have := List.find?_eq_none.mp hfd 0 (List.mem_range.mpr (by unfold SetTable.runEnd; split <;> trivial))
        have hs : i < ow.size := by have := o.size; trivial
        refine this ?_
        rw [Nat.add_zero]
        have e2 : ow.getD i (some 0) = none := by
          rw [← hie] at he
          simpa [Array.getD, hs] using he
        rw [e2]; rfl
      | succ K => exact free_lay o hem he fuel K _ _ (leap_le m i pb) hk (by trivial)
noncomputable def stp (m : Nat) (acc : Option (Array (Option Nat) × Nat)) (h : Int) : Option (Array (Option Nat) × Nat) := do
  let (owner, k) ← acc
  let j ← SetTable.layClean.free m owner (SetTable.turns m) (SetTable.bits h % (m + 1)) (SetTable.bits h)
  pure (owner.setIfInBounds j (some k), k + 1)
theorem fold_ok {m : Nat} (hm : m = 7 ∨ m = 31 ∨ m = 127 ∨ m = 511) : ∀ (hs : List Int) (ow : Array (Option Nat)) (k : Nat), Ow m k ow → k + hs.length ≤ m → (∀ h ∈ hs, 0 ≤ h ∧ h ≤ 255) → ∃ ow', hs.foldl (stp m) (some (ow, k)) = some (ow', k + hs.length) ∧ Ow m (k + hs.length) ow'
  | [], ow, k, o, _, _ => ⟨ow, rfl, o⟩
  | h :: hs, ow, k, o, hl, hb => by
    rw [List.length_cons] at hl
    obtain ⟨h0, h1⟩ := hb h List.mem_cons_self
    obtain ⟨e, e1, e2⟩ := o.gap (by trivial)
    have hbt : SetTable.bits h ≤ 255 := by unfold SetTable.bits; trivial
    obtain ⟨K, K1, K2, K3⟩ := reach hm (i := SetTable.bits h % (m + 1)) hbt e1
    have hi : SetTable.bits h % (m + 1) ≤ m := by have := Nat.mod_lt (SetTable.bits h) (show 0 < m + 1 by trivial); trivial
    obtain ⟨j, j1, j2, j3⟩ := free_lay o e1 e2 (SetTable.turns m) K _ _ hi K3 (by unfold SetTable.turns; trivial)
    have hst : stp m (some (ow, k)) h = some (ow.setIfInBounds j (some k), k + 1) := by
      unfold stp
      dsimp only [Option.bind_eq_bind, Option.bind_some]
      rw [j1]; rfl
    have hjs : j < ow.size := by have := o.size; trivial
    have o' : Ow m (k + 1) (ow.setIfInBounds j (some k)) := by
      refine ⟨by rw [Array.size_setIfInBounds]; exact o.size, ?_⟩
      rw [Array.toList_setIfInBounds]
      have hj : ow.toList[j]? = some none := by
        rw [Array.getElem?_toList, Array.getElem?_eq_getElem hjs]
        simpa [Array.getD, hjs] using j3
      refine (fm_set k hj).trans ?_
      rw [List.range_succ]
      exact (o.perm.cons k).trans (List.perm_append_singleton _ _).symm
    obtain ⟨ow', a1, a2⟩ := fold_ok hm hs _ _ o' (by trivial) fun x hx => hb x (List.mem_cons_of_mem _ hx)
    refine ⟨ow', ?_, ?_⟩
    · rw [List.foldl_cons, hst, a1, List.length_cons]
      congr 2; trivial
    · rw [List.length_cons, show k + (hs.length + 1) = k + 1 + hs.length by trivial]; exact a2
theorem lay_clean {m : Nat} (hm : m = 7 ∨ m = 31 ∨ m = 127 ∨ m = 511) (hs : Array Int) (hl : hs.size ≤ m) (hb : ∀ h ∈ hs.toList, 0 ≤ h ∧ h ≤ 255) : ∃ ow, SetTable.layClean m hs = some ow ∧ Ow m hs.size ow := by
  have o0 : Ow m 0 (Array.replicate (m + 1) none) := by
    refine ⟨Array.size_replicate, ?_⟩
    rw [Array.toList_replicate]
    have : (List.replicate (m + 1) (none : Option Nat)).filterMap id = [] := by
      rw [List.filterMap_eq_nil_iff]
      intro a ha
      rw [List.eq_of_mem_replicate ha]; rfl
    rw [this]; exact .refl _
  obtain ⟨ow, a1, a2⟩ := fold_ok hm hs.toList _ 0 o0 (by simpa using hl) hb
  rw [Nat.zero_add, Array.length_toList] at a1 a2
  refine ⟨ow, ?_, a2⟩
  unfold SetTable.layClean
  rw [← Array.foldl_toList]
  show (hs.toList.foldl (stp m) (some (Array.replicate (m + 1) none, 0))).map (·.1) = some ow
  rw [a1]; rfl
noncomputable def liv (m : Nat) (ow : Array (Option Nat)) : List (Nat × Nat) := (List.range (m + 1)).filterMap fun j => (ow.getD j none).map (j, ·)
theorem Ow.snd {m k : Nat} {ow : Array (Option Nat)} (o : Ow m k ow) : ((liv m ow).map (·.2)).Perm (List.range k) := by
  have e1 : (liv m ow).map (·.2) = (List.range (m + 1)).filterMap fun j => ow.getD j none := by
    unfold liv
    rw [List.map_filterMap]
    congr 1
    funext j
    rw [Option.map_map]
    cases ow.getD j none <;> rfl
  have e2 : ow.toList.filterMap id = (List.range (m + 1)).filterMap fun j => ow.getD j none := by
    have : ow.toList = (List.range (m + 1)).map fun j => ow.getD j none := by
      apply List.ext_getElem
      · rw [List.length_map, List.length_range, Array.length_toList, o.size]
      · intro i h1 h2
        have h1' : i < ow.size := by simpa using h1
        rw [List.getElem_map, List.getElem_range]
        simp [Array.getD, h1']
    rw [this, List.filterMap_map]; rfl
  rw [e1, ← e2]
  exact o.perm
theorem liv_up (m : Nat) (ow : Array (Option Nat)) : ((liv m ow).map (·.1)).Pairwise (· < ·) ∧ ∀ j ∈ (liv m ow).map (·.1), j ≤ m := by
  constructor
  · rw [List.pairwise_map]
    unfold liv
    rw [List.pairwise_filterMap]
    refine List.pairwise_lt_range.imp ?_
    intro a b hab x hx y hy
    obtain ⟨u, _, rfl⟩ := Option.map_eq_some_iff.mp hx
    obtain ⟨v, _, rfl⟩ := Option.map_eq_some_iff.mp hy
    exact hab
  · intro j hj
    obtain ⟨p, hp, rfl⟩ := List.mem_map.mp hj
    obtain ⟨a, ha, e⟩ := List.mem_filterMap.mp hp
    obtain ⟨u, _, rfl⟩ := Option.map_eq_some_iff.mp e
    have := List.mem_range.mp ha
    show a ≤ m
    trivial
theorem len_fm {α β : Type} (f : α → Option β) : ∀ (l : List α), (∀ x ∈ l, (f x).isSome = true) → (l.filterMap f).length = l.length
  | [], _ => rfl
  | x :: l, h => by
    obtain ⟨b, hb⟩ := Option.isSome_iff_exists.mp (h x List.mem_cons_self)
    rw [List.filterMap_cons_some hb, List.length_cons, List.length_cons, len_fm f l fun y hy => h y (List.mem_cons_of_mem _ hy)]
theorem relay_ok {t : SetTable} {es : Array (Int × Value)} (o : Ok t es.size) (hfull : t.tooFull = true) (hn : es.size ≤ 256) (hprev : (es.size - 1) * 5 < t.mask * 3) (hb : ∀ e ∈ es.toList, 0 ≤ e.1 ∧ e.1 ≤ 255) :
    ∃ es' t', relayAll t es (SetTable.grown es.size) = (es', t', false) ∧ Ok t' es'.size ∧ es'.size = es.size ∧ es'.size * 5 < t'.mask * 3 ∧ t'.led = t.led := by
  have hf : es.size * 5 ≥ t.mask * 3 := by
    unfold SetTable.tooFull SetTable.fill at hfull
    have := of_decide_eq_true hfull
    rw [o.size, o.dum] at this
    simpa using this
  obtain ⟨m', hm', hmm, hr⟩ : ∃ m', SetTable.sizeAbove (SetTable.grown es.size) - 1 = m' ∧ (m' = 7 ∨ m' = 31 ∨ m' = 127 ∨ m' = 511) ∧ es.size * 5 < m' * 3 := by
    have hg : SetTable.grown es.size = es.size * 4 := by unfold SetTable.grown; rw [if_neg (by trivial)]
    rw [hg]
    rcases o.mask with q | q | q | q <;> rw [q] at hf hprev
    · have : es.size = 5 := by trivial
      rw [this]
      exact ⟨31, by decide, by decide, by decide⟩
    · have : es.size = 19 := by trivial
      rw [this]
      exact ⟨127, by decide, by decide, by decide⟩
    · have : es.size = 77 := by trivial
      rw [this]
      exact ⟨511, by decide, by decide, by decide⟩
    · trivial
  obtain ⟨ow, w1, w2⟩ := lay_clean hmm (es.map (·.1)) (by rw [Array.size_map]; trivial) (fun h hh => by
    rw [Array.toList_map] at hh
    obtain ⟨e, he, rfl⟩ := List.mem_map.mp hh
    exact hb e he)
  rw [Array.size_map] at w2
  have hsn := w2.snd
  obtain ⟨u1, u2⟩ := liv_up m' ow
  have hll : (liv m' ow).length = es.size := by
    have := hsn.length_eq
    rw [List.length_map, List.length_range] at this
    exact this
  have hre : t.relaid (es.map (·.1)) (SetTable.grown es.size) = some ({ mask := m', place := ((liv m' ow).map (·.1)).toArray, dummies := #[], finger := t.finger, led := t.led, moves := t.movedTo m', plain := t.plain }, ((liv m' ow).map (·.2)).toArray) := by
    unfold SetTable.relaid SetTable.laid
    rw [hm', w1]; rfl
  have hes : (((liv m' ow).map (·.2)).toArray.filterMap (es[·]?)).size = es.size := by
    rw [← Array.length_toList, Array.toList_filterMap, len_fm]
    · rw [List.length_map]; exact hll
    · intro i hi
      have hi := List.mem_range.mp (hsn.mem_iff.mp hi)
      rw [Array.getElem?_eq_getElem hi]; rfl
  have hfit : ({ mask := m', place := ((liv m' ow).map (·.1)).toArray, dummies := #[], finger := t.finger, led := t.led, moves := t.movedTo m', plain := t.plain } : SetTable).fits (((liv m' ow).map (·.2)).toArray.filterMap (es[·]?)).size = true := by
    unfold SetTable.fits SetTable.fill
    dsimp only
    rw [hes]
    simp [hll]
    trivial
  have hcov : coversAll ((liv m' ow).map (·.2)).toArray es.size = true := by
    unfold coversAll
    rw [List.isPerm_iff]
    exact hsn
  refine ⟨((liv m' ow).map (·.2)).toArray.filterMap (es[·]?), { mask := m', place := ((liv m' ow).map (·.1)).toArray, dummies := #[], finger := t.finger, led := t.led, moves := t.movedTo m', plain := t.plain }, ?_, ⟨hmm, ?_, ?_, rfl, ?_, ?_, o.plain⟩, hes, by rw [hes]; exact hr, rfl⟩
  · unfold relayAll
    rw [hre]
    dsimp only
    rw [hcov, hfit]
    rfl
  · rw [hes]; simp [hll]
  · rw [hes]; show es.size ≤ m'; trivial
  · exact u1
  · exact u2
end ST
set_option Elab.async false
set_option linter.all false
set_option maxRecDepth 100000
set_option maxHeartbeats 4000000
namespace ST
open PySem PyProof.Rows
noncomputable def kOf (e : Int × Value) : Int := match e.2 with | .int k _ => k | _ => 0
noncomputable def Good (e : Int × Value) : Prop := ∃ k t, e = (hashInt k, .int k t) ∧ 0 ≤ k ∧ k ≤ 255
theorem hash_small {k : Int} (h0 : 0 ≤ k) (h1 : k ≤ 255) : hashInt k = k := by
  obtain ⟨n, rfl⟩ : ∃ n : Nat, k = (n : Int) := ⟨k.toNat, by trivial⟩
  have : ∀ n : Nat, n < 256 → hashInt (n : Int) = (n : Int) := by decide +kernel
  exact this n (by trivial)
structure W (h : Heap) (a : Addr) (led : Bool) (ns : List Int) : Prop where
  ex : ∃ o es ep t, h.get? a = some o ∧ o.ExactSet ∧ o.data = .set es ep t ∧ (∀ e ∈ es.toList, Good e) ∧ (es.toList.map kOf).Perm ns ∧ Ok t es.size ∧ es.size * 5 < t.mask * 3 ∧ t.led = led
  nd : ns.Nodup
  rg : ∀ k ∈ ns, 0 ≤ k ∧ k ≤ 255
theorem small_len {ns : List Int} (nd : ns.Nodup) (rg : ∀ k ∈ ns, 0 ≤ k ∧ k ≤ 255) : ns.length ≤ 256 := by
  have nd2 : (ns.map Int.toNat).Nodup := by
    unfold List.Nodup at nd ⊢
    rw [List.pairwise_map]
    refine List.Pairwise.imp_of_mem ?_ nd
    intro a b ha hb hab z
    have := rg a ha
    have := rg b hb
    exact hab (by trivial)
  have sub : ns.map Int.toNat ⊆ List.range 256 := fun x hx => by
    obtain ⟨k, hk, rfl⟩ := List.mem_map.mp hx
    have := rg k hk
    exact List.mem_range.mpr (by trivial)
  have := List.Nodup.length_le_of_subset nd2 sub
  rw [List.length_map, List.length_range] at this
  exact this
section
variable {prog : Program} {w : World} {A : Around} {E : Value → Shared → Prop} {s : Shared}
theorem elems {es : List (Int × Value)} (g : ∀ e ∈ es, Good e) : ElemsOf (intKind prog w) es := fun e he => by
  obtain ⟨k, t, rfl, _⟩ := g e he
  exact ⟨⟨k, intKind_is _ _ _ _, rfl⟩, rfl⟩
theorem add_W {a : Addr} {led : Bool} {ns : List Int} {k : Int} {tk : Tok} {Q : Bool → Shared → Prop} (hW : W s.heap a led ns) (h0 : 0 ≤ k) (h1 : k ≤ 255)
    (hQ : ∀ b h', Heap.SameBut a s.heap h' → W h' a led (if k ∈ ns then ns else k :: ns) → Q b { s with heap := h' }) :
    wpAny (model prog w) A (setAddHashed a (.int k tk) (hashInt k)) Q E s := by
  obtain ⟨⟨ob, es, ep, t, go, gx, gd, gg, gp, gk, gr, gl⟩, nd, rg⟩ := hW
  have gf : t.fits es.size = true := by
    unfold SetTable.fits SetTable.fill
    rw [gk.size, gk.dum]
    have := gk.fit
    simp
    exact this
  have gl2 := gp.length_eq
  rw [List.length_map, Array.length_toList] at gl2
  have gs : es.size ≤ 256 := by rw [gl2]; exact small_len nd rg
  have hel : ElemsOf (intKind prog w) es.toList := elems gg
  unfold setAddHashed setAddHashedIn
  refine wpAny_holding (wpAny_bind (wpAny_setState_of go gd gf ?_))
  dsimp only
  rw [byScan_of (knd := intKind prog w) rfl (by unfold scanBound; trivial) hel]
  simp only [↓reduceIte]
  unfold setAddByScan
  refine wpAny_bind ?_
  refine wpAny_bind (wpAny_rule ?_)
  refine wpAny_bind (wpAny_setScan_of (knd := intKind prog w) (k := k) (intKind_is _ _ _ _) go gd gf hel ?_)
  have mem_iff : (∃ e ∈ es.toList, (intKind prog w).is k e.2 = true) ↔ k ∈ ns := by
    constructor
    · rintro ⟨e, he, hk⟩
      obtain ⟨k', t', rfl, _⟩ := gg e he
      have : k = k' := (intKind prog w).inj _ _ _ hk (intKind_is _ _ _ _)
      rw [this]
      exact gp.mem_iff.mp (List.mem_map.mpr ⟨_, he, rfl⟩)
    · intro hk
      obtain ⟨e, he, e2⟩ := List.mem_map.mp (gp.mem_iff.mpr hk)
      obtain ⟨k', t', rfl, _⟩ := gg e he
      have e2 : k' = k := e2
      subst e2
      exact ⟨_, he, intKind_is _ _ _ _⟩
  cases hr : List.findIdx? (fun e => (intKind prog w).is k e.2) es.toList with
  | some j =>
    dsimp only
    obtain ⟨hj, hpj, _⟩ := List.findIdx?_eq_some_iff_getElem.mp hr
    have hk : k ∈ ns := mem_iff.mp ⟨_, List.getElem_mem hj, hpj⟩
    refine wpAny_pure (wpAny_pure ?_)
    have := hQ false s.heap (Heap.SameBut.refl a s.heap) (by rw [if_pos hk]; exact ⟨⟨ob, es, ep, t, go, gx, gd, gg, gp, gk, gr, gl⟩, nd, rg⟩)
    exact this
  | none =>
    dsimp only
    have hk : k ∉ ns := fun z => by
      obtain ⟨e, he, hp⟩ := mem_iff.mpr z
      have := List.findIdx?_eq_none_iff.mp hr e he
      rw [hp] at this; cases this
    have nd2 : (k :: ns).Nodup := List.nodup_cons.mpr ⟨hk, nd⟩
    have rg2 : ∀ x ∈ k :: ns, 0 ≤ x ∧ x ≤ 255 := fun x hx => by
      rcases List.mem_cons.mp hx with h | h
      · rw [h]; exact ⟨h0, h1⟩
      · exact rg x h
    have hlen := small_len nd2 rg2
    rw [List.length_cons] at hlen
    have hh := hash_small h0 h1
    obtain ⟨es1, t1, l1, l2, l3, l4, l5⟩ := lay_ok gk (by rcases gk.mask with q | q | q | q <;> rw [q] at gr ⊢ <;> trivial) (h := hashInt k) (by rw [hh]; exact h0) (by rw [hh]; exact h1) (.int k tk)
    have lp := layNew_perm t es (hashInt k) (.int k tk)
    rw [l1] at lp ⊢
    dsimp only at lp ⊢
    rw [Array.toList_push] at lp
    have gg1 : ∀ e ∈ es1.toList, Good e := fun e he => by
      rcases List.mem_append.mp (lp.mem_iff.mp he) with h | h
      · exact gg e h
      · rw [List.mem_singleton.mp h]; exact ⟨k, tk, rfl, h0, h1⟩
    have gp1 : (es1.toList.map kOf).Perm (k :: ns) := by
      refine (lp.map kOf).trans ?_
      rw [List.map_append]
      exact (List.perm_append_singleton _ _).trans (gp.cons k)
    have go1 : (s.heap.update a (Obj.putSet es1 t1)).get? a = some { ob with data := .set es1 (ep + 1) t1 } := by
      have q := Heap.get?_update_self (Obj.putSet es1 t1) go (by rw [putSet_of es1 t1 gd]; rfl)
      rw [putSet_of es1 t1 gd] at q
      exact q
    have sb1 := Heap.SameBut.update s.heap a (Obj.putSet es1 t1)
    refine wpAny_bind (wpAny_pure ?_)
    rw [if_pos l2.plain]
    refine wpAny_bind ?_
    rw [hashByValue_scannable 8 rfl]
    refine wpAny_pure ?_
    simp only [plainKind, ↓reduceIte]
    refine wpAny_bind (wpAny_storeSet_of go gd ?_ (fits_of_scanBound (by unfold scanBound; trivial)))
    rw [if_neg hk] at hQ
    by_cases full : t1.tooFull = true
    · rw [full]
      simp only [Bool.not_false, Bool.and_self, ↓reduceIte]
      obtain ⟨es2, t2, r1, r2, r3, r4, r5⟩ := relay_ok l2 full (by trivial) (by rw [l3, l4]; simpa using gr) (fun e he => by
        obtain ⟨k', t', rfl, b0, b1⟩ := gg1 e he
        show 0 ≤ hashInt k' ∧ hashInt k' ≤ 255
        rw [hash_small b0 b1]; exact ⟨b0, b1⟩)
      have rp := relayAll_perm t1 es1 (SetTable.grown es1.size)
      rw [r1] at rp ⊢
      dsimp only at rp ⊢
      refine wpAny_bind (wpAny_pure ?_)
      have go2 : ((s.heap.update a (Obj.putSet es1 t1)).update a (Obj.putSet es2 t2)).get? a = some { ob with data := .set es2 (ep + 1 + 1) t2 } := by
        have q := Heap.get?_update_self (Obj.putSet es2 t2) go1 (by rw [putSet_of es2 t2 rfl]; rfl)
        rw [putSet_of es2 t2 rfl] at q
        exact q
      refine wpAny_bind (wpAny_storeSet_of go1 rfl ?_ (fits_of_scanBound (by unfold scanBound; trivial)))
      refine wpAny_pure (wpAny_pure ?_)
      exact hQ true _ (sb1.trans (Heap.SameBut.update _ a _)) ⟨⟨_, es2, _, t2, go2, gx, rfl, fun e he => gg1 e (rp.mem_iff.mp he), (rp.map kOf).trans gp1, r2, r4, by rw [r5, l5]; exact gl⟩, nd2, rg2⟩
    · have full' : t1.tooFull = false := by simpa using full
      rw [full']
      simp only [Bool.not_false, Bool.and_false, Bool.false_eq_true, ↓reduceIte]
      refine wpAny_pure (wpAny_pure ?_)
      refine hQ true _ sb1 ⟨⟨_, es1, _, t1, go1, gx, rfl, gg1, gp1, l2, ?_, by rw [l5]; exact gl⟩, nd2, rg2⟩
      unfold SetTable.tooFull SetTable.fill at full'
      have := of_decide_eq_false full'
      rw [l2.size, l2.dum] at this
      simp at this
      trivial
end
end ST
set_option Elab.async false
set_option linter.all false
set_option maxRecDepth 100000
set_option maxHeartbeats 4000000
namespace ST
open PySem PyProof.Rows
noncomputable def led0 (w : World) : Bool := !w.params.followText "set-order"
noncomputable def newO (w : World) : Obj := { cls := .type "set", dict := none, data := .set #[] 0 (.fresh 0 0 (led0 w)) }
theorem W.at {h h' : Heap} {a : Addr} {led : Bool} {ns : List Int} (x : W h a led ns) (k : ∀ o, h.get? a = some o → h'.get? a = some o) : W h' a led ns := by
  obtain ⟨⟨o, es, ep, t, go, r⟩, nd, rg⟩ := x
  exact ⟨⟨o, es, ep, t, k _ go, r⟩, nd, rg⟩
theorem W.new {w : World} {h : Heap} {a : Addr} (e : h.get? a = some (newO w)) : W h a (led0 w) [] :=
  ⟨⟨_, #[], 0, _, e, ⟨rfl, rfl, rfl⟩, rfl, (fun e he => by cases he), .refl _, ⟨.inl rfl, rfl, Nat.zero_le _, rfl, List.Pairwise.nil, (fun j hj => by cases hj), rfl⟩, (show 0 * 5 < 7 * 3 by decide), rfl⟩, List.nodup_nil, fun k hk => by cases hk⟩
section
variable {prog : Program} {w : World} {A : Around} {R : Result → Shared → Prop} {I : Addr} {fp wr : List Addr} {G : Array GenState → Array GenState → Prop} {n : Nat} {P : Nat → Value → Prop} {St : Nat → Shared → Prop}
theorem loop_W (Wk : WalksS prog w A.in1 I fp wr G n P St) (S : Addr) (hSf : S ∉ fp) (led : Bool) (val : Nat → Int) (hval : ∀ i v, P i v → ∃ t, v = .int (val i) t) (hrg : ∀ i, i < n → 0 ≤ val i ∧ val i ≤ 255) :
    ∀ (k i : Nat) (s : Shared) (ns : List Int), n - i = k → i ≤ n → St i s → W s.heap S led ns →
      (∀ s' ns', Moved (S :: wr) G s s' → W s'.heap S led ns' → (∀ x, x ∈ ns' ↔ x ∈ ns ∨ ∃ j, i ≤ j ∧ j < n ∧ x = val j) → R (.ok (.ret .none)) s') →
      codeAny (model prog w) A (.builtin "set.update.loop" ⟨[.ref S, .ref I], []⟩) R s := by
  have nw : S ∉ wr := fun z => hSf (Wk.sub _ z)
  have sub : ∀ b ∈ wr, b ∈ S :: wr := fun b z => List.mem_cons_of_mem _ z
  intro k
  induction k with
  | zero =>
    intro i s ns hk hi st hW hR
    have e : i = n := by trivial
    subst e
    refine codeAny_builtin PyProof.Rows.F.entry_set_update_loop ?_
    rw [Around.under_plainId PyProof.Rows.F.plain_set_update_loop _]
    show wpAny _ A.in1 (pyNext (.ref I) >>= _) _ _ s
    refine wpAny_bind (Wk.done s _ _ st fun s' mv => ?_)
    exact wpAny_pure (hR s' ns (mv.mono sub) (hW.at fun o e => mv.heap S _ nw e) fun x => ⟨.inl, fun z => z.elim id fun ⟨j, a, b, _⟩ => by trivial⟩)
  | succ k ih =>
    intro i s ns hk hi st hW hR
    have lt : i < n := by trivial
    refine codeAny_builtin PyProof.Rows.F.entry_set_update_loop ?_
    rw [Around.under_plainId PyProof.Rows.F.plain_set_update_loop _]
    show wpAny _ A.in1 (pyNext (.ref I) >>= _) _ _ s
    refine wpAny_bind (Wk.item i s _ _ lt st fun v s' hp st' mv => ?_)
    obtain ⟨tk, rfl⟩ := hval i v hp
    obtain ⟨v0, v1⟩ := hrg i lt
    have hW' : W s'.heap S led ns := hW.at fun o e => mv.heap S _ nw e
    show wpAny _ A.in1 (holding [Value.int (val i) tk] (setAdd S (.int (val i) tk)) >>= _) _ _ s'
    refine wpAny_bind (wpAny_holding ?_)
    unfold setAdd
    refine wpAny_holding ?_
    refine wpAny_bind ((intKind prog w).pyHash (k := val i) (intKind_is _ _ _ _) ?_)
    refine add_W (s := { s' with toks := s'.toks + 1 }) hW' v0 v1 fun b h' sb hW2 => ?_
    refine wpAny_pure ⟨plainId_quiet PyProof.Rows.F.plain_set_update_loop _, ih (i + 1) _ _ (by trivial) lt (Wk.frame _ s' _ _ st' (Nat.le_succ _) fun c hc o e => ?_) hW2 fun s'' ns' mv2 hW3 hx => ?_⟩
    · rw [sb.2 c fun z : c = S => hSf (by rw [← z]; exact hc)]; exact e
    · refine hR s'' ns' (Moved.trans Wk.gtrans ((mv.mono sub).then_heap (Nat.le_succ _) fun c o hc e => ?_) mv2) hW3 fun x => ?_
      · rw [sb.2 c fun z : c = S => hc (by rw [z]; exact List.mem_cons_self)]; exact e
      · rw [hx x]
        constructor
        · rintro (z | ⟨j, a, b, c⟩)
          · by_cases q : val i ∈ ns
            · rw [if_pos q] at z; exact .inl z
            · rw [if_neg q] at z
              rcases List.mem_cons.mp z with z | z
              · exact .inr ⟨i, Nat.le_refl _, lt, z⟩
              · exact .inl z
          · exact .inr ⟨j, by trivial, b, c⟩
        · rintro (z | ⟨j, a, b, c⟩)
          · left
            split
            · exact z
            · exact List.mem_cons_of_mem _ z
          · by_cases q : j = i
            · left
              subst q
              rw [c]
              split
              · assumption
              · exact List.mem_cons_self
            · exact .inr ⟨j, by trivial, b, c⟩
end
section
variable {prog : Program} {w : World} {A : Around} {E : Value → Shared → Prop} {s : Shared}
theorem new_W (a : Value) {Q1 : Value → Shared → Prop} (q : Q1 (.ref s.heap.objs.size) { s with heap := s.heap.push (newO w) }) :
    codeAny (model prog w) A (.call (.builtin "set.__new__") ⟨[.type "set", a], []⟩) (wants Q1 E) s := by
  refine codeAny_of_tree ?_
  show wpAny _ A.in1 (do checkBuiltinCall "set.__new__" ⟨[.type "set", a], []⟩; again (.builtin "set.__new__" ⟨[.type "set", a], []⟩)) _ _ s
  refine wpAny_bind (wpAny_of_eq (PySem.F.newCall_set_1 a) (wpAny_pure ⟨plainId_quiet PySem.F.plain_set_new _, codeAny_builtin PySem.F.entry_set_new ?_⟩))
  rw [Around.under_plainId PySem.F.plain_set_new _]
  unfold Builtin.«set.__new__» Builtin.Frozenset.newClass
  have su := sub_set_self
  obtain ⟨hp, g, d, tk, os⟩ := s
  dsimp only
  wp_walk
  refine wpAny_askSetting (wpAny_pure ?_)
  dsimp only
  simp only [newObj]
  refine wpAny_bind (wpAny_alloc (wpAny_pure ?_))
  exact wpAny_pure q
theorem call_W {l : Addr} {items : Array Value} {ns : List Int} {Q : Value → Shared → Prop} (hh : A.handled = none) (hl : s.heap.IsList l items) (hi : IntsAre items.toList ns) (hr : ∀ x ∈ ns, 0 ≤ x ∧ x ≤ 255)
    (q : ∀ (h' : Heap) (tk : Nat) (ks : List Int), W h' s.heap.objs.size (led0 w) ks → (∀ x, x ∈ ks ↔ x ∈ ns) → (∀ b o, b < s.heap.objs.size → s.heap.get? b = some o → h'.get? b = some o) → Q (.ref s.heap.objs.size) { s with heap := h', toks := tk }) :
    wpAny (model prog w) A (call (.type "set") [.ref l]) Q E s := by
  obtain ⟨c, tl, hmro⟩ := PySem.F.called_set.mro
  have hmade := PySem.F.called_set.made
  have hsub := PySem.F.called_set.sub
  refine wpAny_call (codeAny_of_tree ?_)
  show wpAny _ _ (callAny (.type "set") _) _ _ _
  refine wpAny_pure ⟨Code.quiet_builtin _ (by decide +kernel), codeAny_builtin PySem.F.entry_type_call ?_⟩
  rw [Around.under_plain (weight_type_call_type "set" [.ref l] []) rfl]
  have c1 := PySem.F.called_set.notType
  have c2 := PySem.F.called_set.canCreate
  have c3 := PySem.F.typeCall_set_1 (.ref l)
  repeat (any_goals (first | assumption | wp_step))
  refine codeAny_mono (new_W (.ref l) (E := E) (Q1 := fun obj s1 => obj = .ref s.heap.objs.size ∧ s1 = { s with heap := s.heap.push (newO w) }) ⟨rfl, rfl⟩) fun r s1 hr1 => ?_
  cases r with
  | error e => exact hr1
  | ok fl =>
    cases fl with
    | ret obj =>
      obtain ⟨rfl, rfl⟩ := hr1
      have gS : (s.heap.push (newO w)).get? s.heap.objs.size = some (newO w) := Heap.get?_push_size _ rfl
      have gT : Shared.TypeIs { s with heap := s.heap.push (newO w) } (.ref s.heap.objs.size) "set" := ⟨_, gS, rfl⟩
      have c4 := PySem.F.called_set.init.lookup
      have c5 := PySem.F.called_set.init.bind (.ref s.heap.objs.size)
      repeat (any_goals (first | assumption | wp_step))
      refine codeAny_mono (codeAny_call_builtin (R := wants (fun r s2 => r = .none ∧ ∃ h' tk ks, s2 = { s with heap := h', toks := tk } ∧ W h' s.heap.objs.size (led0 w) ks ∧ (∀ x, x ∈ ks ↔ x ∈ ns) ∧ (∀ b o, b < s.heap.objs.size → s.heap.get? b = some o → h'.get? b = some o)) E)
        PySem.F.called_set.init.plain PySem.F.entry_set_init (check_set_init_1 gT ?_)) fun r2 s2 hr2 => ?_
      · obtain ⟨ol, gol, ocl, nl, odl⟩ := hl
        obtain ⟨ocls, odict, odata, oslots⟩ := ol
        simp only at ocl odl
        subst ocl; subst odl
        have gol' : (s.heap.push (newO w)).get? l = some { cls := .type "list", dict := odict, data := .seq items nl, slots := oslots } := Heap.get?_push_of_some _ gol
        have d1 := PySem.F.sub_list_set
        have d2 := PySem.F.sub_list_frozenset
        have d3 : (Value.type "list" == Value.type "dict") = false := by decide
        have isl : (s.heap.push (newO w)).IsList l items := ⟨_, gol', rfl, nl, rfl⟩
        unfold Builtin.«set.__init__» noKeywords Builtin.Frozenset.updateFrom
        generalize hPI : pyIter = PI
        wp_walk
        subst hPI
        refine wpAny_pyIter_list isl ?_
        refine wpAny_bind (wpAny_runValue ?_)
        have ltS : l < s.heap.objs.size := Heap.lt_size gol
        have hh3 : A.in1.in1.in1.handled = none := by simp [hh]
        have neI : l ≠ (s.heap.push (newO w)).objs.size := by rw [Heap.size_push]; exact Nat.ne_of_lt (Nat.lt_succ_of_lt ltS)
        have nfp : s.heap.objs.size ∉ [(s.heap.push (newO w)).objs.size, l] := by
          rw [Heap.size_push]
          simp only [List.mem_cons, List.not_mem_nil, or_false, not_or]
          exact ⟨Nat.ne_of_lt (Nat.lt_succ_self _), Nat.ne_of_gt ltS⟩
        have lenE : items.size = ns.length := by
          have := (L2.intsAre_vals hi).length
          rw [List.length_map, Array.length_toList] at this
          exact this.symm
        have isv : ∀ (i : Nat) (v : Value), items[i]? = some v → ∃ t, v = .int (ns.getD i 0) t := fun i v e => IntsAre.int_at hi i v (by rw [Array.getElem?_toList]; exact e)
        refine loop_W ((Walks.list hh3 _ l neI items).toS) s.heap.objs.size nfp (led0 w) (fun i => ns.getD i 0) isv (fun i hi' => ?_) (items.size - 0) 0 _ [] (by trivial) (Nat.zero_le _)
          ⟨⟨_, Heap.get?_push_size _ rfl, rfl, rfl⟩, (isl.push _)⟩ (W.new (Heap.get?_push_of_some _ gS)) ?_
        · rw [lenE] at hi'
          have : ns.getD i 0 ∈ ns := by
            rw [List.getD_eq_getElem?_getD, List.getElem?_eq_getElem hi']
            exact List.getElem_mem hi'
          exact hr _ this
        intro s' ks mv hW hx
        obtain ⟨h', g', d', tk', os'⟩ := s'
        have eg : g' = s.gens := mv.gens
        have ed : d' = s.drawn := mv.drawn
        have eo : os' = s.os := mv.os
        subst eg; subst ed; subst eo
        show wpAny _ _ _ _ _ _
        refine wpAny_pure ?_
        refine wpAny_pure ⟨rfl, h', tk', ks, rfl, hW, fun x => ?_, fun b o hb e => ?_⟩
        · rw [hx x]
          constructor
          · rintro (z | ⟨j, _, b, e⟩)
            · cases z
            · rw [lenE] at b
              rw [e, List.getD_eq_getElem?_getD, List.getElem?_eq_getElem b]
              exact List.getElem_mem b
          · intro z
            obtain ⟨j, hj, e⟩ := List.mem_iff_getElem.mp z
            refine .inr ⟨j, Nat.zero_le _, by trivial, ?_⟩
            rw [List.getD_eq_getElem?_getD, List.getElem?_eq_getElem hj]
            exact e.symm
        · have nb1 : b ≠ s.heap.objs.size := Nat.ne_of_lt hb
          have nb2 : b ≠ (s.heap.push (newO w)).objs.size := by rw [Heap.size_push]; exact Nat.ne_of_lt (Nat.lt_succ_of_lt hb)
          exact mv.heap b o (by simp only [List.mem_cons, List.not_mem_nil, or_false, not_or]; exact ⟨nb1, nb2⟩) (Heap.get?_push_of_some _ (Heap.get?_push_of_some _ e))
      · cases r2 with
        | error e => exact hr2
        | ok fl2 =>
          cases fl2 with
          | ret r =>
            obtain ⟨rfl, h', tk, ks, rfl, hW, hx, hk'⟩ := hr2
            repeat (any_goals (first | assumption | wp_step))
            exact q _ _ ks hW hx hk'
          | _ => exact hr2.elim
    | _ => exact hr1.elim
end
end ST
set_option Elab.async false
set_option linter.all false
set_option maxRecDepth 100000
set_option maxHeartbeats 4000000
namespace ST
open PySem PyProof.Rows
theorem slot_nx : Slot "set_iterator" "__next__" "set_iterator.__next__" :=
  .of (owner := "set_iterator") (n := "__next__") (by rw [typeLookup_type, builtinLookup_eq_fast]; kernel_rfl) (by decide +kernel) (by decide +kernel) (by decide +kernel) (by first | exact .inl (by decide +kernel) | exact .inr (by decide +kernel)) (by rw [isSubtype_type]; kernel_rfl)
theorem slot_it : Slot "set_iterator" "__iter__" "set_iterator.__iter__" :=
  .of (owner := "set_iterator") (n := "__iter__") (by rw [typeLookup_type, builtinLookup_eq_fast]; kernel_rfl) (by decide +kernel) (by decide +kernel) (by decide +kernel) (by first | exact .inl (by decide +kernel) | exact .inr (by decide +kernel)) (by rw [isSubtype_type]; kernel_rfl)
theorem ent_nx : entryFor table "set_iterator.__next__" = some Builtin.«set_iterator.__next__» := entryFor_of_fast (by kernel_rfl)
theorem ent_it : entryFor table "set_iterator.__iter__" = some Builtin.«dict_keyiterator.__iter__» := entryFor_alias (id' := "dict_keyiterator.__iter__") (by kernel_rfl) rfl (by decide +kernel) (by kernel_rfl)
theorem ent_si : entryFor table "set.__iter__" = some Builtin.«frozenset.__iter__» := entryFor_alias (id' := "frozenset.__iter__") (by kernel_rfl) rfl (by decide +kernel) (by kernel_rfl)
theorem args_nx (a : Value) : argsOk "set_iterator.__next__" ⟨[a], []⟩ := by unfold argsOk; kernel_rfl
theorem args_it (a : Value) : argsOk "set_iterator.__iter__" ⟨[a], []⟩ := by unfold argsOk; kernel_rfl
theorem cons_erase {α : Type} : ∀ {l : List α} {i : Nat} (h : i < l.length), (l[i] :: l.eraseIdx i).Perm l
  | x :: l, 0, _ => .refl _
  | x :: l, i + 1, h => by
    have ih := cons_erase (l := l) (i := i) (by simpa using h)
    exact (List.Perm.swap _ _ _).trans (ih.cons x)
theorem pick_perm {α : Type} (nx : Nat → Nat) : ∀ (fuel k : Nat) (left : List α) (out : Array α), left.length ≤ fuel → (pickOrder.go nx fuel k left out).toList.Perm (out.toList ++ left)
  | 0, k, left, out, h => by
    have : left = [] := List.length_eq_zero_iff.mp (by trivial)
    subst this
    rw [List.append_nil]; exact .refl _
  | fuel + 1, k, left, out, h => by
    unfold pickOrder.go
    by_cases c : left = []
    · subst c
      rw [List.append_nil]; exact .refl _
    · have hl : nx k % left.length < left.length := Nat.mod_lt _ (List.length_pos_iff.mpr c)
      rw [List.getElem?_eq_getElem hl]
      dsimp only
      refine (pick_perm nx fuel (k + 1) _ _ (by rw [List.length_eraseIdx, if_pos hl]; trivial)).trans ?_
      rw [Array.toList_push, List.append_assoc]
      exact List.Perm.append_left _ (cons_erase hl)
noncomputable def ord (w : World) (S : Addr) (ep : Nat) (es : Array (Int × Value)) : Array (Int × Value) := if w.params.followText "set-order" = true then pickOrder (w.params.setOrder S ep) es else es
theorem ord_perm (w : World) (S : Addr) (ep : Nat) (es : Array (Int × Value)) : (ord w S ep es).toList.Perm es.toList := by
  unfold ord
  split
  · have := pick_perm (w.params.setOrder S ep) es.size 0 es.toList #[] (by simp)
    simpa [pickOrder] using this
  · exact .refl _
noncomputable def sl (w : World) (t : SetTable) (i : Nat) : Nat := if w.params.followText "set-order" = true then 0 else if i = 0 then 0 else t.place.getD (i - 1) 0 + 1
structure Fx (w : World) (o : Obj) (es : Array (Int × Value)) (ep : Nat) (t : SetTable) : Prop where
  ex : o.ExactSet
  dt : o.data = .set es ep t
  ok : Ok t es.size
  led : t.led = led0 w
theorem Fx.fits {w : World} {o : Obj} {es : Array (Int × Value)} {ep : Nat} {t : SetTable} (x : Fx w o es ep t) : t.fits es.size = true := by
  unfold SetTable.fits SetTable.fill
  rw [x.ok.size, x.ok.dum]
  have := x.ok.fit
  simp
  exact this
noncomputable def It (w : World) (S : Addr) (es : Array (Int × Value)) (ep : Nat) (t : SetTable) (I : Addr) (i : Nat) (h : Heap) : Prop :=
  ∃ o, h.get? I = some o ∧ o.cls = .type "set_iterator" ∧ o.data = .fields #[.int (sl w t i : Nat) 0, .int (i : Nat) 0, .ref S, .int (es.size : Nat) 0, .int (ep : Nat) 0]
section
variable {prog : Program} {w : World} {A : Around} {E : Value → Shared → Prop} {s : Shared} {S I : Addr} {o : Obj} {es : Array (Int × Value)} {ep : Nat} {t : SetTable}
theorem It.ty {i : Nat} (x : It w S es ep t I i s.heap) : s.TypeIs (.ref I) "set_iterator" := by
  obtain ⟨o, e, c, _⟩ := x
  exact ⟨o, e, c⟩
theorem next_W {i : Nat} {Q : Option (Value × Nat) → Shared → Prop} (x : Fx w o es ep t) (ho : s.heap.get? S = some o) (hi : i ≤ es.size)
    (q : Q (((ord w S ep es)[i]?).map fun e => (e.2, sl w t (i + 1))) s) : wpAny (model prog w) A (setNext S (sl w t i) i ep) Q E s := by
  unfold setNext
  refine wpAny_bind (wpAny_setState_of ho x.dt x.fits ?_)
  dsimp only
  unfold setsByText
  refine wpAny_bind (wpAny_bind (wpAny_askSetting (wpAny_pure ?_)))
  show wpAny (model prog w) A (if w.params.followText "set-order" = true then _ else _) Q E s
  by_cases c : w.params.followText "set-order" = true
  · have e1 : ord w S ep es = pickOrder (w.params.setOrder S ep) es := by unfold ord; rw [if_pos c]
    have e2 : ∀ k, sl w t k = 0 := fun k => by unfold sl; rw [if_pos c]
    rw [e1, e2] at q
    rw [e2, if_pos c, if_neg (by simp)]
    refine wpAny_bind ?_
    unfold setWalk
    refine wpAny_bind (wpAny_setState_of ho x.dt x.fits ?_)
    dsimp only
    unfold setsByText
    refine wpAny_bind (wpAny_bind (wpAny_askSetting (wpAny_pure ?_)))
    show wpAny (model prog w) A (if w.params.followText "set-order" = true then _ else _) _ E s
    rw [if_pos c]
    refine wpAny_bind (wpAny_askSetting (wpAny_pure ?_))
    exact wpAny_pure q
  · have e1 : ord w S ep es = es := by unfold ord; rw [if_neg c]
    have e2 : sl w t (i + 1) = t.place.getD i 0 + 1 := by unfold sl; rw [if_neg c, if_neg (by trivial)]; rfl
    have e3 : SetTable.below t.place (sl w t i) = i := by
      unfold sl
      rw [if_neg c]
      cases i with
      | zero =>
        rw [if_pos rfl]
        obtain ⟨_, b, _⟩ := below_spec x.ok.up 0
        rcases Nat.eq_zero_or_pos (SetTable.below t.place 0) with z | z
        · exact z
        · have := b 0 z
          trivial
      | succ k =>
        rw [if_neg (by trivial)]
        exact (below_at x.ok.up (by rw [x.ok.size]; trivial)).2
    rw [if_neg c, if_neg (fun z => by
      have z' : (!t.plain && decide (es.size > 1)) = true := z
      rw [x.ok.plain] at z'
      cases z')]
    refine wpAny_bind ?_
    show wpAny (model prog w) A (if (!t.led && !es.isEmpty) = true then _ else pure ()) _ E s
    rw [if_neg (by rw [x.led]; unfold led0; rw [Bool.eq_false_iff.mpr c]; exact Bool.false_ne_true)]
    refine wpAny_pure (wpAny_pure ?_)
    rw [e3]
    rw [e1, e2] at q
    by_cases hl : i < es.size
    · have hp : t.place[i]? = some (t.place.getD i 0) := by
        have h' : i < t.place.size := by rw [x.ok.size]; exact hl
        rw [Array.getElem?_eq_getElem h']
        simp [Array.getD, h']
      rw [Array.getElem?_eq_getElem hl] at q ⊢
      rw [hp]
      exact q
    · have : es[i]? = none := Array.getElem?_eq_none (by trivial)
      rw [this] at q ⊢
      exact q
theorem head_W {i : Nat} {Q : Option Value → Shared → Prop} (x : Fx w o es ep t) (ho : s.heap.get? S = some o) (y : It w S es ep t I i s.heap) (hi : i ≤ es.size)
    (q : match (ord w S ep es)[i]? with
      | some e => ∀ h', It w S es ep t I (i + 1) h' → Heap.SameBut I s.heap h' → Q (some e.2) { s with heap := h' }
      | none => A.handled = none ∧ ∀ h', Heap.ExtBut I s.heap h' → Q none { s with heap := h' }) : wpAny (model prog w) A (pyNext (.ref I)) Q E s := by
  obtain ⟨oi, gi, ci, di⟩ := id y
  unfold pyNext
  refine wpAny_bind (wpAny_attempt (wpAny_callSpecial?_slot (name := Str.ofString "__next__") y.ty slot_nx (wpAny_call_entry slot_nx y.ty ent_nx ?_ (args_nx _))))
  show wpAny _ _ (fieldsOf (.ref I) >>= _) _ _ s
  refine wpAny_bind (wpAny_fieldsOf gi di ?_)
  show wpAny _ _ (setEntries S >>= _) _ _ s
  refine wpAny_bind (wpAny_setEntries_of ho x.dt x.fits ?_)
  show wpAny _ _ (if (((es.size : Nat) : Int) != ((es.size : Nat) : Int)) = true then _ else _) _ _ s
  rw [if_neg (by simp)]
  show wpAny _ _ (setNext S (Int.toNat ((sl w t i : Nat) : Int)) (Int.toNat ((i : Nat) : Int)) (Int.toNat ((ep : Nat) : Int)) >>= _) _ _ s
  rw [Int.toNat_natCast, Int.toNat_natCast, Int.toNat_natCast]
  refine wpAny_bind (next_W x ho hi ?_)
  cases he : (ord w S ep es)[i]? with
  | some e =>
    rw [he] at q
    show wpAny _ _ (setField (.ref I) 0 (rawInt ((sl w t (i + 1) : Nat) : Int)) >>= _) _ _ s
    refine wpAny_bind (wpAny_setField gi di (by simp) ?_)
    have d1 := Obj.data_mapFields di (·.setIfInBounds 0 (rawInt ((sl w t (i + 1) : Nat) : Int)))
    have g1 := Heap.get?_update_self (Obj.mapFields (·.setIfInBounds 0 (rawInt ((sl w t (i + 1) : Nat) : Int)))) gi (Obj.isFreed_of_fields d1)
    have c1 : (Obj.mapFields (·.setIfInBounds 0 (rawInt ((sl w t (i + 1) : Nat) : Int))) oi).cls = .type "set_iterator" := (Obj.cls_mapFields ..).trans ci
    have b1 := Heap.SameBut.update s.heap I (Obj.mapFields (·.setIfInBounds 0 (rawInt ((sl w t (i + 1) : Nat) : Int))))
    generalize s.heap.update I (Obj.mapFields (·.setIfInBounds 0 (rawInt ((sl w t (i + 1) : Nat) : Int)))) = h1 at g1 b1 ⊢
    generalize Obj.mapFields (·.setIfInBounds 0 (rawInt ((sl w t (i + 1) : Nat) : Int))) oi = o1 at d1 g1 c1
    show wpAny _ _ (setField (.ref I) 1 (rawInt ((i : Int) + 1)) >>= _) _ _ _
    refine wpAny_bind (wpAny_setField g1 d1 (by simp) ?_)
    have d2 := Obj.data_mapFields d1 (·.setIfInBounds 1 (rawInt ((i : Int) + 1)))
    have g2 := Heap.get?_update_self (Obj.mapFields (·.setIfInBounds 1 (rawInt ((i : Int) + 1)))) g1 (Obj.isFreed_of_fields d2)
    refine wpAny_pure ⟨e.2, rfl, wpAny_pure (q _ ⟨_, g2, (Obj.cls_mapFields ..).trans c1, ?_⟩ (b1.trans (Heap.SameBut.update ..)))⟩
    rw [d2]
    simp [rawInt]
  | none =>
    rw [he] at q
    obtain ⟨hh, q⟩ := q
    show wpAny _ _ (setField (.ref I) 2 Value.none >>= _) _ _ s
    refine wpAny_bind (wpAny_setField gi di (by simp) ?_)
    show wpAny _ _ (newExc (.type "StopIteration") [] >>= _) _ _ _
    refine wpAny_bind ?_
    simp only [newExc, newTuple]
    refine wpAny_bind (wpAny_newObj_type ?_ (by size_fits))
    refine wpAny_bind (m := firstArgMember _ _) (wpAny_of_eq (a := Value.none) (by first | rfl | (simp only [firstArgMember]; rfl)) ?_)
    refine wpAny_newObj_type ?_ (by size_fits)
    simp only [raiseNew]
    refine wpAny_bind (wpAny_handled ?_)
    rw [show A.in1.handled = none from hh]
    refine wpAny_bind (wpAny_pure (wpAny_throw ?thr))
    refine wpAny_bind (wpAny_isInstance (T := "StopIteration") (b := true) ⟨_, Heap.get?_push_size _ rfl, rfl⟩ isSubtype_stop ?_)
    exact wpAny_pure (q _ (((Heap.SameBut.update ..).extBut.push _).push _))
theorem walk_W (hh : A.handled = none) (x : Fx w o es ep t) (ne : S ≠ I) :
    Walks prog w A I [I, S] [I] es.size (fun i v => ∃ e, (ord w S ep es)[i]? = some e ∧ v = e.2) (fun i h => It w S es ep t I i h ∧ h.get? S = some o) where
  sub := fun b hb => by simp at hb; simp [hb]
  frame := fun i h h' st k => by
    obtain ⟨⟨oi, gi, r⟩, go⟩ := st
    exact ⟨⟨oi, k I (by simp) _ gi, r⟩, k S (by simp) _ go⟩
  item := fun i s Q E hi st hQ => by
    have hs : (ord w S ep es).size = es.size := by
      have := (ord_perm w S ep es).length_eq
      simpa using this
    have hl : i < (ord w S ep es).size := by trivial
    refine head_W x st.2 st.1 (Nat.le_of_lt hi) ?_
    rw [Array.getElem?_eq_getElem hl]
    intro h' y b
    exact hQ _ h' s.toks ⟨_, by rw [Array.getElem?_eq_getElem hl], rfl⟩ ⟨y, by rw [b.2 S ne]; exact st.2⟩ fun c u hc e => by rw [b.2 c fun z => hc (by simp [z])]; exact e
  done := fun s Q E st hQ => by
    have hs : (ord w S ep es).size = es.size := by
      have := (ord_perm w S ep es).length_eq
      simpa using this
    refine head_W x st.2 st.1 (Nat.le_refl _) ?_
    rw [Array.getElem?_eq_none (by trivial)]
    exact ⟨hh, fun h' b => hQ h' s.toks fun c u hc e => b c u (fun z => hc (by simp [z])) e⟩
  self := fun i s Q E st q => by
    refine wpAny_pyIter_slot st.1.ty slot_it (wpAny_call_entry slot_it st.1.ty ent_it ?_ (args_it _))
    show wpAny _ _ (ret (.ref I)) _ _ s
    exact wpAny_pure ⟨_, rfl, "set_iterator", _, st.1.ty, slot_nx.lookup, q⟩
theorem ty_W (x : Fx w o es ep t) (ho : s.heap.get? S = some o) : s.TypeIs (.ref S) "set" := ⟨o, ho, x.ex.1⟩
theorem iter_W {Q : Value → Shared → Prop} (x : Fx w o es ep t) (ho : s.heap.get? S = some o)
    (q : Q (.ref s.heap.objs.size) { s with heap := s.heap.push { cls := .type "set_iterator", data := .fields #[.int 0 0, .int 0 0, .ref S, .int (es.size : Nat) 0, .int (ep : Nat) 0] } }) : wpAny (model prog w) A (pyIter (.ref S)) Q E s := by
  refine wpAny_pyIter_slot (ty_W x ho) PySem.F.slot_set_iter (wpAny_call_entry PySem.F.slot_set_iter (ty_W x ho) ent_si ?_ (PySem.F.args_set_iter_1 _))
  have nd : (!w.params.followText "set-order" && (!t.plain && decide (es.size > 1))) = false := by rw [x.ok.plain]; cases w.params.followText "set-order" <;> rfl
  show wpAny _ _ (Builtin.Frozenset.sizeOf S >>= _) _ _ s
  unfold Builtin.Frozenset.sizeOf
  refine wpAny_bind (wpAny_bind (wpAny_setEntries_of ho x.dt x.fits (wpAny_pure ?_)))
  unfold setDrawn
  refine wpAny_bind (wpAny_bind (wpAny_setState_of ho x.dt x.fits ?_))
  unfold setsByText
  refine wpAny_bind (wpAny_bind (wpAny_askSetting (wpAny_pure (wpAny_pure ?_))))
  show wpAny (model prog w) A.in1 (if (!w.params.followText "set-order" && (!t.plain && decide (es.size > 1))) = true then _ else _) _ _ s
  rw [nd, if_neg Bool.false_ne_true]
  refine wpAny_bind (wpAny_pure ?_)
  refine wpAny_bind (wpAny_setEpoch_of ho x.dt x.fits ?_)
  exact wpAny_bind (wpAny_newObj_type (wpAny_pure ⟨_, rfl, "set_iterator", _, ⟨_, Heap.get?_push_size _ rfl, rfl⟩, slot_nx.lookup, q⟩))
theorem hint_W {r : Addr} {Q : Bool → Shared → Prop} (hT : s.TypeIs (.ref r) "set") (h : Q false s) : wpAny (model prog w) A (Builtin.List.listLengthHint (.ref r)) Q E s := by
  unfold Builtin.List.listLengthHint
  refine wpAny_bind (wpAny_specialOf hT PySem.F.slot_set_len.lookup ?_)
  generalize hid : ("set.__len__" : String) = id0
  wp_delta
  rw [show splitId id0 = some ("set", "__len__") from by subst hid; decide +kernel]
  subst hid
  refine wpAny_bind (wpAny_isInstance (T := "set") (b := true) hT (by rw [isSubtype_type]; kernel_rfl) ?_)
  refine wpAny_ite_split (fun z => absurd z (by decide)) (fun _ => ?_)
  refine wpAny_ite_split (fun _ => ?_) (fun z => absurd (by decide +kernel) z)
  refine wpAny_bind (wpAny_typeOf hT ?_)
  exact wpAny_pure h
theorem src_W (x : Fx w o es ep t) : PySem.W.KdlSrc prog w "set" S S es.size (fun i v => ∃ e, (ord w S ep es)[i]? = some e ∧ v = e.2) (fun h => h.get? S = some o) where
  type := fun s ho => ty_W x ho
  there := fun h ho => ⟨Heap.lt_size ho, Heap.lt_size ho⟩
  keep := fun h h' ho k => k S (.inl rfl) o ho
  notList := by decide
  notTuple := by decide
  hint := fun A E s Q ho q => hint_W (ty_W x ho) q
  iter := fun A s hh ho => ⟨_, _, (fun E Q q => iter_W x ho q), walk_W hh x (Nat.ne_of_lt (Heap.lt_size ho)), ⟨⟨_, Heap.get?_push_size _ rfl, rfl, by show _ = Data.fields #[.int ((sl w t 0 : Nat) : Int) 0, _, _, _, _]; rw [show sl w t 0 = 0 by unfold sl; split <;> rfl]; rfl⟩, Heap.get?_push_of_some _ ho⟩⟩
end
end ST
set_option Elab.async false
set_option linter.all false
set_option maxRecDepth 100000
set_option maxHeartbeats 4000000
namespace L2
open PySem PySem.Spec PyProof.Rows PySem.W
section
variable {X : Cx}
noncomputable def rSortS (ns : List Int) (H : Hp) (Q : VK) : Prop := ∀ (ns' : List Int) (p : Addr), ns'.Pairwise (· < ·) → (∀ x, x ∈ ns' ↔ x ∈ ns) → H p = none → Q (.ref p) (upd H p (.lst (ns'.map V.int)))
noncomputable def tSortS (K : Frag) (te : TE) : TE := fun σ H Q => te σ H fun x H1 => ∃ (a : Addr) (ns : List Int), x = .ref a ∧ SqL K H1 a (ns.map V.int) ∧ (∀ z ∈ ns, 0 ≤ z ∧ z ≤ 255) ∧ rSortS ns H1 Q
theorem lt_of_le_nd : ∀ {l : List Int}, l.Pairwise (· ≤ ·) → l.Nodup → l.Pairwise (· < ·) := fun {l} h nd => (h.and nd).imp fun {a b} ⟨x, y⟩ => by trivial
theorem ints_of : ∀ {l : List (Int × Value)}, (∀ e ∈ l, ST.Good e) → IntsAre (l.map (·.2)) (l.map ST.kOf)
  | [], _ => .nil
  | e :: l, h => by
    obtain ⟨k, t, rfl, _⟩ := h e List.mem_cons_self
    exact .cons k t (ints_of fun x hx => h x (List.mem_cons_of_mem _ hx))
theorem sorted_set_end {pins : List (Addr × Obj)} {s : Shared} {σ : St} {H : Hp} {Q : VK} {ns ks : List Int} {S : Addr} (I : Inv X pins σ H s) (hh : X.A.in1.handled = none) (hW : ST.W s.heap S (ST.led0 X.w) ks) (hx : ∀ x, x ∈ ks ↔ x ∈ ns)
    (q : rSortS ns H Q) : wpAny (model X.prog X.w) X.A (call (.builtin "sorted") [.ref S]) (EP X pins σ Q) X.xe s := by
  obtain ⟨⟨o, es, ep, t, go, gx, gd, gg, gp, gk, gr, gl⟩, nd, rg⟩ := hW
  have fx : ST.Fx X.w o es ep t := ⟨gx, gd, gk, gl⟩
  have hks := ST.small_len nd rg
  have lenOf : ∀ {vs : List Value} {ms : List Int}, IntsAre vs ms → vs.length = ms.length := fun {vs ms} h => by
    have := (intsAre_vals h).length
    rw [List.length_map] at this
    exact this.symm
  have op := ST.ord_perm X.w S ep es
  have hol : (ST.ord X.w S ep es).size = es.size := by have := op.length_eq; simpa using this
  have hes : es.size ≤ 256 := by
    have := gp.length_eq
    rw [List.length_map, Array.length_toList] at this
    trivial
  have good : ∀ e ∈ (ST.ord X.w S ep es).toList, ST.Good e := fun e he => gg e (op.mem_iff.mp he)
  have hin := ints_of good
  have kp : ((ST.ord X.w S ep es).toList.map ST.kOf).Perm ks := (op.map _).trans gp
  have big : (256 : Nat) ≤ sizeLine := by decide
  refine TS.sorted_gen (kd := oneType') (O := TS.intOrd) (ky := TS.intKy) (S := fun p => ∃ n t, p.1 = .int n t) (V := fun vs => ∃ ms, IntsAre vs ms ∧ ms.Perm ks) (fun vs ⟨ms, hI, hp⟩ => by rw [lenOf hI, hp.length_eq]; trivial) (fun vs ⟨ms, hI, _⟩ v hv => hI.all v hv) (fun {E R} k => ?_) (fun vs s' ⟨ms, hI, _⟩ h2 _ {_ _ _} qq => kk_ints hI h2 qq) (fun s' _ => TS.cmp_int) (fun h1 h' tk vs out n ⟨ms, hI, hp⟩ k1 k2 e p rr => ?_)
  · refine kdu_collect (ST.src_W fx) hh go (by trivial) fun h' tk acc kk hacc => k h' tk acc.toList ?_ kk
    have ea : acc.toList = (ST.ord X.w S ep es).toList.map (·.2) := by
      apply List.ext_getElem
      · rw [List.length_map, Array.length_toList, Array.length_toList, hacc.1, hol]
      · intro i h1 h2
        have h1' : i < acc.size := by simpa using h1
        obtain ⟨e, e1, e2⟩ := hacc.2 i _ (Array.getElem?_eq_getElem h1')
        rw [List.getElem_map]
        have e3 : (ST.ord X.w S ep es).toList[i]? = some e := by rw [Array.getElem?_toList]; exact e1
        rw [List.getElem?_eq_getElem (by simpa using h2)] at e3
        rw [Option.some.inj e3, ← e2]
        simp
    exact ⟨_, by rw [ea]; exact hin, kp⟩
  · obtain ⟨ns', a1, a2, a3⟩ := TS.rises_ints hI p rr
    have I1 : Inv X pins σ H { s with heap := h1 } := I.kept (t' := s.toks) k1
    have pp := a2.trans hp
    refine ⟨.ref h1.objs.size, _, I1.laid (a := h1.objs.size) (o := .lst (ns'.map V.int)) (t' := tk) k2 (Nat.le_refl _) ?_, rfl, q ns' _ (lt_of_le_nd a3 (pp.nodup_iff.mpr nd)) (fun x => by rw [pp.mem_iff]; exact hx x) (I1.hok.fresh (Nat.le_refl _))⟩
    exact ⟨by rw [List.length_map, pp.length_eq]; trivial, out.toList, n, intsAre_vals a1, by rw [Array.toArray_toList]; exact e⟩
theorem boot_srt : bootBuiltins "sorted" = some (.builtin "sorted") := by decide +kernel
theorem boot_set' : bootBuiltins "set" = some (.type "set") := by decide +kernel
theorem pe_sortset {e : Expr} {te : TE} {p1 p2 pos1 pos2 : Pos} (hc : X.calm = true) (hg1 : Gl X "sorted") (hm1 : X.mg "sorted" = none) (hg2 : Gl X "set") (hm2 : X.mg "set" = none) (he : PE X e te)
    (h1 : starEach [.Call (.Name "set" p2) [e] [] pos2] X.env = (false, eval (.Call (.Name "set" p2) [e] [] pos2) X.env) :: starEach [] X.env := by rfl) (h2 : (backTo pos1 (starEach [] X.env)).any (·.1) = false := by rfl)
    (h3 : starEach [e] X.env = (false, eval e X.env) :: starEach [] X.env := by rfl) (h4 : (backTo pos2 (starEach [] X.env)).any (·.1) = false := by rfl) :
    PE X (.Call (.Name "sorted" p1) [.Call (.Name "set" p2) [e] [] pos2] [] pos1) (tSortS X.K te) := by
  intro pins s σ H Q I h
  have hh : X.A.in1.handled = none := I.ok.hd hc
  refine wpAny_Call_Name_kw (ld_blt I hg1 hm1 boot_srt ?_ (by decide) (by decide))
  refine PyProof.Rows.callWith_builtin1 ?_ h1 h2
  rw [h1]
  show wpAny _ _ (spliced ((false, eval (.Call (.Name "set" p2) [e] [] pos2) X.env) :: backTo pos1 (starEach [] X.env))) _ _ s
  refine Calls.spliced_cons ?_
  refine wpAny_Call_Name_kw (ld_blt I hg2 hm2 boot_set' ?_ (by decide) (by decide))
  refine PyProof.Rows.callWith_type1 ?_ h3 h4
  rw [h3]
  show wpAny _ _ (spliced ((false, eval e X.env) :: backTo pos2 (starEach [] X.env))) _ _ s
  refine Calls.spliced_cons (thn (he pins s σ H _ I h) fun u s1 ⟨x, H1, I1, r1, q1⟩ => ?_)
  refine Calls.spliced_nil ?_
  obtain ⟨a, ns, rfl, hq, hr, q⟩ := q1
  cases r1
  obtain ⟨its, r', pl, hz⟩ := I1.list hq
  refine ST.call_W (items := its.toArray) (ns := ns) hh pl.isList (by simpa using vals_intsAre r') hr fun h' tk ks hW hx hk => ?_
  refine Calls.spliced_nil ?_
  have kk : ∀ b o, s1.heap.get? b = some o → h'.get? b = some o := fun b o e => hk b o (Heap.lt_size e) e
  exact sorted_set_end (s := { s1 with heap := h', toks := tk }) (I1.kept kk) hh hW hx q
end
end L2
set_option Elab.async false
set_option linter.all false
set_option maxRecDepth 100000
set_option maxHeartbeats 4000000
namespace PH
open PySem L2 PySem.W
theorem one_mem {x : Int} : ∀ {l : List Int}, l.Nodup → x ∈ l → (l.map fun z => (([x].count z : Nat) : Int)).sum = 1
  | [], _, h => by cases h
  | y :: l, nd, h => by
    rw [List.nodup_cons] at nd
    rw [List.map_cons, List.sum_cons]
    by_cases c : x = y
    · subst c
      have : (l.map fun z => (([x].count z : Nat) : Int)).sum = 0 := by
        have e : ∀ {l : List Int}, x ∉ l → (l.map fun z => (([x].count z : Nat) : Int)).sum = 0 := by
          intro l
          induction l with
          | nil => intro _; rfl
          | cons z l ih =>
            intro hz
            rw [List.map_cons, List.sum_cons, ih fun q => hz (List.mem_cons_of_mem _ q)]
            have : [x].count z = 0 := List.count_eq_zero.mpr (by simpa using fun q : z = x => hz (by rw [q]; exact List.mem_cons_self))
            rw [this]; rfl
        exact e nd.1
      rw [this]
      simp
    · have h' : x ∈ l := (List.mem_cons.mp h).elim (fun q => absurd q c) id
      have : [x].count y = 0 := List.count_eq_zero.mpr (by simpa using fun q : y = x => c q.symm)
      rw [one_mem nd.2 h', this]; rfl
theorem sum_addR (f g : Int → Int) : ∀ l : List Int, (l.map fun z => f z + g z).sum = (l.map f).sum + (l.map g).sum
  | [] => rfl
  | z :: l => by
    rw [List.map_cons, List.map_cons, List.map_cons, List.sum_cons, List.sum_cons, List.sum_cons, sum_addR f g l]
    trivial
theorem sum_zeroR : ∀ l : List Int, (l.map fun _ => (0 : Int)).sum = 0
  | [] => rfl
  | _ :: l => by rw [List.map_cons, List.sum_cons, sum_zeroR l]; rfl
theorem sum_cnt {sg : List Int} (nd : sg.Nodup) : ∀ {t : List Int}, (∀ x ∈ t, x ∈ sg) → (sg.map fun z => ((t.count z : Nat) : Int)).sum = (t.length : Int)
  | [], _ => by
    have : (sg.map fun z => ((([] : List Int).count z : Nat) : Int)) = sg.map fun _ => (0 : Int) := rfl
    rw [this, sum_zeroR]; rfl
  | x :: t, h => by
    have ih := sum_cnt nd (t := t) fun y hy => h y (List.mem_cons_of_mem _ hy)
    have e : (sg.map fun z => (((x :: t).count z : Nat) : Int)) = sg.map fun z => ((t.count z : Nat) : Int) + (([x].count z : Nat) : Int) := by
      refine List.map_congr_left fun z _ => ?_
      have : (x :: t).count z = t.count z + [x].count z := by
        rw [show x :: t = [x] ++ t from rfl, List.count_append, Nat.add_comm]
      rw [this]; rfl
    rw [e, sum_addR, ih, one_mem nd (h x List.mem_cons_self), List.length_cons]
    rfl
theorem cnt1 (s : Int) : ∀ t : List Int, cnt [s] t = t.count s
  | [] => rfl
  | x :: t => by
    rw [cnt_cons, cnt1 s t, List.count_cons]
    by_cases h : x = s
    · subst h; simp; trivial
    · have h1 : ¬ (x :: t).take [s].length = [s] := fun e => h (by simpa using e)
      rw [if_neg h1, if_neg (by simpa using h)]; trivial
theorem cnt2 (a b x y : Int) (t : List Int) : cnt [a, b] (x :: y :: t) = (if x = a ∧ y = b then 1 else 0) + cnt [a, b] (y :: t) := by
  rw [cnt_cons]
  have : ((x :: y :: t).take [a, b].length = [a, b]) ↔ (x = a ∧ y = b) := by simp
  by_cases h : x = a ∧ y = b
  · rw [if_pos h, if_pos (this.mpr h)]
  · rw [if_neg h, if_neg fun q => h (this.mp q)]
theorem cnt21 {a b x : Int} : cnt [a, b] [x] = 0 := cnt_short (w := [a, b]) (t := [x]) (Nat.lt_succ_self 1)
theorem sum_ind {sg : List Int} (nd : sg.Nodup) {y : Int} (hy : y ∈ sg) (p : Prop) [Decidable p] : (sg.map fun b => if p ∧ y = b then (1 : Int) else 0).sum = if p then 1 else 0 := by
  by_cases hp : p
  · rw [if_pos hp]
    refine Eq.trans (congrArg List.sum (List.map_congr_left fun z _ => ?_)) (one_mem nd hy)
    by_cases h : y = z
    · subst h; rw [if_pos ⟨hp, rfl⟩]; simp
    · rw [if_neg fun q => h q.2]
      have : [y].count z = 0 := List.count_eq_zero.mpr (by simpa using fun q : z = y => h q.symm)
      rw [this]; rfl
  · rw [if_neg hp]
    have : (sg.map fun b => if p ∧ y = b then (1 : Int) else 0) = sg.map fun _ => (0 : Int) := List.map_congr_left fun z _ => by rw [if_neg fun q => hp q.1]
    rw [this, sum_zeroR]
theorem sum_behind {sg : List Int} (nd : sg.Nodup) (a : Int) : ∀ {t : List Int}, (∀ x ∈ t, x ∈ sg) → (sg.map fun b => ((cnt [a, b] t : Nat) : Int)).sum = ((t.count a : Nat) : Int) - (if t.getLast? = some a then 1 else 0)
  | [], _ => by
    have : (sg.map fun b => ((cnt [a, b] ([] : List Int) : Nat) : Int)) = sg.map fun _ => (0 : Int) := rfl
    rw [this, sum_zeroR]; rfl
  | [x], _ => by
    have : (sg.map fun b => ((cnt [a, b] [x] : Nat) : Int)) = sg.map fun _ => (0 : Int) := List.map_congr_left fun z _ => by rw [cnt21]; rfl
    rw [this, sum_zeroR]
    by_cases h : x = a
    · subst h; simp
    · have : [x].count a = 0 := List.count_eq_zero.mpr (by simpa using fun q : a = x => h q.symm)
      rw [this, if_neg (by simpa using h)]; rfl
  | x :: y :: t, h => by
    have ih := sum_behind nd a (t := y :: t) fun z hz => h z (List.mem_cons_of_mem _ hz)
    have e : (sg.map fun b => ((cnt [a, b] (x :: y :: t) : Nat) : Int)) = sg.map fun b => (if x = a ∧ y = b then (1 : Int) else 0) + ((cnt [a, b] (y :: t) : Nat) : Int) := by
      refine List.map_congr_left fun z _ => ?_
      rw [cnt2]
      by_cases c : x = a ∧ y = z
      · rw [if_pos c, if_pos c]; trivial
      · rw [if_neg c, if_neg c]; trivial
    rw [e, sum_addR, ih, sum_ind nd (h y (List.mem_cons_of_mem _ List.mem_cons_self)) (x = a), show (x :: y :: t).getLast? = (y :: t).getLast? from rfl]
    have e2 : (x :: y :: t).count a = (y :: t).count a + (if x = a then 1 else 0) := by
      rw [List.count_cons]
      by_cases c : x = a
      · rw [if_pos c, if_pos (by simpa using c)]
      · rw [if_neg c, if_neg (by simpa using c)]
    rw [e2]
    by_cases c : x = a
    · rw [if_pos c, if_pos c]; trivial
    · rw [if_neg c, if_neg c]; trivial
theorem sum_ahead {sg : List Int} (nd : sg.Nodup) (a : Int) : ∀ {t : List Int}, (∀ x ∈ t, x ∈ sg) → (sg.map fun b => ((cnt [b, a] t : Nat) : Int)).sum = ((t.count a : Nat) : Int) - (if t.head? = some a then 1 else 0)
  | [], _ => by
    have : (sg.map fun b => ((cnt [b, a] ([] : List Int) : Nat) : Int)) = sg.map fun _ => (0 : Int) := rfl
    rw [this, sum_zeroR]; rfl
  | [x], _ => by
    have : (sg.map fun b => ((cnt [b, a] [x] : Nat) : Int)) = sg.map fun _ => (0 : Int) := List.map_congr_left fun z _ => by rw [cnt21]; rfl
    rw [this, sum_zeroR]
    by_cases h : x = a
    · subst h; simp
    · have : [x].count a = 0 := List.count_eq_zero.mpr (by simpa using fun q : a = x => h q.symm)
      rw [this, if_neg (by simpa using h)]; rfl
  | x :: y :: t, h => by
    have ih := sum_ahead nd a (t := y :: t) fun z hz => h z (List.mem_cons_of_mem _ hz)
    have e : (sg.map fun b => ((cnt [b, a] (x :: y :: t) : Nat) : Int)) = sg.map fun b => (if y = a ∧ x = b then (1 : Int) else 0) + ((cnt [b, a] (y :: t) : Nat) : Int) := by
      refine List.map_congr_left fun z _ => ?_
      rw [cnt2]
      by_cases c : x = z ∧ y = a
      · rw [if_pos c, if_pos ⟨c.2, c.1⟩]; trivial
      · rw [if_neg c, if_neg fun q => c ⟨q.2, q.1⟩]; trivial
    rw [e, sum_addR, ih, sum_ind nd (h x List.mem_cons_self) (y = a)]
    have e2 : (x :: y :: t).count a = (y :: t).count a + (if x = a then 1 else 0) := by
      rw [List.count_cons]
      by_cases c : x = a
      · rw [if_pos c, if_pos (by simpa using c)]
      · rw [if_neg c, if_neg (by simpa using c)]
    have h1 : ((y :: t).head? = some a) ↔ y = a := by simp
    have h2 : ((x :: y :: t).head? = some a) ↔ x = a := by simp
    rw [e2]
    by_cases c : x = a
    · rw [if_pos c, if_pos (h2.mpr c)]
      by_cases d : y = a
      · rw [if_pos d, if_pos (h1.mpr d)]; trivial
      · rw [if_neg d, if_neg fun q => d (h1.mp q)]; trivial
    · rw [if_neg c, if_neg fun q => c (h2.mp q)]
      by_cases d : y = a
      · rw [if_pos d, if_pos (h1.mpr d)]; trivial
      · rw [if_neg d, if_neg fun q => d (h1.mp q)]; trivial
theorem cnt_aaa (a : Int) : ∀ t : List Int, cnt [a, a, a] t ≤ cnt [a, a] t
  | [] => Nat.le_refl _
  | x :: t => by
    have ih := cnt_aaa a t
    rw [cnt_cons, cnt_cons]
    by_cases h : (x :: t).take [a, a, a].length = [a, a, a]
    · have h2 : (x :: t).take [a, a].length = [a, a] := by
        have := congrArg (List.take 2) h
        rw [List.take_take] at this
        exact this
      rw [if_pos h, if_pos h2]; trivial
    · rw [if_neg h]; split <;> trivial
theorem cnt_aa (a : Int) : ∀ t : List Int, cnt [a, a] t ≤ t.count a - 1
  | [] => Nat.le_refl _
  | [x] => by rw [cnt21]; trivial
  | x :: y :: t => by
    have ih := cnt_aa a (y :: t)
    rw [cnt2]
    have e2 : (x :: y :: t).count a = (y :: t).count a + (if x = a then 1 else 0) := by
      rw [List.count_cons]
      by_cases c : x = a
      · rw [if_pos c, if_pos (by simpa using c)]
      · rw [if_neg c, if_neg (by simpa using c)]
    rw [e2]
    by_cases h : x = a ∧ y = a
    · rw [if_pos h, if_pos h.1]
      have : 1 ≤ (y :: t).count a := List.count_pos_iff.mpr (by rw [h.2]; exact List.mem_cons_self)
      trivial
    · rw [if_neg h]; trivial
theorem cnt_twice {t : List Int} {l f : Int} (hl : t.getLast? = some l) (hf : t.head? = some f) : cnt [l, f] (t ++ t) = 2 * cnt [l, f] t + 1 := by
  rw [cnt_meet (w := [l, f]) (Nat.le_succ 1) t t]
  have hne : t ≠ [] := fun e => by rw [e] at hl; cases hl
  have h1 : tlw [l, f] t = [l] := by
    unfold tlw
    show t.drop (t.length - 1) = [l]
    rw [List.getLast?_eq_getElem?] at hl
    obtain ⟨hlt, e⟩ := List.getElem?_eq_some_iff.mp hl
    rw [List.drop_eq_getElem_cons hlt, e, List.drop_eq_nil_of_le (by trivial)]
  have h2 : hdw [l, f] t = [f] := by
    unfold hdw
    show t.take 1 = [f]
    cases t with
    | nil => cases hf
    | cons x r =>
      have : x = f := by simpa using hf
      rw [this]; rfl
  rw [h1, h2]
  have : cnt [l, f] ([l] ++ [f]) = 1 := by
    show cnt [l, f] [l, f] = 1
    rw [cnt2, if_pos ⟨rfl, rfl⟩, cnt21]
  trivial
noncomputable def SgOf (zs : List (Addr × Int × Int)) (row : List Int) (x : Int) : Prop := x < 256 ∧ (x ∈ row ∨ ∃ z ∈ zs, x = z.2.1 ∨ x = z.2.2)
theorem rn_at {zs : List (Addr × Int × Int)} {i : Nat} {r : Nat × Nat} (h : (rn zs)[i]? = some r) : ∃ z, zs[i]? = some z ∧ r = (z.2.1.toNat, z.2.2.toNat) := by
  unfold rn at h
  rw [List.getElem?_map] at h
  cases e : zs[i]? with
  | none => rw [e] at h; cases h
  | some z => rw [e] at h; exact ⟨z, rfl, (Option.some.inj h).symm⟩
theorem ex_in {zs : List (Addr × Int × Int)} (gr : GrZ zs) : ∀ (k : Nat), k < 256 + zs.length → ∀ x ∈ ex (rn zs) k, x < 256 ∧ (x = (k : Int) ∨ ∃ z ∈ zs, x = z.2.1 ∨ x = z.2.2) := by
  intro k
  induction k using Nat.strongRecOn with
  | ind k ih =>
    intro hk x hx
    by_cases h : k < 256
    · have e : ex (rn zs) k = [(k : Int)] := by
        have e1 : ex ([] ++ rn zs) k = ex [] k := ex_pre (rs := []) (qs := rn zs) (k := k) (by rw [List.length_nil]; trivial)
        rw [List.nil_append] at e1
        rw [e1]
        unfold ex gx
        show (gx0[k]?).getD [] = _
        unfold gx0
        rw [List.getElem?_map, List.getElem?_range h]; rfl
      rw [e] at hx
      have : x = (k : Int) := by simpa using hx
      exact ⟨by trivial, .inl this⟩
    · have hlt : k - 256 < (rn zs).length := by rw [rn_len]; trivial
      obtain ⟨r, hr⟩ : ∃ r, (rn zs)[k - 256]? = some r := ⟨_, List.getElem?_eq_getElem hlt⟩
      obtain ⟨z, hz, er⟩ := rn_at hr
      obtain ⟨g1, g2, g3, g4⟩ := gr _ z hz
      have e := ex_rule gr.ok hr
      rw [show 256 + (k - 256) = k by trivial, er] at e
      rw [e] at hx
      rcases List.mem_append.mp hx with hx | hx
      · rcases ih z.2.1.toNat (by trivial) (by trivial) x hx with ⟨a1, a2 | a2⟩
        · exact ⟨a1, .inr ⟨z, List.mem_of_getElem? hz, .inl (by trivial)⟩⟩
        · exact ⟨a1, .inr a2⟩
      · rcases ih z.2.2.toNat (by trivial) (by trivial) x hx with ⟨a1, a2 | a2⟩
        · exact ⟨a1, .inr ⟨z, List.mem_of_getElem? hz, .inr (by trivial)⟩⟩
        · exact ⟨a1, .inr a2⟩
theorem exs_in {zs : List (Addr × Int × Int)} (gr : GrZ zs) {row : List Int} (rz : RwZ zs.length row) {x : Int} (hx : x ∈ exs (rn zs) (rwN row)) : SgOf zs row x := by
  unfold exs rwN at hx
  rw [List.map_map] at hx
  obtain ⟨l, hl, hx⟩ := List.mem_flatten.mp hx
  obtain ⟨y, hy, rfl⟩ := List.mem_map.mp hl
  obtain ⟨y0, y1⟩ := rz y hy
  obtain ⟨a1, a2 | a2⟩ := ex_in gr y.toNat (by trivial) x hx
  · exact ⟨a1, .inl (by rw [a2, Int.toNat_of_nonneg y0]; exact hy)⟩
  · exact ⟨a1, .inr a2⟩
noncomputable def spSigns44 : Sp := fun vs H Q _ => ∃ (P W : Addr) (zs : List (Addr × Int × Int)) (row : List Int), vs = [.ref P, .ref W] ∧ Prs H P zs ∧ GrZ zs ∧ H W = some (lsI row) ∧ RwZ zs.length row ∧ zs.length ≤ 300 ∧ row.length ≤ 12 ∧
  ∀ (D : Addr) (sg : List Int) (H' : Hp), Same H H' → H' D = some (lsI sg) → sg.Pairwise (· < ·) → (∀ x, x ∈ sg ↔ SgOf zs row x) → (∀ x ∈ sg, 0 ≤ x ∧ x ≤ 255) → Q (.ref D) H'
end PH
namespace PH
open PySem L2 PySem.W
noncomputable def flZ (zs : List (Addr × Int × Int)) : List Int := zs.flatMap fun z => [z.2.1, z.2.2]
theorem flZ_snoc (zs : List (Addr × Int × Int)) (z : Addr × Int × Int) : flZ (zs ++ [z]) = flZ zs ++ [z.2.1, z.2.2] := by
  unfold flZ
  rw [List.flatMap_append]; rfl
theorem flZ_len : ∀ zs : List (Addr × Int × Int), (flZ zs).length = 2 * zs.length
  | [] => rfl
  | z :: zs => by
    have := flZ_len zs
    have e : flZ (z :: zs) = z.2.1 :: z.2.2 :: flZ zs := rfl
    rw [e, List.length_cons, List.length_cons, List.length_cons]; trivial
theorem mem_flZ {zs : List (Addr × Int × Int)} {x : Int} : x ∈ flZ zs ↔ ∃ z ∈ zs, x = z.2.1 ∨ x = z.2.2 := by
  unfold flZ
  rw [List.mem_flatMap]
  simp
theorem sqMid4 {A B : TS} {D : Ends} {σ : St} {H : Hp} (M : St → Hp → Prop) (h2 : ∀ σ' H', M σ' H' → B D σ' H') (h1 : ∀ N : St → Hp → Prop, (∀ σ' H', M σ' H' → N σ' H') → A { D with nx := N } σ H) : tSeq A B D σ H := h1 _ h2
theorem eqV_self4 (x : Int) : eqV (V.int x) (V.int x) = true := by
  first | exact beq_self_eq_true x | simp [eqV] | exact decide_eq_true rfl
end PH
set_option Elab.async false
set_option linter.all false
set_option maxRecDepth 100000
set_option maxHeartbeats 4000000
namespace K44
open PySem L2 PySem.W PH
noncomputable def top (i : Nat) : Stmt := PySem.Challenge.pw_packhall_k44_whole_counts_of_all_words.main.body.getD i (.Pass ⟨0, 0, 0, 0⟩)
noncomputable abbrev s_whole : Stmt := top 6
noncomputable abbrev s_syms : Stmt := top 10
noncomputable abbrev s_isrule : Stmt := top 11
noncomputable abbrev s_isgr : Stmt := top 12
noncomputable abbrev s_nogr : Stmt := top 13
noncomputable abbrev s_lens : Stmt := top 14
noncomputable abbrev s_glen : Stmt := top 15
noncomputable abbrev s_between : Stmt := top 16
noncomputable abbrev s_nostr : Stmt := top 7
noncomputable abbrev s_gstr : Stmt := top 17
noncomputable abbrev s_times : Stmt := top 18
noncomputable abbrev s_psign : Stmt := top 19
noncomputable abbrev s_pboth : Stmt := top 20
noncomputable abbrev s_gcnt : Stmt := top 21
noncomputable abbrev s_cellat : Stmt := top 23
noncomputable abbrev s_stir : Stmt := top 24
noncomputable abbrev s_symb : Stmt := top 25
noncomputable abbrev s_size : Stmt := top 26
noncomputable abbrev s_gram : Stmt := top 27
noncomputable abbrev s_signs : Stmt := top 28
noncomputable abbrev s_law : Stmt := top 29
section
variable {P : Program} {w : World} {K : PySem.W.Frag} {mg : Str → Option Value} {base : Heap}
theorem sc_whole : FnScope ["thing"] ["thing"] (defScope s_whole) := ⟨rfl, rfl, rfl, by decide +kernel, rfl, by decide +kernel, by decide +kernel⟩
theorem ok_whole {f : Addr} {fd : FuncData} (F : Fun K "is_whole" "is_whole" s_whole f fd) (B : Bls mg) : FnOk P w K mg base (CXW P w) 1 f fd ["thing"] (spWh) := by
  refine F.okN sc_whole (fun vs H Q E h => ?_) (fun cdv A outer s H vs Q E hr h => ?_)
  · obtain ⟨n, rfl, _⟩ := h
    rfl
  · obtain ⟨n, rfl, q⟩ := h
    refine ⟨_, (pss_one (ps_ret (pe_and (pe_callB (r := rIsi K) call_isi rfl B.isi boot_isi (pa_cons (pv 0) (pa_cons (pe_bltn (v := .ty "int") rfl B.int boot_int' rfl) pa_nil))) (pe_one (pe_not (pe_callB (r := rIsi K) call_isi rfl B.isi boot_isi (pa_cons (pv 0) (pa_cons (pe_bltn (v := .ty "bool") rfl B.bool boot_bool' rfl) pa_nil)))))))), ?_⟩
    refine ⟨_, rfl, _, _, _, _, true, rfl, .of (.int n), rfl, kit_refl _ _, _, rfl, ?_⟩
    refine iteT ?_
    refine ⟨_, rfl, _, _, _, _, false, rfl, .of (.int n), rfl, kit_ib _, _, rfl, ?_⟩
    exact q
theorem sc_syms : FnScope ["things", "many"] ["things", "many"] (defScope s_syms) := ⟨rfl, rfl, rfl, by decide +kernel, rfl, by decide +kernel, by decide +kernel⟩
theorem ok_syms {f f_whole : Addr} {fd d_whole : FuncData} (F : Fun K "are_symbols" "are_symbols" s_syms f fd) (B : Bls mg) (m_FR : FRg mg) 
    (G_whole : FnOk P w K mg base (CXW P w) 1 f_whole d_whole ["thing"] (spWh)) (b_whole : Binds K d_whole ["thing"] []) (k_whole : keepIn K (.ref f_whole) = true) (m_whole : mg "is_whole" = some (.ref f_whole)) : FnOk P w K mg base (CXW P w) 2 f fd ["things", "many"] (spSyms K) := by
  refine F.okN sc_syms (fun vs H Q E h => ?_) (fun cdv A outer s H vs Q E hr h => ?_)
  · obtain ⟨p, ns, n, rfl, _⟩ := h
    rfl
  · obtain ⟨p, ns, n, rfl, hS, hrz, hl, hQ⟩ := h
    obtain ⟨u_FR, m_v, r_v⟩ := m_FR
    refine ⟨_, (pss_one (ps_ret (pe_callB (call_allL rfl) rfl B.all boot_all' (pa_cons (pe_comp (N := ["thing", "many"]) (js := [none, some 1]) (g := (gName 0)) (tc := tTrue) (te := (tAndV (tCall (spWh) [] E0 (tCons (tVar 0) tNil)) (tChain (rI0 fun i j => .bl (decide (i ≤ j))) (rI0 fun i j => .bl (decide (i < j))) (tC (.int 0)) (tVar 0) (tOp (rI0 fun i j => .int (i + j)) (tC (.int 256)) (tVar 1))))) rfl (comp_scope (osc := defScope s_syms) (XN := ["things", "many"]) rfl rfl rfl (by decide +kernel)) (pi_or (pi_list (pv 0)) (pi_tup (pv 0))) (fun _ _ _ _ => pg_name (i := 0) (show (["thing", "many"] : List Str).Nodup by decide +kernel) rfl (Or.inl rfl)) (fun _ _ _ _ => pif_nil) (fun _ _ _ _ => (pe_and (pe_call G_whole hr rfl m_whole k_whole b_whole .nil passN (pa_cons (pv 0) pa_nil)) (pe_one (pe_chain op_le op_lt pe_int (pv 0) (pe_op op_add (pe_glob (v := .int 256) rfl m_v r_v) (pv 1))))))) pa_nil)))), ?_⟩
    rcases hS with hS | hS
    · skip
      refine Or.inl ⟨_, rfl, p, rfl, ⟨_, hS⟩, fun D hD => ?_⟩
      refine comp_lstQ (K := K) (a := p) (xs := ns.map V.int) (fun i σ' H' => ∃ (v0 : Option V), σ' = [v0, some (.int (n : Int))] ∧ H' D = some (.lst ((List.replicate i true).map V.bl)) ∧ Same H H')
        ⟨none, rfl, upd_same, same_new hD _⟩ (fun i σ' H' _ ⟨_, _, _, e⟩ => e.seq hS) ?_ ?_
      · rintro i y σ' H' hi ⟨v0, rfl, hD', sm⟩
        have hlt : i < (ns.map V.int).length := (List.getElem?_eq_some_iff.mp hi).1
        have hil : i < ns.length := by rw [List.length_map] at hlt; exact hlt
        obtain ⟨z, rfl, hz⟩ := int_at hi
        have hb := hrz.at hz
        refine nameT ?_
        refine ⟨_, rfl, z, rfl, _, rfl, ?_⟩
        refine iteT ?_
        refine ⟨_, rfl, _, _, rfl, rfl, _, rfl, ?_⟩
        rw [decide_eq_true hb.1]
        refine iteT ?_
        refine ⟨_, rfl, _, _, rfl, rfl, _, _, rfl, rfl, ?_⟩
        refine ⟨D, _, _, rfl, rfl, hD', fits_lt (by rw [List.length_map, List.length_replicate]; trivial), ?_⟩
        refine CW.next hlt ⟨_, rfl, ?_, same_upd sm _ hD⟩
        rw [upd_same, ← rep_snoc]
        show some (HO.lst (_ ++ [V.bl (decide (z < (256 : Int) + (n : Int)))])) = _
        rw [decide_eq_true hb.2]
      rintro σ' H2 ⟨v0, rfl, hD2, sm2⟩
      refine ⟨D, _, rfl, SqL.of hD2, ?_⟩
      rw [all_rep]
      exact hQ H2 sm2
    · skip
      refine Or.inr ⟨_, rfl, p, rfl, ⟨_, hS⟩, fun D hD => ?_⟩
      refine comp_tupQ (K := K) (a := p) (xs := ns.map V.int) (fun i σ' H' => ∃ (v0 : Option V), σ' = [v0, some (.int (n : Int))] ∧ H' D = some (.lst ((List.replicate i true).map V.bl)) ∧ Same H H')
        ⟨none, rfl, upd_same, same_new hD _⟩ (fun i σ' H' _ ⟨_, _, _, e⟩ => e.sqT hS) ?_ ?_
      · rintro i y σ' H' hi ⟨v0, rfl, hD', sm⟩
        have hlt : i < (ns.map V.int).length := (List.getElem?_eq_some_iff.mp hi).1
        have hil : i < ns.length := by rw [List.length_map] at hlt; exact hlt
        obtain ⟨z, rfl, hz⟩ := int_at hi
        have hb := hrz.at hz
        refine nameT ?_
        refine ⟨_, rfl, z, rfl, _, rfl, ?_⟩
        refine iteT ?_
        refine ⟨_, rfl, _, _, rfl, rfl, _, rfl, ?_⟩
        rw [decide_eq_true hb.1]
        refine iteT ?_
        refine ⟨_, rfl, _, _, rfl, rfl, _, _, rfl, rfl, ?_⟩
        refine ⟨D, _, _, rfl, rfl, hD', fits_lt (by rw [List.length_map, List.length_replicate]; trivial), ?_⟩
        refine CW.next hlt ⟨_, rfl, ?_, same_upd sm _ hD⟩
        rw [upd_same, ← rep_snoc]
        show some (HO.lst (_ ++ [V.bl (decide (z < (256 : Int) + (n : Int)))])) = _
        rw [decide_eq_true hb.2]
      rintro σ' H2 ⟨v0, rfl, hD2, sm2⟩
      refine ⟨D, _, rfl, SqL.of hD2, ?_⟩
      rw [all_rep]
      exact hQ H2 sm2
end
end K44
set_option Elab.async false
set_option linter.all false
set_option maxRecDepth 100000
set_option maxHeartbeats 4000000
namespace K44
open PySem L2 PySem.W PH
section
variable {P : Program} {w : World} {K : PySem.W.Frag} {mg : Str → Option Value} {base : Heap}
theorem sc_isrule : FnScope ["thing", "number"] ["thing", "number"] (defScope s_isrule) := ⟨rfl, rfl, rfl, by decide +kernel, rfl, by decide +kernel, by decide +kernel⟩
theorem ok_isrule {f f_syms : Addr} {fd d_syms : FuncData} (F : Fun K "is_rule" "is_rule" s_isrule f fd) (B : Bls mg) 
    (G_syms : FnOk P w K mg base (CXW P w) 2 f_syms d_syms ["things", "many"] (spSyms K)) (b_syms : Binds K d_syms ["things", "many"] []) (k_syms : keepIn K (.ref f_syms) = true) (m_syms : mg "are_symbols" = some (.ref f_syms)) : FnOk P w K mg base (CXW P w) 3 f fd ["thing", "number"] (spIsRule) := by
  refine F.okN sc_isrule (fun vs H Q E h => ?_) (fun cdv A outer s H vs Q E hr h => ?_)
  · obtain ⟨t, x, y, n, rfl, _⟩ := h
    rfl
  · obtain ⟨t, x, y, n, rfl, ht, hrz, hQ⟩ := h
    refine ⟨_, (pss_one (ps_ret (pe_and (pe_callB (r := rIsi K) call_isi rfl B.isi boot_isi (pa_cons (pv 0) (pa_cons (pe_bltn (v := .ty "tuple") rfl B.tuple boot_tuple' rfl) pa_nil))) (pe_and (pe_cmpR op_eq (pe_callB call_len_seq rfl B.len PySem.boot_len (pa_cons (pv 0) pa_nil)) pe_int (nomark _)) (pe_one (pe_call G_syms hr rfl m_syms k_syms b_syms .nil passN (pa_cons (pv 0) (pa_cons (pv 1) pa_nil)))))))), ?_⟩
    have hty : TyX K H (.ref t) (.type "tuple") := .of (.tup ht)
    refine ⟨_, rfl, _, _, _, _, true, rfl, hty, rfl, kit_refl _ _, _, rfl, ?_⟩
    refine iteT ?_
    refine ⟨_, rfl, t, _, rfl, .inr (SqT.of ht), rfl, _, rfl, ?_⟩
    refine iteT ?_
    refine ⟨_, rfl, _, rfl, t, [x, y], n, rfl, .inr (SqT.of ht), hrz, (by show 2 ≤ 100000; decide), fun H' s' => ?_⟩
    exact hQ H' s'
end
end K44
set_option Elab.async false
set_option linter.all false
set_option maxRecDepth 100000
set_option maxHeartbeats 4000000
namespace K44
open PySem L2 PySem.W PH
section
variable {P : Program} {w : World} {K : PySem.W.Frag} {mg : Str → Option Value} {base : Heap}
theorem sc_isgr : FnScope ["rules", "row"] ["rules", "row"] (defScope s_isgr) := ⟨rfl, rfl, rfl, by decide +kernel, rfl, by decide +kernel, by decide +kernel⟩
theorem ok_isgr {f f_syms f_isrule : Addr} {fd d_syms d_isrule : FuncData} (F : Fun K "is_grammar" "is_grammar" s_isgr f fd) (B : Bls mg) (n_enumerate : mg "enumerate" = none) 
    (G_syms : FnOk P w K mg base (CXW P w) 2 f_syms d_syms ["things", "many"] (spSyms K)) (b_syms : Binds K d_syms ["things", "many"] []) (k_syms : keepIn K (.ref f_syms) = true) (m_syms : mg "are_symbols" = some (.ref f_syms)) 
    (G_isrule : FnOk P w K mg base (CXW P w) 3 f_isrule d_isrule ["thing", "number"] (spIsRule)) (b_isrule : Binds K d_isrule ["thing", "number"] []) (k_isrule : keepIn K (.ref f_isrule) = true) (m_isrule : mg "is_rule" = some (.ref f_isrule)) : FnOk P w K mg base (CXW P w) 4 f fd ["rules", "row"] (spIsGr) := by
  refine F.okN sc_isgr (fun vs H Q E h => ?_) (fun cdv A outer s H vs Q E hr h => ?_)
  · obtain ⟨p, q, zs, row, rfl, _⟩ := h
    rfl
  · obtain ⟨p, q, zs, row, rfl, pr, gr, hq, hrw, hzl, hrl, hQ⟩ := h
    refine ⟨_, (pss_cons (ps_if (PW.pt (pw_or (pt_not (pt_val (pe_callB (r := rIsi K) call_isi rfl B.isi boot_isi (pa_cons (pv 0) (pa_cons (pe_bltn (v := .ty "list") rfl B.list boot_list' rfl) pa_nil))))) (pw_or1 (pt_not (pt_val (pe_callB (r := rIsi K) call_isi rfl B.isi boot_isi (pa_cons (pv 1) (pa_cons (pe_bltn (v := .ty "list") rfl B.list boot_list' rfl) pa_nil))))))))
        (pss_one (ps_ret pe_bl))
        pss_nil)
      (pss_cons (ps_if (pt_not (pt_val (pe_callB (call_allL rfl) rfl B.all boot_all' (pa_cons (pe_comp (N := ["number", "rule"]) (js := [none, none]) (g := (gTup K 2 (gCons (gName 0) (gCons (gName 1) gNil)))) (tc := tTrue) (te := (tCall (spIsRule) [] E0 (tCons (tVar 1) (tCons (tVar 0) tNil)))) rfl (comp_scope (osc := defScope s_isgr) (XN := ["rules", "row"]) rfl rfl rfl (by decide +kernel)) (pi_enum rfl n_enumerate (pa_cons (pv 0) pa_nil)) (fun _ _ _ _ => pg_tup rfl (pgs_cons (pg_name (i := 0) (show (["number", "rule"] : List Str).Nodup by decide +kernel) rfl (Or.inl rfl)) (pgs_cons (pg_name (i := 1) (show (["number", "rule"] : List Str).Nodup by decide +kernel) rfl (Or.inl rfl)) pgs_nil))) (fun _ _ _ _ => pif_nil) (fun _ _ _ _ => (pe_call G_isrule hr rfl m_isrule k_isrule b_isrule .nil passN (pa_cons (pv 1) (pa_cons (pv 0) pa_nil))))) pa_nil))))
        (pss_one (ps_ret pe_bl))
        pss_nil)
      (pss_one (ps_ret (pe_call G_syms (hr.mono (show 2 ≤ 3 by decide)) rfl m_syms k_syms b_syms .nil passN (pa_cons (pv 1) (pa_cons (pe_callB call_len_seq rfl B.len PySem.boot_len (pa_cons (pv 0) pa_nil)) pa_nil))))))), ?_⟩
    refine ⟨_, rfl, _, _, _, _, true, rfl, .of (.lst pr.at_), rfl, kit_refl _ _, _, rfl, ?_⟩
    refine iteF ?_
    refine ⟨_, rfl, _, _, _, _, true, rfl, .of (.lst hq), rfl, kit_refl _ _, _, rfl, ?_⟩
    refine iteF ?_
    refine ⟨_, rfl, p, rfl, ⟨_, SqL.of pr.at_⟩, fun D hD => ?_⟩
    refine comp_enumQ (K := K) (a := p) (xs := zs.map fun z => V.ref z.1) (fun i σ' H' => ∃ (v0 v1 : Option V), σ' = [v0, v1] ∧ H' D = some (.lst ((List.replicate i true).map V.bl)) ∧ Same H H')
      ⟨none, none, rfl, upd_same, same_new hD _⟩ (fun i σ' H' _ ⟨_, _, _, _, e⟩ => SqL.of (e _ _ pr.at_)) ?_ ?_
    · rintro i y t σ' H' hi ⟨v0, v1, rfl, hD', sm⟩ ht
      have hlt : i < (zs.map fun z => V.ref z.1).length := (List.getElem?_eq_some_iff.mp hi).1
      have hil : i < zs.length := by rw [List.length_map] at hlt; exact hlt
      obtain ⟨z, hz, rfl⟩ := ref_at hi
      have st := same_new ht (.tup [.int (i : Nat), .ref z.1])
      refine ⟨t, _, rfl, SqT.of upd_same, rfl, _, _, rfl, _, _, rfl, rfl, ?_⟩
      refine ifT ?_
      have hg := gr i z hz
      have hrz : RwZ i [z.2.1, z.2.2] := fun y hy => by
        rcases List.mem_cons.mp hy with e | hy
        · rw [e]; exact ⟨hg.1, hg.2.1⟩
        · rw [List.mem_singleton.mp hy]; exact ⟨hg.2.2.1, hg.2.2.2⟩
      refine ⟨_, rfl, _, rfl, z.1, z.2.1, z.2.2, i, rfl, st _ _ (sm _ _ (pr.each z (List.mem_of_getElem? hz))), hrz, fun H2 s2 => ?_⟩
      refine ⟨D, _, _, rfl, rfl, s2 _ _ (st _ _ hD'), fits_lt (by rw [List.length_map, List.length_replicate]; trivial), ?_⟩
      refine CW.next hlt ⟨_, _, rfl, ?_, same_upd (sm.trans (st.trans s2)) _ hD⟩
      rw [upd_same, rep_snoc]
    rintro σ' H2 ⟨v0, v1, rfl, hD2, sm2⟩
    refine ⟨D, _, rfl, SqL.of hD2, _, rfl, ?_⟩
    rw [all_rep]
    refine iteF ?_
    refine ⟨_, rfl, _, rfl, p, _, rfl, .inl (SqL.of (sm2 _ _ pr.at_)), q, row, zs.length, (by show [V.ref q, V.int (((zs.map fun z => V.ref z.1).length : Nat) : Int)] = _; rw [List.length_map]), .inl (SqL.of (sm2 _ _ hq)), hrw, hrl, fun H' s' => ?_⟩
    exact hQ H' (sm2.trans s')
end
end K44
set_option Elab.async false
set_option linter.all false
set_option maxRecDepth 100000
set_option maxHeartbeats 4000000
namespace K44
open PySem L2 PySem.W PH
section
variable {P : Program} {w : World} {K : PySem.W.Frag} {mg : Str → Option Value} {base : Heap}
theorem sc_nogr : FnScope ["rules", "row"] ["rules", "row"] (defScope s_nogr) := ⟨rfl, rfl, rfl, by decide +kernel, rfl, by decide +kernel, by decide +kernel⟩
theorem ok_nogr {f c_Broken f_isgr : Addr} {fd d_isgr : FuncData} (F : Fun K "refuse_no_grammar" "refuse_no_grammar" s_nogr f fd) (B : Bls mg) (X_Broken : Ex K mg "Broken" c_Broken) (m_Broken : mg "Broken" = some (.ref c_Broken)) 
    (G_isgr : FnOk P w K mg base (CXW P w) 4 f_isgr d_isgr ["rules", "row"] (spIsGr)) (b_isgr : Binds K d_isgr ["rules", "row"] []) (k_isgr : keepIn K (.ref f_isgr) = true) (m_isgr : mg "is_grammar" = some (.ref f_isgr)) : FnOk P w K mg base (CXW P w) 5 f fd ["rules", "row"] (spNoGr) := by
  refine F.okX sc_nogr (fun vs H Q E h => ?_) (fun cdv A outer s H vs Q E hr h => ?_)
  · obtain ⟨p, q, zs, row, rfl, _⟩ := h
    rfl
  · obtain ⟨p, q, zs, row, rfl, pr, gr, hq, hrw, hzl, hrl, hQ⟩ := h
    refine ⟨_, (pss_one (ps_if (pt_not (pt_val (pe_call G_isgr hr rfl m_isgr k_isgr b_isgr .nil passW (pa_cons (pv 0) (pa_cons (pv 1) pa_nil)))))
        (pss_one (ps_raise PySem.F.excBase_ValueError X_Broken.ex X_Broken.mg rfl))
        pss_nil)), ?_⟩
    refine ⟨_, rfl, _, rfl, p, q, zs, row, rfl, pr, gr, hq, hrw, hzl, hrl, fun H' s' => ⟨_, rfl, ?_⟩⟩
    refine iteF ?_
    exact hQ H' s'
end
end K44
set_option Elab.async false
set_option linter.all false
set_option maxRecDepth 100000
set_option maxHeartbeats 4000000
namespace K44
open PySem L2 PySem.W PH
section
variable {P : Program} {w : World} {K : PySem.W.Frag} {mg : Str → Option Value} {base : Heap}
theorem sc_lens : FnScope ["rules", "lengths", "a", "b"] ["rules"] (defScope s_lens) := ⟨rfl, rfl, rfl, by decide +kernel, rfl, by decide +kernel, by decide +kernel⟩
theorem ok_lens {f : Addr} {fd : FuncData} (F : Fun K "lengths_by" "lengths_by" s_lens f fd) (B : Bls mg) (m_FR : FRg mg) : FnOk P w K mg base (CXW P w) 1 f fd ["rules"] (spLens) := by
  refine F.okN sc_lens (fun vs H Q E h => ?_) (fun cdv A outer s H vs Q E hr h => ?_)
  · obtain ⟨p, zs, rfl, _⟩ := h
    rfl
  · obtain ⟨p, zs, rfl, pr, gr, hzl, hQ⟩ := h
    obtain ⟨u_FR, m_v, r_v⟩ := m_FR
    refine ⟨_, (pss_cons (ps_set (i := 1) sc_lens.nd rfl (Or.inl rfl) (pe_op op_rep (pe_lst (pa_cons pe_int pa_nil)) (pe_glob (v := .int 256) rfl m_v r_v)))
      (pss_cons (ps_for PassesOwn.never rfl (pi_list (pv 0)) (pg_tup rfl (pgs_cons (pg_name (i := 2) sc_lens.nd rfl (Or.inl rfl)) (pgs_cons (pg_name (i := 3) sc_lens.nd rfl (Or.inl rfl)) pgs_nil)))
        (pss_one (ps_expr (pe_bm PySem.F.plainAttrs_list PySem.F.slot_list_append PySem.F.type_list_append mt_append (pv 1) (pa_cons (pe_op op_add (pe_ix ix_list (pv 1) (pv 2) (fun _ _ => rfl)) (pe_ix ix_list (pv 1) (pv 3) (fun _ _ => rfl))) pa_nil)))))
      (pss_one (ps_ret (pv 1))))), ?_⟩
    refine ⟨(by show 1 ≤ sizeLine; decide), fun l0 h0 => ?_⟩
    have s0 := same_new h0 (.lst [V.int 1])
    refine ⟨l0, 256, [V.int 1], rfl, rfl, upd_same, by decide, by decide, by decide, fun D hD => ?_⟩
    have s1 := s0.trans (same_new hD (.lst ((List.replicate (256 : Int).toNat [V.int 1]).flatten)))
    have hDH : H D = none := s0.free hD
    have e0 : HO.lst ((List.replicate (256 : Int).toNat [V.int 1]).flatten) = lsI (glen (rn (zs.take 0))) := by
      rw [List.take_zero]
      show _ = lsI (glen [])
      rw [glen_nil]
      show HO.lst _ = HO.lst _
      rw [show (256 : Int).toNat = 256 from rfl, List.flatten_replicate_singleton, List.map_replicate]
    refine ⟨_, rfl, p, rfl, ⟨_, SqL.of (s1 _ _ pr.at_)⟩, for_list (K := K) (a := p) (xs := zs.map fun z => V.ref z.1) (fun i σ H' => ∃ (v2 v3 : Option V), σ = [some (.ref p), some (.ref D), v2, v3] ∧ H' D = some (lsI (glen (rn (zs.take i)))) ∧ Same H H')
      ⟨none, none, rfl, by rw [upd_same, e0], s1⟩ (fun i σ H' _ ⟨_, _, _, _, e⟩ => SqL.of (e _ _ pr.at_)) ?_ ?_⟩
    · rintro i y σ H1 hi ⟨v2, v3, rfl, hD1, sm⟩
      obtain ⟨z, hz, rfl⟩ := ref_at hi
      have hil : i < zs.length := (List.getElem?_eq_some_iff.mp hz).1
      have hg := gr i z hz
      have hl : (rn (zs.take i)).length = i := by rw [rn_len, List.length_take]; trivial
      have g1 := glen_at (rs := rn (zs.take i)) (k := z.2.1.toNat) (by trivial)
      have g2 := glen_at (rs := rn (zs.take i)) (k := z.2.2.toNat) (by trivial)
      refine ⟨z.1, _, rfl, SqT.of (sm _ _ (pr.each z (List.mem_of_getElem? hz))), rfl, _, _, rfl, _, _, rfl, rfl, ?_⟩
      refine ⟨_, rfl, .inl ⟨rfl, _, SqL.of hD1⟩, _, rfl, _, rfl, D, _, ((z.2.1.toNat : Nat) : Int), _, rfl, congrArg V.int (by trivial), SqL.of hD1, at_intsZ g1, _, rfl, _, rfl, D, _, ((z.2.2.toNat : Nat) : Int), _, rfl, congrArg V.int (by trivial), SqL.of hD1, at_intsZ g2, _, _, rfl, rfl, D, _, _, rfl, rfl, hD1, fits_lt (by rw [List.length_map]; unfold PH.glen; rw [List.length_map, gx_len]; trivial), ?_⟩
      refine ⟨_, _, rfl, ?_, same_upd sm _ hDH⟩
      rw [upd_same, lsI_app1, take_at hz, show rn (zs.take i ++ [z]) = rn (zs.take i) ++ [(z.2.1.toNat, z.2.2.toNat)] by unfold rn; rw [List.map_append]; rfl, glen_snoc]
    · rintro σ H1 ⟨v2, v3, rfl, hD1, sm⟩
      rw [List.length_map, List.take_length] at hD1
      refine ⟨_, rfl, ?_⟩
      exact hQ D H1 sm hDH hD1
end
end K44
set_option Elab.async false
set_option linter.all false
set_option maxRecDepth 100000
set_option maxHeartbeats 4000000
namespace K44
open PySem L2 PySem.W PH
section
variable {P : Program} {w : World} {K : PySem.W.Frag} {mg : Str → Option Value} {base : Heap}
theorem sc_glen : FnScope ["rules", "row", "lengths"] ["rules", "row"] (defScope s_glen) := ⟨rfl, rfl, rfl, by decide +kernel, rfl, by decide +kernel, by decide +kernel⟩
theorem ok_glen {f f_nogr f_lens : Addr} {fd d_nogr d_lens : FuncData} (F : Fun K "grammar_length" "grammar_length" s_glen f fd) (B : Bls mg) (n_sum : mg "sum" = none) 
    (G_nogr : FnOk P w K mg base (CXW P w) 5 f_nogr d_nogr ["rules", "row"] (spNoGr)) (b_nogr : Binds K d_nogr ["rules", "row"] []) (k_nogr : keepIn K (.ref f_nogr) = true) (m_nogr : mg "refuse_no_grammar" = some (.ref f_nogr)) 
    (G_lens : FnOk P w K mg base (CXW P w) 1 f_lens d_lens ["rules"] (spLens)) (b_lens : Binds K d_lens ["rules"] []) (k_lens : keepIn K (.ref f_lens) = true) (m_lens : mg "lengths_by" = some (.ref f_lens)) : FnOk P w K mg base (CXW P w) 6 f fd ["rules", "row"] (spGLen) := by
  refine F.okN sc_glen (fun vs H Q E h => ?_) (fun cdv A outer s H vs Q E hr h => ?_)
  · obtain ⟨p, q, zs, row, rfl, _⟩ := h
    rfl
  · obtain ⟨p, q, zs, row, rfl, pr, gr, hq, hrw, hzl, hrl, hQ⟩ := h
    refine ⟨_, (pss_cons (ps_expr (pe_call G_nogr hr rfl m_nogr k_nogr b_nogr .nil passN (pa_cons (pv 0) (pa_cons (pv 1) pa_nil))))
      (pss_cons (ps_set (i := 2) sc_glen.nd rfl (Or.inr rfl) (pe_call G_lens (hr.mono (show 1 ≤ 5 by decide)) rfl m_lens k_lens b_lens .nil passN (pa_cons (pv 0) pa_nil)))
      (pss_one (ps_ret (pe_callB (call_sum rfl) rfl n_sum boot_sum' (pa_cons (pe_comp (N := ["symbol", "lengths"]) (js := [none, some 2]) (g := (gName 0)) (tc := tTrue) (te := (tOp (rIxL K) (tVar 1) (tVar 0))) rfl (comp_scope (osc := defScope s_glen) (XN := ["rules", "row", "lengths"]) rfl rfl rfl (by decide +kernel)) (pi_list (pv 1)) (fun _ _ _ _ => pg_name (i := 0) (show (["symbol", "lengths"] : List Str).Nodup by decide +kernel) rfl (Or.inl rfl)) (fun _ _ _ _ => pif_nil) (fun _ _ _ _ => (pe_ix ix_list (pv 1) (pv 0) (fun _ _ => rfl)))) pa_nil)))))), ?_⟩
    refine ⟨_, rfl, _, rfl, p, q, zs, row, rfl, pr, gr, hq, hrw, hzl, hrl, fun H1 s1 => ?_⟩
    refine ⟨_, rfl, p, zs, rfl, pr.same s1, gr, hzl, fun L H2 s2 hL hL2 => ?_⟩
    have s12 := s1.trans s2
    have hq2 := s12 _ _ hq
    refine ⟨_, rfl, q, rfl, ⟨_, SqL.of hq2⟩, fun D hD => ?_⟩
    refine comp_lstQ (K := K) (a := q) (xs := row.map V.int) (fun i σ' H' => ∃ (v0 : Option V), σ' = [v0, some (.ref L)] ∧ H' D = some (lsI ((row.take i).map fun y => ((ex (rn zs) y.toNat).length : Int))) ∧ Same H2 H')
      ⟨none, rfl, upd_same, same_new hD _⟩ (fun i σ' H' _ ⟨_, _, _, e⟩ => SqL.of (e _ _ hq2)) ?_ ?_
    · rintro i y σ' H' hi ⟨v0, rfl, hD', sm⟩
      have hlt : i < (row.map V.int).length := (List.getElem?_eq_some_iff.mp hi).1
      have hil : i < row.length := by rw [List.length_map] at hlt; exact hlt
      obtain ⟨z, rfl, hz⟩ := int_at hi
      have hb := hrw.at hz
      have g1 := gl_at (zs := zs) hb.1 hb.2
      refine nameT ?_
      refine ⟨_, rfl, _, rfl, L, _, ((z.toNat : Nat) : Int), _, rfl, congrArg V.int (by trivial), SqL.of (sm _ _ hL2), at_intsZ g1, ?_⟩
      refine ⟨D, _, _, rfl, rfl, hD', fits_lt (by rw [List.length_map, List.length_map, List.length_take]; trivial), ?_⟩
      refine CW.next hlt ⟨_, rfl, ?_, same_upd sm _ hD⟩
      rw [upd_same, take_at hz, List.map_append, lsI_app1]; rfl
    rintro σ' H3 ⟨v0, rfl, hD3, sm3⟩
    rw [List.length_map, List.take_length] at hD3
    refine ⟨D, _, rfl, SqL.of hD3, ?_⟩
    have e : (row.map fun y => ((ex (rn zs) y.toNat).length : Int)).sum = ((exs (rn zs) (rwN row)).length : Nat) := by
      rw [exs_len]
      unfold rwN
      rw [List.map_map]
      rfl
    rw [e]
    exact hQ H3 (s12.trans sm3)
end
end K44
set_option Elab.async false
set_option linter.all false
set_option maxRecDepth 100000
set_option maxHeartbeats 4000000
namespace K44
open PySem L2 PySem.W PH
section
variable {P : Program} {w : World} {K : PySem.W.Frag} {mg : Str → Option Value} {base : Heap}
theorem sc_between : FnScope ["rules", "row", "first", "last", "lengths", "text", "at", "left", "symbol", "rule"] ["rules", "row", "first", "last"] (defScope s_between) := ⟨rfl, rfl, rfl, by decide +kernel, rfl, by decide +kernel, by decide +kernel⟩
theorem ok_between {f f_lens : Addr} {fd d_lens : FuncData} (F : Fun K "signs_between" "signs_between" s_between f fd) (B : Bls mg) (m_FR : FRg mg) (m_LS : LSg mg) (n_reversed : mg "reversed" = none) 
    (G_lens : FnOk P w K mg base (CXW P w) 1 f_lens d_lens ["rules"] (spLens)) (b_lens : Binds K d_lens ["rules"] []) (k_lens : keepIn K (.ref f_lens) = true) (m_lens : mg "lengths_by" = some (.ref f_lens)) : FnOk P w K mg base (CXW P w) 2 f fd ["rules", "row", "first", "last"] (spBetween) := by
  refine F.okN sc_between (fun vs H Q E h => ?_) (fun cdv A outer s H vs Q E hr h => ?_)
  · obtain ⟨p, q, zs, row, a, b, rfl, _⟩ := h
    rfl
  · obtain ⟨p, q, zs, row, a, b, rfl, pr, gr, hq, hrw, hzl, hrl, hab, hbl, hbm, hQ⟩ := h
    obtain ⟨u_FR, m_v, r_v⟩ := m_FR
    obtain ⟨u_LS, m_u, r_u⟩ := m_LS
    refine ⟨_, (pss_cons (ps_set (i := 4) sc_between.nd rfl (Or.inl rfl) (pe_call G_lens hr rfl m_lens k_lens b_lens .nil passN (pa_cons (pv 0) pa_nil)))
      (pss_cons (ps_set (i := 5) sc_between.nd rfl (Or.inl rfl) (pe_lst pa_nil))
      (pss_cons (ps_set (i := 6) sc_between.nd rfl (Or.inl rfl) pe_int)
      (pss_cons (ps_set (i := 7) sc_between.nd rfl (Or.inl rfl) (pe_listrev rfl n_reversed rfl B.list rfl (pa_cons (pv 1) pa_nil)))
      (pss_cons (ps_while PassesOwn.never (pt_cmpR op_lt (pv 6) (pv 3) (nomark _))
        (pss_cons (ps_set (i := 8) sc_between.nd rfl (Or.inl rfl) (pe_bm0 PySem.F.plainAttrs_list PySem.F.slot_list_pop PySem.F.type_list_pop mt_pop (pv 7)))
        (pss_one (ps_if (pt_cmpR op_le (pe_op op_add (pv 6) (pe_ix ix_list (pv 4) (pv 8) (fun _ _ => rfl))) (pv 2) (nomark _))
          (pss_one (ps_set (i := 6) sc_between.nd rfl (Or.inl rfl) (pe_op op_add (pv 6) (pe_ix ix_list (pv 4) (pv 8) (fun _ _ => rfl)))))
          (pss_one (ps_if (pt_cmpR op_le (pv 8) (pe_glob (v := .int 255) rfl m_u r_u) (nomark _))
            (pss_cons (ps_expr (pe_bm PySem.F.plainAttrs_list PySem.F.slot_list_append PySem.F.type_list_append mt_append (pv 5) (pa_cons (pv 8) pa_nil)))
            (pss_one (ps_set (i := 6) sc_between.nd rfl (Or.inl rfl) (pe_op op_add (pv 6) pe_int))))
            (pss_cons (ps_set (i := 9) sc_between.nd rfl (Or.inl rfl) (pe_ix ix_list (pv 0) (pe_op op_sub (pv 8) (pe_glob (v := .int 256) rfl m_v r_v)) (fun _ _ => rfl)))
            (pss_one (ps_expr (pe_bm PySem.F.plainAttrs_list PySem.F.slot_list_extend PySem.F.type_list_extend mt_extend (pv 7) (pa_cons (pe_lst (pa_cons (pe_ix ix_tup (pv 9) pe_int (fun _ _ => rfl)) (pa_cons (pe_ix ix_tup (pv 9) pe_int (fun _ _ => rfl)) pa_nil))) pa_nil)))))))))))
      (pss_one (ps_ret (pv 5)))))))), ?_⟩
    refine ⟨_, rfl, p, zs, rfl, pr, gr, hzl, fun L H1 s1 hL hL1 => ?_⟩
    refine ⟨(by show 0 ≤ sizeLine; decide), fun T hT => ?_⟩
    have s2 := s1.trans (same_new hT (.lst []))
    have hTH : H T = none := s1.free hT
    have hL2 := (same_new hT (.lst [])) _ _ hL1
    have hT2 : upd H1 T (.lst []) T = some (.lst []) := upd_same
    generalize upd H1 T (.lst []) = H2 at s2 hL2 hT2 ⊢
    refine ⟨_, rfl, q, _, rfl, s2 _ _ hq, fun F hF => ?_⟩
    have s3 := s2.trans (same_new hF (.lst (row.map V.int).reverse))
    have hFH : H F = none := s2.free hF
    have hnTF : T ≠ F := fun e => by rw [e, hF] at hT2; cases hT2
    have hnLF : L ≠ F := fun e => by rw [e, hF] at hL2; cases hL2
    have hL3 := (same_new hF (.lst (row.map V.int).reverse)) _ _ hL2
    have hT3 := (same_new hF (.lst (row.map V.int).reverse)) _ _ hT2
    have hF3 : upd H2 F (.lst (row.map V.int).reverse) F = some (lsI ((rwN row).reverse.map fun k : Nat => (k : Int))) := by
      rw [upd_same, rwN_back hrw]
    generalize upd H2 F (.lst (row.map V.int).reverse) = H3 at s3 hL3 hT3 hF3 ⊢
    obtain ⟨full, hfull⟩ : ∃ full, full = exs (rn zs) (rwN row) := ⟨_, rfl⟩
    rw [← hfull] at hbl hQ
    have hok := gr.ok
    have hrl2 : (rwN row).length = row.length := List.length_map _
    have hnLT : L ≠ T := fun e => by rw [e, hT] at hL1; cases hL1
    have hsym : ∀ k ∈ rwN row, k < 256 + zs.length := fun k hk => by
      obtain ⟨y, hy, e⟩ := List.mem_map.mp hk
      have := hrw y hy
      trivial
    refine ⟨fun mm σ H' => ∃ (pend : List Nat) (c : Nat) (v8 v9 : Option V), mm = gms (rn zs) pend ∧ σ = [some (.ref p), some (.ref q), some (.int (a : Int)), some (.int (b : Int)), some (.ref L), some (.ref T), some (.int (c : Nat)), some (.ref F), v8, v9] ∧ H' F = some (lsI (pend.reverse.map fun k : Nat => (k : Int))) ∧ H' L = some (lsI (PH.glen (rn zs))) ∧ H' T = some (lsI ((full.take c).drop a)) ∧ full.drop c = exs (rn zs) pend ∧ (∀ k ∈ pend, k < 256 + zs.length) ∧ Stk (row.length + 256 + zs.length) pend ∧ c ≤ b ∧ Same H H',
      ⟨_, rwN row, 0, none, none, rfl, rfl, hF3, hL3, by rw [List.take_zero, List.drop_nil]; exact hT3, by rw [List.drop_zero, hfull], hsym, Stk.first hsym (by trivial), Nat.zero_le _, s3⟩, ?_⟩
    rintro mm σ H4 ⟨pend, c, v8, v9, rfl, rfl, hF4, hL4, hT4, hdr, hsy, hst, hcb, sm⟩
    refine ⟨_, rfl, _, rfl, _, _, rfl, rfl, _, rfl, ?_⟩
    by_cases hcl : c < b
    rotate_left
    · rw [decide_eq_false (show ¬ ((c : Nat) : Int) < ((b : Nat) : Int) by trivial)]
      refine iteF ?_
      refine ⟨_, rfl, ?_⟩
      have e : c = b := by trivial
      rw [e] at hT4
      exact hQ T H4 sm hTH hT4
    rw [decide_eq_true (show ((c : Nat) : Int) < ((b : Nat) : Int) by trivial)]
    refine iteT ?_
    refine ⟨fun σ' H'' => ∃ m', m' < gms (rn zs) pend ∧ ∃ (pend : List Nat) (c : Nat) (v8 v9 : Option V), m' = gms (rn zs) pend ∧ σ' = [some (.ref p), some (.ref q), some (.int (a : Int)), some (.int (b : Int)), some (.ref L), some (.ref T), some (.int (c : Nat)), some (.ref F), v8, v9] ∧ H'' F = some (lsI (pend.reverse.map fun k : Nat => (k : Int))) ∧ H'' L = some (lsI (PH.glen (rn zs))) ∧ H'' T = some (lsI ((full.take c).drop a)) ∧ full.drop c = exs (rn zs) pend ∧ (∀ k ∈ pend, k < 256 + zs.length) ∧ Stk (row.length + 256 + zs.length) pend ∧ c ≤ b ∧ Same H H'', fun σ' H'' z => z, ?_⟩
    obtain ⟨k, r, rfl⟩ := exs_ne (rs := rn zs) (l := pend) (fun e => by
      have h1 := congrArg List.length (hdr.trans e)
      rw [List.length_drop, List.length_nil] at h1
      trivial)
    have hk := hsy k List.mem_cons_self
    have hkr : k < 256 + (rn zs).length := by rw [rn_len]; exact hk
    have hkp := ex_pos hok k hkr
    have hgk := glen_at (rs := rn zs) hkr
    have hF4' : H4 F = some (.lst ((r.reverse.map fun k : Nat => (k : Int)).map V.int ++ [V.int (k : Int)])) := by
      rw [hF4, List.reverse_cons, List.map_append]
      unfold lsI
      rw [List.map_append]
      rfl
    refine ⟨_, rfl, .inl ⟨rfl, _, SqL.of hF4'⟩, F, _, .int (k : Int), rfl, rfl, hF4', (by rw [List.length_append, List.length_singleton, Nat.add_sub_cancel, List.getElem?_append_right (Nat.le_refl _), Nat.sub_self]; rfl), ?_⟩
    rw [List.dropLast_concat]
    have hF5 : upd H4 F (.lst ((r.reverse.map fun k : Nat => (k : Int)).map V.int)) F = some (lsI (r.reverse.map fun k : Nat => (k : Int))) := upd_same
    have hL5 : upd H4 F (.lst ((r.reverse.map fun k : Nat => (k : Int)).map V.int)) L = some (lsI (PH.glen (rn zs))) := by rw [upd_ne hnLF]; exact hL4
    have hT5 : upd H4 F (.lst ((r.reverse.map fun k : Nat => (k : Int)).map V.int)) T = some (lsI ((full.take c).drop a)) := by rw [upd_ne hnTF]; exact hT4
    have sm5 := same_upd sm (.lst ((r.reverse.map fun k : Nat => (k : Int)).map V.int)) hFH
    generalize upd H4 F (.lst ((r.reverse.map fun k : Nat => (k : Int)).map V.int)) = H5 at hF5 hL5 hT5 sm5 ⊢
    have hsr : ∀ x ∈ r, x < 256 + zs.length := fun x hx => hsy x (List.mem_cons_of_mem _ hx)
    refine ⟨_, rfl, _, rfl, _, rfl, L, _, (k : Int), _, rfl, rfl, SqL.of hL5, at_intsZ hgk, _, _, rfl, rfl, _, rfl, _, _, rfl, rfl, _, rfl, ?_⟩
    by_cases hsk : c + (ex (rn zs) k).length ≤ a
    · rw [decide_eq_true (show ((c : Nat) : Int) + (((ex (rn zs) k).length : Nat) : Int) ≤ ((a : Nat) : Int) by trivial)]
      refine iteT ?_
      refine ⟨_, rfl, _, rfl, _, rfl, L, _, (k : Int), _, rfl, rfl, SqL.of hL5, at_intsZ hgk, _, _, rfl, rfl, ?_⟩
      have n1 : ∀ m, m ≤ a → (full.take m).drop a = [] := fun m hm => List.drop_eq_nil_of_le (by rw [List.length_take]; trivial)
      refine ⟨gms (rn zs) r, by rw [gms_cons]; trivial, r, c + (ex (rn zs) k).length, _, _, rfl, rfl, hF5, hL5, ?_, ?_, hsr, hst.2, by trivial, sm5⟩
      · rw [n1 _ hsk, ← n1 c (by trivial)]; exact hT5
      · rw [← List.drop_drop, hdr, exs_cons, List.drop_left' rfl]
    rw [decide_eq_false (show ¬ ((c : Nat) : Int) + (((ex (rn zs) k).length : Nat) : Int) ≤ ((a : Nat) : Int) by trivial)]
    refine iteF ?_
    refine ⟨_, rfl, _, _, rfl, rfl, _, rfl, ?_⟩
    by_cases hks : k ≤ 255
    · rw [decide_eq_true (show ((k : Nat) : Int) ≤ 255 by trivial)]
      refine iteT ?_
      have elow := ex_low (rs := rn zs) (k := k) (by trivial)
      rw [exs_cons, elow] at hdr
      rw [elow] at hsk
      have hsk' : ¬ c + 1 ≤ a := hsk
      have hcx : full[c]? = some (k : Int) := by
        have := congrArg (fun l : List Int => l[0]?) hdr
        rw [List.getElem?_drop] at this
        exact this
      refine ⟨_, rfl, .inl ⟨rfl, _, SqL.of hT5⟩, _, rfl, T, _, _, rfl, rfl, hT5, fits_lt (by rw [List.length_map, List.length_drop, List.length_take]; trivial), ?_⟩
      refine ⟨_, rfl, _, _, rfl, rfl, ?_⟩
      refine ⟨gms (rn zs) r, by rw [gms_cons]; trivial, r, c + 1, _, _, rfl, rfl, by rw [upd_ne hnTF.symm]; exact hF5, by rw [upd_ne hnLT]; exact hL5, ?_, ?_, hsr, hst.2, by trivial, same_upd sm5 _ hTH⟩
      · rw [upd_same, lsI_app1, take_at hcx, List.drop_append_of_le_length (by rw [List.length_take]; trivial)]
      · rw [← List.drop_drop, hdr]; rfl
    rw [decide_eq_false (show ¬ ((k : Nat) : Int) ≤ 255 by trivial)]
    refine iteF ?_
    obtain ⟨z, hz⟩ : ∃ z, zs[k - 256]? = some z := ⟨_, List.getElem?_eq_getElem (by trivial)⟩
    have hg := gr _ z hz
    have pr5 := pr.same sm5
    have hz5 := pr5.each z (List.mem_of_getElem? hz)
    refine ⟨_, rfl, _, rfl, _, _, rfl, rfl, p, _, ((k - 256 : Nat) : Int), _, rfl, congrArg V.int (by trivial), SqL.of pr5.at_, atI_nat (by rw [List.getElem?_map, hz]; rfl), ?_⟩
    refine ⟨_, rfl, .inl ⟨rfl, _, SqL.of hF5⟩, _, rfl, z.1, _, _, _, rfl, rfl, SqT.of hz5, rfl, _, rfl, z.1, _, _, _, rfl, rfl, SqT.of hz5, rfl, (by show 2 ≤ sizeLine; decide), fun l hl => ?_⟩
    have u6 := same_new hl (.lst [V.int z.2.2, V.int z.2.1])
    have hlen := hst.len
    rw [List.length_cons] at hlen
    refine ⟨F, l, _, _, rfl, rfl, u6 _ _ hF5, upd_same, fits (by rw [List.length_map, List.length_map, List.length_reverse]; show _ + 2 ≤ _; trivial), ?_⟩
    have hr1 : (rn zs)[k - 256]? = some (z.2.1.toNat, z.2.2.toNat) := by unfold rn; rw [List.getElem?_map, hz]; rfl
    have sp := gms_split hok hr1 r
    rw [show 256 + (k - 256) = k by trivial] at sp
    have hlF : ∀ X : Addr, X ≠ F → ∀ o, H5 X = some o → upd (upd H5 l (.lst [V.int z.2.2, V.int z.2.1])) F (.lst ((r.reverse.map fun k : Nat => (k : Int)).map V.int ++ [V.int z.2.2, V.int z.2.1])) X = some o := fun X hX o h => by
      rw [upd_ne hX]
      exact u6 _ _ h
    refine ⟨gms (rn zs) (z.2.1.toNat :: z.2.2.toNat :: r), sp.1, z.2.1.toNat :: z.2.2.toNat :: r, c, _, _, rfl, rfl, ?_, hlF L hnLF _ hL5, hlF T hnTF _ hT5, by rw [hdr]; exact sp.2.symm, ?_, hst.split (by trivial) (by trivial), hcb, same_upd (sm5.trans u6) _ hFH⟩
    · rw [upd_same]
      unfold lsI
      rw [List.reverse_cons, List.reverse_cons, List.map_append, List.map_append, List.map_append, List.map_append, List.append_assoc]
      show some (HO.lst (_ ++ [V.int z.2.2, V.int z.2.1])) = some (HO.lst (_ ++ [V.int ((z.2.2.toNat : Nat) : Int), V.int ((z.2.1.toNat : Nat) : Int)]))
      rw [show ((z.2.2.toNat : Nat) : Int) = z.2.2 by trivial, show ((z.2.1.toNat : Nat) : Int) = z.2.1 by trivial]
    · intro x hx
      rcases List.mem_cons.mp hx with e | hx
      · trivial
      · rcases List.mem_cons.mp hx with e | hx
        · trivial
        · exact hsr x hx
end
end K44
set_option Elab.async false
set_option linter.all false
set_option maxRecDepth 100000
set_option maxHeartbeats 4000000
namespace K44
open PySem L2 PySem.W PH
section
variable {P : Program} {w : World} {K : PySem.W.Frag} {mg : Str → Option Value} {base : Heap}
theorem sc_nostr : FnScope ["first", "last", "length"] ["first", "last", "length"] (defScope s_nostr) := ⟨rfl, rfl, rfl, by decide +kernel, rfl, by decide +kernel, by decide +kernel⟩
theorem ok_nostr {f c_NoPlace : Addr} {fd : FuncData} (F : Fun K "refuse_no_stretch" "refuse_no_stretch" s_nostr f fd) (B : Bls mg) (X_NoPlace : Ex K mg "NoPlace" c_NoPlace) (m_NoPlace : mg "NoPlace" = some (.ref c_NoPlace)) : FnOk P w K mg base (CXW P w) 1 f fd ["first", "last", "length"] (spNoStr c_NoPlace) := by
  refine F.okX sc_nostr (fun vs H Q E h => ?_) (fun cdv A outer s H vs Q E hr h => ?_)
  · obtain ⟨a, b, n, rfl, _⟩ := h
    rfl
  · obtain ⟨a, b, n, rfl, hE, hQ⟩ := h
    refine ⟨_, (pss_one (ps_if (PW.pt (pw_or (pt_cmpR op_lt (pv 0) pe_int (nomark _)) (pw_or (pt_cmpR op_gt (pv 0) (pv 1) (nomark _)) (pw_or1 (pt_cmpR op_gt (pv 1) (pv 2) (nomark _))))))
        (pss_one (ps_raise PySem.F.excBase_ValueError X_NoPlace.ex X_NoPlace.mg rfl))
        pss_nil)), ?_⟩
    refine ⟨_, rfl, _, _, rfl, rfl, _, rfl, ?_⟩
    by_cases h0 : a < 0
    · rw [decide_eq_true h0]
      refine iteT (iteT ?_)
      exact hE (by trivial)
    rw [decide_eq_false h0]
    refine iteF ?_
    refine ⟨_, rfl, _, rfl, _, _, rfl, rfl, _, rfl, ?_⟩
    by_cases h1 : b < a
    · rw [decide_eq_true h1]
      refine iteT (iteT ?_)
      exact hE (by trivial)
    rw [decide_eq_false h1]
    refine iteF ?_
    refine ⟨_, rfl, _, rfl, _, _, rfl, rfl, _, rfl, ?_⟩
    by_cases h2 : n < b
    · rw [decide_eq_true h2]
      refine iteT ?_
      exact hE (by trivial)
    rw [decide_eq_false h2]
    refine iteF ?_
    exact hQ (by trivial)
theorem sc_gstr : FnScope ["rules", "row", "first", "last"] ["rules", "row", "first", "last"] (defScope s_gstr) := ⟨rfl, rfl, rfl, by decide +kernel, rfl, by decide +kernel, by decide +kernel⟩
theorem ok_gstr {f c_NoPlace f_glen f_between f_nostr : Addr} {fd d_glen d_between d_nostr : FuncData} (F : Fun K "grammar_stretch" "grammar_stretch" s_gstr f fd) (B : Bls mg) 
    (G_glen : FnOk P w K mg base (CXW P w) 6 f_glen d_glen ["rules", "row"] (spGLen)) (b_glen : Binds K d_glen ["rules", "row"] []) (k_glen : keepIn K (.ref f_glen) = true) (m_glen : mg "grammar_length" = some (.ref f_glen)) 
    (G_between : FnOk P w K mg base (CXW P w) 2 f_between d_between ["rules", "row", "first", "last"] (spBetween)) (b_between : Binds K d_between ["rules", "row", "first", "last"] []) (k_between : keepIn K (.ref f_between) = true) (m_between : mg "signs_between" = some (.ref f_between)) 
    (G_nostr : FnOk P w K mg base (CXW P w) 1 f_nostr d_nostr ["first", "last", "length"] (spNoStr c_NoPlace)) (b_nostr : Binds K d_nostr ["first", "last", "length"] []) (k_nostr : keepIn K (.ref f_nostr) = true) (m_nostr : mg "refuse_no_stretch" = some (.ref f_nostr)) : FnOk P w K mg base (CXW P w) 7 f fd ["rules", "row", "first", "last"] (spGStr c_NoPlace) := by
  refine F.okX sc_gstr (fun vs H Q E h => ?_) (fun cdv A outer s H vs Q E hr h => ?_)
  · obtain ⟨p, q, zs, row, a, b, rfl, _⟩ := h
    rfl
  · obtain ⟨p, q, zs, row, a, b, rfl, pr, gr, hq, hrw, hzl, hrl, hE, hQ⟩ := h
    refine ⟨_, (pss_cons (ps_expr (pe_call G_nostr (hr.mono (show 1 ≤ 6 by decide)) rfl m_nostr k_nostr b_nostr .nil passW (pa_cons (pv 2) (pa_cons (pv 3) (pa_cons (pe_call G_glen hr rfl m_glen k_glen b_glen .nil passW (pa_cons (pv 0) (pa_cons (pv 1) pa_nil))) pa_nil)))))
      (pss_one (ps_ret (pe_call G_between (hr.mono (show 2 ≤ 6 by decide)) rfl m_between k_between b_between .nil passW (pa_cons (pv 0) (pa_cons (pv 1) (pa_cons (pv 2) (pa_cons (pv 3) pa_nil)))))))), ?_⟩
    refine ⟨_, rfl, _, rfl, _, rfl, _, rfl, p, q, zs, row, rfl, pr, gr, hq, hrw, hzl, hrl, fun H1 s1 => ?_⟩
    refine ⟨a, b, _, rfl, (fun hno => hE hno H1 s1), fun hok => ?_⟩
    obtain ⟨hb, hQ⟩ := hQ hok
    obtain ⟨A, eA⟩ : ∃ A : Nat, a = (A : Int) := ⟨a.toNat, by trivial⟩
    obtain ⟨B, eB⟩ : ∃ B : Nat, b = (B : Int) := ⟨b.toNat, by trivial⟩
    subst eA eB
    refine ⟨_, rfl, _, rfl, _, rfl, _, rfl, p, q, zs, row, A, B, rfl, pr.same s1, gr, s1 _ _ hq, hrw, hzl, hrl, by trivial, by trivial, by trivial, fun D H2 s2 hD hD2 => ?_⟩
    rw [Int.toNat_natCast, Int.toNat_natCast] at hQ
    exact hQ D H2 (s1.trans s2) (s1.free hD) hD2
end
end K44
set_option Elab.async false
set_option linter.all false
set_option maxRecDepth 100000
set_option maxHeartbeats 4000000
namespace K44
open PySem L2 PySem.W PH
section
variable {P : Program} {w : World} {K : PySem.W.Frag} {mg : Str → Option Value} {base : Heap}
theorem sc_times : FnScope ["text", "word", "many"] ["text", "word"] (defScope s_times) := ⟨rfl, rfl, rfl, by decide +kernel, rfl, by decide +kernel, by decide +kernel⟩
theorem ok_times {f : Addr} {fd : FuncData} (F : Fun K "times_in" "times_in" s_times f fd) (B : Bls mg) (n_sum : mg "sum" = none) : FnOk P w K mg base (CXW P w) 1 f fd ["text", "word"] (spTimes) := by
  refine F.okN sc_times (fun vs H Q E h => ?_) (fun cdv A outer s H vs Q E hr h => ?_)
  · obtain ⟨T, Wd, t, w, rfl, _⟩ := h
    rfl
  · obtain ⟨T, Wd, t, w, rfl, ht, hw, hw1, hw2, htl, hQ⟩ := h
    refine ⟨_, (pss_cons (ps_set (i := 2) sc_times.nd rfl (Or.inr rfl) (pe_callB call_len_seq rfl B.len PySem.boot_len (pa_cons (pv 1) pa_nil)))
      (pss_one (ps_ret (pe_callB (call_sum rfl) rfl n_sum boot_sum' (pa_cons (pe_comp (N := ["at", "text", "many", "word"]) (js := [none, some 0, some 2, some 1]) (g := (gName 0)) (tc := (tTest (tOp (rEqI K) (tSl (rSlL K) (tVar 1) (tPart (tVar 0)) (tPart (tOp (rI0 fun i j => .int (i + j)) (tVar 0) (tVar 2)))) (tVar 3)))) (te := (tC (.int 1))) rfl (comp_scope (osc := defScope s_times) (XN := ["text", "word", "many"]) rfl rfl rfl (by decide +kernel)) (pi_range1 rfl B.range (pa_cons (pe_op op_add (pe_op op_sub (pe_callB call_len_seq rfl B.len PySem.boot_len (pa_cons (pv 0) pa_nil)) (pv 2)) pe_int) pa_nil)) (fun _ _ _ _ => pg_name (i := 0) (show (["at", "text", "many", "word"] : List Str).Nodup by decide +kernel) rfl (Or.inl rfl)) (fun _ _ _ _ => (pif_one (pt_cmpR (op_eqL (units_of hr)) (pe_slice sl_list (pv 1) (po_some (pv 0)) (po_some (pe_op op_add (pv 0) (pv 2)))) (pv 3) (nomark _)))) (fun _ _ _ _ => pe_int)) pa_nil))))), ?_⟩
    refine ⟨_, rfl, Wd, _, rfl, .inl (SqL.of hw), ?_⟩
    refine gNz (v' := V.int (w.length : Nat)) (by rw [List.length_map]) ?_
    refine ⟨_, rfl, T, _, rfl, .inl (SqL.of ht), _, rfl, _, _, rfl, rfl, _, _, rfl, rfl, ((t.length : Nat) : Int) - (w.length : Nat) + 1, by rw [List.length_map], by trivial, by trivial, fun D hD => ?_⟩
    rw [show (((t.length : Nat) : Int) - (w.length : Nat) + 1).toNat = t.length + 1 - w.length by trivial]
    refine comp_rngQ (fun i σ' H' => ∃ (v0 : Option V), σ' = [v0, some (.ref T), some (.int (w.length : Nat)), some (.ref Wd)] ∧ H' D = some (lsI (List.replicate (ctw w t i) 1)) ∧ Same H H')
      ⟨none, rfl, upd_same, same_new hD _⟩ ?_ ?_
    · rintro i σ' H' hi ⟨v0, rfl, hD', sm⟩
      rw [Int.zero_add]
      refine ⟨_, rfl, _, rfl, _, rfl, _, rfl, _, rfl, _, _, rfl, rfl, _, rfl, T, _, rfl, SqL.of (sm _ _ ht), fun q hq => ?_⟩
      try simp only []
      rw [cut_step']
      have u := same_new hq (lsI ((t.drop i).take w.length))
      have hq' : upd H' q (lsI ((t.drop i).take w.length)) q = some (lsI ((t.drop i).take w.length)) := upd_same
      generalize upd H' q (lsI ((t.drop i).take w.length)) = H2 at u hq' ⊢
      refine ⟨_, rfl, q, Wd, _, _, rfl, rfl, SqL.of hq', SqL.of (u _ _ (sm _ _ hw)), _, rfl, ?_⟩
      have hcl := ctw_le w t i
      by_cases hm : (t.drop i).take w.length = w
      · rw [decide_eq_true hm]
        refine iteT ?_
        refine ⟨D, _, _, rfl, rfl, u _ _ hD', fits_lt (by rw [List.length_map, List.length_replicate]; trivial), ?_⟩
        refine CW.next hi ⟨_, rfl, ?_, same_upd (sm.trans u) _ hD⟩
        rw [upd_same, lsI_app1, ctw_yes hm, List.replicate_succ']
      · rw [decide_eq_false hm]
        refine iteF ?_
        exact CW.next hi ⟨_, rfl, by rw [ctw_no hm]; exact u _ _ hD', sm.trans u⟩
    rintro σ' H1 ⟨v0, rfl, hD1, sm⟩
    rw [ctw_all hw1] at hD1
    refine ⟨D, _, rfl, SqL.of hD1, ?_⟩
    rw [sum_ones]
    exact hQ H1 sm
end
end K44
set_option Elab.async false
set_option linter.all false
set_option maxRecDepth 100000
set_option maxHeartbeats 4000000
namespace K44
open PySem L2 PySem.W PH
section
variable {P : Program} {w : World} {K : PySem.W.Frag} {mg : Str → Option Value} {base : Heap}
theorem sc_psign : FnScope ["sign", "word", "ends"] ["sign", "word"] (defScope s_psign) := ⟨rfl, rfl, rfl, by decide +kernel, rfl, by decide +kernel, by decide +kernel⟩
theorem ok_psign {f : Addr} {fd : FuncData} (F : Fun K "part_of_sign" "part_of_sign" s_psign f fd) (B : Bls mg) : FnOk P w K mg base (CXW P w) 1 f fd ["sign", "word"] (spPSign) := by
  refine F.okN sc_psign (fun vs H Q E h => ?_) (fun cdv A outer s H vs Q E hr h => ?_)
  · obtain ⟨x, Wd, w, rfl, _⟩ := h
    rfl
  · obtain ⟨x, Wd, w, rfl, hw, hw1', hw2, hQ⟩ := h
    refine ⟨_, (pss_cons (ps_set (i := 2) sc_psign.nd rfl (Or.inl rfl) (pe_slice sl_list (pe_lst (pa_cons (pv 0) pa_nil)) po_none (po_some (pe_op op_sub (pe_callB call_len_seq rfl B.len PySem.boot_len (pa_cons (pv 1) pa_nil)) pe_int))))
      (pss_one (ps_ret (pe_tup (pa_cons (pe_ifExp (pt_cmpR (op_eqL (units_of hr)) (pv 1) (pe_lst (pa_cons (pv 0) pa_nil)) (nomark _)) pe_int pe_int) (pa_cons (pv 2) (pa_cons (pv 2) pa_nil))))))), ?_⟩
    refine ⟨_, rfl, (by show 1 ≤ sizeLine; decide), fun l hl => ?_⟩
    have u1 := same_new hl (.lst [V.int x])
    have hl1 : upd H l (.lst [V.int x]) l = some (lsI [x]) := upd_same
    generalize upd H l (.lst [V.int x]) = H1 at u1 hl1 ⊢
    have hw1 := u1 _ _ hw
    refine ⟨_, rfl, Wd, _, rfl, .inl (SqL.of hw1), _, _, rfl, rfl, _, rfl, l, _, rfl, SqL.of hl1, fun q hq => ?_⟩
    have ec : HO.lst (cutV ([x].map V.int) none (some (((w.map V.int).length : Int) - 1))) = lsI (hdw w [x]) := by
      rw [List.length_map, show ((w.length : Nat) : Int) - 1 = ((w.length - 1 : Nat) : Int) by trivial, cut_to']
      rfl
    try simp only []
    rw [ec]
    have hqH : H q = none := u1.free hq
    have u2 := u1.trans (same_new hq (lsI (hdw w [x])))
    have hq2 : upd H1 q (lsI (hdw w [x])) q = some (lsI (hdw w [x])) := upd_same
    generalize upd H1 q (lsI (hdw w [x])) = H2 at u2 hq2 ⊢
    refine ⟨_, rfl, _, rfl, (by show 1 ≤ sizeLine; decide), fun l2 hl2 => ?_⟩
    have u3 := same_new hl2 (.lst [V.int x])
    have hl3 : upd H2 l2 (.lst [V.int x]) l2 = some (lsI [x]) := upd_same
    generalize upd H2 l2 (.lst [V.int x]) = H3 at u3 hl3 ⊢
    have s3 := u2.trans u3
    have hq3 := u3 _ _ hq2
    refine ⟨Wd, l2, _, _, rfl, rfl, SqL.of (s3 _ _ hw), SqL.of hl3, _, rfl, ?_⟩
    have c1 := cnt_one hw1' x
    by_cases hm : w = [x]
    · rw [decide_eq_true hm]
      refine iteT ?_
      rw [if_pos hm] at c1
      refine ⟨_, rfl, _, rfl, (by show 3 ≤ sizeLine; decide), fun a ha => ?_⟩
      have u4 := same_new ha (.tup [V.int 1, V.ref q, V.ref q])
      exact hQ a q q _ (s3.trans u4) hqH hqH (by rw [upd_same, c1]; rfl) (u4 _ _ hq3) (by rw [tl_hd_one]; exact u4 _ _ hq3)
    · rw [decide_eq_false hm]
      refine iteF ?_
      rw [if_neg hm] at c1
      refine ⟨_, rfl, _, rfl, (by show 3 ≤ sizeLine; decide), fun a ha => ?_⟩
      have u4 := same_new ha (.tup [V.int 0, V.ref q, V.ref q])
      exact hQ a q q _ (s3.trans u4) hqH hqH (by rw [upd_same, c1]; rfl) (u4 _ _ hq3) (by rw [tl_hd_one]; exact u4 _ _ hq3)
end
end K44
set_option Elab.async false
set_option linter.all false
set_option maxRecDepth 100000
set_option maxHeartbeats 4000000
namespace K44
open PySem L2 PySem.W PH
section
variable {P : Program} {w : World} {K : PySem.W.Frag} {mg : Str → Option Value} {base : Heap}
theorem sc_pboth : FnScope ["one", "two", "word", "most", "times", "head", "tail"] ["one", "two", "word"] (defScope s_pboth) := ⟨rfl, rfl, rfl, by decide +kernel, rfl, by decide +kernel, by decide +kernel⟩
theorem ok_pboth {f f_times : Addr} {fd d_times : FuncData} (F : Fun K "part_of_both" "part_of_both" s_pboth f fd) (B : Bls mg) 
    (G_times : FnOk P w K mg base (CXW P w) 1 f_times d_times ["text", "word"] (spTimes)) (b_times : Binds K d_times ["text", "word"] []) (k_times : keepIn K (.ref f_times) = true) (m_times : mg "times_in" = some (.ref f_times)) : FnOk P w K mg base (CXW P w) 2 f fd ["one", "two", "word"] (spPBoth) := by
  refine F.okN sc_pboth (fun vs H Q E h => ?_) (fun cdv A outer s H vs Q E hr h => ?_)
  · obtain ⟨o, p, Wd, w, t, u, rfl, _⟩ := h
    rfl
  · obtain ⟨o, p, Wd, w, t, u, rfl, po, pp, hw, hw1, hw2, hQ⟩ := h
    refine ⟨_, (pss_cons (ps_set (i := 3) sc_pboth.nd rfl (Or.inl rfl) (pe_op op_sub (pe_callB call_len_seq rfl B.len PySem.boot_len (pa_cons (pv 2) pa_nil)) pe_int))
      (pss_cons (ps_set (i := 4) sc_pboth.nd rfl (Or.inl rfl) (pe_op op_add (pe_op op_add (pe_ix ix_tup (pv 0) pe_int (fun _ _ => rfl)) (pe_ix ix_tup (pv 1) pe_int (fun _ _ => rfl))) (pe_call G_times hr rfl m_times k_times b_times .nil passN (pa_cons (pe_op op_cat (pe_ix ix_tup (pv 0) pe_int (fun _ _ => rfl)) (pe_ix ix_tup (pv 1) pe_int (fun _ _ => rfl))) (pa_cons (pv 2) pa_nil)))))
      (pss_cons (ps_set (i := 5) sc_pboth.nd rfl (Or.inl rfl) (pe_op op_cat (pe_ix ix_tup (pv 0) pe_int (fun _ _ => rfl)) (pe_ix ix_tup (pv 1) pe_int (fun _ _ => rfl))))
      (pss_cons (ps_set (i := 6) sc_pboth.nd rfl (Or.inl rfl) (pe_op op_cat (pe_ix ix_tup (pv 0) pe_int (fun _ _ => rfl)) (pe_ix ix_tup (pv 1) pe_int (fun _ _ => rfl))))
      (pss_one (ps_ret (pe_tup (pa_cons (pv 4) (pa_cons (pe_slice sl_list (pv 5) po_none (po_some (pv 3))) (pa_cons (pe_slice sl_list (pv 6) (po_some (pe_callB (call_max2 rfl) rfl B.max boot_max' (pa_cons (pe_op op_sub (pe_callB call_len_seq rfl B.len PySem.boot_len (pa_cons (pv 6) pa_nil)) (pv 3)) (pa_cons pe_int pa_nil)))) po_none) pa_nil)))))))))), ?_⟩
    obtain ⟨o1, o2, eo, eo1, eo2⟩ := po
    obtain ⟨p1, p2, ep, ep1, ep2⟩ := pp
    have l1 := hdw_len w t
    have l2 := tlw_len w t
    have l3 := hdw_len w u
    have l4 := tlw_len w u
    refine ⟨_, rfl, Wd, _, rfl, .inl (SqL.of hw), _, _, rfl, rfl, ?_⟩
    refine gNz (v' := V.int ((w.length - 1 : Nat) : Int)) (congrArg V.int (by rw [List.length_map]; trivial)) ?_
    refine ⟨_, rfl, o, _, _, _, rfl, rfl, SqT.of eo, rfl, _, rfl, p, _, _, _, rfl, rfl, SqT.of ep, rfl, _, _, rfl, rfl, _, rfl, o, _, _, _, rfl, rfl, SqT.of eo, rfl, _, rfl, p, _, _, _, rfl, rfl, SqT.of ep, rfl, o2, p1, _, _, rfl, rfl, eo2, ep1, fits (by rw [List.length_map, List.length_map]; trivial), fun q hq => ?_⟩
    rw [lsI_cat]
    have u1 := same_new hq (lsI (tlw w t ++ hdw w u))
    have hq1 : upd H q (lsI (tlw w t ++ hdw w u)) q = some (lsI (tlw w t ++ hdw w u)) := upd_same
    generalize upd H q (lsI (tlw w t ++ hdw w u)) = H1 at u1 hq1 ⊢
    refine ⟨_, rfl, q, Wd, tlw w t ++ hdw w u, w, rfl, hq1, u1 _ _ hw, hw1, hw2, by rw [List.length_append]; trivial, fun H2 s2 => ?_⟩
    refine ⟨_, _, rfl, rfl, ?_⟩
    have cm := cnt_meet hw1 t u
    refine gNz (v' := V.int (cnt w (t ++ u) : Nat)) (congrArg V.int (by rw [cm]; trivial)) ?_
    have s12 := u1.trans s2
    have eo' := s12 _ _ eo
    have ep' := s12 _ _ ep
    refine ⟨_, rfl, o, _, _, _, rfl, rfl, SqT.of eo', rfl, _, rfl, p, _, _, _, rfl, rfl, SqT.of ep', rfl, o1, p1, _, _, rfl, rfl, s12 _ _ eo1, s12 _ _ ep1, fits (by rw [List.length_map, List.length_map]; trivial), fun A hA => ?_⟩
    rw [lsI_cat]
    have u3 := same_new hA (lsI (hdw w t ++ hdw w u))
    have hA3 : upd H2 A (lsI (hdw w t ++ hdw w u)) A = some (lsI (hdw w t ++ hdw w u)) := upd_same
    generalize upd H2 A (lsI (hdw w t ++ hdw w u)) = H3 at u3 hA3 ⊢
    have s13 := s12.trans u3
    refine ⟨_, rfl, o, _, _, _, rfl, rfl, SqT.of (s13 _ _ eo), rfl, _, rfl, p, _, _, _, rfl, rfl, SqT.of (s13 _ _ ep), rfl, o2, p2, _, _, rfl, rfl, s13 _ _ eo2, s13 _ _ ep2, fits (by rw [List.length_map, List.length_map]; trivial), fun B hB => ?_⟩
    rw [lsI_cat]
    have u4 := same_new hB (lsI (tlw w t ++ tlw w u))
    have hB4 : upd H3 B (lsI (tlw w t ++ tlw w u)) B = some (lsI (tlw w t ++ tlw w u)) := upd_same
    generalize upd H3 B (lsI (tlw w t ++ tlw w u)) = H4 at u4 hB4 ⊢
    have hA4 := u4 _ _ hA3
    have s14 := s13.trans u4
    refine ⟨_, rfl, _, rfl, _, rfl, _, rfl, A, _, rfl, SqL.of hA4, fun q5 hq5 => ?_⟩
    rw [cut_to', ← hdw_app]
    have u5 := same_new hq5 (lsI (hdw w (t ++ u)))
    have hq55 : upd H4 q5 (lsI (hdw w (t ++ u))) q5 = some (lsI (hdw w (t ++ u))) := upd_same
    have hq5H : H q5 = none := s14.free hq5
    generalize upd H4 q5 (lsI (hdw w (t ++ u))) = H5 at u5 hq55 ⊢
    have hB5 := u5 _ _ hB4
    have s15 := s14.trans u5
    refine ⟨_, rfl, _, rfl, B, _, rfl, .inl (SqL.of hB5), _, rfl, _, _, rfl, rfl, _, _, rfl, _, rfl, B, _, rfl, SqL.of hB5, fun q6 hq6 => ?_⟩
    have ed : (if (0 : Int) > ((((tlw w t ++ tlw w u).map V.int).length : Nat) : Int) - ((w.length - 1 : Nat) : Int) then (0 : Int) else ((((tlw w t ++ tlw w u).map V.int).length : Nat) : Int) - ((w.length - 1 : Nat) : Int)) = (((tlw w t ++ tlw w u).length - (w.length - 1) : Nat) : Int) := by
      rw [List.length_map]
      split <;> trivial
    try simp only []
    rw [ed, cut_from', ← tlw_app]
    have u6 := same_new hq6 (lsI (tlw w (t ++ u)))
    have hq66 : upd H5 q6 (lsI (tlw w (t ++ u))) q6 = some (lsI (tlw w (t ++ u))) := upd_same
    have hq6H : H q6 = none := s15.free hq6
    generalize upd H5 q6 (lsI (tlw w (t ++ u))) = H6 at u6 hq66 ⊢
    refine ⟨(by show 3 ≤ sizeLine; decide), fun a ha => ?_⟩
    have u7 := same_new ha (.tup [V.int (cnt w (t ++ u) : Nat), V.ref q5, V.ref q6])
    exact hQ a q5 q6 _ (s15.trans (u6.trans u7)) hq5H hq6H upd_same (u7 _ _ (u6 _ _ hq55)) (u7 _ _ hq66)
end
end K44
set_option Elab.async false
set_option linter.all false
set_option maxRecDepth 100000
set_option maxHeartbeats 4000000
namespace K44
open PySem L2 PySem.W PH
section
variable {P : Program} {w : World} {K : PySem.W.Frag} {mg : Str → Option Value} {base : Heap}
theorem sc_gcnt : FnScope ["rules", "row", "word", "length", "parts", "a", "b", "whole", "symbol"] ["rules", "row", "word"] (defScope s_gcnt) := ⟨rfl, rfl, rfl, by decide +kernel, rfl, by decide +kernel, by decide +kernel⟩
theorem ok_gcnt {f f_glen f_psign f_pboth : Addr} {fd d_glen d_psign d_pboth : FuncData} (F : Fun K "grammar_count" "grammar_count" s_gcnt f fd) (B : Bls mg) (m_FR : FRg mg) 
    (G_glen : FnOk P w K mg base (CXW P w) 6 f_glen d_glen ["rules", "row"] (spGLen)) (b_glen : Binds K d_glen ["rules", "row"] []) (k_glen : keepIn K (.ref f_glen) = true) (m_glen : mg "grammar_length" = some (.ref f_glen)) 
    (G_psign : FnOk P w K mg base (CXW P w) 1 f_psign d_psign ["sign", "word"] (spPSign)) (b_psign : Binds K d_psign ["sign", "word"] []) (k_psign : keepIn K (.ref f_psign) = true) (m_psign : mg "part_of_sign" = some (.ref f_psign)) 
    (G_pboth : FnOk P w K mg base (CXW P w) 2 f_pboth d_pboth ["one", "two", "word"] (spPBoth)) (b_pboth : Binds K d_pboth ["one", "two", "word"] []) (k_pboth : keepIn K (.ref f_pboth) = true) (m_pboth : mg "part_of_both" = some (.ref f_pboth)) : FnOk P w K mg base (CXW P w) 7 f fd ["rules", "row", "word"] (spGCnt) := by
  refine F.okN sc_gcnt (fun vs H Q E h => ?_) (fun cdv A outer s H vs Q E hr h => ?_)
  · obtain ⟨p, q, Wd, zs, row, w, rfl, _⟩ := h
    rfl
  · obtain ⟨p, q, Wd, zs, row, w, rfl, pr, gr, hq, hrw, hzl, hrl, hw, hwl, hwm, hQ⟩ := h
    obtain ⟨u_FR, m_v, r_v⟩ := m_FR
    refine ⟨_, (pss_cons (ps_set (i := 3) sc_gcnt.nd rfl (Or.inl rfl) (pe_call G_glen hr rfl m_glen k_glen b_glen .nil passN (pa_cons (pv 0) (pa_cons (pv 1) pa_nil))))
      (pss_cons (ps_if (pt_cmpR op_eq (pe_callB call_len_seq rfl B.len PySem.boot_len (pa_cons (pv 2) pa_nil)) pe_int (nomark _))
        (pss_one (ps_ret (pe_op op_add (pv 3) pe_int)))
        pss_nil)
      (pss_cons (ps_setC (iy := 4) (N := ["sign", "word"]) (js := [none, some 2]) (g := (gName 0)) (tc := tTrue) (te := (tCall (spPSign) [] E0 (tCons (tVar 0) (tCons (tVar 1) tNil)))) sc_gcnt.nd rfl rfl rfl (comp_scope (osc := defScope s_gcnt) (XN := ["rules", "row", "word", "length", "parts", "a", "b", "whole", "symbol"]) rfl rfl rfl (by decide +kernel)) (pi_range1 rfl B.range (pa_cons (pe_glob (v := .int 256) rfl m_v r_v) pa_nil)) (fun _ _ _ _ => pg_name (i := 0) (show (["sign", "word"] : List Str).Nodup by decide +kernel) rfl (Or.inl rfl)) (fun _ _ _ _ => pif_nil) (fun _ _ _ _ => (pe_call G_psign (hr.mono (show 1 ≤ 6 by decide)) rfl m_psign k_psign b_psign .nil passN (pa_cons (pv 0) (pa_cons (pv 1) pa_nil)))))
      (pss_cons (ps_for PassesOwn.never rfl (pi_list (pv 0)) (pg_tup rfl (pgs_cons (pg_name (i := 5) sc_gcnt.nd rfl (Or.inl rfl)) (pgs_cons (pg_name (i := 6) sc_gcnt.nd rfl (Or.inl rfl)) pgs_nil)))
        (pss_one (ps_expr (pe_bm PySem.F.plainAttrs_list PySem.F.slot_list_append PySem.F.type_list_append mt_append (pv 4) (pa_cons (pe_call G_pboth (hr.mono (show 2 ≤ 6 by decide)) rfl m_pboth k_pboth b_pboth .nil passN (pa_cons (pe_ix ix_list (pv 4) (pv 5) (fun _ _ => rfl)) (pa_cons (pe_ix ix_list (pv 4) (pv 6) (fun _ _ => rfl)) (pa_cons (pv 2) pa_nil)))) pa_nil)))))
      (pss_cons (ps_set (i := 7) sc_gcnt.nd rfl (Or.inl rfl) (pe_tup (pa_cons pe_int (pa_cons (pe_lst pa_nil) (pa_cons (pe_lst pa_nil) pa_nil)))))
      (pss_cons (ps_for PassesOwn.never rfl (pi_list (pv 1)) (pg_name (i := 8) sc_gcnt.nd rfl (Or.inl rfl))
        (pss_one (ps_set (i := 7) sc_gcnt.nd rfl (Or.inl rfl) (pe_call G_pboth (hr.mono (show 2 ≤ 6 by decide)) rfl m_pboth k_pboth b_pboth .nil passN (pa_cons (pv 7) (pa_cons (pe_ix ix_list (pv 4) (pv 8) (fun _ _ => rfl)) (pa_cons (pv 2) pa_nil)))))))
      (pss_one (ps_ret (pe_ix ix_tup (pv 7) pe_int (fun _ _ => rfl)))))))))), ?_⟩
    refine ⟨_, rfl, _, rfl, p, q, zs, row, rfl, pr, gr, hq, hrw, hzl, hrl, fun H1 s1 => ?_⟩
    have hw1 := s1 _ _ hw
    refine ⟨_, rfl, Wd, _, rfl, .inl (SqL.of hw1), rfl, _, rfl, ?_⟩
    rw [decide_eq_false (show ¬ V.int ((w.map V.int).length : Nat) = V.int 0 from fun e => by have := V.int.inj e; rw [List.length_map] at this; trivial)]
    refine iteF ?_
    refine ⟨256, rfl, by decide, by decide, fun X hX => ?_⟩
    have hXH : H X = none := s1.free hX
    refine comp_rngQ (fun i σ' H' => ∃ (v0 : Option V) (as : List Addr), σ' = [v0, some (.ref Wd)] ∧ as.length = i ∧ Pts H' X as w (fun k => [(k : Int)]) ∧ Same H1 H')
      ⟨none, [], rfl, rfl, Pts.nil upd_same, same_new hX _⟩ ?_ ?_
    · rintro i σ' H' hi ⟨v0, as, rfl, hal, pt, sm⟩
      have hi6 : i < 256 := hi
      rw [Int.zero_add]
      refine nameT ?_
      refine ⟨_, rfl, _, rfl, (i : Int), Wd, w, rfl, sm _ _ hw1, hwl, hwm, fun a h1 h2 H2 s2 n1 n2 ea e1 e2 => ?_⟩
      have pt2 := pt.same s2
      refine ⟨X, _, _, rfl, rfl, pt2.at_, fits_lt (by rw [List.length_map]; trivial), ?_⟩
      exact CW.next hi ⟨_, as ++ [a], rfl, by rw [List.length_append, hal]; rfl, pt2.app ea e1 e2 (fun z => by rw [z, pt.at_] at n1; cases n1) (fun z => by rw [z, pt.at_] at n2; cases n2) (fun _ _ => rfl) (by rw [hal]), same_upd (sm.trans s2) _ hX⟩
    rintro σ' H2 ⟨v0, as0, rfl, hal0, pt0, sm2⟩
    have hal0' : as0.length = 256 := hal0
    have pt0' : Pts H2 X as0 w (ex (rn (zs.take 0))) := ⟨pt0.at_, fun j a e => by
      rw [ex_low (by have := (List.getElem?_eq_some_iff.mp e).1; trivial)]
      exact pt0.each j a e⟩
    have s2 := s1.trans sm2
    refine ⟨_, rfl, p, rfl, ⟨_, SqL.of (s2 _ _ pr.at_)⟩, for_list (K := K) (a := p) (xs := zs.map fun z => V.ref z.1) (fun i σ H' => ∃ (v5 v6 : Option V) (as : List Addr), σ = [some (.ref p), some (.ref q), some (.ref Wd), some (.int ((exs (rn zs) (rwN row)).length : Nat)), some (.ref X), v5, v6, none, none] ∧ as.length = 256 + i ∧ Pts H' X as w (ex (rn (zs.take i))) ∧ Same H H')
      ⟨none, none, as0, rfl, by trivial, pt0', s2⟩ (fun i σ H' _ ⟨_, _, _, _, _, _, e⟩ => SqL.of (e _ _ pr.at_)) ?_ ?_⟩
    · rintro i y σ H3 hi ⟨v5, v6, as, rfl, hal, pt, sm⟩
      obtain ⟨z, hz, rfl⟩ := ref_at hi
      have hil : i < zs.length := (List.getElem?_eq_some_iff.mp hz).1
      have hg := gr i z hz
      have hl : (rn (zs.take i)).length = i := by rw [rn_len, List.length_take]; trivial
      obtain ⟨a1, ha1⟩ : ∃ a, as[z.2.1.toNat]? = some a := ⟨_, List.getElem?_eq_getElem (by trivial)⟩
      obtain ⟨a2, ha2⟩ : ∃ a, as[z.2.2.toNat]? = some a := ⟨_, List.getElem?_eq_getElem (by trivial)⟩
      refine ⟨z.1, _, rfl, SqT.of (sm _ _ (pr.each z (List.mem_of_getElem? hz))), rfl, _, _, rfl, _, _, rfl, rfl, ?_⟩
      refine ⟨_, rfl, .inl ⟨rfl, _, SqL.of pt.at_⟩, _, rfl, _, rfl, X, _, ((z.2.1.toNat : Nat) : Int), _, rfl, congrArg V.int (by trivial), SqL.of pt.at_, at_refsA ha1, _, rfl, _, rfl, X, _, ((z.2.2.toNat : Nat) : Int), _, rfl, congrArg V.int (by trivial), SqL.of pt.at_, at_refsA ha2, _, rfl, a1, a2, Wd, w, _, _, rfl, pt.part ha1, pt.part ha2, sm _ _ hw, hwl, hwm, fun a h1 h2 H4 s4 n1 n2 ea e1 e2 => ?_⟩
      have pt4 := pt.same s4
      refine ⟨X, _, _, rfl, rfl, pt4.at_, fits_lt (by rw [List.length_map]; trivial), ?_⟩
      have er : rn (zs.take (i + 1)) = rn (zs.take i) ++ [(z.2.1.toNat, z.2.2.toNat)] := by rw [take_at hz]; unfold rn; rw [List.map_append]; rfl
      refine ⟨_, _, as ++ [a], rfl, by rw [List.length_append, hal]; rfl, pt4.app ea e1 e2 (fun z => by rw [z, pt.at_] at n1; cases n1) (fun z => by rw [z, pt.at_] at n2; cases n2) (fun j hj => by rw [er, ex_pre (by trivial)]) ?_, same_upd (sm.trans s4) _ hXH⟩
      have := ex_new (rn (zs.take i)) (z.2.1.toNat, z.2.2.toNat)
      rw [hl] at this
      rw [hal, er]
      exact this
    rintro σ H3 ⟨v5, v6, as, rfl, hal, pt, sm⟩
    rw [List.length_map] at hal
    rw [List.length_map, List.take_length] at pt
    refine ⟨(by show 0 ≤ sizeLine; decide), fun b1 hb1 => ?_⟩
    have u1 := same_new hb1 (.lst [])
    have eb1 : upd H3 b1 (.lst []) b1 = some (lsI []) := upd_same
    generalize upd H3 b1 (.lst []) = H4 at u1 eb1 ⊢
    refine ⟨(by show 0 ≤ sizeLine; decide), fun b2 hb2 => ?_⟩
    have u2 := same_new hb2 (.lst [])
    have eb2 : upd H4 b2 (.lst []) b2 = some (lsI []) := upd_same
    generalize upd H4 b2 (.lst []) = H5 at u2 eb2 ⊢
    refine ⟨(by show 3 ≤ sizeLine; decide), fun w0 hw0 => ?_⟩
    have u3 := same_new hw0 (.tup [V.int 0, V.ref b1, V.ref b2])
    have ew0 : upd H5 w0 (.tup [V.int 0, V.ref b1, V.ref b2]) w0 = some (.tup [V.int 0, V.ref b1, V.ref b2]) := upd_same
    generalize upd H5 w0 (.tup [V.int 0, V.ref b1, V.ref b2]) = H6 at u3 ew0 ⊢
    have s36 := u1.trans (u2.trans u3)
    have pt6 := pt.same s36
    have sm6 := sm.trans s36
    have pw0 : PartA H6 w0 w (exs (rn zs) (rwN (row.take 0))) := ⟨b1, b2, ew0, by rw [(u2.trans u3) _ _ eb1, List.take_zero]; show some (lsI []) = some (lsI (hdw w [])); unfold hdw; rw [List.take_nil], by rw [u3 _ _ eb2, List.take_zero]; show some (lsI []) = some (lsI (tlw w [])); unfold tlw; rw [List.drop_nil]⟩
    refine ⟨_, rfl, q, rfl, ⟨_, SqL.of (sm6 _ _ hq)⟩, for_list (K := K) (a := q) (xs := row.map V.int) (fun i σ H' => ∃ (v8 : Option V) (wa : Addr), σ = [some (.ref p), some (.ref q), some (.ref Wd), some (.int ((exs (rn zs) (rwN row)).length : Nat)), some (.ref X), v5, v6, some (.ref wa), v8] ∧ PartA H' wa w (exs (rn zs) (rwN (row.take i))) ∧ Pts H' X as w (ex (rn zs)) ∧ Same H H')
      ⟨none, w0, rfl, pw0, pt6, sm6⟩ (fun i σ H' _ ⟨_, _, _, _, _, e⟩ => SqL.of (e _ _ hq)) ?_ ?_⟩
    · rintro i y σ H7 hi ⟨v8, wa, rfl, pw, pt7, sm7⟩
      obtain ⟨z, rfl, hz⟩ := int_at hi
      have hb := hrw.at hz
      obtain ⟨a1, ha1⟩ : ∃ a, as[z.toNat]? = some a := ⟨_, List.getElem?_eq_getElem (by trivial)⟩
      refine ⟨_, rfl, _, rfl, _, rfl, X, _, ((z.toNat : Nat) : Int), _, rfl, congrArg V.int (by trivial), SqL.of pt7.at_, at_refsA ha1, _, rfl, wa, a1, Wd, w, _, _, rfl, pw, pt7.part ha1, sm7 _ _ hw, hwl, hwm, fun a h1 h2 H8 s8 n1 n2 ea e1 e2 => ?_⟩
      exact ⟨_, a, rfl, by rw [exs_take hz]; exact ⟨h1, h2, ea, e1, e2⟩, pt7.same s8, sm7.trans s8⟩
    · rintro σ H7 ⟨v8, wa, rfl, pw, pt7, sm7⟩
      rw [List.length_map, List.take_length] at pw
      obtain ⟨h1, h2, ea, _, _⟩ := pw
      refine ⟨_, rfl, wa, _, _, _, rfl, rfl, SqT.of ea, rfl, ?_⟩
      exact hQ H7 sm7
end
end K44
set_option Elab.async false
set_option linter.all false
set_option maxRecDepth 100000
set_option maxHeartbeats 4000000
namespace K44
open PySem L2 PySem.W PH
section
variable {P : Program} {w : World} {K : PySem.W.Frag} {mg : Str → Option Value} {base : Heap}
theorem sc_cellat : FnScope ["script", "k"] ["script", "k"] (defScope s_cellat) := ⟨rfl, rfl, rfl, by decide +kernel, rfl, by decide +kernel, by decide +kernel⟩
theorem ok_cellat {f : Addr} {fd : FuncData} (F : Fun K "_law_cell_at" "_law_cell_at" s_cellat f fd) (B : Bls mg) : FnOk P w K mg base (CXW P w) 1 f fd ["script", "k"] (spCellAt K) := by
  refine F.okN sc_cellat (fun vs H Q E h => ?_) (fun cdv A outer s H vs Q E hr h => ?_)
  · obtain ⟨a, ns, k, rfl, _⟩ := h
    rfl
  · obtain ⟨a, ns, k, rfl, hS, hQ⟩ := h
    refine ⟨_, (pss_cons (ps_if (pt_cmpR op_lt (pv 1) (pe_callB call_len_seq rfl B.len PySem.boot_len (pa_cons (pv 0) pa_nil)) (nomark _))
        (pss_one (ps_ret (pe_ix ix_list (pv 0) (pv 1) (fun _ _ => rfl))))
        pss_nil)
      (pss_one (ps_ret pe_int))), ?_⟩
    refine ⟨_, rfl, _, rfl, a, _, rfl, .inl hS, _, _, rfl, rfl, _, rfl, ?_⟩
    refine ite2 (fun c => ?_) (fun c => ?_)
    · have hlt : k < ns.length := by
        have := of_decide_eq_true c
        rw [List.length_map] at this
        trivial
      obtain ⟨x, hx⟩ : ∃ x, ns[k]? = some x := ⟨_, List.getElem?_eq_getElem hlt⟩
      refine ⟨_, rfl, _, rfl, a, _, _, .int x, rfl, rfl, hS, at_intsZ hx, ?_⟩
      exact hQ x
    · exact hQ 0
theorem sc_stir : FnScope ["cell", "k", "number"] ["cell", "k"] (defScope s_stir) := ⟨rfl, rfl, rfl, by decide +kernel, rfl, by decide +kernel, by decide +kernel⟩
theorem ok_stir {f : Addr} {fd : FuncData} (F : Fun K "_law_stir" "_law_stir" s_stir f fd) (B : Bls mg) : FnOk P w K mg base (CXW P w) 1 f fd ["cell", "k"] (spStirB) := by
  refine F.okN sc_stir (fun vs H Q E h => ?_) (fun cdv A outer s H vs Q E hr h => ?_)
  · obtain ⟨c, k, rfl, _⟩ := h
    rfl
  · obtain ⟨c, k, rfl, hk, hQ⟩ := h
    refine ⟨_, (pss_cons (ps_set (i := 2) sc_stir.nd rfl (Or.inl rfl) (pe_op op_mod (pe_op op_add (pe_op op_add (pe_op op_mul (pe_op op_mod (pv 0) (pe_op op_pow pe_int pe_int)) pe_int) (pe_op op_mul pe_int (pv 1))) pe_int) pe_int))
      (pss_cons (ps_set (i := 2) sc_stir.nd rfl (Or.inl rfl) (pe_op op_mod (pe_op op_add (pe_op op_mul (pv 2) (pv 2)) (pe_op op_mul pe_int (pv 2))) pe_int))
      (pss_one (ps_ret (pe_op op_add (pe_op op_mod (pe_op op_mul (pv 2) (pv 2)) pe_int) (pv 2)))))), ?_⟩
    refine ⟨_, rfl, _, _, rfl, rfl, ⟨by decide, by decide, by decide⟩, _, _, rfl, rfl, (by show (0 : Int) < 10 ^ (15 : Int).toNat; decide), _, _, rfl, rfl, .inr ⟨by decide, by decide⟩, _, rfl, _, _, rfl, rfl, .inl ⟨by decide, by decide⟩, _, _, rfl, rfl, _, _, rfl, rfl, _, _, rfl, rfl, (by show (0 : Int) < 2147483647; decide), ?_⟩
    obtain ⟨m1, e1, b10, b11⟩ : ∃ m1 : Int, m1 = (c % 10 ^ (15 : Int).toNat * 48271 + 104729 * (k : Int) + 7) % 2147483647 ∧ 0 ≤ m1 ∧ m1 < 2147483647 := ⟨_, rfl, Int.emod_nonneg _ (by decide), Int.emod_lt_of_pos _ (by decide)⟩
    refine gNz (v' := V.int m1) (by rw [e1]) ?_
    refine ⟨_, rfl, _, rfl, _, _, rfl, rfl, .inl ⟨?_, ?_⟩, _, rfl, _, _, rfl, rfl, .inl ⟨by decide, by decide⟩, _, _, rfl, rfl, _, _, rfl, rfl, (by show (0 : Int) < 2147483629; decide), ?_⟩
    · show -(2 ^ 64) < m1
      trivial
    · show m1 < 2 ^ 64
      trivial
    obtain ⟨m2, e2, b20, b21⟩ : ∃ m2 : Int, m2 = (m1 * m1 + 7919 * m1) % 2147483629 ∧ 0 ≤ m2 ∧ m2 < 2147483629 := ⟨_, rfl, Int.emod_nonneg _ (by decide), Int.emod_lt_of_pos _ (by decide)⟩
    refine gNz (v' := V.int m2) (by rw [e2]) ?_
    refine ⟨_, rfl, _, rfl, _, _, rfl, rfl, .inl ⟨?_, ?_⟩, _, _, rfl, rfl, (by show (0 : Int) < 2147483587; decide), _, rfl, _, _, rfl, rfl, ?_⟩
    · show -(2 ^ 64) < m2
      trivial
    · show m2 < 2 ^ 64
      trivial
    have h := Int.emod_nonneg (m2 * m2) (show (2147483587 : Int) ≠ 0 by decide)
    have h2 := Int.emod_lt_of_pos (m2 * m2) (show (0 : Int) < 2147483587 by decide)
    exact hQ _ (by trivial) (by trivial)
end
end K44
set_option Elab.async false
set_option linter.all false
set_option maxRecDepth 100000
set_option maxHeartbeats 4000000
namespace K44
open PySem L2 PySem.W PH
section
variable {P : Program} {w : World} {K : PySem.W.Frag} {mg : Str → Option Value} {base : Heap}
theorem sc_symb : FnScope ["number", "rules", "base"] ["number", "rules", "base"] (defScope s_symb) := ⟨rfl, rfl, rfl, by decide +kernel, rfl, by decide +kernel, by decide +kernel⟩
theorem ok_symb {f : Addr} {fd : FuncData} (F : Fun K "_law_symbol" "_law_symbol" s_symb f fd) (B : Bls mg) : FnOk P w K mg base (CXW P w) 1 f fd ["number", "rules", "base"] (spSymb) := by
  refine F.okN sc_symb (fun vs H Q E h => ?_) (fun cdv A outer s H vs Q E hr h => ?_)
  · obtain ⟨p, zs, nu, bs, rfl, _⟩ := h
    rfl
  · obtain ⟨p, zs, nu, bs, rfl, pr, hb0, hb1, hzl, hQ⟩ := h
    refine ⟨_, (pss_cons (ps_if (PW.pt (pw_or (pt_cmpR (op_eqD (units_of hr)) (pv 1) (pe_lst pa_nil) (nomark _)) (pw_or1 (pt_cmpR op_eq (pe_op op_mod (pv 0) pe_int) pe_int (nomark _)))))
        (pss_one (ps_ret (pe_op op_mod (pe_op op_fdiv (pv 0) pe_int) (pv 2))))
        pss_nil)
      (pss_cons (ps_if (pt_cmpR op_eq (pe_op op_mod (pv 0) pe_int) pe_int (nomark _))
        (pss_one (ps_ret (pe_op op_sub (pe_op op_add pe_int (pe_callB call_len_seq rfl B.len PySem.boot_len (pa_cons (pv 1) pa_nil))) (pe_op op_mod (pe_op op_fdiv (pv 0) pe_int) (pe_callB (call_min2 rfl) rfl B.min boot_min' (pa_cons pe_int (pa_cons (pe_callB call_len_seq rfl B.len PySem.boot_len (pa_cons (pv 1) pa_nil)) pa_nil)))))))
        pss_nil)
      (pss_one (ps_ret (pe_op op_add pe_int (pe_op op_mod (pe_op op_fdiv (pv 0) pe_int) (pe_callB call_len_seq rfl B.len PySem.boot_len (pa_cons (pv 1) pa_nil)))))))), ?_⟩
    refine ⟨_, rfl, (by show 0 ≤ sizeLine; decide), fun e0 he0 => ?_⟩
    have se := same_new he0 (.lst [])
    have hde : upd H e0 (.lst []) e0 = some (.lst []) := upd_same
    have pr1 := pr.same se
    generalize upd H e0 (.lst []) = H1 at se hde pr1 ⊢
    refine ⟨_, _, pr1.deep, .lst (SqL.of hde) .nil, ht_prD _, _, rfl, ?_⟩
    rw [eqD_prnil]
    have hlow : ∀ H', Same H H' → Q (.int (nu / 3 % bs)) H' := fun H' s' => by
      have h1 := Int.emod_nonneg (nu / 3) (show bs ≠ 0 by trivial)
      have h2 := Int.emod_lt_of_pos (nu / 3) hb0
      exact hQ _ H' s' h1 (by trivial)
    by_cases hnil : zs.map (·.2) = []
    · rw [decide_eq_true hnil]
      refine iteT (iteT ?_)
      refine ⟨_, rfl, _, _, rfl, rfl, ⟨by decide, by decide⟩, _, rfl, _, _, rfl, rfl, hb0, ?_⟩
      exact hlow H1 se
    rw [decide_eq_false hnil]
    refine iteF ?_
    have hz0 : 0 < zs.length := List.length_pos_iff.mpr (fun e => hnil (by rw [e]; rfl))
    refine ⟨_, rfl, _, _, rfl, rfl, (by show (0 : Int) < 3; decide), rfl, _, rfl, ?_⟩
    refine ite2 (fun _ => ?_) (fun _ => ?_)
    · refine ⟨_, rfl, _, _, rfl, rfl, ⟨by decide, by decide⟩, _, rfl, _, _, rfl, rfl, hb0, ?_⟩
      exact hlow H1 se
    refine ⟨_, rfl, _, _, rfl, rfl, (by show (0 : Int) < 3; decide), rfl, _, rfl, ?_⟩
    refine ite2 (fun _ => ?_) (fun _ => ?_)
    · obtain ⟨m, em, hm0, hm1⟩ : ∃ m : Int, m = (if (((zs.map fun z => V.ref z.1).length : Nat) : Int) < 3 then (((zs.map fun z => V.ref z.1).length : Nat) : Int) else 3) ∧ 0 < m ∧ m ≤ zs.length := by
        refine ⟨_, rfl, ?_⟩
        rw [List.length_map]
        split <;> trivial
      refine ⟨_, rfl, p, _, rfl, .inl (SqL.of pr1.at_), _, _, rfl, rfl, _, rfl, _, _, rfl, rfl, ⟨by decide, by decide⟩, _, rfl, p, _, rfl, .inl (SqL.of pr1.at_), _, _, rfl, _, _, rfl, rfl, (by rw [← em]; exact hm0), _, _, rfl, rfl, ?_⟩
      rw [← em]
      have h1 := Int.emod_nonneg (nu / 3) (show m ≠ 0 by trivial)
      have h2 := Int.emod_lt_of_pos (nu / 3) hm0
      refine hQ (255 + (((zs.map fun z => V.ref z.1).length : Nat) : Int) - nu / 3 % m) H1 se ?_ ?_ <;> rw [List.length_map] <;> trivial
    · refine ⟨_, rfl, _, _, rfl, rfl, ⟨by decide, by decide⟩, _, rfl, p, _, rfl, .inl (SqL.of pr1.at_), _, _, rfl, rfl, (by rw [List.length_map]; trivial), _, _, rfl, rfl, ?_⟩
      rw [List.length_map]
      have h1 := Int.emod_nonneg (nu / 3) (show ((zs.length : Nat) : Int) ≠ 0 by trivial)
      have h2 := Int.emod_lt_of_pos (nu / 3) (show (0 : Int) < ((zs.length : Nat) : Int) by trivial)
      exact hQ (256 + nu / 3 % ((zs.length : Nat) : Int)) H1 se (by trivial) (by trivial)
end
end K44
set_option Elab.async false
set_option linter.all false
set_option maxRecDepth 100000
set_option maxHeartbeats 4000000
namespace K44
open PySem L2 PySem.W PH
section
variable {P : Program} {w : World} {K : PySem.W.Frag} {mg : Str → Option Value} {base : Heap}
theorem sc_size : FnScope ["sizes", "symbol"] ["sizes", "symbol"] (defScope s_size) := ⟨rfl, rfl, rfl, by decide +kernel, rfl, by decide +kernel, by decide +kernel⟩
theorem ok_size {f : Addr} {fd : FuncData} (F : Fun K "_law_size" "_law_size" s_size f fd) (B : Bls mg) : FnOk P w K mg base (CXW P w) 1 f fd ["sizes", "symbol"] (spSz) := by
  refine F.okN sc_size (fun vs H Q E h => ?_) (fun cdv A outer s H vs Q E hr h => ?_)
  · obtain ⟨s, zs, y, rfl, _⟩ := h
    rfl
  · obtain ⟨s, zs, y, rfl, hs, h0, h1, hQ⟩ := h
    refine ⟨_, (pss_cons (ps_if (pt_cmpR op_lt (pv 1) pe_int (nomark _))
        (pss_one (ps_ret pe_int))
        pss_nil)
      (pss_one (ps_ret (pe_ix ix_list (pv 0) (pe_op op_sub (pv 1) pe_int) (fun _ _ => rfl))))), ?_⟩
    refine ⟨_, rfl, _, _, rfl, rfl, _, rfl, ?_⟩
    by_cases hy : y < 256
    · rw [decide_eq_true hy]
      refine iteT ?_
      rw [ex_low (show y.toNat < 256 by trivial)] at hQ
      exact hQ
    rw [decide_eq_false hy]
    refine iteF ?_
    have g1 : ((PH.glen (rn zs)).drop 256)[y.toNat - 256]? = some ((ex (rn zs) y.toNat).length : Int) := by
      rw [List.getElem?_drop, show 256 + (y.toNat - 256) = y.toNat by trivial]
      exact gl_at h0 h1
    refine ⟨_, rfl, _, rfl, _, _, rfl, rfl, s, _, ((y.toNat - 256 : Nat) : Int), _, rfl, congrArg V.int (by trivial), SqL.of hs, at_intsZ g1, ?_⟩
    exact hQ
end
end K44
set_option Elab.async false
set_option linter.all false
set_option maxRecDepth 100000
set_option maxHeartbeats 4000000
namespace K44
open PySem L2 PySem.W PH
section
variable {P : Program} {w : World} {K : PySem.W.Frag} {mg : Str → Option Value} {base : Heap}
theorem sc_gram : FnScope ["script", "most", "first", "base", "rules", "sizes", "k", "number", "one", "other", "turn", "row", "cell", "symbol"] ["script", "most"] (defScope s_gram) := ⟨rfl, rfl, rfl, by decide +kernel, rfl, by decide +kernel, by decide +kernel⟩
theorem ok_gram {f f_cellat f_stir f_symb f_size : Addr} {fd d_cellat d_stir d_symb d_size : FuncData} (F : Fun K "_law_grammar" "_law_grammar" s_gram f fd) (B : Bls mg) (n_sum : mg "sum" = none) 
    (G_cellat : FnOk P w K mg base (CXW P w) 1 f_cellat d_cellat ["script", "k"] (spCellAt K)) (b_cellat : Binds K d_cellat ["script", "k"] []) (k_cellat : keepIn K (.ref f_cellat) = true) (m_cellat : mg "_law_cell_at" = some (.ref f_cellat)) 
    (G_stir : FnOk P w K mg base (CXW P w) 1 f_stir d_stir ["cell", "k"] (spStirB)) (b_stir : Binds K d_stir ["cell", "k"] []) (k_stir : keepIn K (.ref f_stir) = true) (m_stir : mg "_law_stir" = some (.ref f_stir)) 
    (G_symb : FnOk P w K mg base (CXW P w) 1 f_symb d_symb ["number", "rules", "base"] (spSymb)) (b_symb : Binds K d_symb ["number", "rules", "base"] []) (k_symb : keepIn K (.ref f_symb) = true) (m_symb : mg "_law_symbol" = some (.ref f_symb)) 
    (G_size : FnOk P w K mg base (CXW P w) 1 f_size d_size ["sizes", "symbol"] (spSz)) (b_size : Binds K d_size ["sizes", "symbol"] []) (k_size : keepIn K (.ref f_size) = true) (m_size : mg "_law_size" = some (.ref f_size)) : FnOk P w K mg base (CXW P w) 2 f fd ["script", "most"] (spGram K) := by
  refine F.okN sc_gram (fun vs H Q E h => ?_) (fun cdv A outer s H vs Q E hr h => ?_)
  · obtain ⟨a, ns, most, rfl, _⟩ := h
    rfl
  · obtain ⟨a, ns, most, rfl, ha, h63, hm1, hQ⟩ := h
    refine ⟨_, (pss_cons (ps_set (i := 2) sc_gram.nd rfl (Or.inl rfl) (pe_call G_cellat hr rfl m_cellat k_cellat b_cellat .nil passN (pa_cons (pv 0) (pa_cons pe_int pa_nil))))
      (pss_cons (ps_set (i := 3) sc_gram.nd rfl (Or.inl rfl) (pe_ix ix_list (pe_lst (pa_cons pe_int (pa_cons pe_int (pa_cons pe_int (pa_cons pe_int pa_nil))))) (pe_op op_mod (pe_op op_fdiv (pv 2) pe_int) pe_int) (fun _ _ => rfl)))
      (pss_cons (ps_set (i := 4) sc_gram.nd rfl (Or.inl rfl) (pe_lst pa_nil))
      (pss_cons (ps_set (i := 5) sc_gram.nd rfl (Or.inr rfl) (pe_lst pa_nil))
      (pss_cons (ps_for PassesOwn.never rfl (pi_range2 rfl B.range (pa_cons pe_int (pa_cons (pe_callB (call_min2 rfl) rfl B.min boot_min' (pa_cons (pe_callB call_len_seq rfl B.len PySem.boot_len (pa_cons (pv 0) pa_nil)) (pa_cons pe_int pa_nil))) pa_nil))) (pg_name (i := 6) sc_gram.nd rfl (Or.inl rfl))
        (pss_cons (ps_set (i := 7) sc_gram.nd rfl (Or.inl rfl) (pe_ix ix_list (pe_lst (pa_cons (pe_ix ix_list (pv 0) (pv 6) (fun _ _ => rfl)) (pa_cons (pe_call G_stir hr rfl m_stir k_stir b_stir .nil passN (pa_cons (pe_ix ix_list (pv 0) (pv 6) (fun _ _ => rfl)) (pa_cons (pv 6) pa_nil))) pa_nil))) (pe_op op_mod (pv 2) pe_int) (fun _ _ => rfl)))
        (pss_cons (ps_set (i := 8) sc_gram.nd rfl (Or.inl rfl) (pe_call G_symb hr rfl m_symb k_symb b_symb .nil passN (pa_cons (pv 7) (pa_cons (pv 4) (pa_cons (pv 3) pa_nil)))))
        (pss_cons (ps_set (i := 9) sc_gram.nd rfl (Or.inl rfl) (pe_call G_symb hr rfl m_symb k_symb b_symb .nil passN (pa_cons (pe_op op_fdiv (pv 7) pe_int) (pa_cons (pv 4) (pa_cons (pv 3) pa_nil)))))
        (pss_one (ps_for PassesOwn.never rfl (pi_range1 rfl B.range (pa_cons (pe_op op_add pe_int (pe_op op_mod (pe_op op_fdiv (pv 7) pe_int) (pe_ix ix_list (pe_lst (pa_cons pe_int (pa_cons pe_int (pa_cons pe_int pa_nil)))) (pe_op op_mod (pe_op op_fdiv (pv 2) pe_int) pe_int) (fun _ _ => rfl)))) pa_nil)) (pg_name (i := 10) sc_gram.nd rfl (Or.inl rfl))
          (pss_cons (ps_if (PW.pt (pw_and (pt_cmpR (op_neD (units_of hr)) (pv 4) (pe_lst pa_nil) (nomark _)) (pw_and1 (pt_cmpR op_gt (pv 10) pe_int (nomark _)))))
            (pss_cons (ps_set (i := 8) sc_gram.nd rfl (Or.inl rfl) (pe_op op_add pe_int (pe_callB call_len_seq rfl B.len PySem.boot_len (pa_cons (pv 4) pa_nil))))
            (pss_one (ps_set (i := 9) sc_gram.nd rfl (Or.inl rfl) (pe_ix ix_list (pe_lst (pa_cons (pv 8) (pa_cons (pv 9) pa_nil))) (pe_op op_mod (pe_op op_fdiv (pv 7) pe_int) pe_int) (fun _ _ => rfl)))))
            pss_nil)
          (pss_one (ps_if (PW.pt (pw_and (pt_cmpR op_le (pe_op op_add (pe_call G_size hr rfl m_size k_size b_size .nil passN (pa_cons (pv 5) (pa_cons (pv 8) pa_nil))) (pe_call G_size hr rfl m_size k_size b_size .nil passN (pa_cons (pv 5) (pa_cons (pv 9) pa_nil)))) (pv 1) (nomark _)) (pw_and1 (pt_cmpR op_lt (pe_callB call_len_seq rfl B.len PySem.boot_len (pa_cons (pv 4) pa_nil)) pe_int (nomark _)))))
            (pss_cons (ps_expr (pe_bm PySem.F.plainAttrs_list PySem.F.slot_list_append PySem.F.type_list_append mt_append (pv 5) (pa_cons (pe_op op_add (pe_call G_size hr rfl m_size k_size b_size .nil passN (pa_cons (pv 5) (pa_cons (pv 8) pa_nil))) (pe_call G_size hr rfl m_size k_size b_size .nil passN (pa_cons (pv 5) (pa_cons (pv 9) pa_nil)))) pa_nil)))
            (pss_one (ps_expr (pe_bm PySem.F.plainAttrs_list PySem.F.slot_list_append PySem.F.type_list_append mt_append (pv 4) (pa_cons (pe_tup (pa_cons (pv 8) (pa_cons (pv 9) pa_nil))) pa_nil)))))
            pss_nil)))))))))
      (pss_cons (ps_set (i := 11) sc_gram.nd rfl (Or.inl rfl) (pe_lst pa_nil))
      (pss_cons (ps_set (i := 12) sc_gram.nd rfl (Or.inl rfl) (pe_call G_cellat hr rfl m_cellat k_cellat b_cellat .nil passN (pa_cons (pv 0) (pa_cons pe_int pa_nil))))
      (pss_cons (ps_for PassesOwn.never rfl (pi_range1 rfl B.range (pa_cons (pe_op op_mod (pv 12) pe_int) pa_nil)) (pg_name (i := 6) sc_gram.nd rfl (Or.inl rfl))
        (pss_cons (ps_set (i := 12) sc_gram.nd rfl (Or.inl rfl) (pe_op op_fdiv (pv 12) pe_int))
        (pss_cons (ps_set (i := 13) sc_gram.nd rfl (Or.inl rfl) (pe_call G_symb hr rfl m_symb k_symb b_symb .nil passN (pa_cons (pv 12) (pa_cons (pv 4) (pa_cons (pv 3) pa_nil)))))
        (pss_one (ps_if (pt_cmpR op_le (pe_op op_add (pe_callB (call_sum rfl) rfl n_sum boot_sum' (pa_cons (pe_comp (N := ["one", "sizes"]) (js := [none, some 5]) (g := (gName 0)) (tc := tTrue) (te := (tCall (spSz) [] E0 (tCons (tVar 1) (tCons (tVar 0) tNil)))) rfl (comp_scope (osc := defScope s_gram) (XN := ["script", "most", "first", "base", "rules", "sizes", "k", "number", "one", "other", "turn", "row", "cell", "symbol"]) rfl rfl rfl (by decide +kernel)) (pi_list (pv 11)) (fun _ _ _ _ => pg_name (i := 0) (show (["one", "sizes"] : List Str).Nodup by decide +kernel) rfl (Or.inl rfl)) (fun _ _ _ _ => pif_nil) (fun _ _ _ _ => (pe_call G_size hr rfl m_size k_size b_size .nil passN (pa_cons (pv 1) (pa_cons (pv 0) pa_nil))))) pa_nil)) (pe_call G_size hr rfl m_size k_size b_size .nil passN (pa_cons (pv 5) (pa_cons (pv 13) pa_nil)))) (pv 1) (nomark _))
          (pss_one (ps_expr (pe_bm PySem.F.plainAttrs_list PySem.F.slot_list_append PySem.F.type_list_append mt_append (pv 11) (pa_cons (pv 13) pa_nil))))
          pss_nil)))))
      (pss_one (ps_ret (pe_lst (pa_cons (pv 4) (pa_cons (pv 5) (pa_cons (pv 11) (pa_cons (pv 3) pa_nil))))))))))))))), ?_⟩
    have hS0 : SqL K H a (ns.map V.int) := ha
    refine ⟨_, rfl, a, ns, 0, rfl, hS0, fun x => ?_⟩
    obtain ⟨bs, hbs, bs0, bs1⟩ : ∃ bs : Int, atI [V.int 2, V.int 3, V.int 16, V.int 256] (x / 2 % 4) = some (.int bs) ∧ 0 < bs ∧ bs ≤ 256 := by
      have hr : x / 2 % 4 = 0 ∨ x / 2 % 4 = 1 ∨ x / 2 % 4 = 2 ∨ x / 2 % 4 = 3 := by trivial
      rcases hr with h | h | h | h <;> rw [h] <;> exact ⟨_, rfl, by decide, by decide⟩
    refine ⟨(by show 4 ≤ sizeLine; decide), fun l1 hl1 => ?_⟩
    have s1 := same_new hl1 (.lst [V.int 2, V.int 3, V.int 16, V.int 256])
    refine ⟨_, rfl, _, _, rfl, rfl, ⟨by decide, by decide⟩, _, _, rfl, rfl, (by show (0 : Int) < 4; decide), l1, _, _, _, rfl, rfl, SqL.of upd_same, hbs, ?_⟩
    generalize upd H l1 (.lst [V.int 2, V.int 3, V.int 16, V.int 256]) = H1 at s1 ⊢
    refine ⟨(by show 0 ≤ sizeLine; decide), fun P hP => ?_⟩
    have s2 := s1.trans (same_new hP (.lst []))
    have hPH : H P = none := s1.free hP
    have hP2 : upd H1 P (.lst []) P = some (.lst []) := upd_same
    generalize upd H1 P (.lst []) = H2 at s2 hP2 ⊢
    refine ⟨(by show 0 ≤ sizeLine; decide), fun S hSn => ?_⟩
    have s3 := s2.trans (same_new hSn (.lst []))
    have hSH : H S = none := s2.free hSn
    have hPS : P ≠ S := fun e => by rw [e, hSn] at hP2; cases hP2
    have g0 : Gsn (upd H2 S (.lst [])) P S most [] := Gsn.nil ((same_new hSn (.lst [])) _ _ hP2) upd_same hm1
    generalize upd H2 S (.lst []) = H3 at s3 g0 ⊢
    obtain ⟨hi0, ehi, hh1, hh2⟩ : ∃ hi : Int, hi = (if (62 : Int) < ((ns.map V.int).length : Int) then 62 else ((ns.map V.int).length : Int)) ∧ hi ≤ 62 ∧ hi ≤ ns.length := by
      refine ⟨_, rfl, ?_⟩
      rw [List.length_map]
      split <;> trivial
    have hh0 : 0 ≤ hi0 := by rw [ehi]; split <;> trivial
    refine ⟨_, rfl, a, _, rfl, .inl (s3.seq hS0), _, _, rfl, 2, hi0, by rw [ehi], ⟨by trivial, by trivial, by trivial, by trivial⟩, ?_⟩
    refine for_range (n := (hi0 - 2).toNat) (fun i σ H' => ∃ (zs : List (Addr × Int × Int)) (v6 v7 v8 v9 v10 : Option V), σ = [some (.ref a), some (.int (most : Int)), some (.int x), some (.int bs), some (.ref P), some (.ref S), v6, v7, v8, v9, v10, none, none, none] ∧ Gsn H' P S most zs ∧ Same H H')
      ⟨[], none, none, none, none, none, rfl, g0, s3⟩ ?_ ?_
    · rintro i σ H4 hi ⟨zs, v6, v7, v8, v9, v10, rfl, g4, sm⟩
      rw [show (2 : Int) + (i : Int) = ((i + 2 : Nat) : Int) by trivial]
      have hil : i + 2 < ns.length := by trivial
      obtain ⟨c, hc⟩ : ∃ c, ns[i + 2]? = some c := ⟨_, List.getElem?_eq_getElem hil⟩
      refine ⟨_, rfl, _, rfl, a, _, _, .int c, rfl, rfl, sm.seq hS0, at_intsZ hc, _, rfl, _, rfl, a, _, _, .int c, rfl, rfl, sm.seq hS0, at_intsZ hc, _, rfl, c, i + 2, rfl, by trivial, fun nu nu0 _ => ?_⟩
      refine ⟨(by show 2 ≤ sizeLine; decide), fun l hl => ?_⟩
      have u1 := same_new hl (.lst [V.int c, V.int nu])
      have hl5 : upd H4 l (.lst [V.int c, V.int nu]) l = some (.lst [V.int c, V.int nu]) := upd_same
      have sm5 := sm.trans u1
      have g5 := g4.same u1
      generalize upd H4 l (.lst [V.int c, V.int nu]) = H5 at hl5 sm5 g5 ⊢
      obtain ⟨num, hnum⟩ : ∃ num : Int, atI [V.int c, V.int nu] (x % 2) = some (.int num) := by
        have hr : x % 2 = 0 ∨ x % 2 = 1 := by trivial
        rcases hr with h | h <;> rw [h] <;> exact ⟨_, rfl⟩
      refine ⟨_, rfl, _, _, rfl, rfl, (by show (0 : Int) < 2; decide), l, _, _, _, rfl, rfl, SqL.of hl5, hnum, ?_⟩
      have hfew := g5.few
      refine ⟨_, rfl, _, rfl, _, rfl, P, zs, num, bs, rfl, g5.pr, bs0, bs1, by trivial, fun o1 H6 s6 o10 o11 => ?_⟩
      have g6 := g5.same s6
      refine ⟨_, rfl, _, _, rfl, rfl, ⟨by decide, by decide⟩, _, rfl, _, rfl, P, zs, num / 401, bs, rfl, g6.pr, bs0, bs1, by trivial, fun o2 H7 s7 o20 o21 => ?_⟩
      have g7 := g6.same s7
      have sm7 := sm5.trans (s6.trans s7)
      obtain ⟨wd, hwd, wd0, wd1⟩ : ∃ wd : Int, atI [V.int 1, V.int 1, V.int 40] (x / 8 % 3) = some (.int wd) ∧ 0 < wd ∧ wd ≤ 40 := by
        have hr : x / 8 % 3 = 0 ∨ x / 8 % 3 = 1 ∨ x / 8 % 3 = 2 := by trivial
        rcases hr with h | h | h <;> rw [h] <;> exact ⟨_, rfl, by decide, by decide⟩
      obtain ⟨M, eM, hM1, hM6⟩ : ∃ M : Nat, 1 + num / 7919 % wd = ((M : Nat) : Int) ∧ 1 ≤ M ∧ M ≤ 40 := by
        have h1 := Int.emod_nonneg (num / 7919) (show wd ≠ 0 by trivial)
        have h2 := Int.emod_lt_of_pos (num / 7919) wd0
        exact ⟨(1 + num / 7919 % wd).toNat, by trivial, by trivial, by trivial⟩
      refine ⟨_, rfl, _, _, rfl, rfl, ⟨by decide, by decide⟩, (by show 3 ≤ sizeLine; decide), fun l2 hl2 => ?_⟩
      have u2 := same_new hl2 (.lst [V.int 1, V.int 1, V.int 40])
      have hl8 : upd H7 l2 (.lst [V.int 1, V.int 1, V.int 40]) l2 = some (.lst [V.int 1, V.int 1, V.int 40]) := upd_same
      have g8 := g7.same u2
      have sm8 := sm7.trans u2
      generalize upd H7 l2 (.lst [V.int 1, V.int 1, V.int 40]) = H8 at hl8 g8 sm8 ⊢
      refine ⟨_, rfl, _, _, rfl, rfl, ⟨by decide, by decide⟩, _, _, rfl, rfl, (by show (0 : Int) < 3; decide), l2, _, _, _, rfl, rfl, SqL.of hl8, hwd, _, _, rfl, rfl, wd0, _, _, rfl, rfl, (M : Int), congrArg (fun y => [V.int y]) eM, by trivial, by trivial, ?_⟩
      rw [Int.toNat_natCast]
      refine for_range (n := M) (fun j σ H' => ∃ (zs : List (Addr × Int × Int)) (o1 o2 : Int) (v10 : Option V), σ = [some (.ref a), some (.int (most : Int)), some (.int x), some (.int bs), some (.ref P), some (.ref S), some (.int ((i + 2 : Nat) : Int)), some (.int num), some (.int o1), some (.int o2), v10, none, none, none] ∧ Gsn H' P S most zs ∧ 0 ≤ o1 ∧ o1 < (256 : Int) + (zs.length : Int) ∧ 0 ≤ o2 ∧ o2 < (256 : Int) + (zs.length : Int) ∧ Same H H')
        ⟨zs, o1, o2, v10, rfl, g8, o10, o11, o20, o21, sm8⟩ ?_ ?_
      · clear o10 o11 o20 o21 g4 g5 g6 g7 g8 hfew
        rintro j σ H9 hj ⟨zs, o1, o2, v10, rfl, g9, o10, o11, o20, o21, sm9⟩
        refine ⟨_, rfl, (by show 0 ≤ sizeLine; decide), fun e0 he0 => ?_⟩
        have se := same_new he0 (.lst [])
        have hde : upd H9 e0 (.lst []) e0 = some (.lst []) := upd_same
        have gA := g9.same se
        have smA := sm9.trans se
        generalize upd H9 e0 (.lst []) = HA at hde gA smA ⊢
        refine ⟨_, _, gA.pr.deep, .lst (SqL.of hde) .nil, ht_prD _, _, rfl, ?_⟩
        rw [eqD_prnil]
        by_cases hnil : zs.map (·.2) = []
        · refine iteNS hnil ?_
          refine iteF ?_
          refine ⟨_, rfl, _, rfl, S, zs, o1, rfl, gA.sz, o10, o11, _, rfl, _, rfl, S, zs, o2, rfl, gA.sz, o20, o21, _, _, rfl, rfl, _, rfl, _, _, rfl, rfl, _, rfl, ?_⟩
          by_cases hfit : (ex (rn zs) (o1).toNat).length + (ex (rn zs) (o2).toNat).length ≤ most
          rotate_left
          · rw [decide_eq_false (show ¬ (((ex (rn zs) (o1).toNat).length : Nat) : Int) + (((ex (rn zs) (o2).toNat).length : Nat) : Int) ≤ (most : Int) by trivial)]
            refine iteF (iteF ?_)
            exact ⟨zs, o1, o2, _, rfl, gA, o10, o11, o20, o21, smA⟩
          rw [decide_eq_true (show (((ex (rn zs) (o1).toNat).length : Nat) : Int) + (((ex (rn zs) (o2).toNat).length : Nat) : Int) ≤ (most : Int) by trivial)]
          refine iteT ?_
          refine ⟨_, rfl, P, _, rfl, .inl (SqL.of gA.pr.at_), _, _, rfl, rfl, _, rfl, ?_⟩
          rw [List.length_map]
          by_cases h300 : ((zs.length : Nat) : Int) < 300
          rotate_left
          · rw [decide_eq_false h300]
            refine iteF ?_
            exact ⟨zs, o1, o2, _, rfl, gA, o10, o11, o20, o21, smA⟩
          rw [decide_eq_true h300]
          refine iteT ?_
          refine ⟨_, rfl, .inl ⟨rfl, _, SqL.of gA.sz⟩, _, rfl, _, rfl, S, zs, o1, rfl, gA.sz, o10, o11, _, rfl, _, rfl, S, zs, o2, rfl, gA.sz, o20, o21, _, _, rfl, rfl, S, _, _, rfl, rfl, gA.sz, fits_lt (by rw [List.length_map, List.length_drop]; unfold PH.glen; rw [List.length_map, gx_len, rn_len]; have := gA.few; trivial), ?_⟩
          have hgA := fun t ht => gA.app (t := t) hPS ht (by trivial) o10 o11 o20 o21 hfit
          have eS : HO.lst (((PH.glen (rn zs)).drop 256).map V.int ++ [V.int (((ex (rn zs) (o1).toNat).length : Int) + ((ex (rn zs) (o2).toNat).length : Int))]) = lsI ((PH.glen (rn zs)).drop 256 ++ [((ex (rn zs) (o1).toNat).length : Int) + ((ex (rn zs) (o2).toNat).length : Int)]) := lsI_app1 _ _
          try simp only []
          rw [eS]
          have smS := same_upd smA (lsI ((PH.glen (rn zs)).drop 256 ++ [((ex (rn zs) (o1).toNat).length : Int) + ((ex (rn zs) (o2).toNat).length : Int)])) hSH
          have prS : Prs (upd HA S (lsI ((PH.glen (rn zs)).drop 256 ++ [((ex (rn zs) (o1).toNat).length : Int) + ((ex (rn zs) (o2).toNat).length : Int)]))) P zs := gA.pr.other gA.sz hPS
          refine ⟨_, rfl, .inl ⟨rfl, _, SqL.of prS.at_⟩, _, rfl, _, rfl, (by show 2 ≤ sizeLine; decide), fun t ht => ?_⟩
          have htS : t ≠ S := fun e => by rw [e, upd_same] at ht; cases ht
          have ht0 : HA t = none := by rw [upd_ne htS] at ht; exact ht
          have st := same_new ht (.tup [.int (o1), .int (o2)])
          refine ⟨P, _, _, rfl, rfl, st _ _ prS.at_, fits_lt (by rw [List.length_map]; trivial), ?_⟩
          refine ⟨zs ++ [(t, o1, o2)], o1, o2, _, rfl, hgA t ht0 _ rfl ht, o10, by rw [List.length_append]; have := o11; trivial, o20, by rw [List.length_append]; have := o21; trivial, same_upd (smS.trans st) _ hPH⟩
        refine iteNT hnil ?_
        have hz0 : 0 < zs.length := List.length_pos_iff.mpr (fun e => hnil (by rw [e]; rfl))
        refine ⟨_, rfl, _, _, rfl, rfl, _, rfl, ?_⟩
        refine ite2 (fun _ => ?_) (fun _ => ?_)
        · refine ⟨_, rfl, P, _, rfl, .inl (SqL.of gA.pr.at_), _, _, rfl, rfl, ?_⟩
          refine gNz (v' := V.int (255 + ((zs.length : Nat) : Int))) (by rw [List.length_map]) ?_
          refine ⟨_, rfl, _, rfl, (by show 2 ≤ sizeLine; decide), fun l3 hl3 => ?_⟩
          have u3 := same_new hl3 (.lst [V.int (255 + ((zs.length : Nat) : Int)), V.int o2])
          have hlB : upd HA l3 (.lst [V.int (255 + ((zs.length : Nat) : Int)), V.int o2]) l3 = some (.lst [V.int (255 + ((zs.length : Nat) : Int)), V.int o2]) := upd_same
          have gB := gA.same u3
          have smB := smA.trans u3
          generalize upd HA l3 (.lst [V.int (255 + ((zs.length : Nat) : Int)), V.int o2]) = HB at hlB gB smB ⊢
          obtain ⟨o3, ho3, o30, o31⟩ : ∃ o3 : Int, atI [V.int (255 + ((zs.length : Nat) : Int)), V.int o2] (num / 11 % 2) = some (.int o3) ∧ 0 ≤ o3 ∧ o3 < (256 : Int) + (zs.length : Int) := by
            have hr : num / 11 % 2 = 0 ∨ num / 11 % 2 = 1 := by trivial
            rcases hr with h | h <;> rw [h]
            · exact ⟨_, rfl, by trivial, by trivial⟩
            · exact ⟨_, rfl, o20, o21⟩
          have q10 : 0 ≤ 255 + ((zs.length : Nat) : Int) := by trivial
          have q11 : 255 + ((zs.length : Nat) : Int) < (256 : Int) + (zs.length : Int) := by trivial
          refine ⟨_, rfl, _, _, rfl, rfl, ⟨by decide, by decide⟩, _, _, rfl, rfl, (by show (0 : Int) < 2; decide), l3, _, _, _, rfl, rfl, SqL.of hlB, ho3, ?_⟩
          refine ⟨_, rfl, _, rfl, S, zs, 255 + ((zs.length : Nat) : Int), rfl, gB.sz, q10, q11, _, rfl, _, rfl, S, zs, o3, rfl, gB.sz, o30, o31, _, _, rfl, rfl, _, rfl, _, _, rfl, rfl, _, rfl, ?_⟩
          by_cases hfit : (ex (rn zs) (255 + ((zs.length : Nat) : Int)).toNat).length + (ex (rn zs) (o3).toNat).length ≤ most
          rotate_left
          · rw [decide_eq_false (show ¬ (((ex (rn zs) (255 + ((zs.length : Nat) : Int)).toNat).length : Nat) : Int) + (((ex (rn zs) (o3).toNat).length : Nat) : Int) ≤ (most : Int) by trivial)]
            refine iteF (iteF ?_)
            exact ⟨zs, 255 + ((zs.length : Nat) : Int), o3, _, rfl, gB, q10, q11, o30, o31, smB⟩
          rw [decide_eq_true (show (((ex (rn zs) (255 + ((zs.length : Nat) : Int)).toNat).length : Nat) : Int) + (((ex (rn zs) (o3).toNat).length : Nat) : Int) ≤ (most : Int) by trivial)]
          refine iteT ?_
          refine ⟨_, rfl, P, _, rfl, .inl (SqL.of gB.pr.at_), _, _, rfl, rfl, _, rfl, ?_⟩
          rw [List.length_map]
          by_cases h300 : ((zs.length : Nat) : Int) < 300
          rotate_left
          · rw [decide_eq_false h300]
            refine iteF ?_
            exact ⟨zs, 255 + ((zs.length : Nat) : Int), o3, _, rfl, gB, q10, q11, o30, o31, smB⟩
          rw [decide_eq_true h300]
          refine iteT ?_
          refine ⟨_, rfl, .inl ⟨rfl, _, SqL.of gB.sz⟩, _, rfl, _, rfl, S, zs, 255 + ((zs.length : Nat) : Int), rfl, gB.sz, q10, q11, _, rfl, _, rfl, S, zs, o3, rfl, gB.sz, o30, o31, _, _, rfl, rfl, S, _, _, rfl, rfl, gB.sz, fits_lt (by rw [List.length_map, List.length_drop]; unfold PH.glen; rw [List.length_map, gx_len, rn_len]; have := gB.few; trivial), ?_⟩
          have hgA := fun t ht => gB.app (t := t) hPS ht (by trivial) q10 q11 o30 o31 hfit
          have eS : HO.lst (((PH.glen (rn zs)).drop 256).map V.int ++ [V.int (((ex (rn zs) (255 + ((zs.length : Nat) : Int)).toNat).length : Int) + ((ex (rn zs) (o3).toNat).length : Int))]) = lsI ((PH.glen (rn zs)).drop 256 ++ [((ex (rn zs) (255 + ((zs.length : Nat) : Int)).toNat).length : Int) + ((ex (rn zs) (o3).toNat).length : Int)]) := lsI_app1 _ _
          try simp only []
          rw [eS]
          have smS := same_upd smB (lsI ((PH.glen (rn zs)).drop 256 ++ [((ex (rn zs) (255 + ((zs.length : Nat) : Int)).toNat).length : Int) + ((ex (rn zs) (o3).toNat).length : Int)])) hSH
          have prS : Prs (upd HB S (lsI ((PH.glen (rn zs)).drop 256 ++ [((ex (rn zs) (255 + ((zs.length : Nat) : Int)).toNat).length : Int) + ((ex (rn zs) (o3).toNat).length : Int)]))) P zs := gB.pr.other gB.sz hPS
          refine ⟨_, rfl, .inl ⟨rfl, _, SqL.of prS.at_⟩, _, rfl, _, rfl, (by show 2 ≤ sizeLine; decide), fun t ht => ?_⟩
          have htS : t ≠ S := fun e => by rw [e, upd_same] at ht; cases ht
          have ht0 : HB t = none := by rw [upd_ne htS] at ht; exact ht
          have st := same_new ht (.tup [.int (255 + ((zs.length : Nat) : Int)), .int (o3)])
          refine ⟨P, _, _, rfl, rfl, st _ _ prS.at_, fits_lt (by rw [List.length_map]; trivial), ?_⟩
          refine ⟨zs ++ [(t, 255 + ((zs.length : Nat) : Int), o3)], 255 + ((zs.length : Nat) : Int), o3, _, rfl, hgA t ht0 _ rfl ht, q10, by rw [List.length_append]; have := q11; trivial, o30, by rw [List.length_append]; have := o31; trivial, same_upd (smS.trans st) _ hPH⟩
        · skip
          refine ⟨_, rfl, _, rfl, S, zs, o1, rfl, gA.sz, o10, o11, _, rfl, _, rfl, S, zs, o2, rfl, gA.sz, o20, o21, _, _, rfl, rfl, _, rfl, _, _, rfl, rfl, _, rfl, ?_⟩
          by_cases hfit : (ex (rn zs) (o1).toNat).length + (ex (rn zs) (o2).toNat).length ≤ most
          rotate_left
          · rw [decide_eq_false (show ¬ (((ex (rn zs) (o1).toNat).length : Nat) : Int) + (((ex (rn zs) (o2).toNat).length : Nat) : Int) ≤ (most : Int) by trivial)]
            refine iteF (iteF ?_)
            exact ⟨zs, o1, o2, _, rfl, gA, o10, o11, o20, o21, smA⟩
          rw [decide_eq_true (show (((ex (rn zs) (o1).toNat).length : Nat) : Int) + (((ex (rn zs) (o2).toNat).length : Nat) : Int) ≤ (most : Int) by trivial)]
          refine iteT ?_
          refine ⟨_, rfl, P, _, rfl, .inl (SqL.of gA.pr.at_), _, _, rfl, rfl, _, rfl, ?_⟩
          rw [List.length_map]
          by_cases h300 : ((zs.length : Nat) : Int) < 300
          rotate_left
          · rw [decide_eq_false h300]
            refine iteF ?_
            exact ⟨zs, o1, o2, _, rfl, gA, o10, o11, o20, o21, smA⟩
          rw [decide_eq_true h300]
          refine iteT ?_
          refine ⟨_, rfl, .inl ⟨rfl, _, SqL.of gA.sz⟩, _, rfl, _, rfl, S, zs, o1, rfl, gA.sz, o10, o11, _, rfl, _, rfl, S, zs, o2, rfl, gA.sz, o20, o21, _, _, rfl, rfl, S, _, _, rfl, rfl, gA.sz, fits_lt (by rw [List.length_map, List.length_drop]; unfold PH.glen; rw [List.length_map, gx_len, rn_len]; have := gA.few; trivial), ?_⟩
          have hgA := fun t ht => gA.app (t := t) hPS ht (by trivial) o10 o11 o20 o21 hfit
          have eS : HO.lst (((PH.glen (rn zs)).drop 256).map V.int ++ [V.int (((ex (rn zs) (o1).toNat).length : Int) + ((ex (rn zs) (o2).toNat).length : Int))]) = lsI ((PH.glen (rn zs)).drop 256 ++ [((ex (rn zs) (o1).toNat).length : Int) + ((ex (rn zs) (o2).toNat).length : Int)]) := lsI_app1 _ _
          try simp only []
          rw [eS]
          have smS := same_upd smA (lsI ((PH.glen (rn zs)).drop 256 ++ [((ex (rn zs) (o1).toNat).length : Int) + ((ex (rn zs) (o2).toNat).length : Int)])) hSH
          have prS : Prs (upd HA S (lsI ((PH.glen (rn zs)).drop 256 ++ [((ex (rn zs) (o1).toNat).length : Int) + ((ex (rn zs) (o2).toNat).length : Int)]))) P zs := gA.pr.other gA.sz hPS
          refine ⟨_, rfl, .inl ⟨rfl, _, SqL.of prS.at_⟩, _, rfl, _, rfl, (by show 2 ≤ sizeLine; decide), fun t ht => ?_⟩
          have htS : t ≠ S := fun e => by rw [e, upd_same] at ht; cases ht
          have ht0 : HA t = none := by rw [upd_ne htS] at ht; exact ht
          have st := same_new ht (.tup [.int (o1), .int (o2)])
          refine ⟨P, _, _, rfl, rfl, st _ _ prS.at_, fits_lt (by rw [List.length_map]; trivial), ?_⟩
          refine ⟨zs ++ [(t, o1, o2)], o1, o2, _, rfl, hgA t ht0 _ rfl ht, o10, by rw [List.length_append]; have := o11; trivial, o20, by rw [List.length_append]; have := o21; trivial, same_upd (smS.trans st) _ hPH⟩
      · rintro σ H9 ⟨zs, o1, o2, v10, rfl, g9, o10, o11, o20, o21, sm9⟩
        exact ⟨zs, _, _, _, _, _, rfl, g9, sm9⟩
    · rintro σ H4 ⟨zs, v6, v7, v8, v9, v10, rfl, g4, sm⟩
      refine ⟨(by show 0 ≤ sizeLine; decide), fun W hW => ?_⟩
      have hWH : H W = none := sm.free hW
      have g5 := g4.same (same_new hW (.lst []))
      have s5 := sm.trans (same_new hW (.lst []))
      have hPW : P ≠ W := fun e => by rw [e] at g4; rw [g4.pr.at_] at hW; cases hW
      have hSW : S ≠ W := fun e => by rw [e] at g4; rw [g4.sz] at hW; cases hW
      have hW5 : upd H4 W (.lst []) W = some (lsI []) := upd_same
      generalize upd H4 W (.lst []) = H5 at s5 g5 hW5 ⊢
      refine ⟨_, rfl, a, ns, 1, rfl, s5.seq hS0, fun ce => ?_⟩
      obtain ⟨M, eM, hM⟩ : ∃ M : Nat, ce % 12 = ((M : Nat) : Int) ∧ M ≤ 12 := ⟨(ce % 12).toNat, by trivial, by trivial⟩
      refine ⟨_, rfl, _, _, rfl, rfl, (by show (0 : Int) < 12; decide), (M : Int), congrArg (fun y => [V.int y]) eM, by trivial, by trivial, ?_⟩
      rw [Int.toNat_natCast]
      clear eM g4
      refine for_range (n := M) (fun j σ H' => ∃ (row : List Int) (v6 v13 : Option V) (ce : Int), σ = [some (.ref a), some (.int (most : Int)), some (.int x), some (.int bs), some (.ref P), some (.ref S), v6, v7, v8, v9, v10, some (.ref W), some (.int ce), v13] ∧ Gsn H' P S most zs ∧ H' W = some (lsI row) ∧ RwZ zs.length row ∧ row.length ≤ j ∧ (exs (rn zs) (rwN row)).length ≤ most ∧ Same H H')
        ⟨[], v6, none, ce, rfl, g5, hW5, (fun y hy => by cases hy), Nat.le_refl _, Nat.zero_le _, s5⟩ ?_ ?_
      · clear g5 hW5
        rintro j σ H6 hj ⟨row, v6', v13, ce, rfl, g6, hW6, hrz, hrl, hfit, sm6⟩
        have hfew := g6.few
        refine ⟨_, rfl, _, _, rfl, rfl, ⟨by decide, by decide⟩, ?_⟩
        refine ⟨_, rfl, _, rfl, _, rfl, P, zs, ce / 12, bs, rfl, g6.pr, bs0, bs1, by trivial, fun sy H7 s7 y0 y1 => ?_⟩
        have g7 := g6.same s7
        have hW7 := s7 _ _ hW6
        have sm7 := sm6.trans s7
        refine ⟨_, rfl, W, rfl, ⟨_, SqL.of hW7⟩, fun D hD => ?_⟩
        refine comp_lstQ (K := K) (a := W) (xs := row.map V.int) (fun i σ' H' => ∃ (v0 : Option V), σ' = [v0, some (.ref S)] ∧ H' D = some (lsI ((row.take i).map fun y => ((ex (rn zs) y.toNat).length : Int))) ∧ Same H7 H')
          ⟨none, rfl, upd_same, same_new hD _⟩ (fun i σ' H' _ ⟨_, _, _, e⟩ => SqL.of (e _ _ hW7)) ?_ ?_
        · rintro i y σ' H' hi ⟨v0, rfl, hD', sm'⟩
          have hlt : i < (row.map V.int).length := (List.getElem?_eq_some_iff.mp hi).1
          have hil : i < row.length := by rw [List.length_map] at hlt; exact hlt
          obtain ⟨z, rfl, hz⟩ := int_at hi
          have hb := hrz.at hz
          refine nameT ?_
          refine ⟨_, rfl, _, rfl, S, zs, z, rfl, sm' _ _ g7.sz, hb.1, hb.2, ?_⟩
          refine ⟨D, _, _, rfl, rfl, hD', fits_lt (by rw [List.length_map, List.length_map, List.length_take]; trivial), ?_⟩
          refine CW.next hlt ⟨_, rfl, ?_, same_upd sm' _ hD⟩
          rw [upd_same, take_at hz, List.map_append, lsI_app1]; rfl
        rintro σ' H8 ⟨v0, rfl, hD8, sm8⟩
        rw [List.length_map, List.take_length] at hD8
        have e : (row.map fun y => ((ex (rn zs) y.toNat).length : Int)).sum = ((exs (rn zs) (rwN row)).length : Nat) := by
          rw [exs_len]
          unfold rwN
          rw [List.map_map]
          rfl
        refine ⟨D, _, rfl, SqL.of hD8, ?_⟩
        rw [e]
        have g8 := g7.same sm8
        have hW8 := sm8 _ _ hW7
        have smA := sm7.trans sm8
        refine ⟨_, rfl, _, rfl, S, zs, sy, rfl, g8.sz, y0, y1, _, _, rfl, rfl, _, rfl, _, _, rfl, rfl, _, rfl, ?_⟩
        by_cases hf2 : (exs (rn zs) (rwN row)).length + (ex (rn zs) sy.toNat).length ≤ most
        rotate_left
        · rw [decide_eq_false (show ¬ (((exs (rn zs) (rwN row)).length : Nat) : Int) + (((ex (rn zs) sy.toNat).length : Nat) : Int) ≤ (most : Int) by trivial)]
          refine iteF ?_
          exact ⟨row, _, _, _, rfl, g8, hW8, hrz, by trivial, hfit, smA⟩
        rw [decide_eq_true (show (((exs (rn zs) (rwN row)).length : Nat) : Int) + (((ex (rn zs) sy.toNat).length : Nat) : Int) ≤ (most : Int) by trivial)]
        refine iteT ?_
        refine ⟨_, rfl, .inl ⟨rfl, _, SqL.of hW8⟩, _, rfl, W, _, _, rfl, rfl, hW8, fits_lt (by rw [List.length_map]; trivial), ?_⟩
        have eA : HO.lst (row.map V.int ++ [V.int sy]) = lsI (row ++ [sy]) := lsI_app1 _ _
        have eX : exs (rn zs) (rwN (row ++ [sy])) = exs (rn zs) (rwN row) ++ ex (rn zs) sy.toNat := by
          unfold rwN
          rw [List.map_append, exs_app]
          show _ ++ (ex (rn zs) sy.toNat ++ []) = _
          rw [List.append_nil]
        exact ⟨row ++ [sy], _, _, _, rfl, g8.other hW8 hPW hSW, by rw [upd_same, eA], (fun y hy => by
          rcases List.mem_append.mp hy with hy | hy
          · exact hrz y hy
          · rw [List.mem_singleton.mp hy]; exact ⟨y0, y1⟩), by rw [List.length_append, List.length_singleton]; trivial, by rw [eX, List.length_append]; exact hf2, same_upd smA _ hWH⟩
      · rintro σ H6 ⟨row, v6', v13, ce, rfl, g6, hW6, hrz, hrl, hfit, sm6⟩
        refine ⟨_, rfl, _, rfl, _, rfl, _, rfl, (by show 4 ≤ sizeLine; decide), fun R hR => ?_⟩
        have sR := same_new hR (.lst [V.ref P, V.ref S, V.ref W, V.int bs])
        exact hQ R P S W zs row bs _ (sm6.trans sR) upd_same (g6.same sR) (sR _ _ hW6) hrz (by trivial) hfit bs0 bs1
end
end K44
set_option Elab.async false
set_option linter.all false
set_option maxRecDepth 100000
set_option maxHeartbeats 4000000
namespace K44
open PySem L2 PySem.W PH
section
variable {P : Program} {w : World} {K : PySem.W.Frag} {mg : Str → Option Value} {base : Heap}
theorem sc_signs : FnScope ["rules", "row", "found", "symbol", "rule"] ["rules", "row"] (defScope s_signs) := ⟨rfl, rfl, rfl, by decide +kernel, rfl, by decide +kernel, by decide +kernel⟩
theorem ok_signs {f : Addr} {fd : FuncData} (F : Fun K "_law_signs" "_law_signs" s_signs f fd) (B : Bls mg) (n_set : mg "set" = none) : FnOk P w K mg base (CXW P w) 1 f fd ["rules", "row"] (spSigns44) := by
  refine F.okN sc_signs (fun vs H Q E h => ?_) (fun cdv A outer s H vs Q E hr h => ?_)
  · obtain ⟨P, W, zs, row, rfl, _⟩ := h
    rfl
  · obtain ⟨P, W, zs, row, rfl, pr, gr, hW, hrz, hzl, hrl, hQ⟩ := h
    refine ⟨_, (pss_cons (ps_set (i := 2) sc_signs.nd rfl (Or.inl rfl) (pe_lst pa_nil))
      (pss_cons (ps_for PassesOwn.never rfl (pi_list (pv 1)) (pg_name (i := 3) sc_signs.nd rfl (Or.inl rfl))
        (pss_one (ps_expr (pe_bm PySem.F.plainAttrs_list PySem.F.slot_list_append PySem.F.type_list_append mt_append (pv 2) (pa_cons (pv 3) pa_nil)))))
      (pss_cons (ps_for PassesOwn.never rfl (pi_list (pv 0)) (pg_name (i := 4) sc_signs.nd rfl (Or.inl rfl))
        (pss_one (ps_set (i := 2) sc_signs.nd rfl (Or.inl rfl) (pe_op op_cat (pv 2) (pe_callTy call_list_of rfl B.list boot_list' (pa_cons (pv 4) pa_nil))))))
      (pss_one (ps_ret (pe_sortset rfl rfl B.sorted rfl n_set (pe_comp (N := ["symbol"]) (js := [none]) (g := (gName 0)) (tc := (tTest (tOp (rI0 fun i j => .bl (decide (i < j))) (tVar 0) (tC (.int 256))))) (te := (tVar 0)) rfl (comp_scope (osc := defScope s_signs) (XN := ["rules", "row", "found", "symbol", "rule"]) rfl rfl rfl (by decide +kernel)) (pi_list (pv 2)) (fun _ _ _ _ => pg_name (i := 0) (show (["symbol"] : List Str).Nodup by decide +kernel) rfl (Or.inl rfl)) (fun _ _ _ _ => (pif_one (pt_cmpR op_lt (pv 0) pe_int (nomark _)))) (fun _ _ _ _ => (pv 0))))))))), ?_⟩
    refine ⟨(by show 0 ≤ sizeLine; decide), fun F hF => ?_⟩
    have u1 := same_new hF (.lst [])
    have hF1 : upd H F (.lst []) F = some (lsI []) := upd_same
    generalize upd H F (.lst []) = H1 at u1 hF1 ⊢
    refine ⟨_, rfl, W, rfl, ⟨_, SqL.of (u1 _ _ hW)⟩, for_list (K := K) (a := W) (xs := row.map V.int) (fun i σ H' => ∃ (v3 : Option V), σ = [some (.ref P), some (.ref W), some (.ref F), v3, none] ∧ H' F = some (lsI (row.take i)) ∧ Same H H')
      ⟨none, rfl, hF1, u1⟩ (fun i σ H' _ ⟨_, _, _, e⟩ => SqL.of (e _ _ hW)) ?_ ?_⟩
    · rintro i y σ H' hi ⟨v3, rfl, hF', sm⟩
      have hlt : i < (row.map V.int).length := (List.getElem?_eq_some_iff.mp hi).1
      have hil : i < row.length := by rw [List.length_map] at hlt; exact hlt
      obtain ⟨z, rfl, hz⟩ := int_at hi
      refine ⟨_, rfl, .inl ⟨rfl, _, SqL.of hF'⟩, _, rfl, F, _, _, rfl, rfl, hF', fits_lt (by rw [List.length_map, List.length_take]; trivial), ?_⟩
      exact ⟨_, rfl, by rw [upd_same, take_at hz, lsI_app1], same_upd sm _ hF⟩
    rintro σ H2 ⟨v3, rfl, hF2, s2⟩
    rw [List.length_map, List.take_length] at hF2
    refine ⟨_, rfl, P, rfl, ⟨_, SqL.of (pr.same s2).at_⟩, for_list (K := K) (a := P) (xs := zs.map fun z => V.ref z.1) (fun i σ H' => ∃ (F' : Addr) (v3 v4 : Option V), σ = [some (.ref P), some (.ref W), some (.ref F'), v3, v4] ∧ H' F' = some (lsI (row ++ flZ (zs.take i))) ∧ Same H H')
      ⟨F, v3, none, rfl, by rw [hF2, List.take_zero]; show _ = some (lsI (row ++ [])); rw [List.append_nil], s2⟩ (fun i σ H' _ ⟨_, _, _, _, _, e⟩ => SqL.of (pr.same e).at_) ?_ ?_⟩
    · rintro i y σ H' hi ⟨F', v3, v4, rfl, hF', sm⟩
      have hlt : i < (zs.map fun z => V.ref z.1).length := (List.getElem?_eq_some_iff.mp hi).1
      have hil : i < zs.length := by rw [List.length_map] at hlt; exact hlt
      obtain ⟨z, hz⟩ := bounded_at hil
      rw [List.getElem?_map, hz] at hi
      have ey : V.ref z.1 = y := Option.some.inj hi
      subst ey
      have hzt := sm _ _ (pr.each z (List.mem_of_getElem? hz))
      refine ⟨_, rfl, _, rfl, z.1, _, rfl, .inr (SqT.of hzt), fun c2 hc2 => ?_⟩
      have uc2 := same_new hc2 (.lst [V.int z.2.1, V.int z.2.2])
      have ec2 : upd H' c2 (.lst [V.int z.2.1, V.int z.2.2]) c2 = some (.lst [V.int z.2.1, V.int z.2.2]) := upd_same
      generalize upd H' c2 (.lst [V.int z.2.1, V.int z.2.2]) = Hw at uc2 ec2 ⊢
      have ec2' : Hw c2 = some (lsI [z.2.1, z.2.2]) := ec2
      have hfl := flZ_len (zs.take i)
      rw [List.length_take] at hfl
      refine ⟨F', c2, _, _, rfl, rfl, uc2 _ _ hF', ec2', fits (by rw [List.length_map, List.length_map, List.length_append]; show _ + 2 ≤ _; trivial), fun c3 hc3 => ?_⟩
      rw [lsI_cat]
      exact ⟨c3, _, _, rfl, by rw [upd_same, take_at hz, flZ_snoc, List.append_assoc], sm.trans (uc2.trans (same_new hc3 _))⟩
    rintro σ H3 ⟨F', v3', v4, rfl, hF3, s3⟩
    rw [List.length_map, List.take_length] at hF3
    obtain ⟨fd, efd⟩ : ∃ fd, fd = row ++ flZ zs := ⟨_, rfl⟩
    have hfl : fd.length ≤ 1000 := by rw [efd, List.length_append]; have := flZ_len zs; trivial
    rw [← efd] at hF3
    have hmm : ∀ x, x ∈ fd ↔ (x ∈ row ∨ ∃ z ∈ zs, x = z.2.1 ∨ x = z.2.2) := fun x => by rw [efd, List.mem_append, mem_flZ]
    have hnn : ∀ x ∈ fd, 0 ≤ x := fun x hx => by
      rcases (hmm x).mp hx with h | ⟨z, hz, h⟩
      · exact (hrz x h).1
      · obtain ⟨i, hi⟩ := List.mem_iff_getElem?.mp hz
        have := gr i z hi
        rcases h with h | h <;> trivial
    clear efd
    refine ⟨_, rfl, F', rfl, ⟨_, SqL.of hF3⟩, fun D hD => ?_⟩
    refine comp_lstQ (K := K) (a := F') (xs := fd.map V.int) (fun i σ' H' => ∃ (v0 : Option V), σ' = [v0] ∧ H' D = some (lsI ((fd.take i).filter fun x => decide (x < 256))) ∧ Same H3 H')
      ⟨none, rfl, upd_same, same_new hD _⟩ (fun i σ' H' _ ⟨_, _, _, e⟩ => SqL.of (e _ _ hF3)) ?_ ?_
    · rintro i y σ' H' hi ⟨v0, rfl, hD', sm'⟩
      have hlt : i < (fd.map V.int).length := (List.getElem?_eq_some_iff.mp hi).1
      have hil : i < fd.length := by rw [List.length_map] at hlt; exact hlt
      obtain ⟨z, rfl, hz⟩ := int_at hi
      refine ⟨_, rfl, _, _, rfl, rfl, _, rfl, ?_⟩
      by_cases h : z < 256
      · rw [decide_eq_true h]
        refine iteT ?_
        have hle : ((fd.take i).filter fun x => decide (x < 256)).length ≤ 1000 := Nat.le_trans (List.length_filter_le _ _) (by rw [List.length_take]; trivial)
        refine ⟨_, rfl, D, _, _, rfl, rfl, hD', fits_lt (by rw [List.length_map]; trivial), ?_⟩
        refine CW.next hlt ⟨_, rfl, ?_, same_upd sm' _ hD⟩
        rw [upd_same, take_at hz, List.filter_append, List.filter_cons_of_pos (by simpa using h), List.filter_nil, lsI_app1]
      · rw [decide_eq_false h]
        refine iteF ?_
        refine CW.next hlt ⟨_, rfl, ?_, sm'⟩
        rw [take_at hz, List.filter_append, List.filter_cons_of_neg (by simpa using h), List.filter_nil, List.append_nil]; exact hD'
    rintro σ' H4 ⟨v0, rfl, hD4, s4⟩
    rw [List.length_map, List.take_length] at hD4
    refine ⟨D, _, rfl, SqL.of hD4, (fun z hz => ?_), fun sg p hup hmem hp => ?_⟩
    · have h1 := List.mem_filter.mp hz
      have h2 : z < 256 := of_decide_eq_true h1.2
      have := hnn z h1.1
      trivial
    have hme : ∀ x, x ∈ sg ↔ SgOf zs row x := fun x => by
      rw [hmem x, List.mem_filter, hmm x]
      unfold SgOf
      constructor
      · rintro ⟨h1, h2⟩; exact ⟨of_decide_eq_true h2, h1⟩
      · rintro ⟨h1, h2⟩; exact ⟨h2, decide_eq_true h1⟩
    refine hQ p sg _ (s3.trans (s4.trans (same_new hp _))) upd_same hup hme fun x hx => ?_
    have h1 := (hmem x).mp hx
    have h2 := List.mem_filter.mp h1
    have h3 : x < 256 := of_decide_eq_true h2.2
    have := hnn x h2.1
    trivial
end
end K44
set_option Elab.async false
set_option linter.all false
set_option maxRecDepth 100000
set_option maxHeartbeats 4000000
namespace K44
open PySem L2 PySem.W PH
section
variable {P : Program} {w : World} {K : PySem.W.Frag} {mg : Str → Option Value} {base : Heap}
theorem sc_law : FnScope ["script", "rules", "sizes", "row", "base", "signs", "length", "counts", "last", "first", "k", "behind", "ahead", "alike", "across"] ["script"] (defScope s_law) := ⟨rfl, rfl, rfl, by decide +kernel, rfl, by decide +kernel, by decide +kernel⟩
theorem ok_law {f c_NoPlace f_glen f_gstr f_gcnt f_gram f_signs : Addr} {fd d_glen d_gstr d_gcnt d_gram d_signs : FuncData} (F : Fun K "law" "law" s_law f fd) (B : Bls mg) (n_sum : mg "sum" = none) 
    (G_glen : FnOk P w K mg base (CXW P w) 6 f_glen d_glen ["rules", "row"] (spGLen)) (b_glen : Binds K d_glen ["rules", "row"] []) (k_glen : keepIn K (.ref f_glen) = true) (m_glen : mg "grammar_length" = some (.ref f_glen)) 
    (G_gstr : FnOk P w K mg base (CXW P w) 7 f_gstr d_gstr ["rules", "row", "first", "last"] (spGStr c_NoPlace)) (b_gstr : Binds K d_gstr ["rules", "row", "first", "last"] []) (k_gstr : keepIn K (.ref f_gstr) = true) (m_gstr : mg "grammar_stretch" = some (.ref f_gstr)) 
    (G_gcnt : FnOk P w K mg base (CXW P w) 7 f_gcnt d_gcnt ["rules", "row", "word"] (spGCnt)) (b_gcnt : Binds K d_gcnt ["rules", "row", "word"] []) (k_gcnt : keepIn K (.ref f_gcnt) = true) (m_gcnt : mg "grammar_count" = some (.ref f_gcnt)) 
    (G_gram : FnOk P w K mg base (CXW P w) 2 f_gram d_gram ["script", "most"] (spGram K)) (b_gram : Binds K d_gram ["script", "most"] []) (k_gram : keepIn K (.ref f_gram) = true) (m_gram : mg "_law_grammar" = some (.ref f_gram)) 
    (G_signs : FnOk P w K mg base (CXW P w) 1 f_signs d_signs ["rules", "row"] (spSigns44)) (b_signs : Binds K d_signs ["rules", "row"] []) (k_signs : keepIn K (.ref f_signs) = true) (m_signs : mg "_law_signs" = some (.ref f_signs)) : FnOk P w K mg base (CXW P w) 8 f fd ["script"] (spLaw K) := by
  refine F.okN sc_law (fun vs H Q E h => ?_) (fun cdv A outer s H vs Q E hr h => ?_)
  · obtain ⟨a, ns, rfl, _⟩ := h
    rfl
  · obtain ⟨a, ns, rfl, hS, hl, hQ⟩ := h
    refine ⟨_, (pss_cons (ps_asg (pe_call G_gram (hr.mono (show 2 ≤ 7 by decide)) rfl m_gram k_gram b_gram .nil passN (pa_cons (pv 0) (pa_cons (pe_op op_pow pe_int pe_int) pa_nil))) (pg_lst rfl (pgs_cons (pg_name (i := 1) sc_law.nd rfl (Or.inr rfl)) (pgs_cons (pg_name (i := 2) sc_law.nd rfl (Or.inl rfl)) (pgs_cons (pg_name (i := 3) sc_law.nd rfl (Or.inr rfl)) (pgs_cons (pg_name (i := 4) sc_law.nd rfl (Or.inl rfl)) pgs_nil))))))
      (pss_cons (ps_set (i := 5) sc_law.nd rfl (Or.inr rfl) (pe_call G_signs (hr.mono (show 1 ≤ 7 by decide)) rfl m_signs k_signs b_signs .nil passN (pa_cons (pv 1) (pa_cons (pv 3) pa_nil))))
      (pss_cons (ps_set (i := 6) sc_law.nd rfl (Or.inl rfl) (pe_call G_glen (hr.mono (show 6 ≤ 7 by decide)) rfl m_glen k_glen b_glen .nil passN (pa_cons (pe_callTy call_list_of rfl B.list boot_list' (pa_cons (pv 1) pa_nil)) (pa_cons (pe_callTy call_list_of rfl B.list boot_list' (pa_cons (pv 3) pa_nil)) pa_nil))))
      (pss_cons (ps_setC (iy := 7) (N := ["sign", "rules", "row"]) (js := [none, some 1, some 3]) (g := (gName 0)) (tc := tTrue) (te := (tCall (spGCnt) [] E0 (tCons (tCB (rListOf K) (tCons (tVar 1) tNil)) (tCons (tCB (rListOf K) (tCons (tVar 2) tNil)) (tCons (tLst (tCons (tVar 0) tNil)) tNil))))) sc_law.nd rfl rfl rfl (comp_scope (osc := defScope s_law) (XN := ["script", "rules", "sizes", "row", "base", "signs", "length", "counts", "last", "first", "k", "behind", "ahead", "alike", "across"]) rfl rfl rfl (by decide +kernel)) (pi_list (pv 5)) (fun _ _ _ _ => pg_name (i := 0) (show (["sign", "rules", "row"] : List Str).Nodup by decide +kernel) rfl (Or.inl rfl)) (fun _ _ _ _ => pif_nil) (fun _ _ _ _ => (pe_call G_gcnt hr rfl m_gcnt k_gcnt b_gcnt .nil passN (pa_cons (pe_callTy call_list_of rfl B.list boot_list' (pa_cons (pv 1) pa_nil)) (pa_cons (pe_callTy call_list_of rfl B.list boot_list' (pa_cons (pv 2) pa_nil)) (pa_cons (pe_lst (pa_cons (pv 0) pa_nil)) pa_nil))))))
      (pss_cons (ps_if (pt_cmpR op_ne (pe_callB (call_sum rfl) rfl n_sum boot_sum' (pa_cons (pv 7) pa_nil)) (pv 6) (nomark _))
        (pss_one (ps_ret pe_bl))
        pss_nil)
      (pss_cons (ps_if (pt_cmpR op_eq (pv 6) pe_int (nomark _))
        (pss_one (ps_ret pe_bl))
        pss_nil)
      (pss_cons (ps_set (i := 8) sc_law.nd rfl (Or.inl rfl) (pe_call G_gstr hr rfl m_gstr k_gstr b_gstr .nil passN (pa_cons (pe_callTy call_list_of rfl B.list boot_list' (pa_cons (pv 1) pa_nil)) (pa_cons (pe_callTy call_list_of rfl B.list boot_list' (pa_cons (pv 3) pa_nil)) (pa_cons (pe_op op_sub (pv 6) pe_int) (pa_cons (pv 6) pa_nil))))))
      (pss_cons (ps_set (i := 9) sc_law.nd rfl (Or.inl rfl) (pe_call G_gstr hr rfl m_gstr k_gstr b_gstr .nil passN (pa_cons (pe_callTy call_list_of rfl B.list boot_list' (pa_cons (pv 1) pa_nil)) (pa_cons (pe_callTy call_list_of rfl B.list boot_list' (pa_cons (pv 3) pa_nil)) (pa_cons pe_int (pa_cons pe_int pa_nil))))))
      (pss_cons (ps_if (pt_cmpR op_gt (pe_callB call_len_seq rfl B.len PySem.boot_len (pa_cons (pv 5) pa_nil)) pe_int (nomark _))
        (pss_one (ps_ret (pe_and (pe_cmpR op_in_seq (pe_ix ix_list (pv 8) pe_int (fun _ _ => rfl)) (pv 5) (by with_unfolding_all rfl)) (pe_one (pe_cmpR op_in_seq (pe_ix ix_list (pv 9) pe_int (fun _ _ => rfl)) (pv 5) (by with_unfolding_all rfl))))))
        pss_nil)
      (pss_cons (ps_for PassesOwn.never rfl (pi_range1 rfl B.range (pa_cons (pe_callB call_len_seq rfl B.len PySem.boot_len (pa_cons (pv 5) pa_nil)) pa_nil)) (pg_name (i := 10) sc_law.nd rfl (Or.inr rfl))
        (pss_cons (ps_set (i := 11) sc_law.nd rfl (Or.inl rfl) (pe_callB (call_sum rfl) rfl n_sum boot_sum' (pa_cons (pe_comp (N := ["sign", "rules", "row", "signs", "k"]) (js := [none, some 1, some 3, some 5, some 10]) (g := (gName 0)) (tc := tTrue) (te := (tCall (spGCnt) [] E0 (tCons (tCB (rListOf K) (tCons (tVar 1) tNil)) (tCons (tCB (rListOf K) (tCons (tVar 2) tNil)) (tCons (tLst (tCons (tOp (rIxL K) (tVar 3) (tVar 4)) (tCons (tVar 0) tNil))) tNil))))) rfl (comp_scope (osc := defScope s_law) (XN := ["script", "rules", "sizes", "row", "base", "signs", "length", "counts", "last", "first", "k", "behind", "ahead", "alike", "across"]) rfl rfl rfl (by decide +kernel)) (pi_list (pv 5)) (fun _ _ _ _ => pg_name (i := 0) (show (["sign", "rules", "row", "signs", "k"] : List Str).Nodup by decide +kernel) rfl (Or.inl rfl)) (fun _ _ _ _ => pif_nil) (fun _ _ _ _ => (pe_call G_gcnt hr rfl m_gcnt k_gcnt b_gcnt .nil passN (pa_cons (pe_callTy call_list_of rfl B.list boot_list' (pa_cons (pv 1) pa_nil)) (pa_cons (pe_callTy call_list_of rfl B.list boot_list' (pa_cons (pv 2) pa_nil)) (pa_cons (pe_lst (pa_cons (pe_ix ix_list (pv 3) (pv 4) (fun _ _ => rfl)) (pa_cons (pv 0) pa_nil))) pa_nil)))))) pa_nil)))
        (pss_cons (ps_set (i := 12) sc_law.nd rfl (Or.inl rfl) (pe_callB (call_sum rfl) rfl n_sum boot_sum' (pa_cons (pe_comp (N := ["sign", "rules", "row", "signs", "k"]) (js := [none, some 1, some 3, some 5, some 10]) (g := (gName 0)) (tc := tTrue) (te := (tCall (spGCnt) [] E0 (tCons (tCB (rListOf K) (tCons (tVar 1) tNil)) (tCons (tCB (rListOf K) (tCons (tVar 2) tNil)) (tCons (tLst (tCons (tVar 0) (tCons (tOp (rIxL K) (tVar 3) (tVar 4)) tNil))) tNil))))) rfl (comp_scope (osc := defScope s_law) (XN := ["script", "rules", "sizes", "row", "base", "signs", "length", "counts", "last", "first", "k", "behind", "ahead", "alike", "across"]) rfl rfl rfl (by decide +kernel)) (pi_list (pv 5)) (fun _ _ _ _ => pg_name (i := 0) (show (["sign", "rules", "row", "signs", "k"] : List Str).Nodup by decide +kernel) rfl (Or.inl rfl)) (fun _ _ _ _ => pif_nil) (fun _ _ _ _ => (pe_call G_gcnt hr rfl m_gcnt k_gcnt b_gcnt .nil passN (pa_cons (pe_callTy call_list_of rfl B.list boot_list' (pa_cons (pv 1) pa_nil)) (pa_cons (pe_callTy call_list_of rfl B.list boot_list' (pa_cons (pv 2) pa_nil)) (pa_cons (pe_lst (pa_cons (pv 0) (pa_cons (pe_ix ix_list (pv 3) (pv 4) (fun _ _ => rfl)) pa_nil))) pa_nil)))))) pa_nil)))
        (pss_cons (ps_if (PW.pt (pw_or (pt_cmpR op_ne (pv 11) (pe_op op_sub (pe_ix ix_list (pv 7) (pv 10) (fun _ _ => rfl)) (pe_callTy call_int1 rfl B.int boot_int' (pa_cons (pe_cmpR (op_eqL (units_of hr)) (pv 8) (pe_lst (pa_cons (pe_ix ix_list (pv 5) (pv 10) (fun _ _ => rfl)) pa_nil)) (nomark _)) pa_nil))) (nomark _)) (pw_or1 (pt_cmpR op_ne (pv 12) (pe_op op_sub (pe_ix ix_list (pv 7) (pv 10) (fun _ _ => rfl)) (pe_callTy call_int1 rfl B.int boot_int' (pa_cons (pe_cmpR (op_eqL (units_of hr)) (pv 9) (pe_lst (pa_cons (pe_ix ix_list (pv 5) (pv 10) (fun _ _ => rfl)) pa_nil)) (nomark _)) pa_nil))) (nomark _)))))
          (pss_one (ps_ret pe_bl))
          pss_nil)
        (pss_cons (ps_setC (iy := 13) (N := ["many", "rules", "row", "signs", "k"]) (js := [none, some 1, some 3, some 5, some 10]) (g := (gName 0)) (tc := tTrue) (te := (tCall (spGCnt) [] E0 (tCons (tCB (rListOf K) (tCons (tVar 1) tNil)) (tCons (tCB (rListOf K) (tCons (tVar 2) tNil)) (tCons (tOp rRep (tLst (tCons (tOp (rIxL K) (tVar 3) (tVar 4)) tNil)) (tVar 0)) tNil))))) sc_law.nd rfl rfl rfl (comp_scope (osc := defScope s_law) (XN := ["script", "rules", "sizes", "row", "base", "signs", "length", "counts", "last", "first", "k", "behind", "ahead", "alike", "across"]) rfl rfl rfl (by decide +kernel)) (pi_list (pe_lst (pa_cons pe_int (pa_cons pe_int pa_nil)))) (fun _ _ _ _ => pg_name (i := 0) (show (["many", "rules", "row", "signs", "k"] : List Str).Nodup by decide +kernel) rfl (Or.inl rfl)) (fun _ _ _ _ => pif_nil) (fun _ _ _ _ => (pe_call G_gcnt hr rfl m_gcnt k_gcnt b_gcnt .nil passN (pa_cons (pe_callTy call_list_of rfl B.list boot_list' (pa_cons (pv 1) pa_nil)) (pa_cons (pe_callTy call_list_of rfl B.list boot_list' (pa_cons (pv 2) pa_nil)) (pa_cons (pe_op op_rep (pe_lst (pa_cons (pe_ix ix_list (pv 3) (pv 4) (fun _ _ => rfl)) pa_nil)) (pv 0)) pa_nil))))))
        (pss_cons (ps_if (PW.pt (pw_or (pt_cmpR op_gt (pe_ix ix_list (pv 13) pe_int (fun _ _ => rfl)) (pe_ix ix_list (pv 13) pe_int (fun _ _ => rfl)) (nomark _)) (pw_or1 (PW.pt (pw_and (pt_cmpR op_gt (pe_ix ix_list (pv 13) pe_int (fun _ _ => rfl)) pe_int (nomark _)) (pw_and1 (pt_cmpR op_gt (pe_ix ix_list (pv 13) pe_int (fun _ _ => rfl)) (pe_op op_sub (pe_ix ix_list (pv 7) (pv 10) (fun _ _ => rfl)) pe_int) (nomark _))))))))
          (pss_one (ps_ret pe_bl))
          pss_nil)
        (pss_one (ps_if (pt_cmpR op_ne (pe_call G_gcnt hr rfl m_gcnt k_gcnt b_gcnt .nil passN (pa_cons (pe_callTy call_list_of rfl B.list boot_list' (pa_cons (pv 1) pa_nil)) (pa_cons (pe_op op_cat (pv 3) (pv 3)) (pa_cons (pe_lst (pa_cons (pe_ix ix_list (pv 5) (pv 10) (fun _ _ => rfl)) pa_nil)) pa_nil)))) (pe_op op_mul pe_int (pe_ix ix_list (pv 7) (pv 10) (fun _ _ => rfl))) (nomark _))
          (pss_one (ps_ret pe_bl))
          pss_nil))))))))
      (pss_cons (ps_set (i := 14) sc_law.nd rfl (Or.inl rfl) (pe_call G_gcnt hr rfl m_gcnt k_gcnt b_gcnt .nil passN (pa_cons (pe_callTy call_list_of rfl B.list boot_list' (pa_cons (pv 1) pa_nil)) (pa_cons (pe_callTy call_list_of rfl B.list boot_list' (pa_cons (pv 3) pa_nil)) (pa_cons (pe_op op_cat (pv 8) (pv 9)) pa_nil)))))
      (pss_one (ps_ret (pe_cmpR op_eq (pe_call G_gcnt hr rfl m_gcnt k_gcnt b_gcnt .nil passN (pa_cons (pe_callTy call_list_of rfl B.list boot_list' (pa_cons (pv 1) pa_nil)) (pa_cons (pe_op op_cat (pv 3) (pv 3)) (pa_cons (pe_op op_cat (pv 8) (pv 9)) pa_nil)))) (pe_op op_add (pe_op op_mul pe_int (pv 14)) pe_int) (nomark _))))))))))))))), ?_⟩
    refine ⟨_, rfl, _, _, rfl, rfl, ⟨by decide, by decide, by decide⟩, a, ns, 10 ^ 59, congrArg (fun y => [V.ref a, V.int y]) p59N.symm, hS, hl, by decide, fun R P S W zs row bs H1 s1 hR g1 hW hrz hrl hfl bs0 bs1 => ?_⟩
    refine ⟨R, _, rfl, SqL.of hR, rfl, _, _, rfl, _, _, rfl, _, _, rfl, _, _, rfl, rfl, ?_⟩
    have few := g1.few
    have gr := g1.gr
    refine ⟨_, rfl, _, rfl, P, W, zs, row, rfl, g1.pr, gr, hW, hrz, few, hrl, fun Sg sg H2 s2 hSg2 hup hmem hsb => ?_⟩
    have hsl : sg.length ≤ 256 := ST.small_len (hup.imp fun {a b} w => Int.ne_of_lt w) hsb
    have nd : sg.Nodup := hup.imp fun {a b} w => Int.ne_of_lt w
    obtain ⟨tx, etx⟩ : ∃ tx, tx = exs (rn zs) (rwN row) := ⟨_, rfl⟩
    have hin : ∀ x ∈ tx, x ∈ sg := fun x hx => (hmem x).mpr (exs_in gr hrz (by rw [← etx]; exact hx))
    clear hmem
    refine ⟨_, rfl, P, _, rfl, .inl (SqL.of (g1.pr.same s2).at_), fun ha1 hha1 => ?_⟩
    have a1 := same_new hha1 (.lst (zs.map fun z => V.ref z.1))
    have p1' : Prs (upd H2 ha1 (.lst (zs.map fun z => V.ref z.1))) ha1 zs := ⟨upd_same, fun z hz => a1 _ _ ((g1.pr.same s2).each z hz)⟩
    generalize upd H2 ha1 (.lst (zs.map fun z => V.ref z.1)) = Ha1 at a1 p1' ⊢
    refine ⟨_, rfl, W, _, rfl, .inl (SqL.of (a1 _ _ (s2 _ _ hW))), fun hb1 hhb1 => ?_⟩
    have b1 := same_new hhb1 (.lst (row.map V.int))
    have q1 : upd Ha1 hb1 (.lst (row.map V.int)) hb1 = some (lsI (row)) := upd_same
    generalize upd Ha1 hb1 (.lst (row.map V.int)) = Hb1 at b1 q1 ⊢
    have p1 := p1'.same b1
    have w1 := a1.trans b1
    clear p1' a1 b1
    refine ⟨ha1, hb1, zs, row, rfl, p1, gr, q1, hrz, by trivial, by trivial, fun H3 s3 => ?_⟩
    rw [← etx]
    obtain ⟨len, elen⟩ : ∃ len : Nat, len = tx.length := ⟨_, rfl⟩
    rw [← elen]
    have t23 := w1.trans s3
    have t3 := s2.trans t23
    have hSg3 := t23 _ _ hSg2
    obtain ⟨Hs, Ts, hSg, tSg⟩ : ∃ Hs, ∃ _ : Same Hs H3, Hs Sg = some (lsI sg) ∧ Same Hs H3 := ⟨H3, Same.refl H3, hSg3, Same.refl H3⟩
    clear Ts
    have s3' := tSg
    refine ⟨_, rfl, Sg, rfl, ⟨_, SqL.of hSg3⟩, fun C hC => ?_⟩
    refine comp_lstQ (K := K) (a := Sg) (xs := sg.map V.int) (fun i σ' H' => ∃ (v0 : Option V), σ' = [v0, some (.ref P), some (.ref W)] ∧ H' C = some (lsI ((sg.take i).map fun z => ((cnt [z] tx : Nat) : Int))) ∧ Same H3 H')
      ⟨none, rfl, upd_same, same_new hC _⟩ (fun i σ' H' _ ⟨_, _, _, e⟩ => SqL.of (e _ _ hSg3)) ?_ ?_
    · rintro i y σ' H' hi ⟨v0, rfl, hD', sm'⟩
      have hlt : i < (sg.map V.int).length := (List.getElem?_eq_some_iff.mp hi).1
      have hil : i < sg.length := by rw [List.length_map] at hlt; exact hlt
      obtain ⟨z, rfl, hz⟩ := int_at hi
      refine nameT ?_
      have t' := t3.trans sm'
      refine ⟨_, rfl, P, _, rfl, .inl (SqL.of (g1.pr.same t').at_), fun ha2 hha2 => ?_⟩
      have a2 := same_new hha2 (.lst (zs.map fun z => V.ref z.1))
      have p2' : Prs (upd H' ha2 (.lst (zs.map fun z => V.ref z.1))) ha2 zs := ⟨upd_same, fun z hz => a2 _ _ ((g1.pr.same t').each z hz)⟩
      generalize upd H' ha2 (.lst (zs.map fun z => V.ref z.1)) = Ha2 at a2 p2' ⊢
      refine ⟨_, rfl, W, _, rfl, .inl (SqL.of (a2 _ _ (t' _ _ hW))), fun hb2 hhb2 => ?_⟩
      have b2 := same_new hhb2 (.lst (row.map V.int))
      have q2 : upd Ha2 hb2 (.lst (row.map V.int)) hb2 = some (lsI (row)) := upd_same
      generalize upd Ha2 hb2 (.lst (row.map V.int)) = Hb2 at b2 q2 ⊢
      have p2 := p2'.same b2
      have w2 := a2.trans b2
      clear p2' a2 b2
      have t2 := t'.trans w2
      refine ⟨_, rfl, (by show 1 ≤ sizeLine; decide), fun wd hwd => ?_⟩
      have uw := same_new hwd (lsI [z])
      have ew : upd Hb2 wd (lsI [z]) wd = some (lsI [z]) := upd_same
      refine ⟨ha2, hb2, wd, zs, row, [z], rfl, p2.same uw, gr, uw _ _ q2, hrz, by trivial, by trivial, ew, (by show 1 ≤ 1; decide), (by show 1 ≤ 1000; decide), fun HJ sJ => ?_⟩
      rw [← etx]
      have sA := w2.trans (uw.trans sJ)
      refine ⟨C, _, _, rfl, rfl, sA _ _ hD', fits_lt (by rw [List.length_map, List.length_map, List.length_take]; trivial), ?_⟩
      refine CW.next hlt ⟨_, rfl, ?_, same_upd (sm'.trans sA) _ hC⟩
      rw [upd_same, take_at hz, List.map_append, lsI_app1]; rfl
    rintro σ' H4 ⟨v0, rfl, hC4, s4⟩
    rw [List.length_map, List.take_length] at hC4
    obtain ⟨cs, ecs⟩ : ∃ cs, cs = sg.map fun z => ((cnt [z] tx : Nat) : Int) := ⟨_, rfl⟩
    rw [← ecs] at hC4
    have hcsum : cs.sum = (len : Int) := by
      rw [ecs, elen, ← sum_cnt nd hin]
      exact congrArg List.sum (List.map_congr_left fun z _ => by rw [cnt1])
    refine ⟨_, rfl, C, _, rfl, SqL.of hC4, _, rfl, rfl, _, rfl, ?_⟩
    refine iteNS (congrArg V.int hcsum) ?_
    have t4 := t3.trans s4
    have hSg4 := s4 _ _ hSg3
    refine ⟨_, rfl, rfl, _, rfl, ?_⟩
    refine ite2 (fun _ => hQ _) (fun hl0 => ?_)
    have hl0 : len ≠ 0 := fun e => hl0 (decide_eq_true (by rw [e]; rfl))
    have htx : tx ≠ [] := fun e => hl0 (by rw [elen, e]; rfl)
    obtain ⟨l, hlast⟩ : ∃ l, tx.getLast? = some l := ⟨_, List.getLast?_eq_some_getLast htx⟩
    obtain ⟨f, hfirst⟩ : ∃ f, tx.head? = some f := by
      cases tx with
      | nil => exact absurd rfl htx
      | cons x r => exact ⟨x, rfl⟩
    have hlm : l ∈ sg := hin _ (List.mem_of_getLast? hlast)
    have hfm : f ∈ sg := hin _ (List.mem_of_head? hfirst)
    refine ⟨_, rfl, P, _, rfl, .inl (SqL.of (g1.pr.same t4).at_), fun ha5 hha5 => ?_⟩
    have a5 := same_new hha5 (.lst (zs.map fun z => V.ref z.1))
    have p5' : Prs (upd H4 ha5 (.lst (zs.map fun z => V.ref z.1))) ha5 zs := ⟨upd_same, fun z hz => a5 _ _ ((g1.pr.same t4).each z hz)⟩
    generalize upd H4 ha5 (.lst (zs.map fun z => V.ref z.1)) = Ha5 at a5 p5' ⊢
    refine ⟨_, rfl, W, _, rfl, .inl (SqL.of (a5 _ _ (t4 _ _ hW))), fun hb5 hhb5 => ?_⟩
    have b5 := same_new hhb5 (.lst (row.map V.int))
    have q5 : upd Ha5 hb5 (.lst (row.map V.int)) hb5 = some (lsI (row)) := upd_same
    generalize upd Ha5 hb5 (.lst (row.map V.int)) = Hb5 at b5 q5 ⊢
    have p5 := p5'.same b5
    have w5 := a5.trans b5
    clear p5' a5 b5
    refine ⟨_, rfl, _, _, rfl, rfl, _, rfl, ha5, hb5, zs, row, (len : Int) - 1, (len : Int), rfl, p5, gr, q5, hrz, by trivial, by trivial, (fun hno => absurd ⟨by trivial, by trivial, by rw [← etx]; trivial⟩ hno), fun _ => ⟨by trivial, fun La H5 s5 hLan hLa5 => ?_⟩⟩
    have eLa : ((exs (rn zs) (rwN row)).take ((len : Int)).toNat).drop ((len : Int) - 1).toNat = [l] := by
      rw [← etx, Int.toNat_natCast, elen, List.take_length]
      rw [List.getLast?_eq_getElem?] at hlast
      obtain ⟨hlt, e⟩ := List.getElem?_eq_some_iff.mp hlast
      rw [show (((tx.length : Nat) : Int) - 1).toNat = tx.length - 1 by trivial, List.drop_eq_getElem_cons hlt, e, List.drop_eq_nil_of_le (by trivial)]
    rw [eLa] at hLa5
    have t45 := w5.trans s5
    have t5 := t4.trans t45
    refine ⟨_, rfl, P, _, rfl, .inl (SqL.of (g1.pr.same t5).at_), fun ha6 hha6 => ?_⟩
    have a6 := same_new hha6 (.lst (zs.map fun z => V.ref z.1))
    have p6' : Prs (upd H5 ha6 (.lst (zs.map fun z => V.ref z.1))) ha6 zs := ⟨upd_same, fun z hz => a6 _ _ ((g1.pr.same t5).each z hz)⟩
    generalize upd H5 ha6 (.lst (zs.map fun z => V.ref z.1)) = Ha6 at a6 p6' ⊢
    refine ⟨_, rfl, W, _, rfl, .inl (SqL.of (a6 _ _ (t5 _ _ hW))), fun hb6 hhb6 => ?_⟩
    have b6 := same_new hhb6 (.lst (row.map V.int))
    have q6 : upd Ha6 hb6 (.lst (row.map V.int)) hb6 = some (lsI (row)) := upd_same
    generalize upd Ha6 hb6 (.lst (row.map V.int)) = Hb6 at b6 q6 ⊢
    have p6 := p6'.same b6
    have w6 := a6.trans b6
    clear p6' a6 b6
    refine ⟨ha6, hb6, zs, row, 0, 1, rfl, p6, gr, q6, hrz, by trivial, by trivial, (fun hno => absurd ⟨by trivial, by trivial, by rw [← etx]; trivial⟩ hno), fun _ => ⟨by trivial, fun Fi H6 s6 hFin hFi6 => ?_⟩⟩
    have eFi : ((exs (rn zs) (rwN row)).take (1 : Int).toNat).drop (0 : Int).toNat = [f] := by
      rw [← etx]
      show tx.take 1 = [f]
      cases tx with
      | nil => exact absurd rfl htx
      | cons x r =>
        have : x = f := by simpa using hfirst
        rw [this]; rfl
    rw [eFi] at hFi6
    have t56 := w6.trans s6
    have t6 := t5.trans t56
    have hLa6 := t56 _ _ hLa5
    have t46 := t45.trans t56
    have hSg6 := t46 _ _ hSg4
    have hC6 := t46 _ _ hC4
    refine ⟨_, rfl, Sg, _, rfl, .inl (SqL.of hSg6), _, _, rfl, rfl, _, rfl, ?_⟩
    have inI : ∀ x ∈ sg, inV (V.int x) (sg.map V.int) = true := fun x hx => by
      unfold inV
      rw [List.any_eq_true]
      exact ⟨V.int x, List.mem_map.mpr ⟨x, hx, rfl⟩, eqV_self4 x⟩
    have flI : (sg.map V.int).all flatV = true := by
      rw [List.all_eq_true]
      intro v hv
      obtain ⟨x, _, rfl⟩ := List.mem_map.mp hv
      rfl
    refine ite2 (fun _ => ?_) (fun _ => ?_)
    · refine ⟨_, rfl, La, _, 0, _, rfl, rfl, SqL.of hLa6, rfl, _, rfl, Sg, _, rfl, .inl (SqL.of hSg6), rfl, flI, true, congrArg V.bl (inI l hlm), ?_⟩
      refine iteT ?_
      refine ⟨_, rfl, Fi, _, 0, _, rfl, rfl, SqL.of hFi6, rfl, _, rfl, Sg, _, rfl, .inl (SqL.of hSg6), rfl, flI, ?_⟩
      rw [show (if false = true then !inV (V.int f) (sg.map V.int) else inV (V.int f) (sg.map V.int)) = true from inI f hfm]
      exact hQ _
    refine ⟨_, rfl, Sg, _, rfl, .inl (SqL.of hSg6), ((sg.length : Nat) : Int), (by rw [List.length_map]), by trivial, by trivial, ?_⟩
    rw [Int.toNat_natCast]
    refine for_range (n := sg.length) (fun j σ H' => ∃ (vk vb va vl : Option V), σ = [some (.ref a), some (.ref P), some (.ref S), some (.ref W), some (.int bs), some (.ref Sg), some (.int (len : Nat)), some (.ref C), some (.ref La), some (.ref Fi), vk, vb, va, vl, none] ∧ Same H6 H')
      ⟨none, none, none, none, rfl, Same.refl H6⟩ ?_ ?_
    · rintro j σ HA hj ⟨vk, vb, va, vl, rfl, sA⟩
      refine gNz (v' := V.int (j : Int)) (congrArg V.int (Int.zero_add _).symm) ?_
      obtain ⟨x, hx⟩ := bounded_at hj
      have hcx : cs[j]? = some ((cnt [x] tx : Nat) : Int) := by rw [ecs, List.getElem?_map, hx]; rfl
      have ec1 : ((cnt [x] tx : Nat) : Int) = ((tx.count x : Nat) : Int) := by rw [cnt1]
      have tA := t6.trans sA
      have hSgA := sA _ _ hSg6
      refine ⟨_, rfl, Sg, rfl, ⟨_, SqL.of hSgA⟩, fun B hB => ?_⟩
      refine comp_lstQ (K := K) (a := Sg) (xs := sg.map V.int) (fun i σ' H' => ∃ (v0 : Option V), σ' = [v0, some (.ref P), some (.ref W), some (.ref Sg), some (.int (j : Int))] ∧ H' B = some (lsI ((sg.take i).map fun z => ((cnt [x, z] tx : Nat) : Int))) ∧ Same HA H')
        ⟨none, rfl, upd_same, same_new hB _⟩ (fun i σ' H' _ ⟨_, _, _, e⟩ => SqL.of (e _ _ hSgA)) ?_ ?_
      · rintro i y σ' H' hi ⟨v0, rfl, hD', sm'⟩
        have hlt : i < (sg.map V.int).length := (List.getElem?_eq_some_iff.mp hi).1
        have hil : i < sg.length := by rw [List.length_map] at hlt; exact hlt
        obtain ⟨z, rfl, hz⟩ := int_at hi
        refine nameT ?_
        have t' := tA.trans sm'
        refine ⟨_, rfl, P, _, rfl, .inl (SqL.of (g1.pr.same t').at_), fun ha7 hha7 => ?_⟩
        have a7 := same_new hha7 (.lst (zs.map fun z => V.ref z.1))
        have p7' : Prs (upd H' ha7 (.lst (zs.map fun z => V.ref z.1))) ha7 zs := ⟨upd_same, fun z hz => a7 _ _ ((g1.pr.same t').each z hz)⟩
        generalize upd H' ha7 (.lst (zs.map fun z => V.ref z.1)) = Ha7 at a7 p7' ⊢
        refine ⟨_, rfl, W, _, rfl, .inl (SqL.of (a7 _ _ (t' _ _ hW))), fun hb7 hhb7 => ?_⟩
        have b7 := same_new hhb7 (.lst (row.map V.int))
        have q7 : upd Ha7 hb7 (.lst (row.map V.int)) hb7 = some (lsI (row)) := upd_same
        generalize upd Ha7 hb7 (.lst (row.map V.int)) = Hb7 at b7 q7 ⊢
        have p7 := p7'.same b7
        have w7 := a7.trans b7
        clear p7' a7 b7
        have t2 := t'.trans w7
        refine ⟨_, rfl, _, rfl, Sg, _, _, _, rfl, rfl, SqL.of ((sm'.trans w7) _ _ hSgA), at_intsZ hx, _, rfl, (by show 2 ≤ sizeLine; decide), fun wd hwd => ?_⟩
        have uw := same_new hwd (lsI [x, z])
        have ew : upd Hb7 wd (lsI [x, z]) wd = some (lsI [x, z]) := upd_same
        refine ⟨ha7, hb7, wd, zs, row, [x, z], rfl, p7.same uw, gr, uw _ _ q7, hrz, by trivial, by trivial, ew, (by show 1 ≤ 2; decide), (by show 2 ≤ 1000; decide), fun HJ sJ => ?_⟩
        rw [← etx]
        have sA := w7.trans (uw.trans sJ)
        refine ⟨B, _, _, rfl, rfl, sA _ _ hD', fits_lt (by rw [List.length_map, List.length_map, List.length_take]; trivial), ?_⟩
        refine CW.next hlt ⟨_, rfl, ?_, same_upd (sm'.trans sA) _ hB⟩
        rw [upd_same, take_at hz, List.map_append, lsI_app1]; rfl
      rintro σ' HB ⟨v0, rfl, hB1, sB⟩
      rw [List.length_map, List.take_length] at hB1
      refine ⟨B, _, rfl, SqL.of hB1, ?_⟩
      rw [sum_behind nd x hin]
      have tB := tA.trans sB
      have hSgB := sB _ _ hSgA
      refine ⟨_, rfl, Sg, rfl, ⟨_, SqL.of hSgB⟩, fun B2 hB2 => ?_⟩
      refine comp_lstQ (K := K) (a := Sg) (xs := sg.map V.int) (fun i σ' H' => ∃ (v0 : Option V), σ' = [v0, some (.ref P), some (.ref W), some (.ref Sg), some (.int (j : Int))] ∧ H' B2 = some (lsI ((sg.take i).map fun z => ((cnt [z, x] tx : Nat) : Int))) ∧ Same HB H')
        ⟨none, rfl, upd_same, same_new hB2 _⟩ (fun i σ' H' _ ⟨_, _, _, e⟩ => SqL.of (e _ _ hSgB)) ?_ ?_
      · rintro i y σ' H' hi ⟨v0, rfl, hD', sm'⟩
        have hlt : i < (sg.map V.int).length := (List.getElem?_eq_some_iff.mp hi).1
        have hil : i < sg.length := by rw [List.length_map] at hlt; exact hlt
        obtain ⟨z, rfl, hz⟩ := int_at hi
        refine nameT ?_
        have t' := tB.trans sm'
        refine ⟨_, rfl, P, _, rfl, .inl (SqL.of (g1.pr.same t').at_), fun ha8 hha8 => ?_⟩
        have a8 := same_new hha8 (.lst (zs.map fun z => V.ref z.1))
        have p8' : Prs (upd H' ha8 (.lst (zs.map fun z => V.ref z.1))) ha8 zs := ⟨upd_same, fun z hz => a8 _ _ ((g1.pr.same t').each z hz)⟩
        generalize upd H' ha8 (.lst (zs.map fun z => V.ref z.1)) = Ha8 at a8 p8' ⊢
        refine ⟨_, rfl, W, _, rfl, .inl (SqL.of (a8 _ _ (t' _ _ hW))), fun hb8 hhb8 => ?_⟩
        have b8 := same_new hhb8 (.lst (row.map V.int))
        have q8 : upd Ha8 hb8 (.lst (row.map V.int)) hb8 = some (lsI (row)) := upd_same
        generalize upd Ha8 hb8 (.lst (row.map V.int)) = Hb8 at b8 q8 ⊢
        have p8 := p8'.same b8
        have w8 := a8.trans b8
        clear p8' a8 b8
        have t2 := t'.trans w8
        refine ⟨_, rfl, _, rfl, _, rfl, Sg, _, _, _, rfl, rfl, SqL.of ((sm'.trans w8) _ _ hSgB), at_intsZ hx, (by show 2 ≤ sizeLine; decide), fun wd hwd => ?_⟩
        have uw := same_new hwd (lsI [z, x])
        have ew : upd Hb8 wd (lsI [z, x]) wd = some (lsI [z, x]) := upd_same
        refine ⟨ha8, hb8, wd, zs, row, [z, x], rfl, p8.same uw, gr, uw _ _ q8, hrz, by trivial, by trivial, ew, (by show 1 ≤ 2; decide), (by show 2 ≤ 1000; decide), fun HJ sJ => ?_⟩
        rw [← etx]
        have sA := w8.trans (uw.trans sJ)
        refine ⟨B2, _, _, rfl, rfl, sA _ _ hD', fits_lt (by rw [List.length_map, List.length_map, List.length_take]; trivial), ?_⟩
        refine CW.next hlt ⟨_, rfl, ?_, same_upd (sm'.trans sA) _ hB2⟩
        rw [upd_same, take_at hz, List.map_append, lsI_app1]; rfl
      rintro σ' HC ⟨v0, rfl, hB21, sC⟩
      rw [List.length_map, List.take_length] at hB21
      refine ⟨B2, _, rfl, SqL.of hB21, ?_⟩
      rw [sum_ahead nd x hin]
      have tC := tB.trans sC
      have s6C := sA.trans (sB.trans sC)
      have hSgC := s6C _ _ hSg6
      have hCC := s6C _ _ hC6
      have hLaC := s6C _ _ hLa6
      have hFiC := s6C _ _ hFi6
      refine ⟨_, rfl, _, rfl, _, rfl, C, _, _, _, rfl, rfl, SqL.of hCC, at_intsZ hcx, _, rfl, _, rfl, _, rfl, Sg, _, _, _, rfl, rfl, SqL.of hSgC, at_intsZ hx, (by show 1 ≤ sizeLine; decide), fun l1 hl1 => ?_⟩
      have ul1 := same_new hl1 (.lst [V.int x])
      have el1 : upd HC l1 (.lst [V.int x]) l1 = some (.lst [V.int x]) := upd_same
      generalize upd HC l1 (.lst [V.int x]) = HD at ul1 el1 ⊢
      have fl1 : HD l1 = some (lsI [x]) := el1
      refine ⟨La, l1, _, _, rfl, rfl, SqL.of (ul1 _ _ hLaC), SqL.of fl1, .inr ⟨_, rfl, _, _, rfl, rfl, rfl, _, rfl, ?_⟩⟩
      have q1 : ((tx.count x : Nat) : Int) - (if tx.getLast? = some x then (1 : Int) else 0) = ((cnt [x] tx : Nat) : Int) - (if decide ([l] = [x]) = true then 1 else 0) := by
        rw [ec1, hlast]
        by_cases e : l = x
        · subst e; simp
        · rw [if_neg (by simpa using e), if_neg (by simpa using e)]
      refine iteNS (congrArg V.int q1) ?_
      refine ⟨_, rfl, _, rfl, _, rfl, C, _, _, _, rfl, rfl, SqL.of (ul1 _ _ hCC), at_intsZ hcx, _, rfl, _, rfl, _, rfl, Sg, _, _, _, rfl, rfl, SqL.of (ul1 _ _ hSgC), at_intsZ hx, (by show 1 ≤ sizeLine; decide), fun l2 hl2 => ?_⟩
      have ul2 := same_new hl2 (.lst [V.int x])
      have el2 : upd HD l2 (.lst [V.int x]) l2 = some (.lst [V.int x]) := upd_same
      generalize upd HD l2 (.lst [V.int x]) = HE at ul2 el2 ⊢
      have fl2 : HE l2 = some (lsI [x]) := el2
      have s6E := s6C.trans (ul1.trans ul2)
      refine ⟨Fi, l2, _, _, rfl, rfl, SqL.of (s6E _ _ hFi6), SqL.of fl2, .inr ⟨_, rfl, _, _, rfl, rfl, rfl, _, rfl, ?_⟩⟩
      have q2 : ((tx.count x : Nat) : Int) - (if tx.head? = some x then (1 : Int) else 0) = ((cnt [x] tx : Nat) : Int) - (if decide ([f] = [x]) = true then 1 else 0) := by
        rw [ec1, hfirst]
        by_cases e : f = x
        · subst e; simp
        · rw [if_neg (by simpa using e), if_neg (by simpa using e)]
      have q2' : (!decide (V.int (((tx.count x : Nat) : Int) - (if tx.head? = some x then (1 : Int) else 0)) = V.int (((cnt [x] tx : Nat) : Int) - (if decide ([f] = [x]) = true then 1 else 0)))) = false := by rw [decide_eq_true (congrArg V.int q2)]; rfl
      refine (if_neg (by rw [q2']; decide)).mpr ?_
      have tE := t6.trans s6E
      have hSgE := s6E _ _ hSg6
      have hCE := s6E _ _ hC6
      refine ⟨(by show 2 ≤ sizeLine; decide), fun m0 hm0 => ?_⟩
      have um0 := same_new hm0 (.lst [V.int 2, V.int 3])
      have em0 : upd HE m0 (.lst [V.int 2, V.int 3]) m0 = some (.lst [V.int 2, V.int 3]) := upd_same
      generalize upd HE m0 (.lst [V.int 2, V.int 3]) = HF at um0 em0 ⊢
      have fm0 : HF m0 = some (lsI [2, 3]) := em0
      have tF := tE.trans um0
      have hSgF := um0 _ _ hSgE
      have hCF := um0 _ _ hCE
      refine ⟨m0, rfl, ⟨_, SqL.of fm0⟩, fun K3 hK3 => ?_⟩
      refine comp_lstQ (K := K) (a := m0) (xs := [2, 3].map V.int) (fun i σ' H' => ∃ (v0 : Option V), σ' = [v0, some (.ref P), some (.ref W), some (.ref Sg), some (.int (j : Int))] ∧ H' K3 = some (lsI (([2, 3].take i).map fun m : Int => ((cnt (List.replicate m.toNat x) tx : Nat) : Int))) ∧ Same HF H')
        ⟨none, rfl, upd_same, same_new hK3 _⟩ (fun i σ' H' _ ⟨_, _, _, e⟩ => SqL.of (e _ _ fm0)) ?_ ?_
      · rintro i y σ' H' hi ⟨v0, rfl, hD', sm'⟩
        have hlt : i < ([2, 3].map V.int).length := (List.getElem?_eq_some_iff.mp hi).1
        obtain ⟨z, rfl, hz⟩ := int_at hi
        have hzb : z = 2 ∨ z = 3 := by simpa using List.mem_of_getElem? hz
        refine nameT ?_
        have t' := tF.trans sm'
        refine ⟨_, rfl, P, _, rfl, .inl (SqL.of (g1.pr.same t').at_), fun ha9 hha9 => ?_⟩
        have a9 := same_new hha9 (.lst (zs.map fun z => V.ref z.1))
        have p9' : Prs (upd H' ha9 (.lst (zs.map fun z => V.ref z.1))) ha9 zs := ⟨upd_same, fun z hz => a9 _ _ ((g1.pr.same t').each z hz)⟩
        generalize upd H' ha9 (.lst (zs.map fun z => V.ref z.1)) = Ha9 at a9 p9' ⊢
        refine ⟨_, rfl, W, _, rfl, .inl (SqL.of (a9 _ _ (t' _ _ hW))), fun hb9 hhb9 => ?_⟩
        have b9 := same_new hhb9 (.lst (row.map V.int))
        have q9 : upd Ha9 hb9 (.lst (row.map V.int)) hb9 = some (lsI (row)) := upd_same
        generalize upd Ha9 hb9 (.lst (row.map V.int)) = Hb9 at b9 q9 ⊢
        have p9 := p9'.same b9
        have w9 := a9.trans b9
        clear p9' a9 b9
        refine ⟨_, rfl, _, rfl, Sg, _, _, _, rfl, rfl, SqL.of ((sm'.trans w9) _ _ hSgF), at_intsZ hx, (by show 1 ≤ sizeLine; decide), fun l9 hl9 => ?_⟩
        have ul9 := same_new hl9 (.lst [V.int x])
        have el9 : upd Hb9 l9 (.lst [V.int x]) l9 = some (.lst [V.int x]) := upd_same
        generalize upd Hb9 l9 (.lst [V.int x]) = Hc9 at ul9 el9 ⊢
        have fl9 : Hc9 l9 = some (lsI [x]) := el9
        refine ⟨_, rfl, l9, z, _, rfl, rfl, fl9, by trivial, by trivial, fits (by show 1 * z.toNat ≤ 1000000; trivial), fun wd hwd => ?_⟩
        have erep : HO.lst (List.replicate z.toNat ([x].map V.int)).flatten = lsI (List.replicate z.toNat x) := by
          rcases hzb with rfl | rfl <;> rfl
        rw [erep]
        have uw := same_new hwd (lsI (List.replicate z.toNat x))
        have ew : upd Hc9 wd (lsI (List.replicate z.toNat x)) wd = some (lsI (List.replicate z.toNat x)) := upd_same
        have sw := ul9.trans uw
        refine ⟨ha9, hb9, wd, zs, row, List.replicate z.toNat x, rfl, p9.same sw, gr, sw _ _ q9, hrz, by trivial, by trivial, ew, by rw [List.length_replicate]; trivial, by rw [List.length_replicate]; trivial, fun HJ sJ => ?_⟩
        rw [← etx]
        have sA' := w9.trans (sw.trans sJ)
        refine ⟨K3, _, _, rfl, rfl, sA' _ _ hD', fits_lt (by rw [List.length_map, List.length_map, List.length_take]; show min i 2 ≤ 1000000; trivial), ?_⟩
        refine CW.next hlt ⟨_, rfl, ?_, same_upd (sm'.trans sA') _ hK3⟩
        rw [upd_same, take_at hz, List.map_append, lsI_app1]; rfl
      rintro σ' HG ⟨v0, rfl, hK31, sG⟩
      have hK32 : HG K3 = some (lsI [((cnt [x, x] tx : Nat) : Int), ((cnt [x, x, x] tx : Nat) : Int)]) := hK31
      have hCG := sG _ _ hCF
      have s6G := s6E.trans (um0.trans sG)
      have tG := t6.trans s6G
      have n1 := cnt_aaa x tx
      have n2 := cnt_aa x tx
      dsimp only
      refine sqMid4 (fun σ' H' => ∃ (vb va : Option V), σ' = [some (.ref a), some (.ref P), some (.ref S), some (.ref W), some (.int bs), some (.ref Sg), some (.int (len : Nat)), some (.ref C), some (.ref La), some (.ref Fi), some (.int (j : Int)), vb, va, some (.ref K3), none] ∧ H' = HG) ?_ ?_
      rotate_left
      · intro N hN
        refine ⟨_, rfl, K3, _, 1, _, rfl, rfl, SqL.of hK32, rfl, _, rfl, K3, _, 0, _, rfl, rfl, SqL.of hK32, rfl, _, _, rfl, rfl, _, rfl, ?_⟩
        rw [decide_eq_false (show ¬ ((cnt [x, x] tx : Nat) : Int) < ((cnt [x, x, x] tx : Nat) : Int) by trivial)]
        refine iteF ?_
        refine ⟨_, rfl, K3, _, 0, _, rfl, rfl, SqL.of hK32, rfl, _, _, rfl, rfl, _, rfl, ?_⟩
        refine ite2 (fun h0 => ?_) (fun _ => iteF (hN _ _ ⟨_, _, rfl, rfl⟩))
        have h0 : (0 : Int) < ((cnt [x, x] tx : Nat) : Int) := of_decide_eq_true h0
        refine ⟨_, rfl, K3, _, 0, _, rfl, rfl, SqL.of hK32, rfl, _, rfl, _, rfl, C, _, _, _, rfl, rfl, SqL.of hCG, at_intsZ hcx, _, _, rfl, rfl, _, _, rfl, rfl, _, rfl, ?_⟩
        rw [decide_eq_false (show ¬ ((cnt [x] tx : Nat) : Int) - 1 < ((cnt [x, x] tx : Nat) : Int) by trivial)]
        exact iteF (hN _ _ ⟨_, _, rfl, rfl⟩)
      rintro σ' HG' ⟨vb, va, rfl, rfl⟩
      refine ⟨_, rfl, P, _, rfl, .inl (SqL.of (g1.pr.same tG).at_), fun hc hhc => ?_⟩
      have c1 := same_new hhc (.lst (zs.map fun z => V.ref z.1))
      have pc : Prs (upd HG' hc (.lst (zs.map fun z => V.ref z.1))) hc zs := ⟨upd_same, fun z hz => c1 _ _ ((g1.pr.same tG).each z hz)⟩
      generalize upd HG' hc (.lst (zs.map fun z => V.ref z.1)) = HL at c1 pc ⊢
      have hWL := (tG.trans c1) _ _ hW
      refine ⟨_, rfl, _, rfl, W, W, _, _, rfl, rfl, hWL, hWL, fits (by rw [List.length_map]; trivial), fun hj2 hhj2 => ?_⟩
      rw [lsI_cat]
      have uhj2 := same_new hhj2 (lsI (row ++ row))
      have ehj2 : upd HL hj2 (lsI (row ++ row)) hj2 = some (lsI (row ++ row)) := upd_same
      generalize upd HL hj2 (lsI (row ++ row)) = HM at uhj2 ehj2 ⊢
      have kM := c1.trans uhj2
      refine ⟨_, rfl, _, rfl, Sg, _, _, _, rfl, rfl, SqL.of ((s6G.trans kM) _ _ hSg6), at_intsZ hx, (by show 1 ≤ sizeLine; decide), fun w0 hw0 => ?_⟩
      have uw0 := same_new hw0 (.lst [V.int x])
      have ew0 : upd HM w0 (.lst [V.int x]) w0 = some (.lst [V.int x]) := upd_same
      generalize upd HM w0 (.lst [V.int x]) = HN at uw0 ew0 ⊢
      have fw0 : HN w0 = some (lsI [x]) := ew0
      refine ⟨hc, hj2, w0, zs, row ++ row, [x], rfl, pc.same (uhj2.trans uw0), gr, uw0 _ _ ehj2, hrz.app hrz, by trivial, by rw [List.length_append]; trivial, fw0, (by show 1 ≤ 1; decide), (by show 1 ≤ 1000; decide), fun HP sP => ?_⟩
      rw [exs_rw, ← etx]
      have kP := kM.trans (uw0.trans sP)
      refine ⟨_, rfl, _, rfl, C, _, _, _, rfl, rfl, SqL.of (kP _ _ hCG), at_intsZ hcx, _, _, rfl, rfl, .inl ⟨by decide, by decide⟩, rfl, _, rfl, ?_⟩
      have q3 : ((cnt [x] (tx ++ tx) : Nat) : Int) = 2 * ((cnt [x] tx : Nat) : Int) := by rw [cnt1, cnt1, List.count_append]; trivial
      refine iteNS (congrArg V.int q3) ?_
      exact ⟨_, _, _, _, rfl, s6G.trans kP⟩
    rintro σ HA ⟨vk, vb, va, vl, rfl, sA⟩
    have tA := t6.trans sA
    have hLaA := sA _ _ hLa6
    have hFiA := sA _ _ hFi6
    refine ⟨_, rfl, P, _, rfl, .inl (SqL.of (g1.pr.same tA).at_), fun ha11 hha11 => ?_⟩
    have a11 := same_new hha11 (.lst (zs.map fun z => V.ref z.1))
    have p11' : Prs (upd HA ha11 (.lst (zs.map fun z => V.ref z.1))) ha11 zs := ⟨upd_same, fun z hz => a11 _ _ ((g1.pr.same tA).each z hz)⟩
    generalize upd HA ha11 (.lst (zs.map fun z => V.ref z.1)) = Ha11 at a11 p11' ⊢
    refine ⟨_, rfl, W, _, rfl, .inl (SqL.of (a11 _ _ (tA _ _ hW))), fun hb11 hhb11 => ?_⟩
    have b11 := same_new hhb11 (.lst (row.map V.int))
    have q11 : upd Ha11 hb11 (.lst (row.map V.int)) hb11 = some (lsI (row)) := upd_same
    generalize upd Ha11 hb11 (.lst (row.map V.int)) = Hb11 at b11 q11 ⊢
    have p11 := p11'.same b11
    have w11 := a11.trans b11
    clear p11' a11 b11
    refine ⟨_, rfl, _, rfl, La, Fi, _, _, rfl, rfl, w11 _ _ hLaA, w11 _ _ hFiA, (by show 1 + 1 ≤ sizeLine; decide), fun lf hlf => ?_⟩
    rw [lsI_cat]
    have ulf := same_new hlf (lsI ([l] ++ [f]))
    have elf : upd Hb11 lf (lsI ([l] ++ [f])) lf = some (lsI ([l] ++ [f])) := upd_same
    generalize upd Hb11 lf (lsI ([l] ++ [f])) = HB at ulf elf ⊢
    refine ⟨ha11, hb11, lf, zs, row, [l, f], rfl, p11.same ulf, gr, ulf _ _ q11, hrz, by trivial, by trivial, elf, (by show 1 ≤ 2; decide), (by show 2 ≤ 1000; decide), fun HC sC => ?_⟩
    rw [← etx]
    have kC := w11.trans (ulf.trans sC)
    have tC := tA.trans kC
    refine ⟨_, rfl, P, _, rfl, .inl (SqL.of (g1.pr.same tC).at_), fun hc hhc => ?_⟩
    have c1 := same_new hhc (.lst (zs.map fun z => V.ref z.1))
    have pc : Prs (upd HC hc (.lst (zs.map fun z => V.ref z.1))) hc zs := ⟨upd_same, fun z hz => c1 _ _ ((g1.pr.same tC).each z hz)⟩
    generalize upd HC hc (.lst (zs.map fun z => V.ref z.1)) = HL at c1 pc ⊢
    have hWL := (tC.trans c1) _ _ hW
    refine ⟨_, rfl, _, rfl, W, W, _, _, rfl, rfl, hWL, hWL, fits (by rw [List.length_map]; trivial), fun hj2 hhj2 => ?_⟩
    rw [lsI_cat]
    have uhj2 := same_new hhj2 (lsI (row ++ row))
    have ehj2 : upd HL hj2 (lsI (row ++ row)) hj2 = some (lsI (row ++ row)) := upd_same
    generalize upd HL hj2 (lsI (row ++ row)) = HM at uhj2 ehj2 ⊢
    have kM := kC.trans (c1.trans uhj2)
    refine ⟨_, rfl, _, rfl, La, Fi, _, _, rfl, rfl, kM _ _ hLaA, kM _ _ hFiA, (by show 1 + 1 ≤ sizeLine; decide), fun lg hlg => ?_⟩
    rw [lsI_cat]
    have ulg := same_new hlg (lsI ([l] ++ [f]))
    have elg : upd HM lg (lsI ([l] ++ [f])) lg = some (lsI ([l] ++ [f])) := upd_same
    generalize upd HM lg (lsI ([l] ++ [f])) = HN at ulg elg ⊢
    refine ⟨hc, hj2, lg, zs, row ++ row, [l, f], rfl, pc.same (uhj2.trans ulg), gr, ulg _ _ ehj2, hrz.app hrz, by trivial, by rw [List.length_append]; trivial, elg, (by show 1 ≤ 2; decide), (by show 2 ≤ 1000; decide), fun HP sP => ?_⟩
    rw [exs_rw, ← etx]
    refine ⟨_, rfl, _, _, rfl, rfl, .inl ⟨by decide, by decide⟩, _, _, rfl, rfl, rfl, ?_⟩
    have q4 : ((cnt [l, f] (tx ++ tx) : Nat) : Int) = 2 * ((cnt [l, f] tx : Nat) : Int) + 1 := by rw [cnt_twice hlast hfirst]; trivial
    rw [decide_eq_true (congrArg V.int q4)]
    exact hQ _
end
end K44
set_option Elab.async false
set_option linter.all false
set_option maxRecDepth 100000
set_option maxHeartbeats 4000000
namespace K44
open PySem L2 PySem.W PH
theorem len_1 {α : Type} : ∀ {us : List α}, us.length = 1 → ∃ x0, us = [x0]
  | [x0], _ => ⟨x0, rfl⟩
theorem len_2 {α : Type} : ∀ {us : List α}, us.length = 2 → ∃ x0 x1, us = [x0, x1]
  | [x0, x1], _ => ⟨x0, x1, rfl⟩
theorem len_3 {α : Type} : ∀ {us : List α}, us.length = 3 → ∃ x0 x1 x2, us = [x0, x1, x2]
  | [x0, x1, x2], _ => ⟨x0, x1, x2, rfl⟩
theorem len_4 {α : Type} : ∀ {us : List α}, us.length = 4 → ∃ x0 x1 x2 x3, us = [x0, x1, x2, x3]
  | [x0, x1, x2, x3], _ => ⟨x0, x1, x2, x3, rfl⟩
section
theorem all_mk {l : PySem.W.OpenLaw} {w : World} {K : PySem.W.Frag} {h : Heap} {mg : Str → Option Value} {fa f1 f2 f3 f4 f5 f6 f7 f8 f9 f10 f11 f12 f13 f14 f15 f16 f17 f18 f19 f20 f21 c_PackError c_Broken c_NoPlace : Addr} (X : K.In h) (G : h.Ns mainGlobals mg) (hfa : mg "law" = some (.ref fa))
    {od1 an1 od2 an2 od3 an3 od4 an4 od5 an5 od6 an6 od7 an7 od8 an8 od9 an9 od10 an10 od11 an11 od12 an12 od13 an13 od14 an14 od15 an15 od16 an16 od17 an17 od18 an18 od19 an19 od20 an20 od21 an21 : Option Addr} {sl1 sl2 sl3 sl4 sl5 sl6 sl7 sl8 sl9 sl10 sl11 sl12 sl13 sl14 sl15 sl16 sl17 sl18 sl19 sl20 sl21 : Array (Option Value)} {oc1 kV1 dc1 pm1 cd1 ct1 oc2 kV2 dc2 pm2 cd2 ct2 oc3 kV3 dc3 pm3 cd3 ct3 oc4 kV4 dc4 pm4 cd4 ct4 oc5 kV5 dc5 pm5 cd5 ct5 oc6 kV6 dc6 pm6 cd6 ct6 oc7 kV7 dc7 pm7 cd7 ct7 oc8 kV8 dc8 pm8 cd8 ct8 oc9 kV9 dc9 pm9 cd9 ct9 oc10 kV10 dc10 pm10 cd10 ct10 oc11 kV11 dc11 pm11 cd11 ct11 oc12 kV12 dc12 pm12 cd12 ct12 oc13 kV13 dc13 pm13 cd13 ct13 oc14 kV14 dc14 pm14 cd14 ct14 oc15 kV15 dc15 pm15 cd15 ct15 oc16 kV16 dc16 pm16 cd16 ct16 oc17 kV17 dc17 pm17 cd17 ct17 oc18 kV18 dc18 pm18 cd18 ct18 oc19 kV19 dc19 pm19 cd19 ct19 oc20 kV20 dc20 pm20 cd20 ct20 oc21 kV21 dc21 pm21 cd21 ct21 : Value}
    {tk_FIRST_RULE tk_LAST_SIGN : Tok}
    (a1 : PySem.W.nsIn K mainGlobals "is_whole" = some (some (.ref f1))) (l1 : K.lookup f1 = some ⟨oc1, od1, .func (PySem.W.fnOf "is_whole" "is_whole" (defArgs s_whole) (defBody s_whole) (defScope s_whole) .none kV1 dc1 pm1 an1 cd1 ct1), sl1⟩) (cc1 : PySem.W.codeIn K cd1 "is_whole" = true) (k1 : PySem.W.keepIn K (.ref f1) = true)
    (a2 : PySem.W.nsIn K mainGlobals "are_symbols" = some (some (.ref f2))) (l2 : K.lookup f2 = some ⟨oc2, od2, .func (PySem.W.fnOf "are_symbols" "are_symbols" (defArgs s_syms) (defBody s_syms) (defScope s_syms) .none kV2 dc2 pm2 an2 cd2 ct2), sl2⟩) (cc2 : PySem.W.codeIn K cd2 "are_symbols" = true) (k2 : PySem.W.keepIn K (.ref f2) = true)
    (a3 : PySem.W.nsIn K mainGlobals "is_rule" = some (some (.ref f3))) (l3 : K.lookup f3 = some ⟨oc3, od3, .func (PySem.W.fnOf "is_rule" "is_rule" (defArgs s_isrule) (defBody s_isrule) (defScope s_isrule) .none kV3 dc3 pm3 an3 cd3 ct3), sl3⟩) (cc3 : PySem.W.codeIn K cd3 "is_rule" = true) (k3 : PySem.W.keepIn K (.ref f3) = true)
    (a4 : PySem.W.nsIn K mainGlobals "is_grammar" = some (some (.ref f4))) (l4 : K.lookup f4 = some ⟨oc4, od4, .func (PySem.W.fnOf "is_grammar" "is_grammar" (defArgs s_isgr) (defBody s_isgr) (defScope s_isgr) .none kV4 dc4 pm4 an4 cd4 ct4), sl4⟩) (cc4 : PySem.W.codeIn K cd4 "is_grammar" = true) (k4 : PySem.W.keepIn K (.ref f4) = true)
    (a5 : PySem.W.nsIn K mainGlobals "refuse_no_grammar" = some (some (.ref f5))) (l5 : K.lookup f5 = some ⟨oc5, od5, .func (PySem.W.fnOf "refuse_no_grammar" "refuse_no_grammar" (defArgs s_nogr) (defBody s_nogr) (defScope s_nogr) .none kV5 dc5 pm5 an5 cd5 ct5), sl5⟩) (cc5 : PySem.W.codeIn K cd5 "refuse_no_grammar" = true) (k5 : PySem.W.keepIn K (.ref f5) = true)
    (a6 : PySem.W.nsIn K mainGlobals "lengths_by" = some (some (.ref f6))) (l6 : K.lookup f6 = some ⟨oc6, od6, .func (PySem.W.fnOf "lengths_by" "lengths_by" (defArgs s_lens) (defBody s_lens) (defScope s_lens) .none kV6 dc6 pm6 an6 cd6 ct6), sl6⟩) (cc6 : PySem.W.codeIn K cd6 "lengths_by" = true) (k6 : PySem.W.keepIn K (.ref f6) = true)
    (a7 : PySem.W.nsIn K mainGlobals "grammar_length" = some (some (.ref f7))) (l7 : K.lookup f7 = some ⟨oc7, od7, .func (PySem.W.fnOf "grammar_length" "grammar_length" (defArgs s_glen) (defBody s_glen) (defScope s_glen) .none kV7 dc7 pm7 an7 cd7 ct7), sl7⟩) (cc7 : PySem.W.codeIn K cd7 "grammar_length" = true) (k7 : PySem.W.keepIn K (.ref f7) = true)
    (a8 : PySem.W.nsIn K mainGlobals "signs_between" = some (some (.ref f8))) (l8 : K.lookup f8 = some ⟨oc8, od8, .func (PySem.W.fnOf "signs_between" "signs_between" (defArgs s_between) (defBody s_between) (defScope s_between) .none kV8 dc8 pm8 an8 cd8 ct8), sl8⟩) (cc8 : PySem.W.codeIn K cd8 "signs_between" = true) (k8 : PySem.W.keepIn K (.ref f8) = true)
    (a9 : PySem.W.nsIn K mainGlobals "refuse_no_stretch" = some (some (.ref f9))) (l9 : K.lookup f9 = some ⟨oc9, od9, .func (PySem.W.fnOf "refuse_no_stretch" "refuse_no_stretch" (defArgs s_nostr) (defBody s_nostr) (defScope s_nostr) .none kV9 dc9 pm9 an9 cd9 ct9), sl9⟩) (cc9 : PySem.W.codeIn K cd9 "refuse_no_stretch" = true) (k9 : PySem.W.keepIn K (.ref f9) = true)
    (a10 : PySem.W.nsIn K mainGlobals "grammar_stretch" = some (some (.ref f10))) (l10 : K.lookup f10 = some ⟨oc10, od10, .func (PySem.W.fnOf "grammar_stretch" "grammar_stretch" (defArgs s_gstr) (defBody s_gstr) (defScope s_gstr) .none kV10 dc10 pm10 an10 cd10 ct10), sl10⟩) (cc10 : PySem.W.codeIn K cd10 "grammar_stretch" = true) (k10 : PySem.W.keepIn K (.ref f10) = true)
    (a11 : PySem.W.nsIn K mainGlobals "times_in" = some (some (.ref f11))) (l11 : K.lookup f11 = some ⟨oc11, od11, .func (PySem.W.fnOf "times_in" "times_in" (defArgs s_times) (defBody s_times) (defScope s_times) .none kV11 dc11 pm11 an11 cd11 ct11), sl11⟩) (cc11 : PySem.W.codeIn K cd11 "times_in" = true) (k11 : PySem.W.keepIn K (.ref f11) = true)
    (a12 : PySem.W.nsIn K mainGlobals "part_of_sign" = some (some (.ref f12))) (l12 : K.lookup f12 = some ⟨oc12, od12, .func (PySem.W.fnOf "part_of_sign" "part_of_sign" (defArgs s_psign) (defBody s_psign) (defScope s_psign) .none kV12 dc12 pm12 an12 cd12 ct12), sl12⟩) (cc12 : PySem.W.codeIn K cd12 "part_of_sign" = true) (k12 : PySem.W.keepIn K (.ref f12) = true)
    (a13 : PySem.W.nsIn K mainGlobals "part_of_both" = some (some (.ref f13))) (l13 : K.lookup f13 = some ⟨oc13, od13, .func (PySem.W.fnOf "part_of_both" "part_of_both" (defArgs s_pboth) (defBody s_pboth) (defScope s_pboth) .none kV13 dc13 pm13 an13 cd13 ct13), sl13⟩) (cc13 : PySem.W.codeIn K cd13 "part_of_both" = true) (k13 : PySem.W.keepIn K (.ref f13) = true)
    (a14 : PySem.W.nsIn K mainGlobals "grammar_count" = some (some (.ref f14))) (l14 : K.lookup f14 = some ⟨oc14, od14, .func (PySem.W.fnOf "grammar_count" "grammar_count" (defArgs s_gcnt) (defBody s_gcnt) (defScope s_gcnt) .none kV14 dc14 pm14 an14 cd14 ct14), sl14⟩) (cc14 : PySem.W.codeIn K cd14 "grammar_count" = true) (k14 : PySem.W.keepIn K (.ref f14) = true)
    (a15 : PySem.W.nsIn K mainGlobals "_law_cell_at" = some (some (.ref f15))) (l15 : K.lookup f15 = some ⟨oc15, od15, .func (PySem.W.fnOf "_law_cell_at" "_law_cell_at" (defArgs s_cellat) (defBody s_cellat) (defScope s_cellat) .none kV15 dc15 pm15 an15 cd15 ct15), sl15⟩) (cc15 : PySem.W.codeIn K cd15 "_law_cell_at" = true) (k15 : PySem.W.keepIn K (.ref f15) = true)
    (a16 : PySem.W.nsIn K mainGlobals "_law_stir" = some (some (.ref f16))) (l16 : K.lookup f16 = some ⟨oc16, od16, .func (PySem.W.fnOf "_law_stir" "_law_stir" (defArgs s_stir) (defBody s_stir) (defScope s_stir) .none kV16 dc16 pm16 an16 cd16 ct16), sl16⟩) (cc16 : PySem.W.codeIn K cd16 "_law_stir" = true) (k16 : PySem.W.keepIn K (.ref f16) = true)
    (a17 : PySem.W.nsIn K mainGlobals "_law_symbol" = some (some (.ref f17))) (l17 : K.lookup f17 = some ⟨oc17, od17, .func (PySem.W.fnOf "_law_symbol" "_law_symbol" (defArgs s_symb) (defBody s_symb) (defScope s_symb) .none kV17 dc17 pm17 an17 cd17 ct17), sl17⟩) (cc17 : PySem.W.codeIn K cd17 "_law_symbol" = true) (k17 : PySem.W.keepIn K (.ref f17) = true)
    (a18 : PySem.W.nsIn K mainGlobals "_law_size" = some (some (.ref f18))) (l18 : K.lookup f18 = some ⟨oc18, od18, .func (PySem.W.fnOf "_law_size" "_law_size" (defArgs s_size) (defBody s_size) (defScope s_size) .none kV18 dc18 pm18 an18 cd18 ct18), sl18⟩) (cc18 : PySem.W.codeIn K cd18 "_law_size" = true) (k18 : PySem.W.keepIn K (.ref f18) = true)
    (a19 : PySem.W.nsIn K mainGlobals "_law_grammar" = some (some (.ref f19))) (l19 : K.lookup f19 = some ⟨oc19, od19, .func (PySem.W.fnOf "_law_grammar" "_law_grammar" (defArgs s_gram) (defBody s_gram) (defScope s_gram) .none kV19 dc19 pm19 an19 cd19 ct19), sl19⟩) (cc19 : PySem.W.codeIn K cd19 "_law_grammar" = true) (k19 : PySem.W.keepIn K (.ref f19) = true)
    (a20 : PySem.W.nsIn K mainGlobals "_law_signs" = some (some (.ref f20))) (l20 : K.lookup f20 = some ⟨oc20, od20, .func (PySem.W.fnOf "_law_signs" "_law_signs" (defArgs s_signs) (defBody s_signs) (defScope s_signs) .none kV20 dc20 pm20 an20 cd20 ct20), sl20⟩) (cc20 : PySem.W.codeIn K cd20 "_law_signs" = true) (k20 : PySem.W.keepIn K (.ref f20) = true)
    (a21 : PySem.W.nsIn K mainGlobals "law" = some (some (.ref f21))) (l21 : K.lookup f21 = some ⟨oc21, od21, .func (PySem.W.fnOf "law" "law" (defArgs s_law) (defBody s_law) (defScope s_law) .none kV21 dc21 pm21 an21 cd21 ct21), sl21⟩) (cc21 : PySem.W.codeIn K cd21 "law" = true) (k21 : PySem.W.keepIn K (.ref f21) = true)
    (z_isinstance : PySem.W.nsIn K mainGlobals "isinstance" = some none)
    (z_list : PySem.W.nsIn K mainGlobals "list" = some none)
    (z_int : PySem.W.nsIn K mainGlobals "int" = some none)
    (z_bool : PySem.W.nsIn K mainGlobals "bool" = some none)
    (z_len : PySem.W.nsIn K mainGlobals "len" = some none)
    (z_range : PySem.W.nsIn K mainGlobals "range" = some none)
    (z_max : PySem.W.nsIn K mainGlobals "max" = some none)
    (z_ValueError : PySem.W.nsIn K mainGlobals "ValueError" = some none)
    (z_tuple : PySem.W.nsIn K mainGlobals "tuple" = some none)
    (z_min : PySem.W.nsIn K mainGlobals "min" = some none)
    (z_sorted : PySem.W.nsIn K mainGlobals "sorted" = some none)
    (z_all : PySem.W.nsIn K mainGlobals "all" = some none)
    (z_dict : PySem.W.nsIn K mainGlobals "dict" = some none)
    (z_any : PySem.W.nsIn K mainGlobals "any" = some none)
    (z_sum : PySem.W.nsIn K mainGlobals "sum" = some none)
    (z_enumerate : PySem.W.nsIn K mainGlobals "enumerate" = some none)
    (z_reversed : PySem.W.nsIn K mainGlobals "reversed" = some none)
    (z_set : PySem.W.nsIn K mainGlobals "set" = some none)
    (e_PackError : PySem.W.nsIn K mainGlobals "PackError" = some (some (.ref c_PackError)))
    (x0_PackError : PySem.W.excIn K c_PackError bmV "ValueError.__new__" = true) (x1_PackError : PySem.W.findIn K (.ref c_PackError) "__getattribute__" = some (some (.builtin "BaseException.__getattribute__"))) (x2_PackError : PySem.W.findIn K (.ref c_PackError) "__getattr__" = some none) (x3_PackError : PySem.W.findIn K (.ref c_PackError) "__class__" = some (some (.builtin "object.__class__"))) (x4_PackError : PySem.W.mroIn K c_PackError (.type "object") = some true) (x5_PackError : PySem.W.mroIn K c_PackError (.type "BaseException") = some true) (x6_PackError : PySem.W.typeIn K (.ref c_PackError) = some (.type "type"))
    (e_Broken : PySem.W.nsIn K mainGlobals "Broken" = some (some (.ref c_Broken)))
    (x0_Broken : PySem.W.excIn K c_Broken bmV "ValueError.__new__" = true) (x1_Broken : PySem.W.findIn K (.ref c_Broken) "__getattribute__" = some (some (.builtin "BaseException.__getattribute__"))) (x2_Broken : PySem.W.findIn K (.ref c_Broken) "__getattr__" = some none) (x3_Broken : PySem.W.findIn K (.ref c_Broken) "__class__" = some (some (.builtin "object.__class__"))) (x4_Broken : PySem.W.mroIn K c_Broken (.type "object") = some true) (x5_Broken : PySem.W.mroIn K c_Broken (.type "BaseException") = some true) (x6_Broken : PySem.W.typeIn K (.ref c_Broken) = some (.type "type"))
    (e_NoPlace : PySem.W.nsIn K mainGlobals "NoPlace" = some (some (.ref c_NoPlace)))
    (x0_NoPlace : PySem.W.excIn K c_NoPlace bmV "ValueError.__new__" = true) (x1_NoPlace : PySem.W.findIn K (.ref c_NoPlace) "__getattribute__" = some (some (.builtin "BaseException.__getattribute__"))) (x2_NoPlace : PySem.W.findIn K (.ref c_NoPlace) "__getattr__" = some none) (x3_NoPlace : PySem.W.findIn K (.ref c_NoPlace) "__class__" = some (some (.builtin "object.__class__"))) (x4_NoPlace : PySem.W.mroIn K c_NoPlace (.type "object") = some true) (x5_NoPlace : PySem.W.mroIn K c_NoPlace (.type "BaseException") = some true) (x6_NoPlace : PySem.W.typeIn K (.ref c_NoPlace) = some (.type "type"))
    (g_FIRST_RULE : PySem.W.nsIn K mainGlobals "FIRST_RULE" = some (some (.int 256 tk_FIRST_RULE)))
    (g_LAST_SIGN : PySem.W.nsIn K mainGlobals "LAST_SIGN" = some (some (.int 255 tk_LAST_SIGN)))
    : ∃ fd : FuncData, (∀ (s : Shared) (v : Value), BindsTo s fd ⟨[v], []⟩ [("script", v)]) ∧ ∀ base : Heap, K.In base → base.Ns mainGlobals mg → FnOk l.prog w K mg base (CXW l.prog w) 8 fa fd ["script"] (spLaw K) := by
  have e := hfa.symm.trans (PySem.W.mg_of X G a21)
  cases e
  have F1 := fun_mk (st := s_whole) l1 cc1 k1
  have b1 := F1.binds (ps := ["thing"]) fun _ _ _ _ _ _ us hl => by obtain ⟨x0, rfl⟩ := len_1 hl; rfl
  have m1 := PySem.W.mg_of X G a1
  have F2 := fun_mk (st := s_syms) l2 cc2 k2
  have b2 := F2.binds (ps := ["things", "many"]) fun _ _ _ _ _ _ us hl => by obtain ⟨x0, x1, rfl⟩ := len_2 hl; rfl
  have m2 := PySem.W.mg_of X G a2
  have F3 := fun_mk (st := s_isrule) l3 cc3 k3
  have b3 := F3.binds (ps := ["thing", "number"]) fun _ _ _ _ _ _ us hl => by obtain ⟨x0, x1, rfl⟩ := len_2 hl; rfl
  have m3 := PySem.W.mg_of X G a3
  have F4 := fun_mk (st := s_isgr) l4 cc4 k4
  have b4 := F4.binds (ps := ["rules", "row"]) fun _ _ _ _ _ _ us hl => by obtain ⟨x0, x1, rfl⟩ := len_2 hl; rfl
  have m4 := PySem.W.mg_of X G a4
  have F5 := fun_mk (st := s_nogr) l5 cc5 k5
  have b5 := F5.binds (ps := ["rules", "row"]) fun _ _ _ _ _ _ us hl => by obtain ⟨x0, x1, rfl⟩ := len_2 hl; rfl
  have m5 := PySem.W.mg_of X G a5
  have F6 := fun_mk (st := s_lens) l6 cc6 k6
  have b6 := F6.binds (ps := ["rules"]) fun _ _ _ _ _ _ us hl => by obtain ⟨x0, rfl⟩ := len_1 hl; rfl
  have m6 := PySem.W.mg_of X G a6
  have F7 := fun_mk (st := s_glen) l7 cc7 k7
  have b7 := F7.binds (ps := ["rules", "row"]) fun _ _ _ _ _ _ us hl => by obtain ⟨x0, x1, rfl⟩ := len_2 hl; rfl
  have m7 := PySem.W.mg_of X G a7
  have F8 := fun_mk (st := s_between) l8 cc8 k8
  have b8 := F8.binds (ps := ["rules", "row", "first", "last"]) fun _ _ _ _ _ _ us hl => by obtain ⟨x0, x1, x2, x3, rfl⟩ := len_4 hl; rfl
  have m8 := PySem.W.mg_of X G a8
  have F9 := fun_mk (st := s_nostr) l9 cc9 k9
  have b9 := F9.binds (ps := ["first", "last", "length"]) fun _ _ _ _ _ _ us hl => by obtain ⟨x0, x1, x2, rfl⟩ := len_3 hl; rfl
  have m9 := PySem.W.mg_of X G a9
  have F10 := fun_mk (st := s_gstr) l10 cc10 k10
  have b10 := F10.binds (ps := ["rules", "row", "first", "last"]) fun _ _ _ _ _ _ us hl => by obtain ⟨x0, x1, x2, x3, rfl⟩ := len_4 hl; rfl
  have m10 := PySem.W.mg_of X G a10
  have F11 := fun_mk (st := s_times) l11 cc11 k11
  have b11 := F11.binds (ps := ["text", "word"]) fun _ _ _ _ _ _ us hl => by obtain ⟨x0, x1, rfl⟩ := len_2 hl; rfl
  have m11 := PySem.W.mg_of X G a11
  have F12 := fun_mk (st := s_psign) l12 cc12 k12
  have b12 := F12.binds (ps := ["sign", "word"]) fun _ _ _ _ _ _ us hl => by obtain ⟨x0, x1, rfl⟩ := len_2 hl; rfl
  have m12 := PySem.W.mg_of X G a12
  have F13 := fun_mk (st := s_pboth) l13 cc13 k13
  have b13 := F13.binds (ps := ["one", "two", "word"]) fun _ _ _ _ _ _ us hl => by obtain ⟨x0, x1, x2, rfl⟩ := len_3 hl; rfl
  have m13 := PySem.W.mg_of X G a13
  have F14 := fun_mk (st := s_gcnt) l14 cc14 k14
  have b14 := F14.binds (ps := ["rules", "row", "word"]) fun _ _ _ _ _ _ us hl => by obtain ⟨x0, x1, x2, rfl⟩ := len_3 hl; rfl
  have m14 := PySem.W.mg_of X G a14
  have F15 := fun_mk (st := s_cellat) l15 cc15 k15
  have b15 := F15.binds (ps := ["script", "k"]) fun _ _ _ _ _ _ us hl => by obtain ⟨x0, x1, rfl⟩ := len_2 hl; rfl
  have m15 := PySem.W.mg_of X G a15
  have F16 := fun_mk (st := s_stir) l16 cc16 k16
  have b16 := F16.binds (ps := ["cell", "k"]) fun _ _ _ _ _ _ us hl => by obtain ⟨x0, x1, rfl⟩ := len_2 hl; rfl
  have m16 := PySem.W.mg_of X G a16
  have F17 := fun_mk (st := s_symb) l17 cc17 k17
  have b17 := F17.binds (ps := ["number", "rules", "base"]) fun _ _ _ _ _ _ us hl => by obtain ⟨x0, x1, x2, rfl⟩ := len_3 hl; rfl
  have m17 := PySem.W.mg_of X G a17
  have F18 := fun_mk (st := s_size) l18 cc18 k18
  have b18 := F18.binds (ps := ["sizes", "symbol"]) fun _ _ _ _ _ _ us hl => by obtain ⟨x0, x1, rfl⟩ := len_2 hl; rfl
  have m18 := PySem.W.mg_of X G a18
  have F19 := fun_mk (st := s_gram) l19 cc19 k19
  have b19 := F19.binds (ps := ["script", "most"]) fun _ _ _ _ _ _ us hl => by obtain ⟨x0, x1, rfl⟩ := len_2 hl; rfl
  have m19 := PySem.W.mg_of X G a19
  have F20 := fun_mk (st := s_signs) l20 cc20 k20
  have b20 := F20.binds (ps := ["rules", "row"]) fun _ _ _ _ _ _ us hl => by obtain ⟨x0, x1, rfl⟩ := len_2 hl; rfl
  have m20 := PySem.W.mg_of X G a20
  have F21 := fun_mk (st := s_law) l21 cc21 k21
  have n_isinstance := PySem.W.mg_none_of X G z_isinstance
  have n_list := PySem.W.mg_none_of X G z_list
  have n_int := PySem.W.mg_none_of X G z_int
  have n_bool := PySem.W.mg_none_of X G z_bool
  have n_len := PySem.W.mg_none_of X G z_len
  have n_range := PySem.W.mg_none_of X G z_range
  have n_max := PySem.W.mg_none_of X G z_max
  have n_ValueError := PySem.W.mg_none_of X G z_ValueError
  have n_tuple := PySem.W.mg_none_of X G z_tuple
  have n_min := PySem.W.mg_none_of X G z_min
  have n_sorted := PySem.W.mg_none_of X G z_sorted
  have n_all := PySem.W.mg_none_of X G z_all
  have n_dict := PySem.W.mg_none_of X G z_dict
  have n_any := PySem.W.mg_none_of X G z_any
  have n_sum := PySem.W.mg_none_of X G z_sum
  have n_enumerate := PySem.W.mg_none_of X G z_enumerate
  have n_reversed := PySem.W.mg_none_of X G z_reversed
  have n_set := PySem.W.mg_none_of X G z_set
  have m_PackError := PySem.W.mg_of X G e_PackError
  have X_PackError : Ex K mg "PackError" c_PackError := ⟨m_PackError, x0_PackError, ⟨x1_PackError, x2_PackError, x3_PackError, x4_PackError, x5_PackError, x6_PackError⟩⟩
  have m_Broken := PySem.W.mg_of X G e_Broken
  have X_Broken : Ex K mg "Broken" c_Broken := ⟨m_Broken, x0_Broken, ⟨x1_Broken, x2_Broken, x3_Broken, x4_Broken, x5_Broken, x6_Broken⟩⟩
  have m_NoPlace := PySem.W.mg_of X G e_NoPlace
  have X_NoPlace : Ex K mg "NoPlace" c_NoPlace := ⟨m_NoPlace, x0_NoPlace, ⟨x1_NoPlace, x2_NoPlace, x3_NoPlace, x4_NoPlace, x5_NoPlace, x6_NoPlace⟩⟩
  refine ⟨PySem.W.fnOf "law" "law" (defArgs s_law) (defBody s_law) (defScope s_law) .none kV21 dc21 pm21 an21 cd21 ct21, fun s v => .of_eq rfl, fun base _ _ => ?_⟩
  have m_LS : LSg mg := ⟨_, PySem.W.mg_of X G g_LAST_SIGN, ⟨_, rfl⟩⟩
  have m_FR : FRg mg := ⟨_, PySem.W.mg_of X G g_FIRST_RULE, ⟨_, rfl⟩⟩
  have B : Bls mg := ⟨n_isinstance, n_list, n_int, n_bool, n_len, n_range, n_max, n_ValueError, n_tuple, n_min, n_sorted, n_all, n_dict⟩
  have G_whole := ok_whole (P := l.prog) (w := w) (mg := mg) (base := base) F1 B
  have G_syms := ok_syms (P := l.prog) (w := w) (mg := mg) (base := base) F2 B m_FR G_whole b1 k1 m1
  have G_isrule := ok_isrule (P := l.prog) (w := w) (mg := mg) (base := base) F3 B G_syms b2 k2 m2
  have G_isgr := ok_isgr (P := l.prog) (w := w) (mg := mg) (base := base) F4 B n_enumerate G_syms b2 k2 m2 G_isrule b3 k3 m3
  have G_nogr := ok_nogr (P := l.prog) (w := w) (mg := mg) (base := base) F5 B X_Broken m_Broken G_isgr b4 k4 m4
  have G_lens := ok_lens (P := l.prog) (w := w) (mg := mg) (base := base) F6 B m_FR
  have G_glen := ok_glen (P := l.prog) (w := w) (mg := mg) (base := base) F7 B n_sum G_nogr b5 k5 m5 G_lens b6 k6 m6
  have G_between := ok_between (P := l.prog) (w := w) (mg := mg) (base := base) F8 B m_FR m_LS n_reversed G_lens b6 k6 m6
  have G_nostr := ok_nostr (P := l.prog) (w := w) (mg := mg) (base := base) F9 B X_NoPlace m_NoPlace
  have G_gstr := ok_gstr (P := l.prog) (w := w) (mg := mg) (base := base) F10 B G_glen b7 k7 m7 G_between b8 k8 m8 G_nostr b9 k9 m9
  have G_times := ok_times (P := l.prog) (w := w) (mg := mg) (base := base) F11 B n_sum
  have G_psign := ok_psign (P := l.prog) (w := w) (mg := mg) (base := base) F12 B
  have G_pboth := ok_pboth (P := l.prog) (w := w) (mg := mg) (base := base) F13 B G_times b11 k11 m11
  have G_gcnt := ok_gcnt (P := l.prog) (w := w) (mg := mg) (base := base) F14 B m_FR G_glen b7 k7 m7 G_psign b12 k12 m12 G_pboth b13 k13 m13
  have G_cellat := ok_cellat (P := l.prog) (w := w) (mg := mg) (base := base) F15 B
  have G_stir := ok_stir (P := l.prog) (w := w) (mg := mg) (base := base) F16 B
  have G_symb := ok_symb (P := l.prog) (w := w) (mg := mg) (base := base) F17 B
  have G_size := ok_size (P := l.prog) (w := w) (mg := mg) (base := base) F18 B
  have G_gram := ok_gram (P := l.prog) (w := w) (mg := mg) (base := base) F19 B n_sum G_cellat b15 k15 m15 G_stir b16 k16 m16 G_symb b17 k17 m17 G_size b18 k18 m18
  have G_signs := ok_signs (P := l.prog) (w := w) (mg := mg) (base := base) F20 B n_set
  exact ok_law (P := l.prog) (w := w) (mg := mg) (base := base) F21 B n_sum G_glen b7 k7 m7 G_gstr b10 k10 m10 G_gcnt b14 k14 m14 G_gram b19 k19 m19 G_signs b20 k20 m20
theorem walk {l : PySem.W.OpenLaw} {q : Program} {loose : List Str} {XP : (Str → Option Value) → Heap → Prop} {YP : World → Heap → Prop} {d : DefRec} {K : Params → PySem.W.Frag} (hn : l.most = some 63) (hdf : d.params.defaults = [])
    (hY : ∀ (w : World) (h : Heap), YP w h → (K w.params).In h)
    (F : ∀ (w : World) (mg : Str → Option Value) (fa : Addr) (h : Heap), (K w.params).In h → h.Ns mainGlobals mg → mg d.name = some (.ref fa) →
      ∃ fd : FuncData, (∀ (s : Shared) (u : Value), BindsTo s fd ⟨[u], []⟩ [("script", u)]) ∧ ∀ base : Heap, (K w.params).In base → base.Ns mainGlobals mg → FnOk l.prog w (K w.params) mg base (CXW l.prog w) 8 fa fd ["script"] (spLaw (K w.params))) :
    PySem.W.WalkO q loose XP YP l.row.toRowW d [] (fun f vs => PySem.call f vs) :=
  L2.walk_of (n := 63) (k := 8) (x := "script") (CX := fun w => CXW l.prog w) (sp := fun w => spLaw (K w.params)) hn (by decide) hdf ⟨rfl, by decide, by decide⟩ hY F (fun _ _ a ns hl _ hS => ⟨a, ns, rfl, hS, hl, fun _ => rfl⟩) fun _ _ _ _ _ z => by
    obtain ⟨_, _, _, _, _, _, _, _, _, _, _, _, _, hE⟩ := z
    exact hE
end
end K44
theorem PySem.W.Fast.tw17743424479062782227:True:=trivial
theorem PySem.W.Fast.tw15943861112687067096:True:=trivial
theorem PySem.W.Fast.tw5077217929332370933:True:=trivial
theorem PySem.W.Fast.tw16882748220073445998:True:=trivial
theorem PySem.W.Fast.tw8479404592515961681:True:=trivial
theorem PySem.W.Fast.tw3982987929184633238:True:=trivial
theorem PySem.W.Fast.tw10285851582355288345:True:=trivial
theorem PySem.W.Fast.tw13449860076337628883:True:=trivial
theorem PySem.W.Fast.tw2534418160238203020:True:=trivial
theorem PySem.W.Fast.tw6775140791910212970:True:=trivial
theorem PySem.W.Fast.tw10794706300619024596:True:=trivial
theorem PySem.W.Fast.tw2919946927881075758:True:=trivial
theorem PySem.W.Fast.tw10226854456865929129:True:=trivial
theorem PySem.W.Fast.tw10011668576952236648:True:=trivial
theorem PySem.W.Fast.tw12082452720690919029:True:=trivial
theorem PySem.W.Fast.tw13299606827379058987:True:=trivial
theorem PySem.W.Fast.tw676890180664342298:True:=trivial
theorem PySem.W.Fast.tw308244242258976203:True:=trivial
theorem PySem.W.Fast.tw8251389660927465085:True:=trivial
theorem PySem.W.Fast.tw15464970372853756254:True:=trivial
theorem PySem.W.Fast.tw15457725899588264042:True:=trivial
theorem PySem.W.Fast.tw7975080251074824848:True:=trivial
theorem PySem.W.Fast.tw17020569343615261814:True:=trivial
theorem PySem.W.Fast.tw11810366014714087638:True:=trivial
open PySem PySem.W PyProof.Rows
set_option maxRecDepth 100000 in
set_option maxHeartbeats 0 in
theorem PySem.Challenge.cw_packhall_k44_whole_counts_of_all_words_holds : PySem.Challenge.rw_packhall_k44_whole_counts_of_all_words.Holds := by
  w_on; o_law; k_head; (case hw => w_witness2)
  k_fill
  refine K44.walk (l := PySem.Challenge.rw_packhall_k44_whole_counts_of_all_words) rfl rfl (fun w h Y => PySem.W.kIn_of Y) ?F
  case F =>
    intro w mg fa h KX G hmg
    refine' K44.all_mk KX G hmg ?a1 ?l1 ?cc1 ?k1 ?a2 ?l2 ?cc2 ?k2 ?a3 ?l3 ?cc3 ?k3 ?a4 ?l4 ?cc4 ?k4 ?a5 ?l5 ?cc5 ?k5 ?a6 ?l6 ?cc6 ?k6 ?a7 ?l7 ?cc7 ?k7 ?a8 ?l8 ?cc8 ?k8 ?a9 ?l9 ?cc9 ?k9 ?a10 ?l10 ?cc10 ?k10 ?a11 ?l11 ?cc11 ?k11 ?a12 ?l12 ?cc12 ?k12 ?a13 ?l13 ?cc13 ?k13 ?a14 ?l14 ?cc14 ?k14 ?a15 ?l15 ?cc15 ?k15 ?a16 ?l16 ?cc16 ?k16 ?a17 ?l17 ?cc17 ?k17 ?a18 ?l18 ?cc18 ?k18 ?a19 ?l19 ?cc19 ?k19 ?a20 ?l20 ?cc20 ?k20 ?a21 ?l21 ?cc21 ?k21 ?z_isinstance ?z_list ?z_int ?z_bool ?z_len ?z_range ?z_max ?z_ValueError ?z_tuple ?z_min ?z_sorted ?z_all ?z_dict ?z_any ?z_sum ?z_enumerate ?z_reversed ?z_set ?e_PackError ?x0_PackError ?x1_PackError ?x2_PackError ?x3_PackError ?x4_PackError ?x5_PackError ?x6_PackError ?e_Broken ?x0_Broken ?x1_Broken ?x2_Broken ?x3_Broken ?x4_Broken ?x5_Broken ?x6_Broken ?e_NoPlace ?x0_NoPlace ?x1_NoPlace ?x2_NoPlace ?x3_NoPlace ?x4_NoPlace ?x5_NoPlace ?x6_NoPlace ?g_FIRST_RULE ?g_LAST_SIGN
    (case a1 => k_is)
    (case l1 => k_is)
    (case cc1 => k_is)
    (case k1 => k_is)
    (case a2 => k_is)
    (case l2 => k_is)
    (case cc2 => k_is)
    (case k2 => k_is)
    (case a3 => k_is)
    (case l3 => k_is)
    (case cc3 => k_is)
    (case k3 => k_is)
    (case a4 => k_is)
    (case l4 => k_is)
    (case cc4 => k_is)
    (case k4 => k_is)
    (case a5 => k_is)
    (case l5 => k_is)
    (case cc5 => k_is)
    (case k5 => k_is)
    (case a6 => k_is)
    (case l6 => k_is)
    (case cc6 => k_is)
    (case k6 => k_is)
    (case a7 => k_is)
    (case l7 => k_is)
    (case cc7 => k_is)
    (case k7 => k_is)
    (case a8 => k_is)
    (case l8 => k_is)
    (case cc8 => k_is)
    (case k8 => k_is)
    (case a9 => k_is)
    (case l9 => k_is)
    (case cc9 => k_is)
    (case k9 => k_is)
    (case a10 => k_is)
    (case l10 => k_is)
    (case cc10 => k_is)
    (case k10 => k_is)
    (case a11 => k_is)
    (case l11 => k_is)
    (case cc11 => k_is)
    (case k11 => k_is)
    (case a12 => k_is)
    (case l12 => k_is)
    (case cc12 => k_is)
    (case k12 => k_is)
    (case a13 => k_is)
    (case l13 => k_is)
    (case cc13 => k_is)
    (case k13 => k_is)
    (case a14 => k_is)
    (case l14 => k_is)
    (case cc14 => k_is)
    (case k14 => k_is)
    (case a15 => k_is)
    (case l15 => k_is)
    (case cc15 => k_is)
    (case k15 => k_is)
    (case a16 => k_is)
    (case l16 => k_is)
    (case cc16 => k_is)
    (case k16 => k_is)
    (case a17 => k_is)
    (case l17 => k_is)
    (case cc17 => k_is)
    (case k17 => k_is)
    (case a18 => k_is)
    (case l18 => k_is)
    (case cc18 => k_is)
    (case k18 => k_is)
    (case a19 => k_is)
    (case l19 => k_is)
    (case cc19 => k_is)
    (case k19 => k_is)
    (case a20 => k_is)
    (case l20 => k_is)
    (case cc20 => k_is)
    (case k20 => k_is)
    (case a21 => k_is)
    (case l21 => k_is)
    (case cc21 => k_is)
    (case k21 => k_is)
    (case z_isinstance => k_is)
    (case z_list => k_is)
    (case z_int => k_is)
    (case z_bool => k_is)
    (case z_len => k_is)
    (case z_range => k_is)
    (case z_max => k_is)
    (case z_ValueError => k_is)
    (case z_tuple => k_is)
    (case z_min => k_is)
    (case z_sorted => k_is)
    (case z_all => k_is)
    (case z_dict => k_is)
    (case z_any => k_is)
    (case z_sum => k_is)
    (case z_enumerate => k_is)
    (case z_reversed => k_is)
    (case z_set => k_is)
    (case e_PackError => k_is)
    (case x0_PackError => k_exc)
    (case x1_PackError => k_is)
    (case x2_PackError => k_is)
    (case x3_PackError => k_is)
    (case x4_PackError => k_is)
    (case x5_PackError => k_is)
    (case x6_PackError => k_is)
    (case e_Broken => k_is)
    (case x0_Broken => k_exc)
    (case x1_Broken => k_is)
    (case x2_Broken => k_is)
    (case x3_Broken => k_is)
    (case x4_Broken => k_is)
    (case x5_Broken => k_is)
    (case x6_Broken => k_is)
    (case e_NoPlace => k_is)
    (case x0_NoPlace => k_exc)
    (case x1_NoPlace => k_is)
    (case x2_NoPlace => k_is)
    (case x3_NoPlace => k_is)
    (case x4_NoPlace => k_is)
    (case x5_NoPlace => k_is)
    (case x6_NoPlace => k_is)
    (case g_FIRST_RULE => k_is)
    (case g_LAST_SIGN => k_is)

