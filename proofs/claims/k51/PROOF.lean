import PyProof.Rows.All
import Wide.All
import OpenK.AllK
import Wide.FinOn
import Lean
import PyProof.EqAt
import PyProof.EqKinds
import PyProof.TupleCall
import PyProof.NsDelKeeps
import PyProof.NeKinds
import PySem.Challenge.RW_packhall_k51_no_counts_or_number
set_option Elab.async false
set_option linter.all false
set_option maxRecDepth 100000
namespace L2
open PySem PySem.Spec PyProof.Rows
abbrev Key := Sum Int Str
def keyIs : Key → Value → Bool
  | .inl k, v => Value.isInt k v
  | .inr x, v => Value.isStrOf x v
def keyH (w : World) : Key → Int
  | .inl k => hashInt k
  | .inr x => hashStr w x
theorem keyIs_shape : ∀ {k : Key} {v : Value}, keyIs k v = true → (∃ i t, k = Sum.inl i ∧ v = Value.int i t) ∨ (∃ x t, k = Sum.inr x ∧ v = Value.str x t)
  | .inl i, v, h => by
    obtain ⟨t, e⟩ := Value.isInt_shape (k := i) (v := v) h
    exact .inl ⟨i, t, rfl, e⟩
  | .inr x, v, h => by
    obtain ⟨t, e⟩ := Value.isStrOf_shape (x := x) (v := v) h
    exact .inr ⟨x, t, rfl, e⟩
theorem keyIs_int (i : Int) (t : Tok) : keyIs (.inl i) (.int i t) = true := by simp [keyIs, Value.isInt]
theorem keyIs_str (x : Str) (t : Tok) : keyIs (.inr x) (.str x t) = true := by simp [keyIs, Value.isStrOf]
theorem key_ll (a b : Int) : decide ((Sum.inl a : Key) = Sum.inl b) = (a == b) := by
  by_cases e : a = b
  · subst e; simp
  · have h : ¬ (Sum.inl a : Key) = Sum.inl b := fun q => e (Sum.inl.inj q)
    rw [decide_eq_false h]
    exact (beq_eq_false_iff_ne.mpr e).symm
theorem key_rr (a b : Str) : decide ((Sum.inr a : Key) = Sum.inr b) = decide (a = b) := by
  by_cases e : a = b
  · subst e; simp
  · have h : ¬ (Sum.inr a : Key) = Sum.inr b := fun q => e (Sum.inr.inj q)
    rw [decide_eq_false h, decide_eq_false e]
theorem key_lr (a : Int) (b : Str) : decide ((Sum.inl a : Key) = Sum.inr b) = false := decide_eq_false (fun q => nomatch q)
theorem key_rl (a : Str) (b : Int) : decide ((Sum.inr a : Key) = Sum.inl b) = false := decide_eq_false (fun q => nomatch q)
def mixKind (prog : Program) (w : World) : PySem.KeyKind prog w Key where
  is := keyIs
  hash := keyH w
  inj := fun v a b ha hb => by
    rcases keyIs_shape ha with ⟨i, t, rfl, rfl⟩ | ⟨x, t, rfl, rfl⟩
    · rcases keyIs_shape hb with ⟨j, u, rfl, e⟩ | ⟨y, u, rfl, e⟩
      · injection e with e1 _; rw [e1]
      · exact nomatch e
    · rcases keyIs_shape hb with ⟨j, u, rfl, e⟩ | ⟨y, u, rfl, e⟩
      · exact nomatch e
      · injection e with e1 _; rw [e1]
  byValue := fun k v h => by
    rcases keyIs_shape h with ⟨i, t, rfl, rfl⟩ | ⟨x, t, rfl, rfl⟩ <;> rfl
  pyHash := fun hv h => by
    rcases keyIs_shape hv with ⟨i, t, rfl, rfl⟩ | ⟨x, t, rfl, rfl⟩
    · exact wpAny_pyHash_int h
    · exact wpAny_pyHash_str h
  eqBool := fun hu hv h => by
    rcases keyIs_shape hu with ⟨i, t, rfl, rfl⟩ | ⟨x, t, rfl, rfl⟩
    · rcases keyIs_shape hv with ⟨j, u, rfl, rfl⟩ | ⟨y, u, rfl, rfl⟩
      · rw [key_ll] at h; exact wpAny_eqBool_int h
      · rw [key_lr] at h; exact SeqAt.EqAt.int_str i t y u _ _ _ _ h
    · rcases keyIs_shape hv with ⟨j, u, rfl, rfl⟩ | ⟨y, u, rfl, rfl⟩
      · rw [key_rl] at h; exact SeqAt.EqAt.str_int x t j u _ _ _ _ h
      · rw [key_rr] at h; exact wpAny_eqBool_str h
  «strs» := fun k x t v h => by
    rcases keyIs_shape h with ⟨i, u, rfl, e⟩ | ⟨y, u, rfl, e⟩
    · exact nomatch e
    · injection e with e1 _
      subst e1
      cases v <;> rfl
theorem mixKind_int (prog : Program) (w : World) (i : Int) (t : Tok) : (mixKind prog w).is (.inl i) (.int i t) = true := keyIs_int i t
theorem mixKind_str (prog : Program) (w : World) (x : Str) (t : Tok) : (mixKind prog w).is (.inr x) (.str x t) = true := keyIs_str x t
end L2
namespace L2
open PySem PySem.Spec PyProof.Rows
inductive V where
  | non | bl (b : Bool) | int (i : Int) | str (x : Str) | byt (b : Array UInt8) | flt (b : UInt64) | ref (a : Addr) | ty (n : String)
  deriving DecidableEq
def RelV : V → Value → Prop
  | .non, u => u = Value.none
  | .bl b, u => u = Value.bool b
  | .int i, u => ∃ t, u = Value.int i t
  | .str x, u => ∃ t, u = Value.str x t
  | .byt b, u => ∃ t, u = Value.bytes b t
  | .flt b, u => ∃ t, u = Value.float b t
  | .ref a, u => u = Value.ref a
  | .ty n, u => u = Value.type n
abbrev Vals : List V → List Value → Prop := Paired RelV
theorem Vals.length {xs : List V} {us : List Value} (r : Vals xs us) : xs.length = us.length := Paired.length r
theorem Vals.get : ∀ {xs : List V} {us : List Value} {i : Nat} {x : V}, Vals xs us → xs[i]? = some x → ∃ u, us[i]? = some u ∧ RelV x u
  | _, _, _, _, .nil, e => by simp at e
  | _, _, 0, _, .cons r _, e => by simp at e; subst e; exact ⟨_, rfl, r⟩
  | _, _, i + 1, x, .cons _ t, e => by
    obtain ⟨u, h1, h2⟩ := Vals.get (i := i) (x := x) t (by simpa using e)
    exact ⟨u, by simpa using h1, h2⟩
theorem Vals.set {x : V} {u : Value} (r : RelV x u) : ∀ {xs : List V} {us : List Value} (i : Nat), Vals xs us → Vals (xs.set i x) (us.set i u)
  | _, _, _, .nil => .nil
  | _, _, 0, .cons _ t => .cons r t
  | _, _, i + 1, .cons q t => .cons q (Vals.set r i t)
theorem Vals.append : ∀ {xs ys : List V} {us ws : List Value}, Vals xs us → Vals ys ws → Vals (xs ++ ys) (us ++ ws)
  | _, _, _, _, .nil, s => s
  | _, _, _, _, .cons r t, s => .cons r (Vals.append t s)
theorem Vals.take : ∀ {xs : List V} {us : List Value} (n : Nat), Vals xs us → Vals (xs.take n) (us.take n)
  | _, _, 0, _ => .nil
  | _, _, _ + 1, .nil => .nil
  | _, _, n + 1, .cons r t => .cons r (Vals.take n t)
theorem Vals.drop : ∀ {xs : List V} {us : List Value} (n : Nat), Vals xs us → Vals (xs.drop n) (us.drop n)
  | _, _, 0, r => r
  | _, _, _ + 1, .nil => .nil
  | _, _, n + 1, .cons _ t => Vals.drop n t
def RelO : Option V → Option Value → Prop
  | some v, some u => RelV v u
  | none, none => True
  | _, _ => False
def KV {κ : Type} : List (κ × V) → List (κ × Value) → Prop := Paired fun (p : κ × V) (q : κ × Value) => p.1 = q.1 ∧ RelV p.2 q.2
def kV : Key → V
  | .inl i => .int i
  | .inr x => .str x
inductive HO where
  /-- a list -/
  | lst (xs : List V)
  /-- a tuple (never changes) -/
  | tup (xs : List V)
  /-- a dict whose keys are ints and texts; one whose keys are tuples of ints and texts (the empty one is both) -/
  | dK (kvs : List (Key × V)) | dT (kvs : List (List Key × V))
  /-- a set of ints: its members, its size -/
  | set (S : Int → Bool) (n : Nat)
  /-- an instance of the class at C, its dict at dx, its attributes -/
  | ins (C dx : Addr) (fs : List (Str × V))
  /-- the dict of the instance at x -/
  | own (x : Addr)
  /-- the dict of an exception -/
  | xd (fs : List (Str × V))
  /-- a bound method, f of x -/
  | met (f x : Addr)
  /-- a range object lo, lo + 1, .. below hi -/
  | rng (lo hi : Int)
  /-- a thing that is known to the object (the script; a dict while a loop walks it): read, never written while it is so -/
  | frz (o : Obj) (u : HO)
  /-- a code object's table -/
  | tbl (ps : Array Value)
  /-- any other thing, by what is true of its one object (a def of one's own: SetO a S n := HO.ext fun h => ..) -/
  | ext (φ : Heap → Prop)
abbrev Hp := Addr → Option HO
def upd (H : Hp) (a : Addr) (o : HO) : Hp := fun b => if b = a then some o else H b
theorem upd_same {H : Hp} {a : Addr} {o : HO} : upd H a o a = some o := by unfold upd; rw [if_pos rfl]
theorem upd_ne {H : Hp} {a b : Addr} {o : HO} (h : b ≠ a) : upd H a o b = H b := by unfold upd; rw [if_neg h]
theorem ne_of {H : Hp} {a b : Addr} {o u : HO} (h : H a = some o) (h' : H b = some u) (d : o ≠ u) : a ≠ b := by
  intro e; subst e; rw [h] at h'; exact d (Option.some.inj h')
theorem ne_of_none {H : Hp} {a b : Addr} {o : HO} (h : H a = some o) (h' : H b = none) : a ≠ b := by
  intro e; subst e; rw [h] at h'; cases h'
section
variable (P : Program) (w : World)
def ObjOk (H : Hp) (h : Heap) (a : Addr) : HO → Prop
  | .lst xs => xs.length ≤ sizeLine ∧ ∃ (its : List Value) (n : Nat), Vals xs its ∧ h.get? a = some { cls := .type "list", data := .seq its.toArray n }
  | .tup xs => xs.length ≤ sizeLine ∧ ∃ its : List Value, Vals xs its ∧ IsTup h a its.toArray
  | .dK kvs => kvs.length ≤ sizeLine ∧ (a == sysModules) = false ∧ ∃ vs, KV kvs vs ∧ h.DictOf (mixKind P w) a vs
  | .dT kvs => kvs.length ≤ sizeLine ∧ (a == sysModules) = false ∧ ∃ xs : List (List Key × Addr × Value),
      Paired (fun (p : List Key × V) (q : List Key × Addr × Value) => p.1 = q.1 ∧ H q.2.1 = some (.tup (p.1.map kV)) ∧ RelV p.2 q.2.2) kvs xs ∧
      ∃ o es ep, h.get? a = some o ∧ o.ExactDict ∧ o.data = .dict es ep ∧ es.toList = xs.map (entryOfKey (tupleKind (mixKind P w))) ∧ (xs.map (·.1)).Nodup
  | .set S n => h.SetOf (intKind P w) a S n
  | .ins C dx fs => H dx = some (.own a) ∧ fs.length ≤ 1000 ∧ dx ≠ a ∧ h.get? a = some (PySem.W.instObj C dx) ∧
      ∃ mA, h.Ns1 dx mA ∧ (∀ f, RelO (fs.lookup f) (mA f)) ∧ PySem.Within mA (fs.map (·.1))
  | .own _ => ∃ o, h.get? a = some o
  | .xd fs => ∃ mA, h.Ns1 a mA ∧ ∀ f, RelO (fs.lookup f) (mA f)
  | .rng lo hi => ∃ t u v, h.get? a = some { cls := .type "range", data := .fields #[.int lo t, .int hi u, .int 1 v] }
  | .frz o u => h.get? a = some o ∧ ObjOk H h a u
  | .tbl ps => h.get? a = some { cls := .none, data := .fields ps }
  | .met f x => h.get? a = some (PySem.W.methodObj (.ref f) (.ref x))
  | .ext φ => φ h ∧ (∃ o, h.get? a = some o) ∧ ∀ h1 h2 : Heap, φ h1 → (∀ o, h1.get? a = some o → h2.get? a = some o) → φ h2
def HOk (H : Hp) (h : Heap) : Prop := ∀ a o, H a = some o → ObjOk P w H h a o
end
section
variable {P : Program} {w : World} {H H' : Hp} {h h' : Heap} {a : Addr} {o : HO}
theorem ObjOk.lt (x : ObjOk P w H h a o) : a < h.objs.size := by
  cases o with
  | lst xs => obtain ⟨_, _, _, _, e⟩ := x; exact Heap.lt_size e
  | tup xs => obtain ⟨_, _, _, p⟩ := x; exact p.lt
  | dK kvs => obtain ⟨_, _, _, _, o, _, _, e, _⟩ := x; exact Heap.lt_size e
  | dT kvs => obtain ⟨_, _, _, _, o, _, _, e, _⟩ := x; exact Heap.lt_size e
  | set S n => obtain ⟨o, _, _, _, e, _⟩ := x; exact Heap.lt_size e
  | ins C dx fs => obtain ⟨_, _, _, e, _⟩ := x; exact Heap.lt_size e
  | own y => obtain ⟨_, e⟩ := x; exact Heap.lt_size e
  | xd fs => obtain ⟨_, ⟨_, _, _, e, _⟩, _⟩ := x; exact Heap.lt_size e
  | rng lo hi => obtain ⟨_, _, _, e⟩ := x; exact Heap.lt_size e
  | frz ob u => obtain ⟨e, _⟩ := x; exact Heap.lt_size e
  | tbl ps => exact Heap.lt_size (show h.get? a = some _ from x)
  | met f y => exact Heap.lt_size (show h.get? a = some _ from x)
  | ext φ => obtain ⟨_, ⟨_, e⟩, _⟩ := x; exact Heap.lt_size e
theorem Paired.mapP {α β : Type} {F G : α → β → Prop} : ∀ {l₁ : List α} {l₂ : List β}, Paired F l₁ l₂ → (∀ a b, F a b → G a b) → Paired G l₁ l₂
  | _, _, .nil, _ => .nil
  | _, _, .cons r t, f => .cons (f _ _ r) (Paired.mapP t f)
theorem ObjOk.stay (x : ObjOk P w H h a o) (k : ∀ b u, (b = a ∨ H b = some (.own a)) → h.get? b = some u → h'.get? b = some u)
    (ho : ∀ b, H b = some (.own a) → H' b = some (.own a)) (ht : ∀ b xs, H b = some (.tup xs) → H' b = some (.tup xs)) : ObjOk P w H' h' a o := by
  induction o with
  | lst xs => obtain ⟨z, its, n, r, e⟩ := x; exact ⟨z, its, n, r, k _ _ (.inl rfl) e⟩
  | tup xs => obtain ⟨z, its, r, ob, e, c⟩ := x; exact ⟨z, its, r, ob, k _ _ (.inl rfl) e, c⟩
  | dK kvs => obtain ⟨z, y, vs, r, ob, es, ep, e, c⟩ := x; exact ⟨z, y, vs, r, ob, es, ep, k _ _ (.inl rfl) e, c⟩
  | dT kvs =>
    obtain ⟨z, y, xs, r, ob, es, ep, e, c⟩ := x
    exact ⟨z, y, xs, Paired.mapP r fun p q z => ⟨z.1, ht _ _ z.2.1, z.2.2⟩, ob, es, ep, k _ _ (.inl rfl) e, c⟩
  | set S n => obtain ⟨ob, es, ep, t, e, c⟩ := x; exact ⟨ob, es, ep, t, k _ _ (.inl rfl) e, c⟩
  | ins C dx fs =>
    obtain ⟨d, z, ne, e, mA, ⟨od, es, ep, e2, c⟩, r⟩ := x
    exact ⟨ho _ d, z, ne, k _ _ (.inl rfl) e, mA, ⟨od, es, ep, k _ _ (.inr d) e2, c⟩, r⟩
  | own y => obtain ⟨ob, e⟩ := x; exact ⟨ob, k _ _ (.inl rfl) e⟩
  | xd fs => obtain ⟨mA, ⟨od, es, ep, e, c⟩, r⟩ := x; exact ⟨mA, ⟨od, es, ep, k _ _ (.inl rfl) e, c⟩, r⟩
  | rng lo hi => obtain ⟨t, u, v, e⟩ := x; exact ⟨t, u, v, k _ _ (.inl rfl) e⟩
  | frz ob u ih => obtain ⟨e, q⟩ := x; exact ⟨k _ _ (.inl rfl) e, ih q⟩
  | tbl ps =>
    have e : h.get? a = some { cls := .none, data := .fields ps } := x
    show h'.get? a = some { cls := .none, data := .fields ps }
    exact k a _ (.inl rfl) e
  | met f y =>
    have e : h.get? a = some (PySem.W.methodObj (.ref f) (.ref y)) := x
    show h'.get? a = some (PySem.W.methodObj (.ref f) (.ref y))
    exact k a _ (.inl rfl) e
  | ext φ => obtain ⟨p, ⟨o, e⟩, st⟩ := x; exact ⟨st _ _ p fun o q => k _ _ (.inl rfl) q, ⟨o, k _ _ (.inl rfl) e⟩, st⟩
theorem HOk.lt (x : HOk P w H h) (e : H a = some o) : a < h.objs.size := (x a o e).lt
theorem HOk.fresh (x : HOk P w H h) (e : h.objs.size ≤ a) : H a = none := by
  cases q : H a with
  | none => rfl
  | some u => exact absurd (Nat.lt_of_lt_of_le (x.lt q) e) (Nat.lt_irrefl _)
theorem HOk.kept (x : HOk P w H h) (k : ∀ b u, h.get? b = some u → h'.get? b = some u) : HOk P w H h' := fun a o e =>
  (x a o e).stay (fun b u _ q => k b u q) (fun _ q => q) fun _ _ q => q
theorem HOk.laid (x : HOk P w H h) (k : ∀ b u, h.get? b = some u → h'.get? b = some u) (hp : h.objs.size ≤ a) (new : ObjOk P w (upd H a o) h' a o) : HOk P w (upd H a o) h' := fun b u e => by
  have hn := x.fresh hp
  by_cases hb : b = a
  · subst hb; rw [upd_same] at e; cases e; exact new
  · rw [upd_ne hb] at e
    exact (x b u e).stay (fun c v _ q => k c v q) (fun c q => by rw [upd_ne (ne_of_none q hn)]; exact q) fun c xs q => by rw [upd_ne (ne_of_none q hn)]; exact q
end
def Rd (H : Hp) (a : Addr) (u : HO) : Prop := H a = some u ∨ ∃ o, H a = some (.frz o u)
theorem Rd.of {H : Hp} {a : Addr} {u : HO} (h : H a = some u) : Rd H a u := .inl h
theorem Rd.ok {P : Program} {w : World} {H : Hp} {h : Heap} {a : Addr} {u : HO} (r : Rd H a u) (x : HOk P w H h) : ObjOk P w H h a u := by
  rcases r with r | ⟨o, r⟩
  · exact x a u r
  · obtain ⟨_, q⟩ := x a _ r
    exact q
def Mut : Option HO → Prop
  | some (.lst _) => True
  | some (.dK _) => True
  | some (.dT _) => True
  | some (.set _ _) => True
  | some (.ins _ _ _) => True
  | some (.ext _) => True
  | _ => False
section
variable {P : Program} {w : World} {H : Hp} {h h' : Heap} {x e : Addr} {o' : HO}
theorem HOk.write (ok : HOk P w H h) (mu : Mut (H x)) (he : e = x ∨ H e = some (.own x)) (k : ∀ b u, b ≠ e → h.get? b = some u → h'.get? b = some u) (heo : ∃ u, h'.get? e = some u)
    (new : ObjOk P w (upd H x o') h' x o') : HOk P w (upd H x o') h' := fun b u q => by
  have nown : ∀ c y, H c = some (.own y) → c ≠ x := fun c y r z => by subst z; rw [r] at mu; exact mu
  have ntup : ∀ c xs, H c = some (.tup xs) → c ≠ x := fun c xs r z => by subst z; rw [r] at mu; exact mu
  by_cases hb : b = x
  · subst hb; rw [upd_same] at q; cases q; exact new
  · rw [upd_ne hb] at q
    by_cases hbe : b = e
    · have q' : H b = some (.own x) := by
        rcases he with z | z
        · exact absurd (hbe.trans z) hb
        · rw [hbe]; exact z
      rw [q] at q'; cases q'
      obtain ⟨v, hv⟩ := heo
      exact ⟨v, by rw [hbe]; exact hv⟩
    · refine (ok b u q).stay (fun c v hc r => k c v ?_ r) (fun c r => by rw [upd_ne (nown c b r)]; exact r) fun c xs r => by rw [upd_ne (ntup c xs r)]; exact r
      rcases hc with rfl | hc
      · exact hbe
      · rintro rfl
        rcases he with z | z
        · exact nown c b hc z
        · rw [hc] at z; cases z; exact hb rfl
end
structure Un (fs ex : List Addr) (H H' : Hp) (h h' : Heap) : Prop where
  keep : ∀ b o, h.get? b = some o → H b = none → b ∉ fs → b ∉ ex → h'.get? b = some o
  slot : ∀ b o, h.get? b = some o → H b = none → b ∈ fs → b ∉ ex → ∃ sl, h'.get? b = some { o with slots := sl }
  free : ∀ b o, h.get? b = some o → H b = none → b ∉ ex → H' b = none
  there : ∀ b o, h.get? b = some o → b ∉ ex → ∃ o', h'.get? b = some o'
  tups : ∀ b xs, H b = some (.tup xs) → H' b = some (.tup xs)
  frzs : ∀ b o u, H b = some (.frz o u) → H' b = some (.frz o u)
  tbls : ∀ b ps, H b = some (.tbl ps) → ∃ more, H' b = some (.tbl (ps ++ more))
section
variable {fs fs' ex ex' : List Addr} {H H1 H2 : Hp} {h h1 h2 h' : Heap} {a x e : Addr} {o : HO}
theorem Un.any (u : Un fs ex H H1 h h1) {b : Addr} {ob : Obj} (q : h.get? b = some ob) (n : H b = none) (hx : b ∉ ex) : ∃ sl, h1.get? b = some { ob with slots := sl } := by
  by_cases hb : b ∈ fs
  · exact u.slot b ob q n hb hx
  · exact ⟨ob.slots, u.keep b ob q n hb hx⟩
theorem Un.trans (a : Un fs ex H H1 h h1) (b : Un fs ex H1 H2 h1 h2) : Un fs ex H H2 h h2 where
  keep := fun c ob q n hc hx => b.keep c ob (a.keep c ob q n hc hx) (a.free c ob q n hx) hc hx
  slot := fun c ob q n hc hx => by
    obtain ⟨sl, e1⟩ := a.slot c ob q n hc hx
    obtain ⟨sl', e2⟩ := b.slot c _ e1 (a.free c ob q n hx) hc hx
    exact ⟨sl', e2⟩
  free := fun c ob q n hx => by
    obtain ⟨o', e1⟩ := a.there c ob q hx
    exact b.free c o' e1 (a.free c ob q n hx) hx
  there := fun c ob q hx => by
    obtain ⟨o', e1⟩ := a.there c ob q hx
    exact b.there c o' e1 hx
  tups := fun c xs q => b.tups c xs (a.tups c xs q)
  frzs := fun c ob xs q => b.frzs c ob xs (a.frzs c ob xs q)
  tbls := fun c ps q => by
    obtain ⟨m1, e1⟩ := a.tbls c ps q
    obtain ⟨m2, e2⟩ := b.tbls c _ e1
    exact ⟨m1 ++ m2, by rw [e2, Array.append_assoc]⟩
theorem Un.kept (k : ∀ b u, h.get? b = some u → h'.get? b = some u) : Un fs ex H H h h' :=
  ⟨fun b ob q _ _ _ => k b ob q, fun b ob q _ _ _ => ⟨ob.slots, k b ob q⟩, fun _ _ _ n _ => n, fun b ob q _ => ⟨ob, k b ob q⟩, fun _ _ q => q, fun _ _ _ q => q, fun _ ps q => ⟨#[], by rw [q]; simp⟩⟩
theorem Un.refl : Un fs ex H H h h := Un.kept fun _ _ q => q
theorem Un.laid (k : ∀ b u, h.get? b = some u → h'.get? b = some u) (hp : h.objs.size ≤ a) (hn : H a = none) : Un fs ex H (upd H a o) h h' where
  keep := fun b u q _ _ _ => k b u q
  slot := fun b u q _ _ _ => ⟨u.slots, k b u q⟩
  free := fun b u q n _ => by rw [upd_ne (Nat.ne_of_lt (Nat.lt_of_lt_of_le (Heap.lt_size q) hp))]; exact n
  there := fun b u q _ => ⟨u, k b u q⟩
  tups := fun b xs q => by rw [upd_ne (ne_of_none q hn)]; exact q
  frzs := fun b u xs q => by rw [upd_ne (ne_of_none q hn)]; exact q
  tbls := fun b ps q => ⟨#[], by rw [upd_ne (ne_of_none q hn), q]; simp⟩
theorem Un.write (mu : Mut (H x)) (he : e = x ∨ H e = some (.own x)) (k : ∀ b u, b ≠ e → h.get? b = some u → h'.get? b = some u) (heo : ∃ u, h'.get? e = some u) : Un fs ex H (upd H x o) h h' := by
  have hx : ∀ b, H b = none → b ≠ x := fun b n z => by subst z; rw [n] at mu; exact mu
  have hb : ∀ b, H b = none → b ≠ e := fun b n z => by
    subst z
    rcases he with r | r
    · exact hx b n r
    · rw [n] at r; cases r
  have hm : ∀ b u, H b = some u → ¬ Mut (some u) → b ≠ x := fun b u q nm z => by subst z; rw [q] at mu; exact nm mu
  refine ⟨fun b u q n _ _ => k b u (hb b n) q, fun b u q n _ _ => ⟨u.slots, k b u (hb b n) q⟩, fun b u q n _ => by rw [upd_ne (hx b n)]; exact n, fun b u q _ => ?_,
    fun b xs q => by rw [upd_ne (hm b _ q fun z => z)]; exact q, fun b u xs q => by rw [upd_ne (hm b _ q fun z => z)]; exact q, fun b ps q => ⟨#[], by rw [upd_ne (hm b _ q fun z => z), q]; simp⟩⟩
  by_cases hbe : b = e
  · subst hbe; exact heo
  · exact ⟨u, k b u hbe q⟩
theorem Un.mono (u : Un fs ex H H1 h h1) (hs : ∀ b ∈ fs, b ∈ fs') (hx : ∀ b ∈ ex, b ∈ ex') : Un fs' ex' H H1 h h1 :=
  ⟨fun b ob q n hb he => u.keep b ob q n (fun z => hb (hs b z)) fun z => he (hx b z), fun _ _ q n _ he => u.any q n fun z => he (hx _ z), fun b ob q n he => u.free b ob q n fun z => he (hx b z), fun b ob q he => u.there b ob q fun z => he (hx b z), u.tups, u.frzs, u.tbls⟩
end
def trk (h : Heap) (H : Hp) : List Addr := (List.range h.objs.size).filter fun a => (H a).isSome
def hidT (h : Heap) (H : Hp) : Heap := PySem.W.hideAll h (trk h H)
theorem hidT_size (h : Heap) (H : Hp) : (hidT h H).objs.size = h.objs.size := PySem.W.hideAll_size _ _
theorem hidT_get {h : Heap} {H : Hp} {b : Addr} {o : Obj} (e : h.get? b = some o) (n : H b = none) : (hidT h H).get? b = some o :=
  PySem.W.hideAll_get _ e fun hm => by
    have q : (H b).isSome = true := (List.mem_filter.mp hm).2
    rw [n] at q; simp at q
theorem of_hidT {h : Heap} {H : Hp} {b : Addr} {o : Obj} (e : (hidT h H).get? b = some o) : h.get? b = some o ∧ H b = none := by
  have e' : h.get? b = some o := PySem.W.of_hideAll (trk h H) e
  refine ⟨e', ?_⟩
  cases q : H b with
  | none => rfl
  | some x =>
    have hm : b ∈ trk h H := List.mem_filter.mpr ⟨List.mem_range.mpr (Heap.lt_size e'), by simp [q]⟩
    have z : (hidT h H).get? b = none := PySem.W.hideAll_none (trk h H) hm
    rw [z] at e; cases e
def allNews (g h : Heap) (L : Addr) : List (Addr × Obj) := (List.range h.objs.size).filterMap fun a => if a = L ∨ (g.get? a).isSome = true then none else (h.get? a).map fun o => (a, o)
def rest (g h : Heap) (L d : Addr) : List (Addr × Obj) := (allNews g h L).filter fun p => decide (p.1 ≠ d)
end L2
namespace L2
open PySem PySem.Spec PyProof.Rows
structure Mod (K : PySem.W.Frag) (mg : Str → Option Value) (base : Heap) : Prop where
  kin : K.In base
  glob : base.Ns mainGlobals mg
  blt : ∃ mb, base.Ns builtinsNs mb ∧ ∀ x : Str, x ≠ "__name__" → mb x = bootBuiltins x
  nolimit : base.NoLimit
structure Cx where
  prog : Program
  w : World
  K : PySem.W.Frag
  mg : Str → Option Value
  base : Heap
  A : Around
  N : List Str
  s₀ : Shared
  H₀ : Hp
  env : Env
  outer : List Env
  stack : List Env
  ex : List Addr
  fn : Str → Bool
  calm : Bool
  pn : List (Addr × Obj)
  xe : Value → Shared → Prop
def frs (l : List Env) : List Addr := l.filterMap (·.frame)
abbrev Cx.fs (X : Cx) : List Addr := frs X.outer
def Vis (sc : Scope) (x : Str) : Prop := sc.names.lookup x = some .local ∨ sc.names.lookup x = some .cell ∨ sc.names.lookup x = some .free
def Loc (sc : Scope) (x : Str) : Prop := sc.names.lookup x = some .local ∨ sc.names.lookup x = some .cell
def Look (env : Env) (h : Heap) (m : Str → Option Value) (x : Str) (u : Value) : Prop :=
  (env.kindOf x = some .local ∧ m x = some u) ∨ ((env.kindOf x = some .cell ∨ env.kindOf x = some .free) ∧ ∃ c, env.cells.lookup x = some c ∧ h.IsCell c (some u))
structure Cx.Ok (X : Cx) : Prop where
  mod : Mod X.K X.mg X.base
  kind : X.env.scope.kind = .function
  glob : X.env.globals = mainGlobals
  blt : X.env.builtins = builtinsNs
  above : X.s₀.heap.objs.size ≤ X.env.locals
  inj : ∀ x y c, X.env.cells.lookup x = some c → X.env.cells.lookup y = some c → x = y
  has : ∀ x, (X.env.kindOf x = some .cell ∨ X.env.kindOf x = some .free) → ∃ c, X.env.cells.lookup x = some c
  cab : ∀ x c, X.fn x = true → X.env.cells.lookup x = some c → X.s₀.heap.objs.size ≤ c
  hd : X.calm = true → X.A.handled = none
  frames : X.A.frames = some X.stack
  stk : X.stack = X.outer ∨ (X.stack = X.env :: X.outer ∧ X.env.frame = some X.env.locals)
  exf : ∀ b ∈ X.ex, b ≠ X.env.locals ∧ ∀ x c, X.env.cells.lookup x = some c → c ≠ b
  bs : ∀ b o, X.base.get? b = some o → X.s₀.heap.get? b = some o ∧ X.H₀ b = none
  bsz : X.base.objs.size ≤ X.s₀.heap.objs.size
  noex : ∀ b o, X.base.get? b = some o → b ∉ X.ex
  exfs : ∀ b ∈ X.ex, b ∉ X.fs
  funs : X.s₀.heap.FunFrames X.base X.outer
  frf : ∀ b ∈ X.fs, X.H₀ b = none
structure Inv (X : Cx) (pins : List (Addr × Obj)) (σ : List (Option V)) (H : Hp) (s : Shared) : Prop where
  ok : X.Ok
  os : s.os = X.s₀.os
  bare : AllBare s.gens
  base : Un X.fs X.ex X.H₀ H X.s₀.heap s.heap
  loc : ∃ m, s.heap.Ns X.env.locals m ∧ ∀ (i : Nat) (x : Str) (v : V), X.N[i]? = some x → σ[i]? = some (some v) → Vis X.env.scope x → ∃ u, RelV v u ∧ Look X.env s.heap m x u
  cell : ∀ x c, X.env.cells.lookup x = some c → ∃ v, s.heap.IsCell c v
  free : H X.env.locals = none
  freeC : ∀ x c, X.env.cells.lookup x = some c → H c = none
  pin : ∀ p ∈ X.pn ++ pins, s.heap.get? p.1 = some p.2 ∧ H p.1 = none ∧ p.1 ≠ X.env.locals ∧ p.1 ∉ X.fs ∧ ∀ v, p.2.data ≠ .cell v
  hok : HOk X.prog X.w H s.heap
  len : σ.length = X.N.length
section
variable {X : Cx} {pins : List (Addr × Obj)} {σ : List (Option V)} {H H' : Hp} {s : Shared} {h' : Heap}
theorem Cx.Ok.nofr (ok : X.Ok) {b : Addr} {o : Obj} (e : X.base.get? b = some o) : b ∉ X.fs := fun hb => by
  have := (ok.funs.mem hb).1
  rw [e] at this; cases this
theorem Inv.bs (I : Inv X pins σ H s) : ∀ b o, X.base.get? b = some o → s.heap.get? b = some o ∧ H b = none := fun b o e =>
  ⟨I.base.keep b o (I.ok.bs b o e).1 (I.ok.bs b o e).2 (I.ok.nofr e) (I.ok.noex b o e), I.base.free b o (I.ok.bs b o e).1 (I.ok.bs b o e).2 (I.ok.noex b o e)⟩
theorem Inv.bk (I : Inv X pins σ H s) : ∀ b o, X.base.get? b = some o → s.heap.get? b = some o := fun b o e => (I.bs b o e).1
theorem Inv.mod (I : Inv X pins σ H s) : Mod X.K X.mg X.base := I.ok.mod
theorem Inv.kIn (I : Inv X pins σ H s) : X.K.In s.heap := I.ok.mod.kin.keeps I.bk
theorem Inv.nolimit (I : Inv X pins σ H s) : s.heap.NoLimit := I.ok.mod.nolimit.keeps I.bk
theorem Inv.fr (I : Inv X pins σ H s) : ∃ m, Fr X.base X.env.locals s.heap m :=
  let ⟨m, hn, _⟩ := I.loc
  ⟨m, hn, I.bk, Nat.le_trans I.ok.bsz I.ok.above⟩
theorem Inv.lt (I : Inv X pins σ H s) : X.env.locals < s.heap.objs.size := let ⟨_, hn, _⟩ := I.loc; hn.lt
theorem Inv.sz (I : Inv X pins σ H s) : X.s₀.heap.objs.size ≤ s.heap.objs.size := Nat.le_trans I.ok.above (Nat.le_of_lt I.lt)
theorem Inv.nofs (I : Inv X pins σ H s) {a : Addr} (h : s.heap.objs.size ≤ a) : a ∉ X.fs := fun hb => by
  obtain ⟨_, o, ho, _⟩ := I.ok.funs.mem hb
  exact absurd (Nat.lt_of_lt_of_le (Heap.lt_size ho) (Nat.le_trans I.sz h)) (Nat.lt_irrefl _)
theorem Inv.cne (I : Inv X pins σ H s) : ∀ x c, X.env.cells.lookup x = some c → c ≠ X.env.locals := fun x c e z => by
  obtain ⟨v, o, ho, hd⟩ := I.cell x c e
  obtain ⟨m, ⟨o', es, ep, ho', hd', _⟩, _⟩ := I.loc
  rw [z, ho'] at ho; cases ho; rw [hd'] at hd; cases hd
theorem Inv.funs (I : Inv X pins σ H s) : s.heap.FunFrames X.base X.outer := by
  have all : ∀ (l : List Env), (∀ b ∈ frs l, b ∈ X.fs) → X.s₀.heap.FunFrames X.base l → s.heap.FunFrames X.base l := by
    intro l
    induction l with
    | nil => intro _ _; trivial
    | cons env r ih =>
      intro hs hl
      obtain ⟨hk, ⟨L, o, hf, hn, ho, hd⟩, hr⟩ := hl
      have hL : L ∈ X.fs := hs L (by unfold frs; rw [List.filterMap_cons, hf]; exact List.mem_cons_self)
      obtain ⟨sl, e⟩ := I.base.slot L o ho (I.ok.frf L hL) hL fun z => I.ok.exfs L z hL
      exact ⟨hk, ⟨L, _, hf, hn, e, hd⟩, ih (fun b hb => hs b (by unfold frs; rw [List.filterMap_cons, hf]; exact List.mem_cons_of_mem _ hb)) hr⟩
  exact all X.outer (fun _ hb => hb) I.ok.funs
theorem Inv.stack (I : Inv X pins σ H s) : s.heap.FunFrames X.base X.stack := by
  rcases I.ok.stk with e | ⟨e, hf⟩
  · rw [e]; exact I.funs
  · rw [e]
    obtain ⟨m, hn, _⟩ := I.loc
    refine .cons (by rw [I.ok.kind]; decide) hf hn ?_ I.funs
    exact Heap.get?_none_of_le (Nat.le_trans I.ok.bsz I.ok.above)
theorem Inv.stkSub (I : Inv X pins σ H s) : ∀ b ∈ frs X.stack, b ∈ X.env.locals :: X.fs := fun b hb => by
  rcases I.ok.stk with e | ⟨e, hf⟩
  · rw [e] at hb; exact List.mem_cons_of_mem _ hb
  · rw [e] at hb
    unfold frs at hb
    rw [List.filterMap_cons, hf] at hb
    exact hb
theorem Inv.stkFree (I : Inv X pins σ H s) : ∀ b ∈ frs X.stack, H b = none := fun b hb => by
  rcases List.mem_cons.mp (I.stkSub b hb) with e | hb
  · rw [e]; exact I.free
  · obtain ⟨_, o, ho, _⟩ := I.ok.funs.mem hb
    exact I.base.free b o ho (I.ok.frf b hb) fun z => I.ok.exfs b z hb
theorem Inv.step {g' : Array GenState} {t' : Nat} {d' : Drawn} {ch : List Addr} (I : Inv X pins σ H s)
    (hch : ∀ b ∈ ch, (b ∈ X.ex ∨ X.s₀.heap.objs.size ≤ b) ∧ b ≠ X.env.locals ∧ (∀ x c, X.env.cells.lookup x = some c → c ≠ b) ∧ ∀ p ∈ X.pn ++ pins, p.1 ≠ b)
    (keep : ∀ b o, b ≠ X.env.locals → b ∉ X.fs → b ∉ ch → s.heap.get? b = some o → H b = none → h'.get? b = some o)
    (slot : ∀ b o, b ≠ X.env.locals → b ∈ X.fs → b ∉ ch → s.heap.get? b = some o → H b = none → ∃ sl, h'.get? b = some { o with slots := sl }) (free : ∀ b o, b ∉ ch → s.heap.get? b = some o → H b = none → H' b = none)
    (there : ∀ b o, b ∉ ch → s.heap.get? b = some o → ∃ o', h'.get? b = some o')
    (tups : ∀ b xs, H b = some (.tup xs) → H' b = some (.tup xs)) (frzs : ∀ b o u, H b = some (.frz o u) → H' b = some (.frz o u)) (tbls : ∀ b ps, H b = some (.tbl ps) → ∃ more, H' b = some (.tbl (ps ++ more)))
    (ns : ∀ m, s.heap.Ns X.env.locals m → h'.Ns X.env.locals m) (hok : HOk X.prog X.w H' h') (hg : AllBare g') :
    Inv X pins σ H' { s with heap := h', gens := g', drawn := d', toks := t' } := by
  have neL : ∀ b o, X.s₀.heap.get? b = some o → b ≠ X.env.locals := fun b o e => Nat.ne_of_lt (Nat.lt_of_lt_of_le (Heap.lt_size e) I.ok.above)
  have neC : ∀ b o, X.s₀.heap.get? b = some o → b ∉ X.ex → b ∉ ch := fun b o e hx hb => by
    rcases (hch b hb).1 with z | z
    · exact hx z
    · exact absurd (Nat.lt_of_lt_of_le (Heap.lt_size e) z) (Nat.lt_irrefl _)
  have cellK : ∀ x c, X.env.cells.lookup x = some c → ∀ v, s.heap.IsCell c v → h'.IsCell c v := fun x c e v ⟨o, ho, hd⟩ => by
    have nch : c ∉ ch := fun z => (hch c z).2.2.1 x c e rfl
    by_cases hc : c ∈ X.fs
    · obtain ⟨sl, q⟩ := slot c o (I.cne x c e) hc nch ho (I.freeC x c e)
      exact ⟨_, q, hd⟩
    · exact ⟨o, keep c o (I.cne x c e) hc nch ho (I.freeC x c e), hd⟩
  refine ⟨I.ok, I.os, hg, ⟨fun b o e n hb hx => ?_, fun b o e n hb hx => ?_, fun b o e n hx => ?_, fun b o e hx => ?_, fun b xs e => tups b xs (I.base.tups b xs e), fun b o xs e => frzs b o xs (I.base.frzs b o xs e), fun b ps e => ?_⟩, ?_, fun x c e => ?_, ?_, fun x c e => ?_, fun p hp => ?_, hok, I.len⟩
  · exact keep b o (neL b o e) hb (neC b o e hx) (I.base.keep b o e n hb hx) (I.base.free b o e n hx)
  · obtain ⟨sl, e1⟩ := I.base.slot b o e n hb hx
    obtain ⟨sl', e2⟩ := slot b _ (neL b o e) hb (neC b o e hx) e1 (I.base.free b o e n hx)
    exact ⟨sl', e2⟩
  · obtain ⟨o', e1⟩ := I.base.there b o e hx
    exact free b o' (neC b o e hx) e1 (I.base.free b o e n hx)
  · obtain ⟨o', e1⟩ := I.base.there b o e hx
    exact there b o' (neC b o e hx) e1
  · obtain ⟨m1, e1⟩ := I.base.tbls b ps e
    obtain ⟨m2, e2⟩ := tbls b _ e1
    exact ⟨m1 ++ m2, by rw [e2, Array.append_assoc]⟩
  · obtain ⟨m, hn, hl⟩ := I.loc
    refine ⟨m, ns m hn, fun i x v e1 e2 e3 => ?_⟩
    obtain ⟨u, r, l⟩ := hl i x v e1 e2 e3
    refine ⟨u, r, ?_⟩
    rcases l with l | ⟨k, c, e, z⟩
    · exact .inl l
    · exact .inr ⟨k, c, e, cellK x c e _ z⟩
  · obtain ⟨v, z⟩ := I.cell x c e
    exact ⟨v, cellK x c e v z⟩
  · obtain ⟨m, ⟨o, _, _, ho, _⟩, _⟩ := I.loc
    exact free _ o (fun z => (hch _ z).2.1 rfl) ho I.free
  · obtain ⟨v, o, ho, hd⟩ := I.cell x c e
    exact free c o (fun z => (hch c z).2.2.1 x c e rfl) ho (I.freeC x c e)
  · obtain ⟨e, n, ne, nf, d⟩ := I.pin p hp
    have nch : p.1 ∉ ch := fun z => (hch p.1 z).2.2.2 p hp rfl
    exact ⟨keep p.1 p.2 ne nf nch e n, free p.1 p.2 nch e n, ne, nf, d⟩
theorem Inv.un {t' : Nat} (I : Inv X pins σ H s) (u : Un X.fs [] H H' s.heap h') (hok : HOk X.prog X.w H' h') : Inv X pins σ H' { s with heap := h', toks := t' } := by
  obtain ⟨m, ⟨o, es, ep, ho, r⟩, _⟩ := id I.loc
  obtain ⟨sl, hL⟩ := u.any ho I.free (by simp)
  exact I.step (g' := s.gens) (d' := s.drawn) (ch := []) (fun _ z => nomatch z) (fun b o _ hb _ e n => u.keep b o e n hb (by simp)) (fun b o _ hb _ e n => u.slot b o e n hb (by simp)) (fun b o _ e n => u.free b o e n (by simp)) (fun b o _ e => u.there b o e (by simp)) u.tups u.frzs u.tbls (fun m' hm => by
    obtain ⟨o', es', ep', ho', r'⟩ := hm
    rw [ho] at ho'; cases ho'
    exact ⟨_, es', ep', hL, r'⟩) hok I.bare
theorem Inv.call {g' : Array GenState} {t' : Nat} {d' : Drawn} {ch : List Addr} (I : Inv X pins σ H s) (u : Un (frs X.stack) ch H H' s.heap h') (hok : HOk X.prog X.w H' h') (hg : AllBare g')
    (hch : ∀ b ∈ ch, (b ∈ X.ex ∨ X.s₀.heap.objs.size ≤ b) ∧ b ≠ X.env.locals ∧ (∀ x c, X.env.cells.lookup x = some c → c ≠ b) ∧ ∀ p ∈ X.pn ++ pins, p.1 ≠ b) :
    Inv X pins σ H' { s with heap := h', gens := g', drawn := d', toks := t' } := by
  obtain ⟨m, ⟨o, es, ep, ho, r⟩, _⟩ := id I.loc
  obtain ⟨sl, hL⟩ := u.any ho I.free fun z => (hch _ z).2.1 rfl
  exact I.step (ch := ch) hch (fun b o hL hb hc e n => u.keep b o e n (fun z => (List.mem_cons.mp (I.stkSub b z)).elim hL hb) hc) (fun b o _ _ hc e n => u.any e n hc) (fun b o hc e n => u.free b o e n hc) (fun b o hc e => u.there b o e hc) u.tups u.frzs u.tbls (fun m' hm => by
    obtain ⟨o', es', ep', ho', r'⟩ := hm
    rw [ho] at ho'; cases ho'
    exact ⟨_, es', ep', hL, r'⟩) hok hg
theorem Inv.turned {t' : Nat} {it : Addr} (I : Inv X pins σ H s) (k : ∀ b o, b ≠ it → s.heap.get? b = some o → h'.get? b = some o) (hn : H it = none) (hL : it ≠ X.env.locals)
    (h1 : it ∈ X.ex ∨ X.s₀.heap.objs.size ≤ it) (h2 : ∀ x c, X.env.cells.lookup x = some c → c ≠ it) (h3 : ∀ p ∈ X.pn ++ pins, p.1 ≠ it) : Inv X pins σ H { s with heap := h', toks := t' } := by
  have nit : ∀ b u, H b = some u → b ≠ it := fun b u e z => by rw [z, hn] at e; cases e
  refine I.step (g' := s.gens) (d' := s.drawn) (ch := [it]) (fun b hb => ?_) (fun b o _ _ hc e _ => k b o (fun z => hc (by simp [z])) e) (fun b o _ _ hc e _ => ⟨o.slots, k b o (fun z => hc (by simp [z])) e⟩) (fun _ _ _ _ n => n)
    (fun b o hc e => ⟨o, k b o (fun z => hc (by simp [z])) e⟩) (fun _ _ e => e) (fun _ _ _ e => e) (fun b ps e => ⟨#[], by rw [e]; simp⟩) (fun m hm => ?_) (fun b u e => ?_) I.bare
  · have e : b = it := by simpa using hb
    subst e
    exact ⟨h1, hL, h2, h3⟩
  · obtain ⟨o, es, ep, ho, r⟩ := hm
    exact ⟨o, es, ep, k _ o (Ne.symm hL) ho, r⟩
  · refine (I.hok b u e).stay (fun c v hc q => k c v ?_ q) (fun _ q => q) fun _ _ q => q
    rcases hc with z | z
    · rw [z]; exact nit b u e
    · exact nit c _ z
theorem Inv.tok (I : Inv X pins σ H s) (t : Nat) : Inv X pins σ H { s with toks := t } := I.un (h' := s.heap) (t' := t) Un.refl I.hok
theorem Inv.kept {t' : Nat} (I : Inv X pins σ H s) (k : ∀ b u, s.heap.get? b = some u → h'.get? b = some u) : Inv X pins σ H { s with heap := h', toks := t' } := I.un (Un.kept k) (I.hok.kept k)
theorem Inv.laid {a : Addr} {o : HO} {t' : Nat} (I : Inv X pins σ H s) (k : ∀ b u, s.heap.get? b = some u → h'.get? b = some u) (hp : s.heap.objs.size ≤ a) (new : ObjOk X.prog X.w (upd H a o) h' a o) :
    Inv X pins σ (upd H a o) { s with heap := h', toks := t' } := I.un (Un.laid k hp (I.hok.fresh hp)) (I.hok.laid k hp new)
theorem Inv.write {x e : Addr} {o : HO} {t' : Nat} (I : Inv X pins σ H s) (mu : Mut (H x)) (he : e = x ∨ H e = some (.own x)) (k : ∀ b u, b ≠ e → s.heap.get? b = some u → h'.get? b = some u) (heo : ∃ u, h'.get? e = some u)
    (new : ObjOk X.prog X.w (upd H x o) h' x o) : Inv X pins σ (upd H x o) { s with heap := h', toks := t' } := I.un (Un.write mu he k heo) (I.hok.write mu he k heo new)
theorem Inv.pins_of {pins' : List (Addr × Obj)} (I : Inv X pins σ H s) (h : ∀ p ∈ pins', s.heap.get? p.1 = some p.2 ∧ H p.1 = none ∧ p.1 ≠ X.env.locals ∧ p.1 ∉ X.fs ∧ ∀ v, p.2.data ≠ .cell v) : Inv X pins' σ H s :=
  ⟨I.ok, I.os, I.bare, I.base, I.loc, I.cell, I.free, I.freeC, fun p hp => (List.mem_append.mp hp).elim (fun z => I.pin p (List.mem_append_left _ z)) (h p), I.hok, I.len⟩
theorem nodup_ix {N : List Str} (hN : N.Nodup) {i j : Nat} {x : Str} (a : N[i]? = some x) (b : N[j]? = some x) : i = j := by
  obtain ⟨h1, e1⟩ := List.getElem?_eq_some_iff.mp a
  obtain ⟨h2, e2⟩ := List.getElem?_eq_some_iff.mp b
  exact (List.getElem_inj hN).mp (e1.trans e2.symm)
theorem store_ok2 {M : Model} {A : Around} {E : Value → Shared → Prop} {i : Nat} {x : Str} {v : V} {u : Value} {Q : Unit → Shared → Prop} (I : Inv X pins σ H s) (hN : X.N.Nodup) (hi : X.N[i]? = some x) (hx : Loc X.env.scope x) (r : RelV v u)
    (h : ∀ s', Inv X pins (σ.set i (some v)) H s' → (∃ a, Heap.SameBut a s.heap s'.heap ∧ (a = X.env.locals ∨ X.env.cells.lookup x = some a)) → Q () s') (hf : X.fn x = true ∨ X.env.scope.names.lookup x = some .local := by first | exact .inl rfl | exact .inr rfl | assumption) : wpAny M A (storeName X.env x u) Q E s := by
  obtain ⟨m, hn, hl⟩ := id I.loc
  have hcls : (X.env.scope.kind == .class || (X.env.scope.kind == .module && X.env.locals != X.env.globals)) = false := by rw [I.ok.kind]; rfl
  have hiσ : i < σ.length := by rw [I.len]; exact (List.getElem?_eq_some_iff.mp hi).1
  have cne := I.cne
  have tracked : ∀ {a : Addr} {h' : Heap}, (∃ o, s.heap.get? a = some o ∧ H a = none) → Heap.SameBut a s.heap h' → HOk X.prog X.w H h' := fun {a h'} ha hs b ob e => by
    obtain ⟨_, _, hfree⟩ := ha
    refine (I.hok b ob e).stay (fun c w' hc q => (hs.2 c ?_).trans q) (fun _ q => q) fun _ _ q => q
    rintro rfl
    rcases hc with rfl | hc
    · rw [hfree] at e; cases e
    · rw [hfree] at hc; cases hc
  rcases hx with hk | hk
  · refine wpAny_storeName_local hk hn (fun h' hn' hs => ?_) hcls
    obtain ⟨oL, _, _, hoL, _⟩ := id hn
    refine h _ ⟨I.ok, I.os, I.bare, ⟨fun b o e n hb hx => ?_, fun b o e n hb hx => ?_, I.base.free, fun b o e hx => ?_, I.base.tups, I.base.frzs, I.base.tbls⟩, ⟨_, hn', fun j y v' e1 e2 e3 => ?_⟩, fun y c e => ?_, I.free, I.freeC, fun p hp => ?_, tracked ⟨oL, hoL, I.free⟩ hs, by simpa using I.len⟩ ⟨_, hs, .inl rfl⟩
    · exact (hs.2 b (Nat.ne_of_lt (Nat.lt_of_lt_of_le (Heap.lt_size e) I.ok.above))).trans (I.base.keep b o e n hb hx)
    · obtain ⟨sl, e1⟩ := I.base.slot b o e n hb hx
      exact ⟨sl, (hs.2 b (Nat.ne_of_lt (Nat.lt_of_lt_of_le (Heap.lt_size e) I.ok.above))).trans e1⟩
    · obtain ⟨o', e1⟩ := I.base.there b o e hx
      exact ⟨o', (hs.2 b (Nat.ne_of_lt (Nat.lt_of_lt_of_le (Heap.lt_size e) I.ok.above))).trans e1⟩
    · by_cases hj : j = i
      · subst hj
        rw [hi] at e1; cases e1
        rw [List.getElem?_set_self hiσ] at e2
        cases e2
        exact ⟨u, r, .inl ⟨hk, by simp⟩⟩
      · rw [List.getElem?_set_ne (Ne.symm hj)] at e2
        obtain ⟨u', r', q⟩ := hl j y v' e1 e2 e3
        refine ⟨u', r', ?_⟩
        rcases q with ⟨k, e⟩ | ⟨k, c, e, z⟩
        · refine .inl ⟨k, ?_⟩
          have : y ≠ x := fun e => hj (nodup_ix hN e1 (e ▸ hi))
          simp [this, e]
        · exact .inr ⟨k, c, e, z.sameBut hs (cne y c e)⟩
    · obtain ⟨w', z⟩ := I.cell y c e
      exact ⟨w', z.sameBut hs (cne y c e)⟩
    · obtain ⟨e, n, ne, nf, d⟩ := I.pin p hp
      exact ⟨(hs.2 p.1 ne).trans e, n, ne, nf, d⟩
  · have hfn : X.fn x = true := by
      rcases hf with z | z
      · exact z
      · rw [z] at hk; cases hk
    obtain ⟨c, hc⟩ := I.ok.has x (.inl hk)
    obtain ⟨w', z⟩ := I.cell x c hc
    refine wpAny_storeName_cell I.ok.kind hk hc z (fun h' hc' hs => ?_)
    obtain ⟨oc, hoc, hocd⟩ := id z
    refine h { s with heap := h' } ⟨I.ok, I.os, I.bare, ⟨fun b o e n hb hx => ?_, fun b o e n hb hx => ?_, I.base.free, fun b o e hx => ?_, I.base.tups, I.base.frzs, I.base.tbls⟩, ⟨m, hn.sameBut hs (Ne.symm (cne x c hc)), fun j y v' e1 e2 e3 => ?_⟩, fun y c' e => ?_, I.free, I.freeC, fun p hp => ?_, tracked ⟨oc, hoc, I.freeC x c hc⟩ hs, by simpa using I.len⟩ ⟨c, hs, .inr hc⟩
    · exact (hs.2 b (Nat.ne_of_lt (Nat.lt_of_lt_of_le (Heap.lt_size e) (I.ok.cab x c hfn hc)))).trans (I.base.keep b o e n hb hx)
    · obtain ⟨sl, e1⟩ := I.base.slot b o e n hb hx
      exact ⟨sl, (hs.2 b (Nat.ne_of_lt (Nat.lt_of_lt_of_le (Heap.lt_size e) (I.ok.cab x c hfn hc)))).trans e1⟩
    · obtain ⟨o', e1⟩ := I.base.there b o e hx
      exact ⟨o', (hs.2 b (Nat.ne_of_lt (Nat.lt_of_lt_of_le (Heap.lt_size e) (I.ok.cab x c hfn hc)))).trans e1⟩
    · by_cases hj : j = i
      · subst hj
        rw [hi] at e1; cases e1
        rw [List.getElem?_set_self hiσ] at e2
        cases e2
        exact ⟨u, r, .inr ⟨.inl hk, c, hc, hc'⟩⟩
      · rw [List.getElem?_set_ne (Ne.symm hj)] at e2
        obtain ⟨u', r', q⟩ := hl j y v' e1 e2 e3
        refine ⟨u', r', ?_⟩
        rcases q with q | ⟨k, c', e, z'⟩
        · exact .inl q
        · refine .inr ⟨k, c', e, z'.sameBut hs ?_⟩
          rintro rfl
          exact hj (nodup_ix hN e1 (I.ok.inj _ _ _ e hc ▸ hi))
    · by_cases hcc : c' = c
      · subst hcc; exact ⟨_, hc'⟩
      · obtain ⟨w2, z2⟩ := I.cell y c' e
        exact ⟨w2, z2.sameBut hs hcc⟩
    · obtain ⟨e, n, ne, nf, d⟩ := I.pin p hp
      refine ⟨(hs.2 p.1 ?_).trans e, n, ne, nf, d⟩
      intro q
      rw [q, hoc] at e
      have q' : oc = p.2 := Option.some.inj e
      exact d w' (by rw [← q']; exact hocd)
theorem store_ok {M : Model} {A : Around} {E : Value → Shared → Prop} {i : Nat} {x : Str} {v : V} {u : Value} {Q : Unit → Shared → Prop} (I : Inv X pins σ H s) (hN : X.N.Nodup) (hi : X.N[i]? = some x) (hx : Loc X.env.scope x) (r : RelV v u)
    (h : ∀ s', Inv X pins (σ.set i (some v)) H s' → Q () s') (hf : X.fn x = true ∨ X.env.scope.names.lookup x = some .local := by first | exact .inl rfl | exact .inr rfl | assumption) : wpAny M A (storeName X.env x u) Q E s :=
  store_ok2 I hN hi hx r (fun s' I' _ => h s' I') hf
end
abbrev XK := Value → Option Addr → Hp → Prop
abbrev St := List (Option V)
abbrev VK := V → Hp → Prop
abbrev TE := St → Hp → VK → Prop
abbrev TT := St → Hp → (Bool → Hp → Prop) → Prop
abbrev TA := St → Hp → (List V → Hp → Prop) → Prop
structure Ends where
  nx : St → Hp → Prop
  rt : VK
  bk : St → Hp → Prop := fun _ _ => False
  ct : St → Hp → Prop := fun _ _ => False
abbrev TS := Ends → St → Hp → Prop
def EP (X : Cx) (pins : List (Addr × Obj)) (σ : St) (Q : VK) (u : Value) (s' : Shared) : Prop := ∃ v H', Inv X pins σ H' s' ∧ RelV v u ∧ Q v H'
def TP (X : Cx) (pins : List (Addr × Obj)) (σ : St) (Q : Bool → Hp → Prop) (b : Bool) (s' : Shared) : Prop := ∃ H', Inv X pins σ H' s' ∧ Q b H'
def AP (X : Cx) (pins : List (Addr × Obj)) (σ : St) (Q : List V → Hp → Prop) (us : List Value) (s' : Shared) : Prop := ∃ vs H', Inv X pins σ H' s' ∧ Vals vs us ∧ Q vs H'
def SP (X : Cx) (pins : List (Addr × Obj)) (D : Ends) (f : Flow) (s' : Shared) : Prop :=
  match f with
  | .next => ∃ σ' H', Inv X pins σ' H' s' ∧ D.nx σ' H'
  | .brk => ∃ σ' H', Inv X pins σ' H' s' ∧ D.bk σ' H'
  | .cont => ∃ σ' H', Inv X pins σ' H' s' ∧ D.ct σ' H'
  | .ret u => ∃ v σ' H', Inv X pins σ' H' s' ∧ RelV v u ∧ D.rt v H'
def PE (X : Cx) (e : Expr) (t : TE) : Prop :=
  ∀ (pins : List (Addr × Obj)) (s : Shared) (σ : St) (H : Hp) (Q : VK), Inv X pins σ H s → t σ H Q → wpAny (model X.prog X.w) X.A (eval e X.env) (EP X pins σ Q) X.xe s
def PT (X : Cx) (e : Expr) (t : TT) : Prop :=
  ∀ (pins : List (Addr × Obj)) (s : Shared) (σ : St) (H : Hp) (Q : Bool → Hp → Prop), Inv X pins σ H s → t σ H Q → wpAny (model X.prog X.w) X.A (isTrue e X.env (eval e X.env)) (TP X pins σ Q) X.xe s
def PW (X : Cx) (e : Expr) (t : TT) : Prop :=
  ∀ (whole : Sem Value) (pins : List (Addr × Obj)) (s : Shared) (σ : St) (H : Hp) (Q : Bool → Hp → Prop), Inv X pins σ H s → t σ H Q → wpAny (model X.prog X.w) X.A (isTrue e X.env whole) (TP X pins σ Q) X.xe s
theorem PW.pt {X : Cx} {e : Expr} {t : TT} (h : PW X e t) : PT X e t := h _
def PA (X : Cx) (es : List Expr) (t : TA) : Prop :=
  ∀ (pos : Pos) (pins : List (Addr × Obj)) (s : Shared) (σ : St) (H : Hp) (Q : List V → Hp → Prop), Inv X pins σ H s → t σ H Q → wpAny (model X.prog X.w) X.A (spliced (backTo pos (starEach es X.env))) (AP X pins σ Q) X.xe s
def PS (X : Cx) (st : Stmt) (t : TS) : Prop :=
  ∀ (pins : List (Addr × Obj)) (s : Shared) (σ : St) (H : Hp) (D : Ends), Inv X pins σ H s → t D σ H → wpAny (model X.prog X.w) X.A (exec st X.env) (SP X pins D) X.xe s
def PSs (X : Cx) (st : List Stmt) (t : TS) : Prop :=
  ∀ (pins : List (Addr × Obj)) (s : Shared) (σ : St) (H : Hp) (D : Ends), Inv X pins σ H s → t D σ H → wpAny (model X.prog X.w) X.A (execs st X.env) (SP X pins D) X.xe s
theorem thn {α : Type} {t : Sem α} {Q Q' : α → Shared → Prop} {M : Model} {A : Around} {E : Value → Shared → Prop} {s : Shared} (h : wpAny M A t Q E s) (hQ : ∀ a s, Q a s → Q' a s) : wpAny M A t Q' E s := wpAny_mono h hQ fun _ _ x => x
end L2
namespace L2
open PySem PySem.Spec PyProof.Rows
section
variable {X : Cx}
def tVar (i : Nat) : TE := fun σ H Q => ∃ v, σ[i]? = some (some v) ∧ Q v H
def tC (v : V) : TE := fun _ H Q => Q v H
theorem pe_var {i : Nat} {x : Str} {pos : Pos} (hN : X.N[i]? = some x) (hv : Vis X.env.scope x) (hd : (x == ("__debug__" : Str)) = false := by decide) (hcd : (x == ("__classdict__" : Str)) = false := by decide) : PE X (.Name x pos) (tVar i) := by
  intro pins s σ H Q I h
  obtain ⟨v, e, h⟩ := h
  obtain ⟨m, hn, hl⟩ := I.loc
  obtain ⟨u, r, l⟩ := hl i x v hN e hv
  have fin : EP X pins σ Q u s := ⟨v, H, I, r, h⟩
  rcases l with ⟨hk, hm⟩ | ⟨hk, c, hc, hcell⟩
  · exact wpAny_Name (wpAny_loadName_local I.ok.kind hk hn hm fin) hd
  · rcases hk with hk | hk
    · exact wpAny_Name (wpAny_loadName_cell I.ok.kind hk hc hcell fin) hd
    · exact wpAny_Name (wpAny_loadName_free I.ok.kind hk hc hcell fin hcd) hd
theorem pe_int {i j pos} : PE X (.Constant (.int i) j pos) (tC (.int i)) := fun _ _ _ H _ I h => wpAny_Constant_int ⟨.int i, H, I.tok _, ⟨_, rfl⟩, h⟩
theorem pe_bl {b j pos} : PE X (.Constant (.bool b) j pos) (tC (.bl b)) := fun _ _ _ H _ I h => Constant_bool ⟨.bl b, H, I, rfl, h⟩
theorem pe_non {j pos} : PE X (.Constant .none j pos) (tC .non) := fun _ _ _ H _ I h => Constant_none ⟨.non, H, I, rfl, h⟩
theorem pe_str {x j pos} : PE X (.Constant (.str x) j pos) (tC (.str x)) := fun _ _ _ H _ I h => Calls.Constant_str ⟨.str x, H, I.tok _, ⟨_, rfl⟩, h⟩
def Gl (X : Cx) (x : Str) : Prop := X.env.kindOf x = some .globalImplicit
theorem ld_glob {E : Value → Shared → Prop} {pins : List (Addr × Obj)} {s : Shared} {σ : St} {H : Hp} {x : Str} {u : Value} {pos : Pos} {Q : Value → Shared → Prop} (I : Inv X pins σ H s) (hg : Gl X x) (hm : X.mg x = some u) (h : Q u s)
    (hd : (x == ("__debug__" : Str)) = false := by decide) : wpAny (model X.prog X.w) X.A (eval (.Name x pos) X.env) Q E s :=
  Calls.Name_function_global I.ok.kind hg (Calls.loadGlobal_global (by rw [I.ok.glob]; exact I.mod.glob.keeps I.bk) hm h) hd
theorem ld_blt {E : Value → Shared → Prop} {pins : List (Addr × Obj)} {s : Shared} {σ : St} {H : Hp} {x : Str} {u : Value} {pos : Pos} {Q : Value → Shared → Prop} (I : Inv X pins σ H s) (hg : Gl X x) (hm : X.mg x = none) (hv : bootBuiltins x = some u) (h : Q u s)
    (hn : x ≠ "__name__" := by decide) (hd : (x == ("__debug__" : Str)) = false := by decide) : wpAny (model X.prog X.w) X.A (eval (.Name x pos) X.env) Q E s := by
  obtain ⟨mb, h1, h2⟩ := I.mod.blt
  exact Calls.Name_function_global I.ok.kind hg (Calls.loadGlobal_builtin (by rw [I.ok.glob]; exact I.mod.glob.keeps I.bk) hm (by rw [I.ok.blt]; exact h1.keeps I.bk) ((h2 x hn).trans hv) h) hd
theorem pe_glob {x : Str} {v : V} {u : Value} {pos : Pos} (hg : Gl X x) (hm : X.mg x = some u) (r : RelV v u) (hd : (x == ("__debug__" : Str)) = false := by decide) : PE X (.Name x pos) (tC v) :=
  fun _ _ _ H _ I h => ld_glob I hg hm ⟨v, H, I, r, h⟩ hd
theorem pe_bltn {x : Str} {v : V} {u : Value} {pos : Pos} (hg : Gl X x) (hm : X.mg x = none) (hv : bootBuiltins x = some u) (r : RelV v u) (hn : x ≠ "__name__" := by decide) (hd : (x == ("__debug__" : Str)) = false := by decide) : PE X (.Name x pos) (tC v) :=
  fun _ _ _ H _ I h => ld_blt I hg hm hv ⟨v, H, I, r, h⟩ hn hd
variable {a b : Expr} {ta tb : TE} {pos : Pos}
def tB (t : TE) : TT := fun σ H Q => t σ H fun x H1 => ∃ c, x = .bl c ∧ Q c H1
theorem pt_val {e : Expr} {t : TE} (h : PE X e t) (he : ∀ whole, isTrue e X.env whole = (do let v ← whole; standAt e.pos; holding [v] (truthy v)) := by intro _; rfl) : PT X e (tB t) := by
  intro pins s σ H Q I hw
  refine isTrue_plain (thn (h pins s σ H _ I hw) fun v s1 ⟨x, H1, I1, r1, q1⟩ => ?_) (he _)
  obtain ⟨d, rfl, q⟩ := q1
  cases r1
  exact wpAny_truthy_bool ⟨H1, I1, q⟩
variable {tA tB' : TT} {rest : List Expr}
def tAnd (t u : TT) : TT := fun σ H Q => t σ H fun c H1 => if c = true then u σ H1 Q else Q false H1
def tOr (t u : TT) : TT := fun σ H Q => t σ H fun c H1 => if c = true then Q true H1 else u σ H1 Q
def tNot (t : TT) : TT := fun σ H Q => t σ H fun c H1 => Q (!c) H1
theorem pw_and1 (ha : PT X a tA) : PW X (.BoolOp .And [a] pos) tA := by
  intro wh pins s σ H Q I h
  refine isTrue_and (thn (ha pins s σ H Q I h) fun c s1 e => ?_)
  cases c with
  | true => exact isTrue_and_nil e
  | false => exact e
theorem pw_or1 (ha : PT X a tA) : PW X (.BoolOp .Or [a] pos) tA := by
  intro wh pins s σ H Q I h
  refine isTrue_or (thn (ha pins s σ H Q I h) fun c s1 e => ?_)
  cases c with
  | false => exact isTrue_or_nil e
  | true => exact e
theorem pw_and (ha : PT X a tA) (hb : PW X (.BoolOp .And (b :: rest) pos) tB') : PW X (.BoolOp .And (a :: b :: rest) pos) (tAnd tA tB') := by
  intro wh pins s σ H Q I h
  refine isTrue_and (thn (ha pins s σ H _ I h) fun c s1 ⟨H1, I1, q1⟩ => ?_)
  cases c with
  | true => exact hb wh pins s1 σ H1 Q I1 q1
  | false => exact ⟨H1, I1, q1⟩
theorem pw_or (ha : PT X a tA) (hb : PW X (.BoolOp .Or (b :: rest) pos) tB') : PW X (.BoolOp .Or (a :: b :: rest) pos) (tOr tA tB') := by
  intro wh pins s σ H Q I h
  refine isTrue_or (thn (ha pins s σ H _ I h) fun c s1 ⟨H1, I1, q1⟩ => ?_)
  cases c with
  | true => exact ⟨H1, I1, q1⟩
  | false => exact hb wh pins s1 σ H1 Q I1 q1
theorem pt_not (ha : PT X a tA) : PT X (.UnaryOp .Not a pos) (tNot tA) := by
  intro pins s σ H Q I h
  exact isTrue_not (ha pins s σ H (fun c H1 => Q (!c) H1) I h)
def tAndV (ta tb : TE) : TE := fun σ H Q => ta σ H fun x H1 => ∃ c, x = .bl c ∧ if c = true then tb σ H1 Q else Q (.bl false) H1
def tNotV (ta : TE) : TE := fun σ H Q => ta σ H fun x H1 => ∃ c, x = .bl c ∧ Q (.bl (!c)) H1
theorem pe_one {op} {t : TE} (h : PE X a t) : PE X (.BoolOp op [a] pos) t := fun pins s σ H Q I hw => BoolOp_one (h pins s σ H Q I hw)
theorem pe_and (ha : PE X a ta) (hb : PE X (.BoolOp .And (b :: rest) pos) tb) : PE X (.BoolOp .And (a :: b :: rest) pos) (tAndV ta tb) := by
  intro pins s σ H Q I h
  refine BoolOp_and (thn (ha pins s σ H _ I h) fun v s1 ⟨x, H1, I1, r1, q1⟩ => ?_)
  obtain ⟨c, rfl, q1⟩ := q1
  cases r1
  refine wpAny_truthy_bool ?_
  cases c with
  | true => exact hb pins s1 σ H1 Q I1 q1
  | false => exact ⟨.bl false, H1, I1, rfl, q1⟩
theorem pe_not (ha : PE X a ta) : PE X (.UnaryOp .Not a pos) (tNotV ta) := by
  intro pins s σ H Q I h
  refine UnaryOp_ (thn (ha pins s σ H _ I h) fun v s1 ⟨x, H1, I1, r1, q1⟩ => ?_)
  obtain ⟨c, rfl, q1⟩ := q1
  cases r1
  exact not_of (wpAny_truthy_bool ⟨.bl (!c), H1, I1, rfl, q1⟩)
end
end L2
namespace L2
open PySem PySem.Spec PyProof.Rows
def SqL (K : PySem.W.Frag) (H : Hp) (a : Addr) (xs : List V) : Prop :=
  Rd H a (.lst xs) ∨
    ∃ (o : Obj) (its : Array Value) (n : Nat), K.lookup a = some o ∧ o.cls = .type "list" ∧ o.dict = none ∧ o.data = .seq its n ∧ its.size ≤ sizeLine ∧ Vals xs its.toList
def SqT (K : PySem.W.Frag) (H : Hp) (a : Addr) (xs : List V) : Prop :=
  Rd H a (.tup xs) ∨
    ∃ (o : Obj) (its : Array Value) (n : Nat), K.lookup a = some o ∧ o.cls = .type "tuple" ∧ o.data = .seq its n ∧ its.size ≤ sizeLine ∧ Vals xs its.toList
def absV : Value → Option V
  | .none => some .non
  | .bool b => some (.bl b)
  | .int i _ => some (.int i)
  | .str x _ => some (.str x)
  | .bytes b _ => some (.byt b)
  | .float b _ => some (.flt b)
  | .ref a => some (.ref a)
  | .type n => some (.ty n)
  | _ => none
theorem RelV.abs {x : V} {u : Value} (r : RelV x u) : absV u = some x := by
  cases x with
  | non => cases r; rfl
  | bl _ => cases r; rfl
  | int _ => obtain ⟨t, rfl⟩ := r; rfl
  | str _ => obtain ⟨t, rfl⟩ := r; rfl
  | byt _ => obtain ⟨t, rfl⟩ := r; rfl
  | flt _ => obtain ⟨t, rfl⟩ := r; rfl
  | ref _ => cases r; rfl
  | ty _ => cases r; rfl
theorem RelV.inj {x y : V} {u : Value} (r : RelV x u) (q : RelV y u) : x = y := Option.some.inj (r.abs.symm.trans q.abs)
theorem Vals.inj : ∀ {xs ys : List V} {us : List Value}, Vals xs us → Vals ys us → xs = ys
  | _, _, _, .nil, .nil => rfl
  | _, _, _, .cons r t, .cons r' t' => by rw [r.inj r', Vals.inj t t']
section
variable {X : Cx} {pins : List (Addr × Obj)} {σ : St} {H : Hp} {s : Shared} {a : Addr} {xs ys : List V}
theorem SqL.of {K : PySem.W.Frag} (h : H a = some (.lst xs)) : SqL K H a xs := .inl (.inl h)
theorem SqT.of {K : PySem.W.Frag} (h : H a = some (.tup xs)) : SqT K H a xs := .inl (.inl h)
theorem Inv.list (I : Inv X pins σ H s) (h : SqL X.K H a xs) : ∃ its : List Value, Vals xs its ∧ PlainL s.heap a its.toArray ∧ xs.length ≤ sizeLine := by
  rcases h with h | ⟨o, its, n, hk, hc, hd, hs, hz, r⟩
  · obtain ⟨z, its, n, r, e⟩ := h.ok I.hok
    exact ⟨its, r, ⟨_, n, e, rfl, rfl, rfl⟩, z⟩
  · refine ⟨its.toList, r, ⟨o, n, I.kIn a o hk, hc, hd, by simpa using hs⟩, ?_⟩
    have e := r.length
    simp only [Array.length_toList] at e
    omega
theorem Inv.tuple (I : Inv X pins σ H s) (h : SqT X.K H a xs) : ∃ its : List Value, Vals xs its ∧ IsTup s.heap a its.toArray ∧ xs.length ≤ sizeLine := by
  rcases h with h | ⟨o, its, n, hk, hc, hs, hz, r⟩
  · obtain ⟨z, its, r, p⟩ := h.ok I.hok
    exact ⟨its, r, p, z⟩
  · refine ⟨its.toList, r, ⟨o, I.kIn a o hk, hc, n, by simpa using hs⟩, ?_⟩
    have e := r.length
    simp only [Array.length_toList] at e
    omega
theorem Inv.list_inj (I : Inv X pins σ H s) (h : SqL X.K H a xs) (h' : SqL X.K H a ys) : xs = ys := by
  obtain ⟨its, r, ⟨o, n, e, _, _, d⟩, _⟩ := I.list h
  obtain ⟨its', r', ⟨o', n', e', _, _, d'⟩, _⟩ := I.list h'
  rw [e] at e'; cases e'
  rw [d] at d'
  injection d' with d1 _
  have : its = its' := by simpa using congrArg Array.toList d1
  subst this
  exact r.inj r'
theorem Inv.tuple_inj (I : Inv X pins σ H s) (h : SqT X.K H a xs) (h' : SqT X.K H a ys) : xs = ys := by
  obtain ⟨its, r, ⟨o, e, _, n, d⟩, _⟩ := I.tuple h
  obtain ⟨its', r', ⟨o', e', _, n', d'⟩, _⟩ := I.tuple h'
  rw [e] at e'; cases e'
  rw [d] at d'
  injection d' with d1 _
  have : its = its' := by simpa using congrArg Array.toList d1
  subst this
  exact r.inj r'
end
abbrev Cx.wish (X : Cx) (E : Value → Shared → Prop) : Cx := { X with xe := E }
abbrev Cx.nox (X : Cx) : Cx := X.wish fun _ _ => False
theorem Cx.Ok.wish {X : Cx} (ok : X.Ok) (E : Value → Shared → Prop) : (X.wish E).Ok :=
  ⟨ok.mod, ok.kind, ok.glob, ok.blt, ok.above, ok.inj, ok.has, ok.cab, ok.hd, ok.frames, ok.stk, ok.exf, ok.bs, ok.bsz, ok.noex, ok.exfs, ok.funs, ok.frf⟩
theorem Cx.Ok.unwish {X : Cx} {E : Value → Shared → Prop} (ok : (X.wish E).Ok) : X.Ok :=
  ⟨ok.mod, ok.kind, ok.glob, ok.blt, ok.above, ok.inj, ok.has, ok.cab, ok.hd, ok.frames, ok.stk, ok.exf, ok.bs, ok.bsz, ok.noex, ok.exfs, ok.funs, ok.frf⟩
section
variable {X : Cx} {pins : List (Addr × Obj)} {σ : St} {H : Hp} {s : Shared} {E : Value → Shared → Prop}
theorem Inv.wish (I : Inv X pins σ H s) (E : Value → Shared → Prop) : Inv (X.wish E) pins σ H s := ⟨I.ok.wish E, I.os, I.bare, I.base, I.loc, I.cell, I.free, I.freeC, I.pin, I.hok, I.len⟩
theorem Inv.unwish (I : Inv (X.wish E) pins σ H s) : Inv X pins σ H s := ⟨I.ok.unwish, I.os, I.bare, I.base, I.loc, I.cell, I.free, I.freeC, I.pin, I.hok, I.len⟩
theorem SP.unwish {D : Ends} {f : Flow} {s' : Shared} (h : SP (X.wish E) pins D f s') : SP X pins D f s' := by
  cases f with
  | next => obtain ⟨σ', H', I, q⟩ := h; exact ⟨σ', H', I.unwish, q⟩
  | brk => obtain ⟨σ', H', I, q⟩ := h; exact ⟨σ', H', I.unwish, q⟩
  | cont => obtain ⟨σ', H', I, q⟩ := h; exact ⟨σ', H', I.unwish, q⟩
  | ret u => obtain ⟨v, σ', H', I, r, q⟩ := h; exact ⟨v, σ', H', I.unwish, r, q⟩
theorem PE.nox {e : Expr} {t : TE} (h : PE X.nox e t) : PE X e t := fun pins s σ H Q I hw =>
  wpAny_mono (h pins s σ H Q (I.wish _) hw) (fun _ _ ⟨v, H', I', r, q⟩ => ⟨v, H', I'.unwish, r, q⟩) fun _ _ z => False.elim z
theorem PT.nox {e : Expr} {t : TT} (h : PT X.nox e t) : PT X e t := fun pins s σ H Q I hw =>
  wpAny_mono (h pins s σ H Q (I.wish _) hw) (fun _ _ ⟨H', I', q⟩ => ⟨H', I'.unwish, q⟩) fun _ _ z => False.elim z
theorem PSs.nox {st : List Stmt} {t : TS} (h : PSs X.nox st t) : PSs X st t := fun pins s σ H D I hw =>
  wpAny_mono (h pins s σ H D (I.wish _) hw) (fun _ _ q => q.unwish) fun _ _ z => False.elim z
end
section
variable {X : Cx} {st : Stmt} {rest : List Stmt} {t u : TS} {e : Expr} {te : TE} {pos : Pos}
def tNext : TS := fun D σ H => D.nx σ H
def tSeq (t u : TS) : TS := fun D σ H => t { D with nx := u D } σ H
theorem pss_nil : PSs X [] tNext := fun _ _ σ H _ I h => wpAny_execs_nil ⟨σ, H, I, h⟩
theorem pss_cons (h1 : PS X st t) (h2 : PSs X rest u) : PSs X (st :: rest) (tSeq t u) := by
  intro pins s σ H D I h
  refine wpAny_execs_cons (thn (h1 pins s σ H { D with nx := u D } I h) fun f s1 q => ?_)
  cases f with
  | next =>
    obtain ⟨σ', H', I', q⟩ := q
    exact h2 pins s1 σ' H' D I' q
  | ret v => exact q
  | brk => exact q
  | cont => exact q
theorem pss_one (h1 : PS X st t) : PSs X [st] t := by
  intro pins s σ H D I h
  refine wpAny_execs_cons (thn (h1 pins s σ H D I h) fun f s1 q => ?_)
  cases f with
  | next => exact wpAny_execs_nil q
  | ret v => exact q
  | brk => exact q
  | cont => exact q
theorem Inv.quiet {pins : List (Addr × Obj)} {σ : St} {H : Hp} {s : Shared} (I : Inv X pins σ H s) : interactive X.env = false := by simp [interactive, I.ok.kind]
def tDrop (te : TE) : TS := fun D σ H => te σ H fun _ H1 => D.nx σ H1
theorem ps_expr (he : PE X e te) (hs : swapsWith e none pos.line X.env = pure false := by rfl) : PS X (.Expr e pos) (tDrop te) := by
  intro pins s σ H D I h
  exact wpAny_Expr_any (thn (he pins s σ H _ I h) fun v s1 ⟨x, H1, I1, r1, q1⟩ => ⟨σ, H1, I1, q1⟩) I.quiet hs
def tRet (te : TE) : TS := fun D σ H => te σ H D.rt
theorem ps_ret (he : PE X e te) : PS X (.Return (some e) pos) (tRet te) := by
  intro pins s σ H D I h
  exact wpAny_Return_some (thn (he pins s σ H _ I h) fun v s1 ⟨x, H1, I1, r1, q1⟩ => ⟨x, σ, H1, I1, r1, q1⟩)
def tIfS (c : TT) (t u : TS) : TS := fun D σ H => c σ H fun b H1 => if b = true then t D σ H1 else u D σ H1
theorem ps_if {c : Expr} {a b : List Stmt} {tc : TT} (hc : PT X c tc) (ha : PSs X a t) (hb : PSs X b u) : PS X (.If c a b pos) (tIfS tc t u) := by
  intro pins s σ H D I h
  refine wpAny_If (thn (hc pins s σ H _ I h) fun d s1 ⟨H1, I1, q1⟩ => ?_)
  cases d with
  | true => exact ha pins s1 σ H1 D I1 q1
  | false => exact hb pins s1 σ H1 D I1 q1
end
abbrev TG := V → St → Hp → (St → Hp → Prop) → Prop
abbrev TGs := List V → St → Hp → (St → Hp → Prop) → Prop
def PG (X : Cx) (target : Expr) (t : TG) : Prop :=
  ∀ (pins : List (Addr × Obj)) (s : Shared) (σ : St) (H : Hp) (v : V) (u : Value) (Q : St → Hp → Prop), Inv X pins σ H s → RelV v u → t v σ H Q →
    wpAny (model X.prog X.w) X.A (assign target X.env u) (fun _ s' => ∃ σ' H', Inv X pins σ' H' s' ∧ Q σ' H') X.xe s
def PGs (X : Cx) (ts : List Expr) (t : TGs) : Prop :=
  ∀ (pins : List (Addr × Obj)) (s : Shared) (σ : St) (H : Hp) (vs : List V) (us : List Value) (Q : St → Hp → Prop), Inv X pins σ H s → Vals vs us → t vs σ H Q →
    wpAny (model X.prog X.w) X.A (assignInOrder ((assignEach ts X.env).map (·.2)) us) (fun _ s' => ∃ σ' H', Inv X pins σ' H' s' ∧ Q σ' H') X.xe s
abbrev TSet := V → V → V → Hp → (Hp → Prop) → Prop
def PSet (X : Cx) (t : TSet) : Prop :=
  ∀ (pins : List (Addr × Obj)) (s : Shared) (σ : St) (H : Hp) (o i v : V) (ov iv u : Value) (Q : Hp → Prop), Inv X pins σ H s → RelV o ov → RelV i iv → RelV v u → t o i v H Q →
    wpAny (model X.prog X.w) X.A (setItem ov iv u) (fun _ s' => ∃ H', Inv X pins σ H' s' ∧ Q H') X.xe s
section
variable {X : Cx} {pos : Pos}
def gName (i : Nat) : TG := fun v σ H Q => Q (σ.set i (some v)) H
theorem pg_name {i : Nat} {x : Str} (hN : X.N.Nodup) (hi : X.N[i]? = some x) (hx : Loc X.env.scope x) (hf : X.fn x = true ∨ X.env.scope.names.lookup x = some .local := by first | exact .inl rfl | exact .inr rfl | assumption) : PG X (.Name x pos) (gName i) := by
  intro pins s σ H v u Q I r h
  exact wpAny_assign_Name (store_ok I hN hi hx r (fun s' I' => ⟨_, H, I', h⟩) hf)
def gNil : TGs := fun vs σ H Q => vs = [] ∧ Q σ H
def gCons (t : TG) (u : TGs) : TGs := fun vs σ H Q => ∃ v r, vs = v :: r ∧ t v σ H fun σ' H' => u r σ' H' Q
theorem pgs_nil : PGs X [] gNil := by
  intro pins s σ H vs us Q I r h
  obtain ⟨e, h⟩ := h
  subst e
  cases r
  exact assignInOrder_nil ⟨σ, H, I, h⟩
theorem pgs_cons {e : Expr} {es : List Expr} {t : TG} {u : TGs} (h1 : PG X e t) (h2 : PGs X es u)
    (hs : (assignEach (e :: es) X.env).map (·.2) = assign e X.env :: (assignEach es X.env).map (·.2) := by rfl) : PGs X (e :: es) (gCons t u) := by
  intro pins s σ H vs us Q I r h
  obtain ⟨v, vr, e1, h⟩ := h
  subst e1
  cases r with
  | cons r rr =>
    rw [hs]
    refine assignInOrder_cons (thn (h1 pins s σ H _ _ _ I r h) fun _ s1 ⟨σ1, H1, I1, q1⟩ => ?_)
    exact h2 pins s1 σ1 H1 _ _ Q I1 rr q1
def gTup (K : PySem.W.Frag) (n : Nat) (t : TGs) : TG := fun v σ H Q => ∃ a xs, v = .ref a ∧ SqT K H a xs ∧ xs.length = n ∧ t xs σ H Q
theorem pg_tup {es : List Expr} {k : Nat} {t : TGs} {n : Nat} (hc : X.calm = true) (h : PGs X es t)
    (hn : (assignEach es X.env).length = n := by rfl) (hst : (assignEach es X.env).findIdx? (·.1) = none := by rfl) : PG X (.Tuple es k pos) (gTup X.K n t) := by
  intro pins s σ H v u Q I r hw
  obtain ⟨a, xs, e1, hq, hl, hw⟩ := hw
  subst e1
  cases r
  obtain ⟨its, rv, ht, hz⟩ := I.tuple hq
  refine assign_Tuple_tuple (I.ok.hd hc) ht (by simp [hn, ← hl, rv.length]) hst fun h' hx => ?_
  have I1 : Inv X pins σ H { s with heap := h' } := I.kept (t' := s.toks) fun b o e => hx b o (Nat.ne_of_lt (Heap.lt_size e)) e
  exact h pins _ σ H xs _ Q I1 (by simpa using rv) hw
def gSub (to ti : TE) (t : TSet) : TG := fun v σ H Q => to σ H fun o H1 => ti σ H1 fun i H2 => t o i v H2 fun H3 => Q σ H3
theorem pg_sub {o i : Expr} {to ti : TE} {t : TSet} (ho : PE X o to) (hi : PE X i ti) (hs : PSet X t)
    (ha : ∀ v, assign (.Subscript o i pos) X.env v = (do
      let ov ← holding [v] (eval o X.env)
      let iv ← holding [v, ov] (eval i X.env)
      standAt pos
      holding [v, ov, iv] (setItem ov iv v)
      release [v, ov, iv] []) := by intro _; rfl) : PG X (.Subscript o i pos) (gSub to ti t) := by
  intro pins s σ H v u Q I r h
  rw [ha]
  refine wpAny_bind (wpAny_holding (thn (ho pins s σ H _ I h) fun ov s1 ⟨x, H1, I1, r1, q1⟩ => ?_))
  refine wpAny_bind (wpAny_holding (thn (hi pins s1 σ H1 _ I1 q1) fun iv s2 ⟨y, H2, I2, r2, q2⟩ => ?_))
  refine wpAny_bind (wpAny_standAt (wpAny_bind (wpAny_holding (thn (hs pins s2 σ H2 x y v ov iv u _ I2 r1 r2 r q2) fun _ s3 ⟨H3, I3, q3⟩ => ?_))))
  exact wpAny_release ⟨σ, H3, I3, q3⟩
def tAsg (te : TE) (g : TG) : TS := fun D σ H => te σ H fun x H1 => g x σ H1 D.nx
theorem ps_asg {tg e : Expr} {te : TE} {g : TG} (he : PE X e te) (hg : PG X tg g) (hs : swapsWithSole [tg] e pos.line X.env = pure false := by rfl) (hw : swappedStores [tg] e X.env = pure none := by rfl)
    (h1 : (assignEach [tg] X.env).map (·.2) = [assign tg X.env] := by rfl) : PS X (.Assign [tg] e pos) (tAsg te g) := by
  intro pins s σ H D I h
  refine wpAny_Assign_stores (thn (he pins s σ H _ I h) fun v s1 ⟨x, H1, I1, r1, q1⟩ => ?_) hs hw
  rw [h1]
  exact thn (hg pins s1 σ H1 x v _ I1 r1 q1) fun _ s2 q => q
theorem ps_set {i : Nat} {x : Str} {e : Expr} {te : TE} {pos' : Pos} (hN : X.N.Nodup) (hi : X.N[i]? = some x) (hx : Loc X.env.scope x) (he : PE X e te) (hs : swapsWith e (some (.Name x pos')) pos.line X.env = pure false := by rfl) (hf : X.fn x = true ∨ X.env.scope.names.lookup x = some .local := by first | exact .inl rfl | exact .inr rfl | assumption) :
    PS X (.Assign [.Name x pos'] e pos) (tAsg te (gName i)) := by
  intro pins s σ H D I h
  refine wpAny_Assign_Name (thn (he pins s σ H _ I h) fun v s1 ⟨y, H1, I1, r1, q1⟩ => ?_) hs
  exact store_ok I1 hN hi hx r1 (fun s2 I2 => ⟨_, H1, I2, q1⟩) hf
end
section
variable {X : Cx} {pos : Pos}
def tWhile (c : TT) (tb : TS) : TS := fun D σ H => ∃ W : Nat → St → Hp → Prop, (∃ m, W m σ H) ∧ ∀ m σ H, W m σ H →
  c σ H fun b H1 => if b = true then ∃ N : St → Hp → Prop, (∀ σ' H', N σ' H' → ∃ m', m' < m ∧ W m' σ' H') ∧ tb { D with nx := N, ct := N, bk := D.nx } σ H1 else D.nx σ H1
theorem ps_while {c : Expr} {body : List Stmt} {tc : TT} {tb : TS} (hp : PassesOwn (model X.prog X.w) X.A X.env X.xe) (hc : PT X c tc) (hb : PSs X body tb) : PS X (.While c body [] pos) (tWhile tc tb) := by
  intro pins s σ H D I h
  obtain ⟨W, ⟨m0, w0⟩, turn⟩ := h
  refine wpAny_While (codeAny_whileLoop (fun n s' => ∃ σ' H', Inv X pins σ' H' s' ∧ W n σ' H') ?_ m0 ⟨σ, H, I, w0⟩)
  rintro n s1 ⟨σ1, H1, I1, w1⟩
  refine wpAny_passesOwn hp (thn (hc pins s1 σ1 H1 _ I1 (turn n σ1 H1 w1)) fun b s2 ⟨H2, I2, q2⟩ => ?_)
  cases b with
  | true =>
    obtain ⟨N, hN, q2⟩ := q2
    rw [if_pos rfl]
    refine wpAny_passesOwn hp (thn (hb pins s2 σ1 H2 _ I2 q2) fun f s3 q3 => ?_)
    cases f with
    | next =>
      obtain ⟨σ3, H3, I3, n3⟩ := q3
      obtain ⟨m', hm, w3⟩ := hN σ3 H3 n3
      exact ⟨m', hm, σ3, H3, I3, w3⟩
    | cont =>
      obtain ⟨σ3, H3, I3, n3⟩ := q3
      obtain ⟨m', hm, w3⟩ := hN σ3 H3 n3
      exact ⟨m', hm, σ3, H3, I3, w3⟩
    | brk => exact q3
    | ret v => exact q3
  | false =>
    rw [if_neg Bool.false_ne_true]
    exact wpAny_execs_nil ⟨σ1, H2, I2, q2⟩
end
structure It where
  go : Nat → Hp → Prop
  yld : Nat → Hp → V → Hp → Prop
  stop : Nat → Hp → Prop
def FpOk (X : Cx) (pins : List (Addr × Obj)) (H : Hp) (b : Addr) : Prop :=
  H b = none ∧ b ≠ X.env.locals ∧ b ∉ X.fs ∧ (b ∈ X.ex ∨ X.s₀.heap.objs.size ≤ b) ∧ (∀ x c, X.env.cells.lookup x = some c → c ≠ b) ∧ ∀ p ∈ X.pn ++ pins, p.1 ≠ b
theorem Inv.fpOk {X : Cx} {pins : List (Addr × Obj)} {σ : St} {H H' : Hp} {s : Shared} {b : Addr} (I : Inv X pins σ H s) (hb : s.heap.objs.size ≤ b) (hn : H' b = none) : FpOk X pins H' b := by
  refine ⟨hn, Nat.ne_of_gt (Nat.lt_of_lt_of_le I.lt hb), I.nofs hb, .inr (Nat.le_trans I.sz hb), fun x c e z => ?_, fun p hp z => ?_⟩
  · obtain ⟨v, q⟩ := I.cell x c e
    exact absurd (Nat.lt_of_lt_of_le q.lt (by rw [z]; exact hb)) (Nat.lt_irrefl _)
  · exact absurd (Nat.lt_of_lt_of_le (Heap.lt_size (I.pin p hp).1) (by rw [z]; exact hb)) (Nat.lt_irrefl _)
structure Turn (P : Program) (w : World) (K : PySem.W.Frag) (tg : Expr) (J : It) (fp : List Addr) (it : Addr) (tn : Nat → Heap → Prop) : Prop where
  mem : it ∈ fp
  obj : ∀ i h, tn i h → ∀ b ∈ fp, ∃ o, h.get? b = some o ∧ ∀ v, o.data ≠ .cell v
  keep : ∀ i h h', tn i h → (∀ b ∈ fp, ∀ o, h.get? b = some o → h'.get? b = some o) → tn i h'
  item : ∀ (X : Cx), X.prog = P → X.w = w → X.K = K → X.calm = true → ∀ (i : Nat) (pins : List (Addr × Obj)) (s : Shared) (σ : St) (H : Hp) (E : Value → Shared → Prop), Inv X pins σ H s → (∀ b ∈ fp, FpOk X pins H b) → tn i s.heap → J.go i H →
    wpAny (model P w) X.A (pyNext (.ref it)) (fun r s1 => ∃ u, r = some u ∧
      wpAny (model P w) X.A (letOwnedTupleGo tg (.ref it) u) (fun _ s2 => ∃ x H', Inv X pins σ H' s2 ∧ RelV x u ∧ J.yld i H x H' ∧ tn (i + 1) s2.heap ∧ ∀ b ∈ fp, H' b = none) E s1) E s
  done : ∀ (X : Cx), X.prog = P → X.w = w → X.K = K → X.calm = true → ∀ (i : Nat) (pins : List (Addr × Obj)) (s : Shared) (σ : St) (H : Hp) (E : Value → Shared → Prop), Inv X pins σ H s → (∀ b ∈ fp, FpOk X pins H b) → tn i s.heap → J.stop i H →
    wpAny (model P w) X.A (pyNext (.ref it)) (fun r s1 => r = none ∧ Inv X pins σ H s1) E s
  self : ∀ (A : Around) (i : Nat) (s : Shared) (Q : Value → Shared → Prop) (E : Value → Shared → Prop), tn i s.heap → Q (.ref it) s → wpAny (model P w) A (pyIter (.ref it)) Q E s
abbrev TI := St → Hp → (It → Hp → Prop) → Prop
def PIE (X : Cx) (pins : List (Addr × Obj)) (σ : St) (tg : Expr) (R : It → Hp → Prop) (itv : Value) (s2 : Shared) : Prop :=
  ∃ (it : Addr) (fp : List Addr) (tn : Nat → Heap → Prop) (J : It) (H' : Hp), itv = .ref it ∧ Inv X pins σ H' s2 ∧ Turn X.prog X.w X.K tg J fp it tn ∧ tn 0 s2.heap ∧ (∀ b ∈ fp, FpOk X pins H' b) ∧ R J H'
def PI (X : Cx) (tg iter : Expr) (wi : TI) : Prop :=
  ∀ (pins : List (Addr × Obj)) (s : Shared) (σ : St) (H : Hp) (R : It → Hp → Prop), Inv X pins σ H s → wi σ H R →
    wpAny (model X.prog X.w) X.A (eval iter X.env) (fun v s1 => wpAny (model X.prog X.w) X.A (pyIter v) (PIE X pins σ tg R) X.xe s1) X.xe s
theorem go_of {M : Model} {A : Around} {E : Value → Shared → Prop} {s : Shared} {tg : Expr} {it : Addr} {u : Value} {o : Obj} {n : String} {vs : Array Value} {Q : Unit → Shared → Prop} (ho : s.heap.get? it = some o) (hc : o.cls = .type n) (hd : o.data = .fields vs)
    (hn : ["enumerate", "zip", "dict_itemiterator", "dict_reverseitemiterator", "odict_iterator", "itertools.zip_longest", "itertools.pairwise"].contains n = false) (hQ : Q () s) : wpAny M A (letOwnedTupleGo tg (.ref it) u) Q E s := by
  unfold letOwnedTupleGo
  cases tg <;> first
    | exact wpAny_pure hQ
    | (cases u <;> first
        | exact wpAny_pure hQ
        | (refine wpAny_bind (wpAny_load ho ?_)
           rw [hc, hd]
           show wpAny M A (if (["enumerate", "zip", "dict_itemiterator", "dict_reverseitemiterator", "odict_iterator", "itertools.zip_longest", "itertools.pairwise"].contains n && vs[0]? == some (rawInt _)) = true then _ else _) Q E s
           rw [if_neg (by intro h; rw [hn, Bool.false_and] at h; cases h)]
           exact wpAny_pure hQ))
def Itl (K : PySem.W.Frag) (a : Addr) : It :=
  ⟨fun i H => ∃ xs x, SqL K H a xs ∧ xs[i]? = some x, fun i H x H' => H' = H ∧ ∀ xs, SqL K H a xs → xs[i]? = some x, fun i H => ∃ xs, SqL K H a xs ∧ xs.length ≤ i⟩
def Itr (lo : Int) (n : Nat) : It := ⟨fun i _ => i < n, fun i H x H' => H' = H ∧ x = .int (lo + i), fun i _ => n ≤ i⟩
theorem turn_list {P : Program} {w : World} {K : PySem.W.Frag} {tg : Expr} (a it : Addr) : Turn P w K tg (Itl K a) [it] it (fun i h => h.IsListIter it a i) where
  mem := by simp
  obj := fun i h st b hb => by
    have e : b = it := by simpa using hb
    subst e
    obtain ⟨o, e, c, d⟩ := st
    exact ⟨o, e, fun v z => by rw [d] at z; cases z⟩
  keep := fun i h h' st k => st.at fun o e => k it (by simp) o e
  item := by
    intro X hP hw hK hc i pins s σ H E I hf st hg
    subst hP hw hK
    obtain ⟨xs, x, hq, hx⟩ := hg
    obtain ⟨its, rv, p, hz⟩ := I.list hq
    obtain ⟨u, hu, ru⟩ := rv.get hx
    obtain ⟨f0, f1, f2, f3, f4, f5⟩ := hf it (by simp)
    refine wpAny_pyNext_list_item st p.isList (x := u) (by simpa using hu) fun h' st' sb => ?_
    have I1 : Inv X pins σ H { s with heap := h' } := I.turned (t' := s.toks) (fun b o hb e => (sb.2 b hb).trans e) f0 f1 f3 f4 f5
    obtain ⟨o, e, c, d⟩ := id st'
    exact ⟨u, rfl, go_of (s := { s with heap := h' }) e c d (by decide) ⟨x, H, I1, ru, ⟨rfl, fun ys hy => by rw [I.list_inj hy hq]; exact hx⟩, st', fun b hb => (hf b hb).1⟩⟩
  done := by
    intro X hP hw hK hc i pins s σ H E I hf st hg
    subst hP hw hK
    obtain ⟨xs, hq, hx⟩ := hg
    obtain ⟨its, rv, p, hz⟩ := I.list hq
    obtain ⟨f0, f1, f2, f3, f4, f5⟩ := hf it (by simp)
    have hl := rv.length
    exact wpAny_pyNext_list_end (I.ok.hd hc) st p.isList (by simp; omega) fun h' eb => ⟨rfl, I.turned (t' := s.toks) (fun b o hb e => eb b o hb e) f0 f1 f3 f4 f5⟩
  self := fun _ _ _ _ _ st h => wpAny_pyIter_listiter st h
theorem turn_range {P : Program} {w : World} {K : PySem.W.Frag} {tg : Expr} (it : Addr) (lo : Int) (n : Nat) : Turn P w K tg (Itr lo n) [it] it (fun i h => IsRangeIter h it (lo + (i : Nat) * 1) ((n : Int) - (i : Nat)) 1) where
  mem := by simp
  obj := fun i h st b hb => by
    have e : b = it := by simpa using hb
    subst e
    exact ⟨_, st, fun v z => by
      have z' : Data.fields _ = Data.cell v := z
      cases z'⟩
  keep := fun i h h' st k => k it (by simp) _ st
  item := by
    intro X hP hw hK hc i pins s σ H E I hf st hg
    subst hP hw hK
    obtain ⟨f0, f1, f2, f3, f4, f5⟩ := hf it (by simp)
    have W := Walks.range (prog := X.prog) (w := X.w) (I.ok.hd hc) it lo 1 n
    refine W.item i s _ _ hg st fun v h' tk hv st' kk => ?_
    obtain ⟨t, rfl⟩ := hv
    have I1 : Inv X pins σ H { s with heap := h', toks := tk } := I.turned (fun b o hb e => kk b o (by simpa using hb) e) f0 f1 f3 f4 f5
    refine ⟨_, rfl, go_of (s := { s with heap := h', toks := tk }) (n := "range_iterator") st' rfl rfl (by decide) ⟨.int (lo + i), H, I1, ⟨t, ?_⟩, ⟨rfl, rfl⟩, st', fun b hb => (hf b hb).1⟩⟩
    rw [Int.mul_one]
  done := by
    intro X hP hw hK hc i pins s σ H E I hf st hg
    subst hP hw hK
    obtain ⟨f0, f1, f2, f3, f4, f5⟩ := hf it (by simp)
    exact wpAny_pyNext_range_end (I.ok.hd hc) st (by have : n ≤ i := hg; omega) fun h' eb => ⟨rfl, I.turned (t' := s.toks) (fun b o hb e => eb b o hb e) f0 f1 f3 f4 f5⟩
  self := fun _ _ _ _ _ st h => wpAny_pyIter_rangeiter st h
end L2
namespace L2
open PySem PySem.Spec PyProof.Rows
section
variable {X : Cx} {tg : Expr}
def iList (K : PySem.W.Frag) (tl : TE) : TI := fun σ H R => tl σ H fun x H1 => ∃ a, x = .ref a ∧ (∃ xs, SqL K H1 a xs) ∧ R (Itl K a) H1
theorem pi_list {l : Expr} {tl : TE} (hl : PE X l tl) : PI X tg l (iList X.K tl) := by
  intro pins s σ H R I h
  refine thn (hl pins s σ H _ I h) fun v s1 ⟨x, H1, I1, r1, q1⟩ => ?_
  obtain ⟨a, e, ⟨xs, hq⟩, q⟩ := q1
  subst e
  cases r1
  obtain ⟨its, rv, p, hz⟩ := I1.list hq
  refine wpAny_pyIter_list p.isList ?_
  refine ⟨s1.heap.objs.size, [s1.heap.objs.size], _, _, H1, rfl, I1.kept (t' := s1.toks) fun b o e => Heap.get?_push_of_some _ e, turn_list a _, ⟨_, Heap.get?_push_size _ rfl, rfl, rfl⟩, fun b hb => ?_, q⟩
  have e : b = s1.heap.objs.size := by simpa using hb
  subst e
  exact I1.fpOk (Nat.le_refl _) (I1.hok.fresh (Nat.le_refl _))
theorem range_it {pins : List (Addr × Obj)} {σ : St} {H : Hp} {s : Shared} {R : It → Hp → Prop} {E : Value → Shared → Prop} {lo hi : Int} {t u v : Tok} {tk : Nat} (I : Inv X pins σ H s) (h1 : -(2 ^ 62) ≤ lo) (h2 : lo < 2 ^ 62) (h3 : -(2 ^ 62) ≤ hi) (h4 : hi < 2 ^ 62)
    (q : R (Itr lo (hi - lo).toNat) H) : wpAny (model X.prog X.w) X.A (pyIter (.ref s.heap.objs.size)) (PIE X pins σ tg R) E { s with heap := s.heap.push { cls := .type "range", data := .fields #[.int lo t, .int hi u, .int 1 v] }, toks := tk } := by
  refine wpAny_pyIter_range (IsRange.new ..) (small_one h1 h2 h3 h4) ?_
  have I1 : Inv X pins σ H { s with heap := s.heap.push { cls := .type "range", data := .fields #[.int lo t, .int hi u, .int 1 v] }, toks := tk } := I.kept fun b o e => Heap.get?_push_of_some _ e
  refine ⟨(s.heap.push { cls := .type "range", data := .fields #[.int lo t, .int hi u, .int 1 v] }).objs.size, [(s.heap.push { cls := .type "range", data := .fields #[.int lo t, .int hi u, .int 1 v] }).objs.size], _, _, H, rfl,
    I1.kept (t' := tk) fun b o e => Heap.get?_push_of_some _ e, turn_range _ lo (hi - lo).toNat, ?_, fun b hb => ?_, q⟩
  · have e1 : lo + ((0 : Nat) : Int) * 1 = lo := by simp
    have e2 : (((hi - lo).toNat : Nat) : Int) - ((0 : Nat) : Int) = Builtin.Range.rangeSize lo hi 1 := by rw [rangeSize_one]; split <;> omega
    show IsRangeIter _ _ (lo + ((0 : Nat) : Int) * 1) ((((hi - lo).toNat : Nat) : Int) - ((0 : Nat) : Int)) 1
    rw [e1, e2]
    exact Heap.get?_push_size _ rfl
  · have e : b = (s.heap.push { cls := .type "range", data := .fields #[.int lo t, .int hi u, .int 1 v] }).objs.size := by simpa using hb
    subst e
    exact I1.fpOk (Nat.le_refl _) (I1.hok.fresh (Nat.le_refl _))
def iRng1 (ta : TA) : TI := fun σ H R => ta σ H fun vs H1 => ∃ j : Int, vs = [.int j] ∧ -(2 ^ 62) ≤ j ∧ j < 2 ^ 62 ∧ R (Itr 0 j.toNat) H1
def iRng2 (ta : TA) : TI := fun σ H R => ta σ H fun vs H1 => ∃ i j : Int, vs = [.int i, .int j] ∧ (-(2 ^ 62) ≤ i ∧ i < 2 ^ 62 ∧ -(2 ^ 62) ≤ j ∧ j < 2 ^ 62) ∧ R (Itr i (j - i).toNat) H1
theorem pi_range1 {a : Expr} {ta : TA} {p pos : Pos} (hg : Gl X "range") (hm : X.mg "range" = none) (ha : PA X [a] ta) (hs : starEach [a] X.env = [(false, eval a X.env)] := by rfl) : PI X tg (.Call (.Name "range" p) [a] [] pos) (iRng1 ta) := by
  intro pins s σ H R I h
  refine Call_ (ld_blt I hg hm boot_range (PyProof.Rows.callWith_type1 (thn (ha pos pins s σ H _ I h) fun us s1 ⟨vs, H1, I1, r1, q1⟩ => ?_) hs rfl))
  obtain ⟨j, e, q1, q2, q⟩ := q1
  subst e
  cases r1 with
  | cons r rr =>
    cases rr
    obtain ⟨t, rfl⟩ := r
    exact call_range_1 (range_it I1 (by omega) (by omega) q1 q2 (by simpa using q))
theorem pi_range2 {a b : Expr} {ta : TA} {p pos : Pos} (hg : Gl X "range") (hm : X.mg "range" = none) (ha : PA X [a, b] ta) (hs : starEach [a, b] X.env = [(false, eval a X.env), (false, eval b X.env)] := by rfl) (hs2 : starEach [b] X.env = [(false, eval b X.env)] := by rfl) :
    PI X tg (.Call (.Name "range" p) [a, b] [] pos) (iRng2 ta) := by
  intro pins s σ H R I h
  refine Call_ (ld_blt I hg hm boot_range (PyProof.Rows.callWith_type1 (thn (ha pos pins s σ H _ I h) fun us s1 ⟨vs, H1, I1, r1, q1⟩ => ?_) (by rw [hs, hs2]) (by rw [hs2]; rfl)))
  obtain ⟨i, j, e, ⟨q1, q2, q3, q4⟩, q⟩ := q1
  subst e
  cases r1 with
  | cons r rr =>
    cases rr with
    | cons r' rr =>
      cases rr
      obtain ⟨t, rfl⟩ := r
      obtain ⟨t', rfl⟩ := r'
      exact call_range_2 (range_it I1 q1 q2 q3 q4 q)
def tFor (wi : TI) (g : TG) (tb : TS) : TS := fun D σ H => wi σ H fun J H1 => ∃ W : Nat → Nat → St → Hp → Prop, (∃ m, W 0 m σ H1) ∧ ∀ i m σ H, W i m σ H →
  (J.stop i H ∧ D.nx σ H) ∨ (J.go i H ∧ ∃ N : St → Hp → Prop, (∀ σ' H', N σ' H' → ∃ m', m' < m ∧ W (i + 1) m' σ' H') ∧ ∀ x H', J.yld i H x H' → g x σ H' fun σ2 H2 => tb { D with nx := N, ct := N, bk := D.nx } σ2 H2)
def pinsAt (fp : List Addr) (h : Heap) : List (Addr × Obj) := fp.filterMap fun b => (h.get? b).map fun o => (b, o)
theorem mem_pinsAt {fp : List Addr} {h : Heap} {b : Addr} {o : Obj} (hb : b ∈ fp) (e : h.get? b = some o) : (b, o) ∈ pinsAt fp h := List.mem_filterMap.mpr ⟨b, hb, by rw [e]; rfl⟩
theorem of_pinsAt {fp : List Addr} {h : Heap} {p : Addr × Obj} (hp : p ∈ pinsAt fp h) : p.1 ∈ fp ∧ h.get? p.1 = some p.2 := by
  obtain ⟨b, hb, e⟩ := List.mem_filterMap.mp hp
  cases q : h.get? b with
  | none => rw [q] at e; cases e
  | some o =>
    rw [q] at e
    have e' : (b, o) = p := Option.some.inj e
    subst e'
    exact ⟨hb, q⟩
theorem Inv.pinned {pins : List (Addr × Obj)} {σ : St} {H : Hp} {s : Shared} {fp : List Addr} (I : Inv X pins σ H s) (hf : ∀ b ∈ fp, FpOk X pins H b) (ho : ∀ b ∈ fp, ∃ o, s.heap.get? b = some o ∧ ∀ v, o.data ≠ .cell v) : Inv X (pins ++ pinsAt fp s.heap) σ H s :=
  I.pins_of fun p hp => (List.mem_append.mp hp).elim (fun z => I.pin p (List.mem_append_right _ z)) fun z => by
    obtain ⟨hb, e⟩ := of_pinsAt z
    obtain ⟨f0, f1, f2, _⟩ := hf p.1 hb
    obtain ⟨o, e', d⟩ := ho p.1 hb
    rw [e] at e'; cases e'
    exact ⟨e, f0, f1, f2, d⟩
theorem Inv.unpinned {pins pl : List (Addr × Obj)} {σ : St} {H : Hp} {s : Shared} (I : Inv X (pins ++ pl) σ H s) : Inv X pins σ H s := I.pins_of fun p hp => I.pin p (List.mem_append_right _ (List.mem_append_left _ hp))
theorem ps_for {iter : Expr} {body : List Stmt} {wi : TI} {g : TG} {tb : TS} {pos : Pos} (hp : PassesOwn (model X.prog X.w) X.A X.env X.xe) (hc : X.calm = true) (hi : PI X tg iter wi) (hg : PG X tg g) (hb : PSs X body tb)
    (hs : ∀ x, foldedSetIterable iter X.env x = pure x := by intro _; rfl) : PS X (.For tg iter body [] pos) (tFor wi g tb) := by
  intro pins s σ H D I h
  refine wpAny_For (thn (hi pins s σ H _ I h) fun v s1 h1 => thn h1 fun itv s2 h2 => ?_) hs
  obtain ⟨it, fp, tn, J, H2, e, I2, T, st2, f2, W, ⟨m0, w0⟩, turn⟩ := h2
  subst e
  -- what stays true of the iterator's objects through the loop
  have stat : ∀ {H' : Hp}, (∀ b ∈ fp, H' b = none) → ∀ b ∈ fp, FpOk X pins H' b := fun hn b hb => ⟨hn b hb, (f2 b hb).2⟩
  refine codeAny_forLoop_any (fun n s' => ∃ i σ' H', Inv X pins σ' H' s' ∧ tn i s'.heap ∧ (∀ b ∈ fp, H' b = none) ∧ W i n σ' H') ?_ m0 ⟨0, σ, H2, I2, st2, fun b hb => (f2 b hb).1, w0⟩
  rintro n s3 ⟨i, σ3, H3, I3, st3, fr3, w3⟩
  rcases turn i n σ3 H3 w3 with ⟨stop, qn⟩ | ⟨go, N, hN, step⟩
  · refine wpAny_passesOwn hp (thn (T.done X rfl rfl rfl hc i pins s3 σ3 H3 X.xe I3 (stat fr3) st3 stop) fun r s4 ⟨hr, I4⟩ => ?_)
    subst hr
    exact wpAny_execs_nil ⟨σ3, H3, I4, qn⟩
  · refine wpAny_passesOwn hp (thn (T.item X rfl rfl rfl hc i pins s3 σ3 H3 X.xe I3 (stat fr3) st3 go) fun r s4 ⟨u, hr, h4⟩ => ?_)
    subst hr
    refine wpAny_passesOwn hp (thn h4 fun _ s5 ⟨x, H5, I5, r5, y5, st5, fr5⟩ => ?_)
    have I5' := I5.pinned (stat fr5) (T.obj _ _ st5)
    refine wpAny_passesOwn hp (thn (hg _ s5 σ3 H5 x u _ I5' r5 (step x H5 y5)) fun _ s6 ⟨σ6, H6, I6, q6⟩ => ?_)
    refine wpAny_passesOwn hp (thn (hb _ s6 σ6 H6 _ I6 q6) fun f s7 q7 => ?_)
    have again : ∀ {σ7 : St} {H7 : Hp}, Inv X (pins ++ pinsAt fp s5.heap) σ7 H7 s7 → N σ7 H7 → ∃ m, m < n ∧ ∃ i σ' H', Inv X pins σ' H' s7 ∧ tn i s7.heap ∧ (∀ b ∈ fp, H' b = none) ∧ W i m σ' H' := fun {σ7 H7} I7 n7 => by
      obtain ⟨m', hm, w7⟩ := hN σ7 H7 n7
      refine ⟨m', hm, i + 1, σ7, H7, I7.unpinned, T.keep _ _ _ st5 fun b hb o e => (I7.pin (b, o) (List.mem_append_right _ (List.mem_append_right _ (mem_pinsAt hb e)))).1, fun b hb => ?_, w7⟩
      obtain ⟨o, e, d⟩ := T.obj _ _ st5 b hb
      exact (I7.pin (b, o) (List.mem_append_right _ (List.mem_append_right _ (mem_pinsAt hb e)))).2.1
    cases f with
    | next => obtain ⟨σ7, H7, I7, n7⟩ := q7; exact again I7 n7
    | cont => obtain ⟨σ7, H7, I7, n7⟩ := q7; exact again I7 n7
    | brk => obtain ⟨σ7, H7, I7, q7⟩ := q7; exact ⟨σ7, H7, I7.unpinned, q7⟩
    | ret v => obtain ⟨x7, σ7, H7, I7, r7, q7⟩ := q7; exact ⟨x7, σ7, H7, I7.unpinned, r7, q7⟩
end
theorem for_list {K : PySem.W.Frag} {a : Addr} {xs : List V} {g : TG} {tb : TS} {D : Ends} {σ : St} {H : Hp} (Pv : Nat → St → Hp → Prop) (h0 : Pv 0 σ H) (hl : ∀ i σ H, i ≤ xs.length → Pv i σ H → SqL K H a xs)
    (hs : ∀ i x σ H, xs[i]? = some x → Pv i σ H → g x σ H fun σ2 H2 => tb { D with nx := Pv (i + 1), ct := Pv (i + 1), bk := D.nx } σ2 H2) (hd : ∀ σ H, Pv xs.length σ H → D.nx σ H) :
    ∃ W : Nat → Nat → St → Hp → Prop, (∃ m, W 0 m σ H) ∧ ∀ i m σ H, W i m σ H →
      ((Itl K a).stop i H ∧ D.nx σ H) ∨ ((Itl K a).go i H ∧ ∃ N : St → Hp → Prop, (∀ σ' H', N σ' H' → ∃ m', m' < m ∧ W (i + 1) m' σ' H') ∧ ∀ x H', (Itl K a).yld i H x H' → g x σ H' fun σ2 H2 => tb { D with nx := N, ct := N, bk := D.nx } σ2 H2) := by
  refine ⟨fun i m σ H => m = xs.length - i ∧ i ≤ xs.length ∧ Pv i σ H, ⟨xs.length, by simp, Nat.zero_le _, h0⟩, ?_⟩
  rintro i m σ H ⟨rfl, hi, p⟩
  have q := hl i σ H hi p
  by_cases hlt : i < xs.length
  · refine .inr ⟨⟨xs, xs[i], q, by simp [hlt]⟩, Pv (i + 1), fun σ' H' p' => ⟨xs.length - (i + 1), by omega, rfl, hlt, p'⟩, fun x H' y => ?_⟩
    obtain ⟨e, y⟩ := y
    subst e
    exact hs i x σ _ (y xs q) p
  · have e : i = xs.length := by omega
    subst e
    exact .inl ⟨⟨xs, q, Nat.le_refl _⟩, hd σ H p⟩
theorem for_range {lo : Int} {n : Nat} {g : TG} {tb : TS} {D : Ends} {σ : St} {H : Hp} (Pv : Nat → St → Hp → Prop) (h0 : Pv 0 σ H)
    (hs : ∀ i σ H, i < n → Pv i σ H → g (.int (lo + i)) σ H fun σ2 H2 => tb { D with nx := Pv (i + 1), ct := Pv (i + 1), bk := D.nx } σ2 H2) (hd : ∀ σ H, Pv n σ H → D.nx σ H) :
    ∃ W : Nat → Nat → St → Hp → Prop, (∃ m, W 0 m σ H) ∧ ∀ i m σ H, W i m σ H →
      ((Itr lo n).stop i H ∧ D.nx σ H) ∨ ((Itr lo n).go i H ∧ ∃ N : St → Hp → Prop, (∀ σ' H', N σ' H' → ∃ m', m' < m ∧ W (i + 1) m' σ' H') ∧ ∀ x H', (Itr lo n).yld i H x H' → g x σ H' fun σ2 H2 => tb { D with nx := N, ct := N, bk := D.nx } σ2 H2) := by
  refine ⟨fun i m σ H => m = n - i ∧ i ≤ n ∧ Pv i σ H, ⟨n, by simp, Nat.zero_le _, h0⟩, ?_⟩
  rintro i m σ H ⟨rfl, hi, p⟩
  by_cases hlt : i < n
  · refine .inr ⟨hlt, Pv (i + 1), fun σ' H' p' => ⟨n - (i + 1), by omega, rfl, hlt, p'⟩, fun x H' y => ?_⟩
    obtain ⟨e, y⟩ := y
    subst e y
    exact hs i σ _ hlt p
  · have e : i = n := by omega
    subst e
    exact .inl ⟨Nat.le_refl _, hd σ H p⟩
end L2
namespace L2
open PySem PySem.Spec PyProof.Rows
abbrev R2 := V → V → Hp → VK → Prop
def OpR (X : Cx) (f : Value → Value → Sem Value) (r : R2) : Prop :=
  ∀ (pins : List (Addr × Obj)) (s : Shared) (σ : St) (H : Hp) (x y : V) (v u : Value) (Q : VK), Inv X pins σ H s → RelV x v → RelV y u → r x y H Q →
    wpAny (model X.prog X.w) X.A (f v u) (EP X pins σ Q) X.xe s
def UnR (X : Cx) (f : Value → Sem Value) (r : V → Hp → VK → Prop) : Prop :=
  ∀ (pins : List (Addr × Obj)) (s : Shared) (σ : St) (H : Hp) (x : V) (v : Value) (Q : VK), Inv X pins σ H s → RelV x v → r x H Q →
    wpAny (model X.prog X.w) X.A (f v) (EP X pins σ Q) X.xe s
def CallR (X : Cx) (f : Value) (r : List V → Hp → VK → Prop) : Prop :=
  ∀ (pins : List (Addr × Obj)) (s : Shared) (σ : St) (H : Hp) (xs : List V) (us : List Value) (Q : VK), Inv X pins σ H s → Vals xs us → r xs H Q →
    wpAny (model X.prog X.w) X.A (call f us) (EP X pins σ Q) X.xe s
def tOp (r : R2) (ta tb : TE) : TE := fun σ H Q => ta σ H fun x H1 => tb σ H1 fun y H2 => r x y H2 Q
def tUn (r : V → Hp → VK → Prop) (ta : TE) : TE := fun σ H Q => ta σ H fun x H1 => r x H1 Q
def rI (C : Int → Int → Prop) (g : Int → Int → V) : R2 := fun x y H Q => ∃ i j, x = .int i ∧ y = .int j ∧ C i j ∧ Q (g i j) H
def rI0 (g : Int → Int → V) : R2 := fun x y H Q => ∃ i j, x = .int i ∧ y = .int j ∧ Q (g i j) H
def rU (g : Int → V) : V → Hp → VK → Prop := fun x H Q => ∃ i, x = .int i ∧ Q (g i) H
section
variable {X : Cx} {a b c : Expr} {ta tb tc : TE} {pos : Pos}
theorem binT (ha : PE X a ta) (hb : PE X b tb) {pins : List (Addr × Obj)} {s : Shared} {σ : St} {H : Hp} {R : V → V → Hp → Prop} (I : Inv X pins σ H s)
    (h : ta σ H fun x H1 => tb σ H1 fun y H2 => R x y H2) {Q : Value → Shared → Prop} {f : Value → Value → Sem Value}
    (hf : ∀ v u s2 x y H2, Inv X pins σ H2 s2 → RelV x v → RelV y u → R x y H2 → wpAny (model X.prog X.w) X.A (f v u) Q X.xe s2) :
    wpAny (model X.prog X.w) X.A (eval a X.env) (fun v s₁ => wpAny (model X.prog X.w) X.A (eval b X.env) (fun u s₂ => wpAny (model X.prog X.w) X.A (f v u) Q X.xe s₂) X.xe s₁) X.xe s := by
  refine thn (ha pins s σ H _ I h) fun v s1 ⟨x, H1, I1, r1, q1⟩ => ?_
  refine thn (hb pins s1 σ H1 _ I1 q1) fun u s2 ⟨y, H2, I2, r2, q2⟩ => ?_
  exact hf v u s2 x y H2 I2 r1 r2 q2
theorem pe_op {op : Operator} {r : R2} (ho : OpR X (binaryOp op) r) (ha : PE X a ta) (hb : PE X b tb) : PE X (.BinOp a op b pos) (tOp r ta tb) := by
  intro pins s σ H Q I h
  exact wpAny_BinOp (binT ha hb I h fun v u s2 x y H2 I2 rx ry q => ho pins s2 σ H2 x y v u Q I2 rx ry q)
theorem pe_un {op : UnaryOp} {r : V → Hp → VK → Prop} (ho : UnR X (unaryOp op) r) (ha : PE X a ta) : PE X (.UnaryOp op a pos) (tUn r ta) := by
  intro pins s σ H Q I h
  exact UnaryOp_ (thn (ha pins s σ H _ I h) fun v s1 ⟨x, H1, I1, r1, q1⟩ => ho pins s1 σ H1 x v Q I1 r1 q1)
theorem opI {f : Value → Value → Sem Value} {C : Int → Int → Prop} {g : Int → Int → Int}
    (rule : ∀ (i j : Int) (t u : Tok) (s : Shared) (Q : Value → Shared → Prop) (E : Value → Shared → Prop), C i j → Q (.int (g i j) s.toks) { s with toks := s.toks + 1 } → wpAny (model X.prog X.w) X.A (f (.int i t) (.int j u)) Q E s) :
    OpR X f (rI C fun i j => .int (g i j)) := by
  intro pins s σ H x y v u Q I rx ry h
  obtain ⟨i, j, rfl, rfl, hc, q⟩ := h
  obtain ⟨t, rfl⟩ := rx
  obtain ⟨t', rfl⟩ := ry
  exact rule i j t t' s _ _ hc ⟨.int (g i j), H, I.tok _, ⟨_, rfl⟩, q⟩
theorem opI0 {f : Value → Value → Sem Value} {g : Int → Int → Int}
    (rule : ∀ (i j : Int) (t u : Tok) (s : Shared) (Q : Value → Shared → Prop) (E : Value → Shared → Prop), Q (.int (g i j) s.toks) { s with toks := s.toks + 1 } → wpAny (model X.prog X.w) X.A (f (.int i t) (.int j u)) Q E s) :
    OpR X f (rI0 fun i j => .int (g i j)) := by
  intro pins s σ H x y v u Q I rx ry h
  obtain ⟨i, j, rfl, rfl, q⟩ := h
  obtain ⟨t, rfl⟩ := rx
  obtain ⟨t', rfl⟩ := ry
  exact rule i j t t' s _ _ ⟨.int (g i j), H, I.tok _, ⟨_, rfl⟩, q⟩
theorem opB0 {f : Value → Value → Sem Value} {g : Int → Int → Bool}
    (rule : ∀ (i j : Int) (t u : Tok) (s : Shared) (Q : Value → Shared → Prop) (E : Value → Shared → Prop), Q (.bool (g i j)) s → wpAny (model X.prog X.w) X.A (f (.int i t) (.int j u)) Q E s) :
    OpR X f (rI0 fun i j => .bl (g i j)) := by
  intro pins s σ H x y v u Q I rx ry h
  obtain ⟨i, j, rfl, rfl, q⟩ := h
  obtain ⟨t, rfl⟩ := rx
  obtain ⟨t', rfl⟩ := ry
  exact rule i j t t' s _ _ ⟨.bl (g i j), H, I, rfl, q⟩
def CDiv (i j : Int) : Prop := 0 < j ∧ j < 1073741824
def CPow (i j : Int) : Prop := 0 ≤ j ∧ j ≤ 1000000 ∧ i.natAbs < 2 ^ 64
def CMul (i j : Int) : Prop := (-(2 ^ 64) < i ∧ i < 2 ^ 64) ∨ (-(2 ^ 64) < j ∧ j < 2 ^ 64)
theorem CMul.ok {i j : Int} (h : CMul i j) : IntMulOk i j := by
  rcases h with ⟨h1, h2⟩ | ⟨h1, h2⟩
  · exact .of_left (intBits_le_64 h1 h2)
  · exact .of_right (intBits_le_64 h1 h2)
theorem op_add : OpR X (binaryOp .Add) (rI0 fun i j => .int (i + j)) := opI0 fun _ _ _ _ _ _ _ q => add_int q
theorem op_sub : OpR X (binaryOp .Sub) (rI0 fun i j => .int (i - j)) := opI0 fun _ _ _ _ _ _ _ q => sub_int q
theorem op_mul : OpR X (binaryOp .Mult) (rI CMul fun i j => .int (i * j)) := opI fun _ _ _ _ _ _ _ hc q => mul_int q hc.ok
theorem op_fdiv : OpR X (binaryOp .FloorDiv) (rI CDiv fun i j => .int (i / j)) := opI fun i j _ _ _ _ _ hc q => by
  have h1 : (0 : Int) < j := hc.1
  have h2 : j < 1073741824 := hc.2
  exact floordiv_int (by omega) (by rw [Int.fdiv_eq_ediv_of_nonneg i (by omega)]; exact q) (.inl (PyProof.noPylong_small (by omega)))
theorem op_mod : OpR X (binaryOp .Mod) (rI (fun _ j => 0 < j) fun i j => .int (i % j)) := opI fun i j _ _ _ _ _ hc q => by
  have h1 : (0 : Int) < j := hc
  exact mod_int' (by omega) (by rw [Int.fmod_eq_emod_of_nonneg i (by omega)]; exact q)
theorem op_pow : OpR X (binaryOp .Pow) (rI CPow fun i j => .int (i ^ j.toNat)) := opI fun _ _ _ _ _ _ _ hc q => pow_int_small hc.1 hc.2.1 hc.2.2 q
theorem unI {f : Value → Sem Value} {g : Int → Int}
    (rule : ∀ (i : Int) (t : Tok) (s : Shared) (Q : Value → Shared → Prop) (E : Value → Shared → Prop), Q (.int (g i) s.toks) { s with toks := s.toks + 1 } → wpAny (model X.prog X.w) X.A (f (.int i t)) Q E s) :
    UnR X f (rU fun i => .int (g i)) := by
  intro pins s σ H x v Q I rx h
  obtain ⟨i, rfl, q⟩ := h
  obtain ⟨t, rfl⟩ := rx
  exact rule i t s _ _ ⟨.int (g i), H, I.tok _, ⟨_, rfl⟩, q⟩
theorem un_neg : UnR X (unaryOp .USub) (rU fun i => .int (-i)) := unI fun _ _ _ _ _ q => neg_int q
end
def scal : V → V → Bool
  | .non, .non => true | .non, .int _ => true | .int _, .non => true | .non, .bl _ => true | .bl _, .non => true | .non, .str _ => true | .str _, .non => true
  | .int _, .int _ => true | .bl _, .bl _ => true | .str _, .str _ => true | .byt _, .byt _ => true
  | .int _, .str _ => true | .str _, .int _ => true | .bl _, .str _ => true | .str _, .bl _ => true
  | _, _ => false
def rEq : R2 := fun x y H Q => scal x y = true ∧ Q (.bl (decide (x = y))) H
def rNe : R2 := fun x y H Q => scal x y = true ∧ Q (.bl (!decide (x = y))) H
theorem dec_int {i j : Int} : decide (V.int i = V.int j) = (i == j) := by
  rw [Bool.eq_iff_iff]
  simp
theorem dec_bl {i j : Bool} : decide (V.bl i = V.bl j) = (i == j) := by
  rw [Bool.eq_iff_iff]
  simp
theorem dec_str {i j : Str} : decide (V.str i = V.str j) = (i == j) := by
  rw [Bool.eq_iff_iff]
  simp
theorem dec_byt {i j : Array UInt8} : decide (V.byt i = V.byt j) = (i.toList == j.toList) := by
  rw [Bool.eq_iff_iff]
  cases i
  cases j
  simp
section
variable {X : Cx} {a b c : Expr} {ta tb tc : TE} {pos : Pos}
theorem fin_bl {pins : List (Addr × Obj)} {σ : St} {H : Hp} {s : Shared} {Q : VK} {k k' : Bool} (I : Inv X pins σ H s) (q : Q (.bl k) H) (e : k = k') : EP X pins σ Q (.bool k') s := by
  subst e
  exact ⟨.bl k, H, I, rfl, q⟩
theorem op_eq : OpR X (compareOp .Eq) rEq := by
  intro pins s σ H x y v u Q I rx ry h
  obtain ⟨hs, q⟩ := h
  cases x with
  | non =>
    cases rx
    cases y with
    | non => cases ry; exact PySem.EqNone.eq_none_none (fin_bl I q (by simp))
    | bl j => cases ry; exact PySem.EqNone.eq_none_bool (fin_bl I q (by simp))
    | int j => obtain ⟨t', rfl⟩ := ry; exact PySem.EqNone.eq_none_int (fin_bl I q (by simp))
    | str j => obtain ⟨t', rfl⟩ := ry; exact PySem.EqNone.eq_none_str (fin_bl I q (by simp))
    | _ => exact absurd (show false = true from hs) Bool.false_ne_true
  | bl i =>
    cases rx
    cases y with
    | non => cases ry; exact PySem.EqNone.eq_bool_none (fin_bl I q (by simp))
    | bl j => cases ry; exact eq_bool (fin_bl I q dec_bl)
    | str j => obtain ⟨t', rfl⟩ := ry; exact PySem.EqMixed.eq_bool_str (fin_bl I q (by simp))
    | _ => exact absurd (show false = true from hs) Bool.false_ne_true
  | int i =>
    obtain ⟨t, rfl⟩ := rx
    cases y with
    | non => cases ry; exact PySem.EqNone.eq_int_none (fin_bl I q (by simp))
    | int j => obtain ⟨t', rfl⟩ := ry; exact eq_int (fin_bl I q dec_int)
    | str j => obtain ⟨t', rfl⟩ := ry; exact PySem.EqMixed.eq_int_str (fin_bl I q (by simp))
    | _ => exact absurd (show false = true from hs) Bool.false_ne_true
  | str i =>
    obtain ⟨t, rfl⟩ := rx
    cases y with
    | non => cases ry; exact PySem.EqNone.eq_str_none (fin_bl I q (by simp))
    | bl j => cases ry; exact PySem.EqMixed.eq_str_bool (fin_bl I q (by simp))
    | int j => obtain ⟨t', rfl⟩ := ry; exact PySem.EqMixed.eq_str_int (fin_bl I q (by simp))
    | str j => obtain ⟨t', rfl⟩ := ry; exact eq_str (fin_bl I q dec_str)
    | _ => exact absurd (show false = true from hs) Bool.false_ne_true
  | byt i =>
    obtain ⟨t, rfl⟩ := rx
    cases y with
    | byt j => obtain ⟨t', rfl⟩ := ry; exact PySem.W.eq_bytes (fin_bl I q dec_byt)
    | _ => exact absurd (show false = true from hs) Bool.false_ne_true
  | _ => cases y <;> exact absurd (show false = true from hs) Bool.false_ne_true
theorem op_ne : OpR X (compareOp .NotEq) rNe := by
  intro pins s σ H x y v u Q I rx ry h
  obtain ⟨hs, q⟩ := h
  cases x with
  | non =>
    cases rx
    cases y with
    | non => cases ry; exact PySem.EqNone.ne_none_none (fin_bl I q (by simp))
    | bl j => cases ry; exact PySem.EqNone.ne_none_bool (fin_bl I q (by simp))
    | int j => obtain ⟨t', rfl⟩ := ry; exact PySem.EqNone.ne_none_int (fin_bl I q (by simp))
    | str j => obtain ⟨t', rfl⟩ := ry; exact PySem.EqNone.ne_none_str (fin_bl I q (by simp))
    | _ => exact absurd (show false = true from hs) Bool.false_ne_true
  | bl i =>
    cases rx
    cases y with
    | non => cases ry; exact PySem.EqNone.ne_bool_none (fin_bl I q (by simp))
    | bl j => cases ry; exact ne_bool (fin_bl I q (congrArg not dec_bl))
    | str j => obtain ⟨t', rfl⟩ := ry; exact PySem.EqMixed.ne_bool_str (fin_bl I q (by simp))
    | _ => exact absurd (show false = true from hs) Bool.false_ne_true
  | int i =>
    obtain ⟨t, rfl⟩ := rx
    cases y with
    | non => cases ry; exact PySem.EqNone.ne_int_none (fin_bl I q (by simp))
    | int j => obtain ⟨t', rfl⟩ := ry; exact ne_int (fin_bl I q (congrArg not dec_int))
    | str j => obtain ⟨t', rfl⟩ := ry; exact PySem.EqMixed.ne_int_str (fin_bl I q (by simp))
    | _ => exact absurd (show false = true from hs) Bool.false_ne_true
  | str i =>
    obtain ⟨t, rfl⟩ := rx
    cases y with
    | non => cases ry; exact PySem.EqNone.ne_str_none (fin_bl I q (by simp))
    | bl j => cases ry; exact PySem.EqMixed.ne_str_bool (fin_bl I q (by simp))
    | int j => obtain ⟨t', rfl⟩ := ry; exact PySem.EqMixed.ne_str_int (fin_bl I q (by simp))
    | str j => obtain ⟨t', rfl⟩ := ry; exact ne_str (fin_bl I q (congrArg not dec_str))
    | _ => exact absurd (show false = true from hs) Bool.false_ne_true
  | byt i =>
    obtain ⟨t, rfl⟩ := rx
    cases y with
    | byt j => obtain ⟨t', rfl⟩ := ry; exact PySem.W.ne_bytes (fin_bl I q (congrArg not dec_byt))
    | _ => exact absurd (show false = true from hs) Bool.false_ne_true
  | _ => cases y <;> exact absurd (show false = true from hs) Bool.false_ne_true
theorem op_lt : OpR X (compareOp .Lt) (rI0 fun i j => .bl (decide (i < j))) := opB0 fun _ _ _ _ _ _ _ q => lt_int q
theorem op_le : OpR X (compareOp .LtE) (rI0 fun i j => .bl (decide (i ≤ j))) := opB0 fun _ _ _ _ _ _ _ q => le_int q
theorem op_gt : OpR X (compareOp .Gt) (rI0 fun i j => .bl (decide (j < i))) := opB0 fun _ _ _ _ _ _ _ q => gt_int q
theorem op_ge : OpR X (compareOp .GtE) (rI0 fun i j => .bl (decide (j ≤ i))) := opB0 fun _ _ _ _ _ _ _ q => ge_int q
theorem nomark (b : Expr) {op : CmpOp} (h : op ≠ .In := by decide) (h2 : op ≠ .NotIn := by decide) : behindInMarks op b = false := by
  have e1 : (op == CmpOp.In) = false := by cases op <;> first | rfl | exact absurd rfl h
  have e2 : (op == CmpOp.NotIn) = false := by cases op <;> first | rfl | exact absurd rfl h2
  cases b <;> simp [behindInMarks, e1, e2]
theorem pe_cmpR {op : CmpOp} {r : R2} (ho : OpR X (compareOp op) r) (ha : PE X a ta) (hb : PE X b tb) (hm : behindInMarks op b = false) : PE X (.Compare a [op] [b] pos) (tOp r ta tb) := by
  intro pins s σ H Q I h
  exact wpAny_Compare1 (binT ha hb I h fun v u s2 x y H2 I2 rx ry q => ho pins s2 σ H2 x y v u Q I2 rx ry q) hm
def tTest (t : TE) : TT := fun σ H Q => t σ H fun x H' => ∃ k, x = .bl k ∧ Q k H'
theorem pt_cmpR {op : CmpOp} {r : R2} (ho : OpR X (compareOp op) r) (ha : PE X a ta) (hb : PE X b tb) (hm : behindInMarks op b = false) : PT X (.Compare a [op] [b] pos) (tTest (tOp r ta tb)) := by
  intro pins s σ H Q I h
  refine wpAny_isTrue_Compare1 (thn (ha pins s σ H _ I h) fun v s1 ⟨x, H1, I1, r1, q1⟩ => thn (hb pins s1 σ H1 _ I1 q1) fun u s2 ⟨y, H2, I2, r2, q2⟩ =>
    thn (ho pins s2 σ H2 x y v u _ I2 r1 r2 q2) fun c s3 ⟨z, H3, I3, r3, k, e, q3⟩ => ?_) hm
  subst e
  cases r3
  exact wpAny_truthy_bool ⟨H3, I3, q3⟩
theorem line63 : (sizeLine : Nat) < 2 ^ 63 := by rw [sizeLine_eq]; decide
theorem vals1 {x : V} {us : List Value} (r : Vals [x] us) : ∃ u, us = [u] ∧ RelV x u := by
  cases r with
  | cons r1 r2 => cases r2; exact ⟨_, rfl, r1⟩
theorem vals2 {x y : V} {us : List Value} (r : Vals [x, y] us) : ∃ u w', us = [u, w'] ∧ RelV x u ∧ RelV y w' := by
  cases r with
  | cons r1 r2 =>
    cases r2 with
    | cons r3 r4 => cases r4; exact ⟨_, _, rfl, r1, r3⟩
theorem call_max2 (hc : X.calm = true) : CallR X (.builtin "max") (fun xs H Q => ∃ i j, xs = [.int i, .int j] ∧ Q (.int (if j > i then j else i)) H) := by
  intro pins s σ H xs us Q I r h
  obtain ⟨i, j, rfl, q⟩ := h
  obtain ⟨u, w', rfl, ⟨t, rfl⟩, ⟨t', rfl⟩⟩ := vals2 r
  refine max_two_ints (I.ok.hd hc) fun h' tk k => ⟨_, H, I.kept k, ?_, q⟩
  by_cases hj : j > i
  · rw [if_pos hj, if_pos hj]; exact ⟨_, rfl⟩
  · rw [if_neg hj, if_neg hj]; exact ⟨_, rfl⟩
theorem call_min2 (hc : X.calm = true) : CallR X (.builtin "min") (fun xs H Q => ∃ i j, xs = [.int i, .int j] ∧ Q (.int (if j < i then j else i)) H) := by
  intro pins s σ H xs us Q I r h
  obtain ⟨i, j, rfl, q⟩ := h
  obtain ⟨u, w', rfl, ⟨t, rfl⟩, ⟨t', rfl⟩⟩ := vals2 r
  refine min_two_ints (I.ok.hd hc) fun h' tk k => ⟨_, H, I.kept k, ?_, q⟩
  by_cases hj : j < i
  · rw [if_pos hj, if_pos hj]; exact ⟨_, rfl⟩
  · rw [if_neg hj, if_neg hj]; exact ⟨_, rfl⟩
theorem call_int1 : CallR X (.type "int") (fun xs H Q => (∃ i, xs = [.int i] ∧ Q (.int i) H) ∨ ∃ k, xs = [.bl k] ∧ Q (.int (if k then 1 else 0)) H) := by
  intro pins s σ H xs us Q I r h
  rcases h with ⟨i, rfl, q⟩ | ⟨k, rfl, q⟩
  · obtain ⟨u, rfl, t, rfl⟩ := vals1 r
    exact call_int_int ⟨.int i, H, I, ⟨_, rfl⟩, q⟩
  · obtain ⟨u, rfl, r1⟩ := vals1 r
    cases r1
    exact call_int_bool ⟨.int (if k then 1 else 0), H, I.tok _, ⟨_, rfl⟩, q⟩
end
end L2
namespace L2
open PySem PySem.Spec PyProof.Rows
structure ObjM (h : Heap) (x dx C : Addr) (mA : Str → Option Value) : Prop where
  obj : h.get? x = some (PySem.W.instObj C dx)
  ns : h.Ns1 dx mA
  ne : dx ≠ x
theorem lookIn_ns {h : Heap} {dx : Addr} {mA : Str → Option Value} (n : h.Ns1 dx mA) : ∃ od, h.get? dx = some od ∧ ∀ name, PySem.W.lookIn name od = some (mA name) := by
  obtain ⟨o, es, ep, ho, hd, hk, _, hm⟩ := n
  refine ⟨o, ho, fun name => ?_⟩
  have e := hm name
  unfold nsFind findBy at e
  rw [← Array.find?_toList] at e
  unfold PySem.W.lookIn
  rw [hd]
  dsimp only
  split
  · rename_i y q
    rw [q] at e
    exact congrArg some e
  · rename_i q
    rw [q] at e
    have a : es.toList.any (·.refKey) = false := by
      rw [List.any_eq_false]
      intro y hy
      obtain ⟨z, t, hkey⟩ := hk y (Array.mem_toList_iff.mp hy)
      simp [DictEntry.refKey, hkey]
    have a' : ¬ es.toList.any (·.refKey) = true := by rw [a]; exact Bool.false_ne_true
    rw [if_neg a']
    exact congrArg some e
theorem ObjM.look {h : Heap} {x dx C : Addr} {mA : Str → Option Value} (I : ObjM h x dx C mA) : ∃ od, PySem.W.InstAt h x (PySem.W.instObj C dx) C (some od) ∧ ∀ name, PySem.W.lookIn name od = some (mA name) :=
  let ⟨od, ho, hl⟩ := lookIn_ns I.ns
  ⟨od, ⟨I.obj, rfl, rfl, ho⟩, hl⟩
section
variable {prog : Program} {w : World} {A : Around} {E : Value → Shared → Prop} {s : Shared} {K : PySem.W.Frag} {x dx C f : Addr} {mA : Str → Option Value} {name : Str} {v : Value}
end
section
variable {P : Program} {w : World} {H H' : Hp} {h h' : Heap} {a C dx : Addr} {fs fs' : List (Str × V)}
theorem ins_get (hok : HOk P w H h) (e : H a = some (.ins C dx fs)) : ∃ mA, ObjM h a dx C mA ∧ (∀ f, RelO (fs.lookup f) (mA f)) ∧ PySem.Within mA (fs.map (·.1)) ∧ fs.length ≤ 1000 ∧ H dx = some (.own a) := by
  obtain ⟨d, z, ne, ob, mA, n, r, q⟩ := (show ObjOk P w H h a (.ins C dx fs) from hok a _ e)
  exact ⟨mA, ⟨ob, n, ne⟩, r, q, z, d⟩
end
structure Cls (K : PySem.W.Frag) (C : Addr) : Prop where
  pg : PySem.W.plainGet K C Str.empty = true
  hd : PySem.W.hasDictIn K C = true
  po : PySem.W.plainOver K C = true
  sa : PySem.W.findIn K (.ref C) "__setattr__" = some (some (.builtin "object.__setattr__"))
theorem Cls.get {K : PySem.W.Frag} {C : Addr} (c : Cls K C) (f : Str) : PySem.W.plainGet K C f = true := c.pg
structure Con (K : PySem.W.Frag) (C : Addr) (f : Str) (v : V) (u : Value) : Prop where
  at_ : PySem.W.findIn K (.ref C) f = some (some u)
  rel : RelV v u
  get : PySem.W.specialIn K u "__get__" = some none
  cp : PySem.W.copiedNames.contains f = false
structure Meth (K : PySem.W.Frag) (C : Addr) (m : Str) (f : Addr) : Prop where
  at_ : PySem.W.findIn K (.ref C) m = some (some (.ref f))
  fn : PySem.W.isFn K (.ref f) = true
  kp : PySem.W.keepIn K (.ref f) = true
section
variable {X : Cx} {pins : List (Addr × Obj)} {σ : St} {H : Hp} {s : Shared} {a C dx : Addr} {fs : List (Str × V)} {f : Str} {v : V} {A : Around} {E : Value → Shared → Prop}
end
section
variable {X : Cx} {o e value : Expr} {f : Str} {pos pos' tpos : Pos} {ta tv : TE}
end
section
variable {X : Cx} {pins : List (Addr × Obj)} {σ : St} {H : Hp} {s : Shared} {A : Around} {E : Value → Shared → Prop} {Q : Value → Shared → Prop} {c : Value} {b : Bool}
inductive TyOf (K : PySem.W.Frag) (H : Hp) : V → Value → Prop where
  | non : TyOf K H .non (.type "NoneType")
  | bl (x : Bool) : TyOf K H (.bl x) (.type "bool")
  | int (i : Int) : TyOf K H (.int i) (.type "int")
  | str (x : Str) : TyOf K H (.str x) (.type "str")
  | flt (x : UInt64) : TyOf K H (.flt x) (.type "float")
  | lst {a : Addr} {xs : List V} (e : H a = some (.lst xs)) : TyOf K H (.ref a) (.type "list")
  | frz {a : Addr} {o : Obj} {xs : List V} (e : H a = some (.frz o (.lst xs))) : TyOf K H (.ref a) (.type "list")
  | tup {a : Addr} {xs : List V} (e : H a = some (.tup xs)) : TyOf K H (.ref a) (.type "tuple")
  | dK {a : Addr} {kvs : List (Key × V)} (e : H a = some (.dK kvs)) : TyOf K H (.ref a) (.type "dict")
  | dT {a : Addr} {kvs : List (List Key × V)} (e : H a = some (.dT kvs)) : TyOf K H (.ref a) (.type "dict")
  | ins {a C dx : Addr} {fs : List (Str × V)} (e : H a = some (.ins C dx fs)) (cl : Cls K C) (ha : PySem.W.findIn K (.ref C) "__class__" = some (some (.builtin "object.__class__")))
      (hn : PySem.W.specialIn K (.builtin "object.__class__") "__get__" = some (some (.builtin "getset_descriptor.__get__"))) (htk : PySem.W.takesIn K (.builtin "object.__class__") = some true)
      (hm : PySem.W.mroIn K C (.type "object") = some true) : TyOf K H (.ref a) (.ref C)
theorem isinst_ok {x : V} {u t : Value} (I : Inv X pins σ H s) (rx : RelV x u) (ty : TyOf X.K H x t) (e : PySem.W.kitOne X.K t c = some b) (h : ∀ tk, Q (.bool b) { s with toks := tk }) :
    wpAny (model X.prog X.w) A (call (.builtin "isinstance") [u, c]) Q E s := by
  cases ty with
  | non => cases (show u = Value.none from rx); exact PySem.W.kia_one PySem.W.kitx_none I.kIn True.intro e (fun z => nomatch z) h
  | bl y => cases (show u = Value.bool y from rx); exact PySem.W.kia_one PySem.W.kitx_bool I.kIn True.intro e (fun z => nomatch z) h
  | int i => obtain ⟨t, q⟩ := (show ∃ t, u = Value.int i t from rx); cases q; exact PySem.W.kia_one PySem.W.kitx_int I.kIn True.intro e (fun z => nomatch z) h
  | str y => obtain ⟨t, q⟩ := (show ∃ t, u = Value.str y t from rx); cases q; exact PySem.W.kia_one PySem.W.kitx_str I.kIn True.intro e (fun z => nomatch z) h
  | flt y => obtain ⟨t, q⟩ := (show ∃ t, u = Value.float y t from rx); cases q; exact PySem.W.kia_one PySem.W.kitx_float I.kIn True.intro e (fun z => nomatch z) h
  | @lst a xs ea =>
    cases (show u = Value.ref a from rx)
    obtain ⟨_, _, n, _, h1⟩ := (show ObjOk X.prog X.w H s.heap a (.lst xs) from I.hok a _ ea)
    exact PySem.W.kia_one PySem.W.kitx_list I.kIn ⟨_, h1, rfl⟩ e (fun z => nomatch z) h
  | @frz a ob xs ea =>
    cases (show u = Value.ref a from rx)
    obtain ⟨_, _, _, n, _, h1⟩ := (show ObjOk X.prog X.w H s.heap a (.frz ob (.lst xs)) from I.hok a _ ea)
    exact PySem.W.kia_one PySem.W.kitx_list I.kIn ⟨_, h1, rfl⟩ e (fun z => nomatch z) h
  | @tup a xs ea =>
    cases (show u = Value.ref a from rx)
    obtain ⟨_, _, _, p⟩ := (show ObjOk X.prog X.w H s.heap a (.tup xs) from I.hok a _ ea)
    obtain ⟨o, h1, h2, _⟩ := p
    exact PySem.W.kia_one PySem.W.kitx_tuple I.kIn ⟨o, h1, h2⟩ e (fun z => nomatch z) h
  | @dK a kvs ea =>
    cases (show u = Value.ref a from rx)
    obtain ⟨_, _, vs, _, p⟩ := (show ObjOk X.prog X.w H s.heap a (.dK kvs) from I.hok a _ ea)
    obtain ⟨o, es, ep, h1, h2, _⟩ := p
    exact PySem.W.kia_one PySem.W.kitx_dict I.kIn ⟨o, h1, h2.1⟩ e (fun z => nomatch z) h
  | @dT a kvs ea =>
    cases (show u = Value.ref a from rx)
    obtain ⟨_, _, xs, _, o, es, ep, h1, h2, _⟩ := (show ObjOk X.prog X.w H s.heap a (.dT kvs) from I.hok a _ ea)
    exact PySem.W.kia_one PySem.W.kitx_dict I.kIn ⟨o, h1, h2.1⟩ e (fun z => nomatch z) h
  | @ins a C dx fs ea cl ha hn htk hm =>
    cases (show u = Value.ref a from rx)
    obtain ⟨mA, O, _⟩ := ins_get I.hok ea
    obtain ⟨od, J, _⟩ := O.look
    exact PySem.W.kia_one (PySem.W.kitx_own (cl.get _) cl.hd ha hn htk hm) I.kIn J e (fun z => nomatch z) h
end
end L2
namespace L2
open PySem PySem.Spec PyProof.Rows
structure Room (k : Nat) (A : Around) : Prop where
  hd : A.handled = none
  dp : A.depth + 3 * k + 5 < recursionLimit
  un : A.units + 16 * k + 200 < cLine
theorem Room.mono {j k : Nat} {A : Around} (r : Room k A) (h : j ≤ k) : Room j A := ⟨r.hd, by have := r.dp; omega, by have := r.un; omega⟩
theorem Room.deeper {k : Nat} {A : Around} (r : Room (k + 1) A) (env : Env) : Room k (A.deeper env) :=
  ⟨r.hd, by have := r.dp; show A.depth + 1 + 3 * k + 5 < _; omega, by have := r.un; show A.units + 3 + 16 * k + 200 < _; omega⟩
theorem Room.in1 {k : Nat} {A : Around} (r : Room (k + 1) A) : Room k A.in1 :=
  ⟨r.hd, by have := r.dp; show A.depth + 3 * k + 5 < _; omega, by have := r.un; show A.units + 1 + 16 * k + 200 < _; omega⟩
theorem Room.depth {k : Nat} {A : Around} (r : Room k A) : A.depth < recursionLimit := by have := r.dp; omega
theorem Room.units {k : Nat} {A : Around} (r : Room k A) : A.units + 64 < cLine := by have := r.un; omega
def tNil : TA := fun _ H Q => Q [] H
def tCons (ta : TE) (tr : TA) : TA := fun σ H Q => ta σ H fun x H1 => tr σ H1 fun xs H2 => Q (x :: xs) H2
section
variable {X : Cx} {e : Expr} {es : List Expr} {te : TE} {t : TA} {pos : Pos}
theorem pa_nil : PA X [] tNil := fun _ _ _ _ H Q I h => Calls.spliced_nil ⟨[], H, I, .nil, h⟩
theorem pa_cons (ha : PE X e te) (hr : PA X es t) (hs : starEach (e :: es) X.env = (false, eval e X.env) :: starEach es X.env := by rfl) : PA X (e :: es) (tCons te t) := by
  intro pos pins s σ H Q I h
  rw [hs]
  show wpAny _ _ (spliced ((false, eval e X.env) :: backTo pos (starEach es X.env))) _ _ s
  refine Calls.spliced_cons (thn (ha pins s σ H _ I h) fun u s1 ⟨x, H1, I1, r1, q1⟩ => ?_)
  exact thn (hr pos pins s1 σ H1 _ I1 q1) fun us s2 ⟨xs, H2, I2, r2, q2⟩ => ⟨x :: xs, H2, I2, .cons r1 r2, q2⟩
def tTup (t : TA) : TE := fun σ H Q => t σ H fun xs H1 => xs.length ≤ sizeLine ∧ ∀ p, H1 p = none → Q (.ref p) (upd H1 p (.tup xs))
def tLst (t : TA) : TE := fun σ H Q => t σ H fun xs H1 => xs.length ≤ sizeLine ∧ ∀ p, H1 p = none → Q (.ref p) (upd H1 p (.lst xs))
theorem pe_tup {x1} (h : PA X es t) : PE X (.Tuple es x1 pos) (tTup t) := by
  intro pins s σ H Q I hq
  refine wpAny_Tuple_spliced (thn (h pos pins s σ H _ I hq) fun us s1 ⟨xs, H1, I1, r, z, q⟩ => ⟨by rw [← r.length]; exact z, ?_⟩)
  have hf : H1 s1.heap.objs.size = none := I1.hok.fresh (Nat.le_refl _)
  refine ⟨.ref s1.heap.objs.size, upd H1 s1.heap.objs.size (.tup xs), I1.laid (t' := s1.toks) (fun b u e => Heap.get?_push_of_some _ e) (Nat.le_refl _) ?_, rfl, q _ hf⟩
  exact ⟨z, us, r, ⟨_, Heap.get?_push_size _ rfl, rfl, _, rfl⟩⟩
theorem pe_lst (h : PA X es t) : PE X (.List es pos) (tLst t) := by
  intro pins s σ H Q I hq
  refine wpAny_List_spliced (thn (h pos pins s σ H _ I hq) fun us s1 ⟨xs, H1, I1, r, z, q⟩ => ⟨by rw [← r.length]; exact z, ?_⟩)
  have hf : H1 s1.heap.objs.size = none := I1.hok.fresh (Nat.le_refl _)
  refine ⟨.ref s1.heap.objs.size, upd H1 s1.heap.objs.size (.lst xs), I1.laid (t' := s1.toks) (fun b u e => Heap.get?_push_of_some _ e) (Nat.le_refl _) ?_, rfl, q _ hf⟩
  exact ⟨z, us, 0, r, Heap.get?_push_size _ rfl⟩
end
abbrev Sp := List V → Hp → VK → XK → Prop
abbrev CXT := List Env → Hp → Shared → XK → Value → Shared → Prop
structure Env0 (P : Program) (w : World) (K : PySem.W.Frag) (mg : Str → Option Value) (base : Heap) (A : Around) (outer : List Env) (s : Shared) (H : Hp) : Prop where
  frames : A.frames = some outer
  mod : Mod K mg base
  bs : ∀ b o, base.get? b = some o → s.heap.get? b = some o ∧ H b = none
  bsz : base.objs.size ≤ s.heap.objs.size
  funs : s.heap.FunFrames base outer
  frf : ∀ b ∈ frs outer, H b = none
  hok : HOk P w H s.heap
  bare : AllBare s.gens
def CE (outer : List Env) (P : Program) (w : World) (H : Hp) (s : Shared) (Q : VK) (u : Value) (s' : Shared) : Prop :=
  ∃ v H', s'.os = s.os ∧ AllBare s'.gens ∧ Un (frs outer) [] H H' s.heap s'.heap ∧ HOk P w H' s'.heap ∧ RelV v u ∧ Q v H'
def CR (CX : CXT) (outer : List Env) (P : Program) (w : World) (H : Hp) (s : Shared) (Q : VK) (E : XK) (r : Result) (s' : Shared) : Prop :=
  match r with
  | .ok (.ret u) => CE outer P w H s Q u s'
  | .ok _ => False
  | .error e => CX outer H s E e s'
structure FnOk (P : Program) (w : World) (K : PySem.W.Frag) (mg : Str → Option Value) (base : Heap) (CX : CXT) (k : Nat) (f : Addr) (fd : FuncData) (ps : List Str) (sp : Sp) : Prop where
  len : ∀ vs H Q E, sp vs H Q E → vs.length = ps.length
  run : ∀ (A : Around) (outer : List Env) (s : Shared) (H : Hp) (args : Args) (us : List Value) (vs : List V) (Q : VK) (E : XK), Room k A → Env0 P w K mg base A outer s H → BindsTo s fd args (ps.zip us) → Vals vs us → sp vs H Q E →
    codeAny (model P w) A (.call (.ref f) args) (CR CX outer P w H s Q E) s
theorem FnOk.mono {P : Program} {w : World} {K : PySem.W.Frag} {mg : Str → Option Value} {base : Heap} {CX : CXT} {j k : Nat} {f : Addr} {fd : FuncData} {ps : List Str} {sp : Sp} (F : FnOk P w K mg base CX j f fd ps sp) (h : j ≤ k) :
    FnOk P w K mg base CX k f fd ps sp := ⟨F.len, fun A outer s H args us vs Q E hr => F.run A outer s H args us vs Q E (hr.mono h)⟩
theorem FnOk.imp {P : Program} {w : World} {K : PySem.W.Frag} {mg : Str → Option Value} {base : Heap} {CX : CXT} {k : Nat} {f : Addr} {fd : FuncData} {ps : List Str} {sp sp' : Sp} (F : FnOk P w K mg base CX k f fd ps sp)
    (h : ∀ vs H Q E, sp' vs H Q E → sp vs H Q E) : FnOk P w K mg base CX k f fd ps sp' :=
  ⟨fun vs H Q E q => F.len vs H Q E (h _ _ _ _ q), fun A outer s H args us vs Q E hr he hb hv hs => F.run A outer s H args us vs Q E hr he hb hv (h _ _ _ _ hs)⟩
theorem Env0.in1 {P : Program} {w : World} {K : PySem.W.Frag} {mg : Str → Option Value} {base : Heap} {A : Around} {outer : List Env} {s : Shared} {H : Hp} (e : Env0 P w K mg base A outer s H) :
    Env0 P w K mg base A.in1 outer s H := ⟨e.frames, e.mod, e.bs, e.bsz, e.funs, e.frf, e.hok, e.bare⟩
section
variable {X : Cx} {pins : List (Addr × Obj)} {σ : St} {H : Hp} {s s' : Shared}
theorem Inv.env0 (I : Inv X pins σ H s) : Env0 X.prog X.w X.K X.mg X.base X.A X.stack s H :=
  ⟨I.ok.frames, I.ok.mod, I.bs, Nat.le_trans I.ok.bsz I.sz, I.stack, I.stkFree, I.hok, I.bare⟩
theorem Inv.after {Q : VK} {u : Value} (I : Inv X pins σ H s) (h : CE X.stack X.prog X.w H s Q u s') : EP X pins σ Q u s' := by
  obtain ⟨v, H', os, bare, un, hok, r, q⟩ := h
  obtain ⟨hh, g, d, t, os'⟩ := s'
  obtain rfl : os' = s.os := os
  exact ⟨v, H', I.call (h' := hh) (g' := g) (d' := d) (t' := t) (ch := []) un hok bare (fun b z => absurd z (by simp)), r, q⟩
end
def tCall (sp : Sp) (dvs : List V) (E : XK) (t : TA) : TE := fun σ H Q => t σ H fun vs H1 => sp (vs ++ dvs) H1 Q E
def Binds (K : PySem.W.Frag) (fd : FuncData) (ps : List Str) (ds : List Value) : Prop :=
  ∀ (s : Shared) (us : List Value), K.In s.heap → (us ++ ds).length = ps.length → BindsTo s fd ⟨us, []⟩ (ps.zip (us ++ ds))
theorem Binds.all {K : PySem.W.Frag} {fd : FuncData} {ps : List Str} (h : ∀ us : List Value, us.length = ps.length → bindArgs fd ⟨us, []⟩ = pure (ps.zip us)) : Binds K fd ps [] := fun s us _ hl => by
  rw [List.append_nil] at hl ⊢
  exact .of_eq (h us hl)
def Passes (CX : CXT) (X : Cx) (E : XK) : Prop := ∀ (pins : List (Addr × Obj)) (σ : St) (H : Hp) (s : Shared) (e : Value) (s' : Shared), Inv X pins σ H s → CX X.stack H s E e s' → X.xe e s'
section
variable {X : Cx} {CX : CXT} {k : Nat} {f C : Addr} {fd : FuncData} {ps : List Str} {sp : Sp} {dvs : List V} {ds : List Value} {E : XK} {x m : Str} {p pos apos : Pos} {e o : Expr} {es : List Expr} {ta : TE} {t : TA}
theorem run_fn {pins : List (Addr × Obj)} {σ : St} {H : Hp} {s : Shared} {Q : VK} {us : List Value} {vs : List V} (F : FnOk X.prog X.w X.K X.mg X.base CX k f fd ps sp) (hr : Room k X.A) (hb : Binds X.K fd ps ds) (hd : Vals dvs ds) (hx : Passes CX X E)
    (I : Inv X pins σ H s) (r : Vals vs us) (h : sp (vs ++ dvs) H Q E) : wpAny (model X.prog X.w) X.A (call (.ref f) us) (EP X pins σ Q) X.xe s := by
  have r2 : Vals (vs ++ dvs) (us ++ ds) := r.append hd
  have hl : (us ++ ds).length = ps.length := by rw [← r2.length]; exact F.len _ _ _ _ h
  refine wpAny_call (codeAny_mono (F.run X.A X.stack s H ⟨us, []⟩ (us ++ ds) (vs ++ dvs) Q E hr I.env0 (hb s us I.kIn hl) r2 h) fun r s' hq => ?_)
  cases r with
  | error e => exact hx pins σ H s e s' I hq
  | ok fl =>
    cases fl with
    | ret u => exact I.after hq
    | next => exact False.elim hq
    | brk => exact False.elim hq
    | cont => exact False.elim hq
theorem pe_call (F : FnOk X.prog X.w X.K X.mg X.base CX k f fd ps sp) (hr : Room k X.A) (hg : Gl X x) (hm : X.mg x = some (.ref f)) (hk : PySem.W.keepIn X.K (.ref f) = true) (hb : Binds X.K fd ps ds) (hd : Vals dvs ds) (hx : Passes CX X E)
    (ha : PA X (e :: es) t) (hdb : (x == ("__debug__" : Str)) = false := by decide) (he : starEach (e :: es) X.env = (false, eval e X.env) :: starEach es X.env := by rfl) (hpl : (backTo pos (starEach es X.env)).any (·.1) = false := by rfl) :
    PE X (.Call (.Name x p) (e :: es) [] pos) (tCall sp dvs E t) := by
  intro pins s σ H Q I h
  refine wpAny_Call_Name_kw (ld_glob I hg hm ?_ hdb)
  refine PySem.W.callWith_K (h₀ := X.base) I.ok.mod.kin hk (thn (ha pos pins s σ H _ I h) fun us s1 ⟨vs, H1, I1, r, q⟩ => ⟨I1.kIn, ?_⟩) he hpl
  exact run_fn F hr hb hd hx I1 r q
structure Mk (K : PySem.W.Frag) (C f : Addr) : Prop where
  makes : PySem.W.makesIn K C = true
  init : PySem.W.findIn K (.ref C) "__init__" = some (some (.ref f))
  fn : PySem.W.isFn K (.ref f) = true
  kp : PySem.W.keepIn K (.ref C) = true
end
section
variable {X : Cx} {CX : CXT} {k : Nat} {f C : Addr} {fd : FuncData} {ps ks : List Str} {sp : Sp} {E : XK} {x m : Str} {p pos apos kpos : Pos} {e o : Expr} {es : List Expr} {kws : List Keyword} {te ta : TE} {t tk : TA} {nm : Option Str}
structure KBinds (K : PySem.W.Frag) (fd : FuncData) (ps ks : List Str) (g : List Value → List Value → List Value) (gV : List V → List V → List V) : Prop where
  to : ∀ (s : Shared) (us ws : List Value), K.In s.heap → (g us ws).length = ps.length → BindsTo s fd ⟨us, ks.zip ws⟩ (ps.zip (g us ws))
  rel : ∀ {vs : List V} {us : List Value} {zs : List V} {ws : List Value}, Vals vs us → Vals zs ws → Vals (gV vs zs) (g us ws)
variable {g : List Value → List Value → List Value} {gV : List V → List V → List V}
end
structure FnScope (N P : List Str) (sc : Scope) : Prop where
  kind : sc.kind = .function
  co : sc.isCoroutine = false
  gen : sc.isGenerator = false
  nd : N.Nodup
  pre : N.take P.length = P
  par : ∀ x ∈ P, sc.names.lookup x = some .local ∨ sc.names.lookup x = some .cell
  nofree : ∀ y ∈ sc.names, y.2 ≠ .free
theorem bindL_out {kindOf : Str → Option NameKind} {x : Str} : ∀ {binds : List (Str × Value)} {m : Str → Option Value}, (∀ v, (x, v) ∉ binds) → bindL kindOf binds m x = m x
  | [], _, _ => rfl
  | (n, v) :: r, m, h => by
    unfold bindL
    rw [bindL_out fun w hw => h w (List.mem_cons_of_mem _ hw)]
    split
    · have : x ≠ n := by rintro rfl; exact h v List.mem_cons_self
      simp [this]
    · rfl
theorem bindC_out {kindOf : Str → Option NameKind} {x : Str} : ∀ {binds : List (Str × Value)} {m : Str → Option Value}, (∀ v, (x, v) ∉ binds) → bindC kindOf binds m x = m x
  | [], _, _ => rfl
  | (n, v) :: r, m, h => by
    unfold bindC
    rw [bindC_out fun w hw => h w (List.mem_cons_of_mem _ hw)]
    split
    · rfl
    · have : x ≠ n := by rintro rfl; exact h v List.mem_cons_self
      simp [this]
theorem bindL_get {kindOf : Str → Option NameKind} {x : Str} {v : Value} : ∀ {P : List Str} {vs : List Value} {i : Nat} {m : Str → Option Value}, P.Nodup → P[i]? = some x → vs[i]? = some v → kindOf x = some .local →
    bindL kindOf (P.zip vs) m x = some v
  | [], _, _, _, _, h, _, _ => by simp at h
  | _ :: _, [], _, _, _, _, h, _ => by simp at h
  | p :: P, w :: vs, 0, m, nd, h1, h2, hk => by
    simp at h1 h2; subst h1; subst h2
    show bindL kindOf ((p, w) :: P.zip vs) m p = _
    unfold bindL
    rw [bindL_out fun v hv => (List.nodup_cons.mp nd).1 (List.of_mem_zip hv).1, if_pos hk]
    simp
  | p :: P, w :: vs, i + 1, m, nd, h1, h2, hk => by
    show bindL kindOf ((p, w) :: P.zip vs) m x = _
    unfold bindL
    exact bindL_get (i := i) (List.nodup_cons.mp nd).2 (by simpa using h1) (by simpa using h2) hk
theorem bindC_get {kindOf : Str → Option NameKind} {x : Str} {v : Value} : ∀ {P : List Str} {vs : List Value} {i : Nat} {m : Str → Option Value}, P.Nodup → P[i]? = some x → vs[i]? = some v → kindOf x ≠ some .local →
    bindC kindOf (P.zip vs) m x = some v
  | [], _, _, _, _, h, _, _ => by simp at h
  | _ :: _, [], _, _, _, _, h, _ => by simp at h
  | p :: P, w :: vs, 0, m, nd, h1, h2, hk => by
    simp at h1 h2; subst h1; subst h2
    show bindC kindOf ((p, w) :: P.zip vs) m p = _
    unfold bindC
    rw [bindC_out fun v hv => (List.nodup_cons.mp nd).1 (List.of_mem_zip hv).1, if_neg hk]
    simp
  | p :: P, w :: vs, i + 1, m, nd, h1, h2, hk => by
    show bindC kindOf ((p, w) :: P.zip vs) m x = _
    unfold bindC
    exact bindC_get (i := i) (List.nodup_cons.mp nd).2 (by simpa using h1) (by simpa using h2) hk
def start (N : List Str) (vs : List V) : St := vs.map some ++ List.replicate (N.length - vs.length) none
def cxOf (CX : CXT) (P : Program) (w : World) (K : PySem.W.Frag) (mg : Str → Option Value) (base : Heap) (N : List Str) (qual : Str) (scope : Scope) (f : Addr) (cd : Value) (A : Around) (outer : List Env) (s : Shared) (H : Hp) (E : XK) : Cx where
  prog := P
  w := w
  K := K
  mg := mg
  base := base
  A := A.deeper (envOfC qual scope s.heap.objs.size f cd)
  N := N
  s₀ := s
  H₀ := H
  env := envOfC qual scope s.heap.objs.size f cd
  outer := outer
  stack := envOfC qual scope s.heap.objs.size f cd :: outer
  ex := []
  calm := true
  fn := fun _ => true
  pn := []
  xe := fun e s' => wpAny (model P w) (A.deeper (envOfC qual scope s.heap.objs.size f cd)) (leaving (envOfC qual scope s.heap.objs.size f cd) e) (fun _ s'' => CX outer H s E e s'') (fun e' s'' => CX outer H s E e' s'') s'
theorem cell_has {sc : Scope} {n : Nat} {x : Str} (h : sc.names.lookup x = some .cell) : ∃ c, (cellsFrom n sc.names []).lookup x = some c := by
  have q := PySem.W.cellsFrom_some sc.names n [] (.inl h)
  exact Option.isSome_iff_exists.mp q
theorem inv_start {CX : CXT} {P : Program} {w : World} {K : PySem.W.Frag} {mg : Str → Option Value} {base : Heap} {N ps : List Str} {qual : Str} {scope : Scope} {f : Addr} {cd : Value} {A : Around} {outer : List Env} {s s1 : Shared} {H : Hp} {E : XK} {us : List Value} {vs : List V}
    (S : FnScope N ps scope) (hd : A.handled = none) (e0 : Env0 P w K mg base A outer s H) (hl : vs.length = ps.length) (r : Vals vs us)
    (x : InCallC s s.heap.objs.size (bindL (envOfC qual scope s.heap.objs.size f cd).kindOf (ps.zip us) fun _ => none) (cellsFrom (s.heap.objs.size + 1) scope.names []) (bindC (envOfC qual scope s.heap.objs.size f cd).kindOf (ps.zip us) fun _ => none) s1) :
    Inv (cxOf CX P w K mg base N qual scope f cd A outer s H E) [] (start N vs) H s1 := by
  have hpl : ps.length ≤ N.length := by have := congrArg List.length S.pre; rw [List.length_take] at this; omega
  obtain ⟨h1, tk, rfl, hk⟩ := x.done
  have noA : ∀ b : Addr, b ∉ (cxOf CX P w K mg base N qual scope f cd A outer s H E).ex := fun b z => absurd (show b ∈ ([] : List Addr) from z) (by simp)
  refine ⟨⟨e0.mod, S.kind, rfl, rfl, Nat.le_refl _, fun y z c h1 h2 => ?_, fun y hy => ?_, fun y c _ h => ?_, fun _ => hd, Around.frames_deeper e0.frames, .inr ⟨rfl, rfl⟩, fun b z => absurd z (noA b), e0.bs, e0.bsz, fun b _ _ => noA b, fun b z => absurd z (noA b), e0.funs, e0.frf⟩,
    rfl, e0.bare, Un.kept hk, ⟨_, x.toInCall.ns, fun i y v h1 h2 h3 => ?_⟩, fun y c h => ⟨_, x.cell y c h⟩, e0.hok.fresh (Nat.le_refl _), fun y c h => ?_, fun p hp => absurd (show p ∈ ([] : List (Addr × Obj)) from hp) (by simp), e0.hok.kept hk, ?_⟩
  · exact name_of_addr x.apart (PySem.mem_of_lookup h1) (PySem.mem_of_lookup h2)
  · have hy : scope.names.lookup y = some .cell ∨ scope.names.lookup y = some .free := hy
    rcases hy with hy | hy
    · exact cell_has hy
    · exact absurd rfl (S.nofree _ (PySem.mem_of_lookup hy))
  · exact Nat.le_of_lt (x.above y c (PySem.mem_of_lookup h))
  · have hi : i < vs.length := by
      unfold start at h2
      by_cases hi : i < vs.length
      · exact hi
      · rw [List.getElem?_append_right (by simpa using hi)] at h2
        rw [List.getElem?_replicate] at h2
        split at h2 <;> cases h2
    have ha : vs[i]? = some v := by
      unfold start at h2
      rw [List.getElem?_append_left (by simpa using hi), List.getElem?_map] at h2
      cases e : vs[i]? with
      | none => rw [e] at h2; cases h2
      | some a => rw [e] at h2; cases h2; rfl
    obtain ⟨u, hu, rv⟩ := r.get ha
    have hp : ps[i]? = some y := by
      rw [← S.pre, List.getElem?_take_of_lt (by omega)]; exact h1
    have ndP : ps.Nodup := by rw [← S.pre]; exact S.nd.sublist (List.take_sublist _ _)
    refine ⟨u, rv, ?_⟩
    rcases S.par y (List.mem_of_getElem? hp) with k | k
    · exact .inl ⟨k, bindL_get ndP hp hu k⟩
    · obtain ⟨c, e⟩ := cell_has (n := s.heap.objs.size + 1) k
      refine .inr ⟨.inl k, c, e, ?_⟩
      have q := x.cell y c e
      rw [bindC_get ndP hp hu (by show scope.names.lookup y ≠ _; rw [k]; decide)] at q
      exact q
  · exact e0.hok.fresh (Nat.le_of_lt (x.above y c (PySem.mem_of_lookup h)))
  · unfold start
    show _ = N.length
    rw [List.length_append, List.length_map, List.length_replicate]
    omega
theorem fn_of {CX : CXT} {P : Program} {w : World} {K : PySem.W.Frag} {mg : Str → Option Value} {base : Heap} {k : Nat} {f : Addr} {name qual : Str} {params : Arguments} {body : List Stmt} {scope : Scope} {dV kV doc pm cdv ct oc : Value} {an od : Option Addr}
    {osl : Array (Option Value)} {N ps : List Str} {sp : Sp} (lk : K.lookup f = some ⟨oc, od, .func (PySem.W.fnOf name qual params body scope dV kV doc pm an cdv ct), osl⟩) (hcd : PySem.W.codeIn K cdv qual = true) (S : FnScope N ps scope)
    (len : ∀ vs H Q E, sp vs H Q E → vs.length = ps.length)
    (hbody : ∀ (A : Around) (outer : List Env) (s : Shared) (H : Hp) (vs : List V) (Q : VK) (E : XK), Room k (A.deeper (envOfC qual scope s.heap.objs.size f cdv)) → sp vs H Q E →
      ∃ t, PSs (cxOf CX P w K mg base N qual scope f cdv A outer s H E) body t ∧ t { nx := fun _ H' => Q .non H', rt := Q } (start N vs) H) :
    FnOk P w K mg base CX (k + 1) f (PySem.W.fnOf name qual params body scope dV kV doc pm an cdv ct) ps sp := by
  refine ⟨len, fun A outer s H args us vs Q E hr e0 hb r hsp => ?_⟩
  have hl := len _ _ _ _ hsp
  have KX : K.In s.heap := e0.mod.kin.keeps fun b o e => (e0.bs b o e).1
  have lim : s.heap.NoLimit := e0.mod.nolimit.keeps fun b o e => (e0.bs b o e).1
  have hkind : ∀ y ∈ ps.zip us, scope.names.lookup y.1 = some .local ∨ (scope.names.lookup y.1 = some .cell ∧ ((cellsFrom (s.heap.objs.size + 1) scope.names []).lookup y.1).isSome = true) := fun ⟨n, v⟩ hy => by
    rcases S.par n (List.of_mem_zip hy).1 with q | q
    · exact .inl q
    · exact .inr ⟨q, PySem.W.cellsFrom_some _ _ _ (.inl q)⟩
  refine codeAny_call_function hr.depth (KX _ _ lk) rfl S.co S.gen rfl (PySem.W.codeRec_of KX hcd) (hb _ _ _ _ ?_)
  refine wpAny_newFunctionEnv_cells S.kind hkind fun env he s1 x => ?_
  subst he
  refine ⟨lim.keeps x.toInCall.keep, codeAny_func ?_⟩
  obtain ⟨t, ht, hq⟩ := hbody A outer s H vs Q E (hr.deeper _) hsp
  have I : Inv (cxOf CX P w K mg base N qual scope f cdv A outer s H E) [] (start N vs) H s1 := inv_start S hr.hd e0 hl r x
  refine wpAny_mono (ht [] s1 (start N vs) H _ I hq) (fun fl s' hs => ?_) fun e s' hs => hs
  have fin : ∀ {σ' : St} {H' : Hp} {v : V} {u : Value}, Inv (cxOf CX P w K mg base N qual scope f cdv A outer s H E) [] σ' H' s' → RelV v u → Q v H' → CE outer P w H s Q u s' :=
    fun {σ' H' v u} J rv q => ⟨v, H', J.os, J.bare, J.base, J.hok, rv, q⟩
  cases fl with
  | ret u =>
    obtain ⟨v, σ', H', J, rv, q⟩ := hs
    exact fin J rv q
  | next =>
    obtain ⟨σ', H', J, q⟩ := hs
    exact fin (v := V.non) (u := Value.none) J rfl q
  | brk =>
    obtain ⟨_, _, _, q⟩ := hs
    exact False.elim q
  | cont =>
    obtain ⟨_, _, _, q⟩ := hs
    exact False.elim q
end L2
namespace L2
open PySem PySem.Spec PyProof.Rows
section
variable {X : Cx} {x : Str} {p pos : Pos} {e : Expr} {es : List Expr} {t : TA} {id T : String} {r : List V → Hp → VK → Prop}
def tCB (r : List V → Hp → VK → Prop) (t : TA) : TE := fun σ H Q => t σ H fun vs H1 => r vs H1 Q
theorem pe_callB (hc : CallR X (.builtin id) r) (hg : Gl X x) (hm : X.mg x = none) (hv : bootBuiltins x = some (.builtin id)) (ha : PA X (e :: es) t) (hn : x ≠ "__name__" := by decide) (hdb : (x == ("__debug__" : Str)) = false := by decide)
    (he : starEach (e :: es) X.env = (false, eval e X.env) :: starEach es X.env := by rfl) (hpl : (backTo pos (starEach es X.env)).any (·.1) = false := by rfl) : PE X (.Call (.Name x p) (e :: es) [] pos) (tCB r t) := by
  intro pins s σ H Q I h
  refine wpAny_Call_Name_kw (ld_blt I hg hm hv ?_ hn hdb)
  exact PyProof.Rows.callWith_builtin1 (thn (ha pos pins s σ H _ I h) fun us s1 ⟨vs, H1, I1, r1, q1⟩ => hc pins s1 σ H1 vs us Q I1 r1 q1) he hpl
theorem pe_callTy (hc : CallR X (.type T) r) (hg : Gl X x) (hm : X.mg x = none) (hv : bootBuiltins x = some (.type T)) (ha : PA X (e :: es) t) (hn : x ≠ "__name__" := by decide) (hdb : (x == ("__debug__" : Str)) = false := by decide)
    (he : starEach (e :: es) X.env = (false, eval e X.env) :: starEach es X.env := by rfl) (hpl : (backTo pos (starEach es X.env)).any (·.1) = false := by rfl) : PE X (.Call (.Name x p) (e :: es) [] pos) (tCB r t) := by
  intro pins s σ H Q I h
  refine wpAny_Call_Name_kw (ld_blt I hg hm hv ?_ hn hdb)
  exact PyProof.Rows.callWith_type1 (thn (ha pos pins s σ H _ I h) fun us s1 ⟨vs, H1, I1, r1, q1⟩ => hc pins s1 σ H1 vs us Q I1 r1 q1) he hpl
end
end L2
namespace HT
open PySem PyProof.Rows
section
open PySem.SeqAt
open PySem.AutoSeq1 (wpAny_loadPart')
open PySem.MeetsSeq PySem.MeetsSeq2 PySem.MeetsSeq3
end
section
variable {prog : Program} {w : World} {A : Around} {E : Value → Shared → Prop} {s : Shared}
def sIx (n d : Nat) : Option Int → Nat
  | none => d
  | some v => if v < 0 then (v + (n : Int)).toNat else min v.toNat n
theorem sIx_none (n d : Nat) : sIx n d none = d := rfl
theorem sIx_nat (n d k : Nat) : sIx n d (some (k : Int)) = min k n := by
  show (if (k : Int) < 0 then ((k : Int) + (n : Int)).toNat else min (k : Int).toNat n) = min k n
  rw [if_neg (by omega), Int.toNat_natCast]
end
end HT
namespace L2
open PySem PySem.Spec PyProof.Rows
abbrev TO := St → Hp → (Option Int → Hp → Prop) → Prop
def PO (X : Cx) (e : Option Expr) (t : TO) : Prop :=
  ∀ (pins : List (Addr × Obj)) (s : Shared) (σ : St) (H : Hp) (Q : Option Int → Hp → Prop), Inv X pins σ H s → t σ H Q →
    wpAny (model X.prog X.w) X.A (evalPart e X.env) (fun u s' => ∃ o H', Inv X pins σ H' s' ∧ IsPart u o ∧ Q o H') X.xe s
def tNoPart : TO := fun _ H Q => Q none H
def tPart (t : TE) : TO := fun σ H Q => t σ H fun x H1 => ∃ i, x = .int i ∧ Q (some i) H1
section
variable {X : Cx} {e : Expr} {te : TE} {lo hi : Option Expr} {tl th : TO} {pos p2 : Pos}
theorem po_none : PO X none tNoPart := by
  intro pins s σ H Q I h
  rw [evalPart_none]
  exact wpAny_pure ⟨none, H, I, .none, h⟩
theorem po_some (h : PE X e te) : PO X (some e) (tPart te) := by
  intro pins s σ H Q I hw
  rw [evalPart_some]
  refine thn (h pins s σ H _ I hw) fun u s1 ⟨x, H1, I1, r1, q1⟩ => ?_
  obtain ⟨i, rfl, q⟩ := q1
  obtain ⟨t, rfl⟩ := r1
  exact ⟨some i, H1, I1, .int i t, q⟩
def SlR (X : Cx) (r : V → Option Int → Option Int → Hp → VK → Prop) : Prop :=
  ∀ (pins : List (Addr × Obj)) (s : Shared) (σ : St) (H : Hp) (x : V) (v vl vu : Value) (lo hi : Option Int) (sl : Addr) (Q : VK), Inv X pins σ H s → RelV x v → s.heap.IsSliceOf sl vl vu .none → IsPart vl lo → IsPart vu hi → r x lo hi H Q →
    ∃ T id, typeLookup (.type T) "__getitem__" = pure (some (.builtin id)) ∧ s.TypeIs v T ∧ wpAny (model X.prog X.w) X.A (getItem v (.ref sl)) (EP X pins σ Q) X.xe s
def tSl (r : V → Option Int → Option Int → Hp → VK → Prop) (te : TE) (tl th : TO) : TE := fun σ H Q => te σ H fun x H1 => tl σ H1 fun l H2 => th σ H2 fun u H3 => r x l u H3 Q
theorem pe_slice {r : V → Option Int → Option Int → Hp → VK → Prop} (hr : SlR X r) (he : PE X e te) (hl : PO X lo tl) (hu : PO X hi th) : PE X (.Subscript e (.Slice lo hi none p2) pos) (tSl r te tl th) := by
  intro pins s σ H Q I h
  refine Subscript_ (thn (he pins s σ H _ I h) fun v s1 ⟨x, H1, I1, r1, q1⟩ => ?_)
  refine wpAny_Slice (thn (hl pins s1 σ H1 _ I1 q1) fun vl s2 ⟨l, H2, I2, pl, q2⟩ => thn (hu pins s2 σ H2 _ I2 q2) fun vu s3 ⟨u, H3, I3, pu, q3⟩ => ?_)
  rw [evalPart_none]
  refine wpAny_pure ?_
  have I4 : Inv X pins σ H3 { s3 with heap := s3.heap.push { cls := .type "slice", data := .fields #[vl, vu, .none] } } := I3.kept (t' := s3.toks) fun b ob q => Heap.get?_push_of_some _ q
  obtain ⟨T, id, hT, ht, hg⟩ := hr pins { s3 with heap := s3.heap.push { cls := .type "slice", data := .fields #[vl, vu, .none] } } σ H3 x v vl vu l u s3.heap.objs.size Q I4 r1 (Heap.IsSliceOf.new ..) pl pu q3
  show wpAny (model X.prog X.w) X.A (subscriptTail e (.Slice lo hi none p2) v (.ref s3.heap.objs.size)) (EP X pins σ Q) X.xe { s3 with heap := s3.heap.push { cls := .type "slice", data := .fields #[vl, vu, .none] } }
  exact tail_any (ops := [.ref s3.heap.objs.size, v]) ht hT hg (by with_unfolding_all rfl)
def cutV (xs : List V) (lo hi : Option Int) : List V := (xs.drop (HT.sIx xs.length 0 lo)).take (HT.sIx xs.length xs.length hi - HT.sIx xs.length 0 lo)
theorem cutV_length (xs : List V) (lo hi : Option Int) : (cutV xs lo hi).length ≤ xs.length := by
  unfold cutV
  rw [List.length_take, List.length_drop]
  omega
end
end L2
namespace L2
open PySem PySem.Spec PyProof.Rows
def ixN (n : Nat) (i : Int) : Option Nat := if 0 ≤ i then (if i < n then some i.toNat else none) else if -(n : Int) ≤ i then some (i + n).toNat else none
def atI {α : Type} (xs : List α) (i : Int) : Option α := (ixN xs.length i).bind fun j => xs[j]?
theorem ixN_seq {n : Nat} {i : Int} {j : Nat} (h : ixN n i = some j) : seqIndex? i n = some j ∧ j < n ∧ -(n : Int) ≤ i ∧ i < n := by
  unfold ixN at h
  by_cases h0 : 0 ≤ i
  · rw [if_pos h0] at h
    by_cases h1 : i < n
    · rw [if_pos h1] at h
      have e : i.toNat = j := Option.some.inj h
      exact ⟨by rw [seqIndex_of h0 h1, e], by omega, by omega, h1⟩
    · rw [if_neg h1] at h; cases h
  · rw [if_neg h0] at h
    by_cases h1 : -(n : Int) ≤ i
    · rw [if_pos h1] at h
      have e : (i + n).toNat = j := Option.some.inj h
      exact ⟨by rw [seqIndex_neg (by omega) h1, e], by omega, h1, by omega⟩
    · rw [if_neg h1] at h; cases h
theorem atI_get {α : Type} {xs : List α} {i : Int} {v : α} (h : atI xs i = some v) : ∃ j, seqIndex? i xs.length = some j ∧ xs[j]? = some v ∧ j < xs.length ∧ -(xs.length : Int) ≤ i ∧ i < xs.length := by
  unfold atI at h
  cases e : ixN xs.length i with
  | none => rw [e] at h; cases h
  | some j =>
    rw [e] at h
    obtain ⟨h1, h2, h3, h4⟩ := ixN_seq e
    exact ⟨j, h1, h, h2, h3, h4⟩
theorem atI_nat {α : Type} {xs : List α} {j : Nat} {v : α} (h : xs[j]? = some v) : atI xs (j : Int) = some v := by
  have hj : j < xs.length := (List.getElem?_eq_some_iff.mp h).1
  have e : ixN xs.length (j : Int) = some j := by
    unfold ixN
    rw [if_pos (by omega), if_pos (by omega)]; simp
  unfold atI; rw [e]; exact h
def PlainIx (b : Expr) : Prop := ∀ o i, subscripted b false o i = operate [o, i] (getItem o i)
def IxR (X : Cx) (r : R2) : Prop :=
  ∀ (value slice : Expr) (pins : List (Addr × Obj)) (s : Shared) (σ : St) (H : Hp) (x y : V) (v u : Value) (Q : VK), Inv X pins σ H s → RelV x v → RelV y u → r x y H Q →
    subscripted slice false v u = operate [v, u] (getItem v u) → wpAny (model X.prog X.w) X.A (subscriptTail value slice v u) (EP X pins σ Q) X.xe s
def MtR (X : Cx) (id : String) (r : V → List V → Hp → VK → Prop) : Prop :=
  ∀ (pins : List (Addr × Obj)) (s : Shared) (σ : St) (H : Hp) (x : V) (xs : List V) (v : Value) (us : List Value) (Q : VK), Inv X pins σ H s → RelV x v → Vals xs us → r x xs H Q →
    wpAny (model X.prog X.w) X.A (call (.builtin id) (v :: us)) (EP X pins σ Q) X.xe s
section
variable {X : Cx} {a b : Expr} {ta tb : TE} {pos : Pos}
theorem pe_ix {r : R2} (hr : IxR X r) (ha : PE X a ta) (hb : PE X b tb) (hs : PlainIx b) : PE X (.Subscript a b pos) (tOp r ta tb) := by
  intro pins s σ H Q I h
  exact Subscript_ (binT ha hb I h fun v u s2 x y H2 I2 rx ry q => hr a b pins s2 σ H2 x y v u Q I2 rx ry q (hs _ _))
def rIxL (K : PySem.W.Frag) : R2 := fun x y H Q => ∃ p xs i v, x = .ref p ∧ y = .int i ∧ SqL K H p xs ∧ atI xs i = some v ∧ Q v H
def rIxT (K : PySem.W.Frag) : R2 := fun x y H Q => ∃ p xs i v, x = .ref p ∧ y = .int i ∧ SqT K H p xs ∧ atI xs i = some v ∧ Q v H
theorem ix_list : IxR X (rIxL X.K) := by
  intro value slice pins s σ H x y v u Q I rx ry h hs
  obtain ⟨p, xs, i, z, rfl, rfl, hq, he, q⟩ := h
  cases rx
  obtain ⟨t, rfl⟩ := ry
  obtain ⟨its, r, pl, hz⟩ := I.list hq
  obtain ⟨j, h1, h2, h3, h4, h5⟩ := atI_get he
  obtain ⟨w, ew, rw'⟩ := r.get h2
  have hl := r.length
  have hn := line63
  have fin : EP X pins σ Q w s := ⟨z, H, I, rw', q⟩
  by_cases h0 : 0 ≤ i
  · have hj : i.toNat = j := by
      rw [seqIndex_of h0 h5] at h1
      exact Option.some.inj h1
    exact item_listR pl.isList h0 (by omega) (by rw [hj]; simpa using ew) fin hs
  · have hj : (i + (its.toArray.size : Int)).toNat = j := by
      rw [seqIndex_neg (by omega) h4] at h1
      rw [List.size_toArray, ← hl]
      exact Option.some.inj h1
    exact subscriptTail_builtinR (x := w) pl.isList.typeIs slot_list_getitem.lookup
      (wpAny_getItem_list_neg (Q := fun r s' => r = w ∧ EP X pins σ Q r s') pl.isList (by omega) (by rw [List.size_toArray] <;> omega) (by omega) (by rw [hj]; simpa using ew) ⟨rfl, fin⟩) hs
theorem ix_tup : IxR X (rIxT X.K) := by
  intro value slice pins s σ H x y v u Q I rx ry h hs
  obtain ⟨p, xs, i, z, rfl, rfl, hq, he, q⟩ := h
  cases rx
  obtain ⟨t, rfl⟩ := ry
  obtain ⟨its, r, pl, hz⟩ := I.tuple hq
  obtain ⟨j, h1, h2, h3, h4, h5⟩ := atI_get he
  obtain ⟨w, ew, rw'⟩ := r.get h2
  have hl := r.length
  have hn := line63
  have fin : EP X pins σ Q w s := ⟨z, H, I, rw', q⟩
  exact subscriptTail_builtinR (x := w) pl.typeIs slot_tuple_getitem.lookup
    (getItem_tuple (j := j) (Q := fun r s' => r = w ∧ EP X pins σ Q r s') pl (by omega) (by omega) (by rw [List.size_toArray, ← hl]; exact h1) (by simpa using ew) ⟨rfl, fin⟩) hs
theorem mapSeq_set (its : List Value) (n j : Nat) (u : Value) : Obj.mapSeq (·.setIfInBounds j u) { cls := .type "list", data := .seq its.toArray n } = { cls := .type "list", data := .seq (its.set j u).toArray n } := by
  simp [Obj.mapSeq]
theorem Inv.lst {pins : List (Addr × Obj)} {σ : St} {H : Hp} {s : Shared} {p : Addr} {xs : List V} (I : Inv X pins σ H s) (h : H p = some (.lst xs)) :
    ∃ (its : List Value) (n : Nat), Vals xs its ∧ s.heap.get? p = some { cls := .type "list", data := .seq its.toArray n } ∧ xs.length ≤ sizeLine := by
  obtain ⟨z, its, n, r, e⟩ := I.hok p _ h
  exact ⟨its, n, r, e, z⟩
theorem Inv.lstUpd {pins : List (Addr × Obj)} {σ : St} {H : Hp} {s : Shared} {p : Addr} {xs ys : List V} {its its' : List Value} {n n' : Nat} {f : Obj → Obj} (I : Inv X pins σ H s) (h : H p = some (.lst xs))
    (ho : s.heap.get? p = some { cls := .type "list", data := .seq its.toArray n }) (hf : f { cls := .type "list", data := .seq its.toArray n } = { cls := .type "list", data := .seq its'.toArray n' }) (r : Vals ys its') (hz : ys.length ≤ sizeLine) (t : Nat) :
    Inv X pins σ (upd H p (.lst ys)) { s with heap := s.heap.update p f, toks := t } := by
  have e : (s.heap.update p f).get? p = some { cls := .type "list", data := .seq its'.toArray n' } := by
    rw [Heap.get?_update_self f ho (by rw [hf] <;> rfl), hf]
  refine I.write (x := p) (e := p) (by rw [h]; trivial) (.inl rfl) (fun b u hb q => (Heap.get?_update_other _ _ (Ne.symm hb)).trans q) ⟨_, e⟩ ?_
  exact ⟨hz, its', n', r, e⟩
def rSetL : V → V → V → Hp → (Hp → Prop) → Prop := fun o i v H Q => ∃ p xs k j, o = .ref p ∧ i = .int k ∧ H p = some (.lst xs) ∧ ixN xs.length k = some j ∧ Q (upd H p (.lst (xs.set j v)))
theorem set_list : PSet X rSetL := by
  intro pins s σ H o i v ov iv u Q I ro ri rv h
  obtain ⟨p, xs, k, j, rfl, rfl, hp, hj, q⟩ := h
  cases ro
  obtain ⟨t, rfl⟩ := ri
  obtain ⟨its, n, r, ho, hz⟩ := I.lst hp
  obtain ⟨h1, h2, h3, h4⟩ := ixN_seq hj
  have hl := r.length
  have hn := line63
  have I' : Inv X pins σ (upd H p (.lst (xs.set j v))) { s with heap := s.heap.update p (Obj.mapSeq (·.setIfInBounds j u)) } :=
    I.lstUpd hp ho (mapSeq_set its n j u) (r.set rv j) (by rw [List.length_set]; exact hz) s.toks
  by_cases h0 : 0 ≤ k
  · have hk : k.toNat = j := by
      rw [seqIndex_of h0 h4] at h1
      exact Option.some.inj h1
    exact PySem.W.ki_setAt ho h0 (by omega) (by rw [List.size_toArray, ← hl]; exact h4) (by rw [hk]; exact ⟨_, I', q⟩)
  · have hk : (k + (its.toArray.size : Int)).toNat = j := by
      rw [seqIndex_neg (by omega) h3] at h1
      rw [List.size_toArray, ← hl]
      exact Option.some.inj h1
    exact PySem.W.ki_setBack ho (by omega) (by rw [List.size_toArray, ← hl]; exact h3) (by omega) (by rw [hk]; exact ⟨_, I', q⟩)
theorem slice_bounds (lo hi : Option Int) (n : Nat) : (sliceBounds lo hi none n).1 = ((HT.sIx n 0 lo : Nat) : Int) ∧ (sliceBounds lo hi none n).2.1 = ((HT.sIx n n hi : Nat) : Int) ∧ (sliceBounds lo hi none n).2.2 = 1 := by
  refine ⟨?_, ?_, rfl⟩
  · cases lo with
    | none => simp [sliceBounds, HT.sIx]
    | some i =>
      simp only [sliceBounds, HT.sIx, Option.getD_none, show (1 : Int) > 0 by decide, if_true]
      by_cases h : i < 0
      · simp only [h, if_true] <;> omega
      · simp only [h, if_false] <;> omega
  · cases hi with
    | none => simp [sliceBounds, HT.sIx]
    | some i =>
      simp only [sliceBounds, HT.sIx, Option.getD_none, show (1 : Int) > 0 by decide, if_true]
      by_cases h : i < 0
      · simp only [h, if_true] <;> omega
      · simp only [h, if_false] <;> omega
theorem slicePick_cut (its : List Value) (lo hi : Option Int) : slicePick its.toArray lo hi none = ((its.drop (HT.sIx its.length 0 lo)).take (HT.sIx its.length its.length hi - HT.sIx its.length 0 lo)).toArray := by
  obtain ⟨h1, h2, h3⟩ := slice_bounds lo hi its.toArray.size
  unfold slicePick
  rw [h1, h2, h3]
  simp only [sliceRange_one, pick_run, List.size_toArray] <;> rfl
def rSlL (K : PySem.W.Frag) : V → Option Int → Option Int → Hp → VK → Prop := fun x lo hi H Q => ∃ a xs, x = .ref a ∧ SqL K H a xs ∧ ∀ p, H p = none → Q (.ref p) (upd H p (.lst (cutV xs lo hi)))
theorem sl_list : SlR X (rSlL X.K) := by
  intro pins s σ H x v vl vu lo hi sl Q I rx hs pl pu h
  obtain ⟨a, xs, rfl, hx, q⟩ := h
  cases rx
  obtain ⟨its, r, ht, hz⟩ := I.list hx
  have hlen := r.length
  refine ⟨"list", _, slot_list_getitem.lookup, ht.isList.typeIs, ?_⟩
  refine wpAny_getItem_list_slice ht.isList hs pl pu .none (by simp) ?_ (by rw [List.size_toArray] <;> omega)
  rw [slicePick_cut, ← hlen]
  refine ⟨.ref s.heap.objs.size, _, I.laid (t' := s.toks) (o := .lst (cutV xs lo hi)) (fun b ob q => Heap.get?_push_of_some _ q) (Nat.le_refl _) ?_, rfl, q _ (I.hok.fresh (Nat.le_refl _))⟩
  exact ⟨Nat.le_trans (cutV_length xs lo hi) hz, _, 0, (r.drop (HT.sIx xs.length 0 lo)).take (HT.sIx xs.length xs.length hi - HT.sIx xs.length 0 lo), Heap.get?_push_size _ rfl⟩
def flatV : V → Bool
  | .non => true
  | .bl _ => true
  | .int _ => true
  | .str _ => true
  | _ => false
def eqV : V → V → Bool
  | .non, .non => true
  | .bl a, .bl b => a == b
  | .bl a, .int b => (if a then 1 else 0) == b
  | .int a, .bl b => a == (if b then 1 else 0)
  | .int a, .int b => a == b
  | .str a, .str b => a == b
  | _, _ => false
theorem eqAt_V {A : Around} {s : Shared} {y x : V} {u v : Value} (ry : RelV y u) (rx : RelV x v) (fy : flatV y = true) (fx : flatV x = true) : SeqAt.EqAt A s u v (eqV y x) := by
  cases y with
  | non =>
    cases ry
    cases x with
    | non => cases rx; exact SeqAt.EqAt.same _
    | bl b => cases rx; exact SeqAt.EqAt.none_bool b
    | int b => obtain ⟨t, rfl⟩ := rx; exact SeqAt.EqAt.none_int b t
    | str b => obtain ⟨t, rfl⟩ := rx; exact SeqAt.EqAt.none_str b t
    | _ => exact absurd (show false = true from fx) Bool.false_ne_true
  | bl a =>
    cases ry
    cases x with
    | non => cases rx; exact SeqAt.EqAt.bool_none a
    | bl b => cases rx; exact SeqAt.EqAt.bool_bool a b
    | int b => obtain ⟨t, rfl⟩ := rx; exact SeqAt.EqAt.bool_int a b t
    | str b => obtain ⟨t, rfl⟩ := rx; exact SeqAt.EqAt.bool_str a b t
    | _ => exact absurd (show false = true from fx) Bool.false_ne_true
  | int a =>
    obtain ⟨t', rfl⟩ := ry
    cases x with
    | non => cases rx; exact SeqAt.EqAt.int_none a t'
    | bl b => cases rx; exact SeqAt.EqAt.int_bool a t' b
    | int b => obtain ⟨t, rfl⟩ := rx; exact SeqAt.EqAt.int_int a t' b t
    | str b => obtain ⟨t, rfl⟩ := rx; exact SeqAt.EqAt.int_str a t' b t
    | _ => exact absurd (show false = true from fx) Bool.false_ne_true
  | str a =>
    obtain ⟨t', rfl⟩ := ry
    cases x with
    | non => cases rx; exact SeqAt.EqAt.str_none a t'
    | bl b => cases rx; exact SeqAt.EqAt.str_bool a t' b
    | int b => obtain ⟨t, rfl⟩ := rx; exact SeqAt.EqAt.str_int a t' b t
    | str b => obtain ⟨t, rfl⟩ := rx; exact SeqAt.EqAt.str_str a t' b t
    | _ => exact absurd (show false = true from fx) Bool.false_ne_true
  | _ => exact absurd (show false = true from fy) Bool.false_ne_true
def eqU (x : V) (u : Value) : Bool := match u with
  | .none => eqV .non x
  | .bool b => eqV (.bl b) x
  | .int i _ => eqV (.int i) x
  | .str z _ => eqV (.str z) x
  | _ => false
theorem eqU_of {x y : V} {u : Value} (r : RelV y u) (f : flatV y = true) : eqU x u = eqV y x := by
  cases y with
  | non => cases r; rfl
  | bl b => cases r; rfl
  | int i => obtain ⟨t, rfl⟩ := r; rfl
  | str z => obtain ⟨t, rfl⟩ := r; rfl
  | _ => exact absurd (show false = true from f) Bool.false_ne_true
theorem any_eqU {x : V} : ∀ {xs : List V} {us : List Value}, Vals xs us → xs.all flatV = true → us.any (eqU x) = xs.any fun y => eqV y x
  | _, _, .nil, _ => rfl
  | y :: xs, u :: us, .cons r t, f => by
    rw [List.all_cons, Bool.and_eq_true] at f
    rw [List.any_cons, List.any_cons, eqU_of r f.1, any_eqU t f.2]
theorem mem_eqAt {A : Around} {s : Shared} {x : V} {v : Value} (rx : RelV x v) (fx : flatV x = true) : ∀ {xs : List V} {us : List Value}, Vals xs us → xs.all flatV = true → ∀ u ∈ us, SeqAt.EqAt A s u v (eqU x u)
  | _, _, .nil, _ => fun u hu => by cases hu
  | y :: xs, u :: us, .cons r t, f => fun u' hu => by
    rw [List.all_cons, Bool.and_eq_true] at f
    rcases List.mem_cons.mp hu with rfl | hu
    · rw [eqU_of r f.1]; exact eqAt_V r rx f.1 fx
    · exact mem_eqAt rx fx t f.2 u' hu
def inV (x : V) (xs : List V) : Bool := xs.any fun y => eqV y x
def rIn (K : PySem.W.Frag) (neg : Bool) : R2 := fun x y H Q => ∃ p xs, y = .ref p ∧ (SqL K H p xs ∨ SqT K H p xs) ∧ flatV x = true ∧ xs.all flatV = true ∧ Q (.bl (if neg then !inV x xs else inV x xs)) H
theorem op_notIn_seq : OpR X (compareOp .NotIn) (rIn X.K true) := by
  intro pins s σ H x y v u Q I rx ry h
  obtain ⟨p, xs, rfl, hq, fx, fs, q⟩ := h
  cases ry
  rcases hq with hq | hq
  · obtain ⟨its, r, pl, hz⟩ := I.list hq
    refine SeqAt.notIn_listAt (eqU x) pl.isList (fun w hw => mem_eqAt rx fx r fs w (by simpa using hw)) ⟨.bl _, H, I, rfl, ?_⟩
    rw [show its.toArray.any (eqU x) = its.any (eqU x) by simp, any_eqU r fs]
    exact q
  · obtain ⟨its, r, pl, hz⟩ := I.tuple hq
    refine SeqAt.notIn_tupleAt (eqU x) pl (fun w hw => mem_eqAt rx fx r fs w (by simpa using hw)) ⟨.bl _, H, I, rfl, ?_⟩
    rw [show its.toArray.any (eqU x) = its.any (eqU x) by simp, any_eqU r fs]
    exact q
theorem call_len_seq : CallR X (.builtin "len") (fun xs H Q => ∃ p ys, xs = [.ref p] ∧ (SqL X.K H p ys ∨ SqT X.K H p ys) ∧ Q (.int ys.length) H) := by
  intro pins s σ H xs us Q I r h
  obtain ⟨p, ys, rfl, hq, q⟩ := h
  obtain ⟨u, rfl, rx⟩ := vals1 r
  cases rx
  have hn := line63
  rcases hq with hq | hq
  · obtain ⟨its, r', pl, hz⟩ := I.list hq
    have hlen := r'.length
    exact Calls.call_len_list pl.isList (by simp only [List.size_toArray] <;> omega) ⟨.int ys.length, H, I.tok _, ⟨s.toks + 1, by rw [List.size_toArray, hlen]⟩, q⟩
  · obtain ⟨its, r', pl, hz⟩ := I.tuple hq
    have hlen := r'.length
    exact len_tuple pl (by simp only [List.size_toArray] <;> omega) ⟨.int ys.length, H, I.tok _, ⟨s.toks + 1, by rw [List.size_toArray, hlen]⟩, q⟩
theorem call_list_of : CallR X (.type "list") (fun xs H Q => ∃ p ys, xs = [.ref p] ∧ (SqL X.K H p ys ∨ SqT X.K H p ys) ∧ ∀ l, H l = none → Q (.ref l) (upd H l (.lst ys))) := by
  intro pins s σ H xs us Q I r h
  obtain ⟨p, ys, rfl, hq, q⟩ := h
  obtain ⟨u, rfl, rx⟩ := vals1 r
  cases rx
  have fin : ∀ (its : List Value), Vals ys its → ys.length ≤ sizeLine → ∀ (h' : Heap) (c' : Nat), (∀ b o', s.heap.get? b = some o' → h'.get? b = some o') →
      h'.get? s.heap.objs.size = some { cls := .type "list", dict := none, data := .seq its.toArray c', slots := #[] } → EP X pins σ Q (.ref s.heap.objs.size) { s with heap := h' } := fun its r' hz h' c' kp e =>
    ⟨.ref s.heap.objs.size, _, I.laid (t' := s.toks) kp (Nat.le_refl _) (show ObjOk X.prog X.w _ h' _ (.lst ys) from ⟨hz, its, c', r', e⟩), rfl, q _ (I.hok.fresh (Nat.le_refl _))⟩
  rcases hq with hq | hq
  · obtain ⟨its, r', pl, hz⟩ := I.list hq
    have hlen := r'.length
    obtain ⟨o, ho, hc, n, hd⟩ := pl.isList
    exact call_list_seq p (.inl rfl) ho hc hd (fun h' c' kp e => fin its r' hz h' c' kp e) (by simp only [List.size_toArray] <;> omega)
  · obtain ⟨its, r', pl, hz⟩ := I.tuple hq
    have hlen := r'.length
    obtain ⟨o, ho, hc, n, hd⟩ := pl
    exact call_list_seq p (.inr rfl) ho hc hd (fun h' c' kp e => fin its r' hz h' c' kp e) (by simp only [List.size_toArray] <;> omega)
def tyV (K : PySem.W.Frag) (T : String) (x : V) (H : Hp) : Prop := match x with
  | .str _ => T = "str"
  | .int _ => T = "int"
  | .ref p => (T = "list" ∧ ∃ xs, SqL K H p xs) ∨ (T = "tuple" ∧ ∃ o, K.lookup p = some o ∧ o.cls = .type "tuple" ∧ o.dict = none) ∨
      (T = "dict" ∧ ((∃ kvs, H p = some (.dK kvs)) ∨ ∃ kvs, H p = some (.dT kvs))) ∨ (T = "set" ∧ ∃ S n, H p = some (.set S n))
  | _ => False
theorem tyV_is {pins : List (Addr × Obj)} {σ : St} {H : Hp} {s : Shared} {T : String} {x : V} {v : Value} (I : Inv X pins σ H s) (r : RelV x v) (ty : tyV X.K T x H) :
    s.TypeIs v T ∧ ∀ a, v = .ref a → ∃ ob, s.heap.get? a = some ob ∧ ob.dict = none := by
  cases x with
  | str z =>
    obtain ⟨t, rfl⟩ := r
    cases (show T = "str" from ty)
    exact ⟨typeIs_str s z t, fun _ e => nomatch e⟩
  | int i =>
    obtain ⟨t, rfl⟩ := r
    cases (show T = "int" from ty)
    exact ⟨typeIs_int s i t, fun _ e => nomatch e⟩
  | ref p =>
    cases r
    rcases ty with ⟨rfl, xs, hq⟩ | ⟨rfl, o, hk, hc, hd⟩ | ⟨rfl, hk⟩ | ⟨rfl, S, n, hk⟩
    · obtain ⟨its, _, pl, _⟩ := I.list hq
      refine ⟨pl.isList.typeIs, fun a e => ?_⟩
      cases e
      obtain ⟨o, n, e, c, hd, _⟩ := pl
      exact ⟨o, e, hd⟩
    · refine ⟨⟨o, I.kIn p o hk, hc⟩, fun a e => ?_⟩
      cases e
      exact ⟨o, I.kIn _ o hk, hd⟩
    · have z : ∃ o, s.heap.get? p = some o ∧ o.ExactDict := by
        rcases hk with ⟨kvs, hk⟩ | ⟨kvs, hk⟩
        · obtain ⟨_, _, _, _, o, _, _, e, ex, _⟩ := I.hok p _ hk
          exact ⟨o, e, ex⟩
        · obtain ⟨_, _, _, _, o, _, _, e, ex, _⟩ := I.hok p _ hk
          exact ⟨o, e, ex⟩
      obtain ⟨o, e, ex⟩ := z
      refine ⟨⟨o, e, ex.1⟩, fun a e2 => ?_⟩
      cases e2
      exact ⟨o, e, ex.2.1⟩
    · obtain ⟨o, _, _, _, e, ex, _⟩ := I.hok p _ hk
      refine ⟨⟨o, e, ex.1⟩, fun a e2 => ?_⟩
      cases e2
      exact ⟨o, e, ex.2.1⟩
  | _ => exact False.elim ty
def tBM (K : PySem.W.Frag) (T : String) (r : V → List V → Hp → VK → Prop) (to : TE) (t : TA) : TE := fun σ H Q => to σ H fun x H1 => tyV K T x H1 ∧ t σ H1 fun xs H2 => r x xs H2 Q
variable {o e : Expr} {es : List Expr} {to : TE} {t : TA} {name : Str} {apos cpos : Pos} {T id : String} {r : V → List V → Hp → VK → Prop}
theorem pe_bm (pa : PlainAttrs T) (slot : Slot T name id) (hty : typeOf (.builtin id) = pure (.type "method_descriptor")) (hm : MtR X id r) (ho : PE X o to) (ha : PA X (e :: es) t)
    (hbase : attributeBase o name X.env (eval o X.env) = eval o X.env := by rfl)
    (hfew : ((backTo cpos (starEach (e :: es) X.env)).all (fun x => !x.1) && (backToKw cpos (keywordEach [] X.env)).all (fun x => x.1.isSome)
      && decide ((e :: es).length + ([] : List Keyword).length + (if ([] : List Keyword).isEmpty then 0 else 1) < 30)) = true := by rfl)
    (hline : (apos.endLine == cpos.line) = true := by rfl) (hs : starEach (e :: es) X.env = (false, eval e X.env) :: starEach es X.env := by rfl) (hplain : (backTo cpos (starEach es X.env)).any (·.1) = false := by rfl) :
    PE X (.Call (.Attribute o name apos) (e :: es) [] cpos) (tBM X.K T r to t) := by
  intro pins s σ H Q I h
  refine wpAny_Call_method_late hbase hfew hline rfl (thn (ho pins s σ H _ I h) fun v s1 ⟨x, H1, I1, r1, ty, q1⟩ => ?_)
  obtain ⟨h1, h2⟩ := tyV_is I1 r1 ty
  refine ⟨T, id, pa, slot, hty, h1, h2, ?_⟩
  have hA := ha cpos pins s1 σ H1 _ I1 q1
  rw [hs] at hA ⊢
  refine Calls.callWith_builtin (by show (false || (backTo cpos (starEach es X.env)).any (·.1)) = false; rw [hplain] <;> rfl) (Calls.evalArgs_plain ?_)
  exact thn hA fun us s2 ⟨vs, H2, I2, r2, q2⟩ => hm pins s2 σ H2 x vs v us Q I2 r1 r2 q2
/- xs.append(e), list.index on a module's tuple .. are MtR facts of 06m -/
end
end L2
namespace L2
open PySem PySem.Spec PyProof.Rows
def MtM (X : Cx) (id : String) (r : V → List V → Hp → VK → Prop) : Prop :=
  ∀ (pins : List (Addr × Obj)) (s : Shared) (σ : St) (H : Hp) (x : V) (xs : List V) (v : Value) (us : List Value) (Q : VK), Inv X pins σ H s → RelV x v → Vals xs us → r x xs H Q →
    wpAny (model X.prog X.w) X.A (call (.builtin id) (v :: us)) (EP X pins σ Q) X.xe s
theorem Vals.one : ∀ {x : V} {us : List Value}, Vals [x] us → ∃ u, us = [u] ∧ RelV x u
  | _, _, .cons r .nil => ⟨_, rfl, r⟩
theorem Vals.two : ∀ {x y : V} {us : List Value}, Vals [x, y] us → ∃ u v, us = [u, v] ∧ RelV x u ∧ RelV y v
  | _, _, _, .cons r (.cons q .nil) => ⟨_, _, rfl, r, q⟩
theorem Vals.zero : ∀ {us : List Value}, Vals [] us → us = []
  | _, .nil => rfl
theorem Vals.eraseIdx : ∀ {xs : List V} {us : List Value} (i : Nat), Vals xs us → Vals (xs.eraseIdx i) (us.eraseIdx i)
  | _, _, _, .nil => .nil
  | _, _, 0, .cons _ t => t
  | _, _, i + 1, .cons r t => .cons r (Vals.eraseIdx i t)
theorem Vals.reverse {xs : List V} {us : List Value} (h : Vals xs us) : Vals xs.reverse us.reverse := by
  induction h with
  | nil => exact .nil
  | cons r t ih => rw [List.reverse_cons, List.reverse_cons]; exact Vals.append ih (.cons r .nil)
theorem Vals.rep {xs : List V} {us : List Value} (h : Vals xs us) : ∀ k : Nat, Vals (List.replicate k xs).flatten (List.replicate k us).flatten
  | 0 => .nil
  | k + 1 => by
    rw [List.replicate_succ, List.replicate_succ, List.flatten_cons, List.flatten_cons]
    exact Vals.append h (Vals.rep h k)
theorem len_erase {α : Type} : ∀ (l : List α) (i : Nat), (l.eraseIdx i).length ≤ l.length
  | [], _ => Nat.le_refl _
  | _ :: _, 0 => Nat.le_succ _
  | _ :: r, i + 1 => Nat.succ_le_succ (len_erase r i)
theorem foldl_rep (its : List Value) : ∀ (k : Nat) (acc : List Value),
    List.foldl (fun x1 x2 => x1 ++ x2) acc.toArray (List.replicate k its.toArray) = (acc ++ (List.replicate k its).flatten).toArray
  | 0, acc => by simp
  | k + 1, acc => by
    have e : acc.toArray ++ its.toArray = (acc ++ its).toArray := by simp
    have e2 : (acc ++ its) ++ (List.replicate k its).flatten = acc ++ (List.replicate (k + 1) its).flatten := by
      rw [List.replicate_succ, List.flatten_cons, List.append_assoc]
    rw [← e2, ← foldl_rep its k (acc ++ its), ← e, List.replicate_succ, List.foldl_cons]
section
variable {X : Cx} {pins : List (Addr × Obj)} {σ : St} {H : Hp} {s : Shared} {l b : Addr} {xs ys zs : List V}
theorem Inv.lset {its its' : List Value} {n : Nat} {f : Array Value → Array Value} {t' : Nat} (I : Inv X pins σ H s) (hH : H l = some (.lst xs))
    (e : s.heap.get? l = some { cls := .type "list", data := .seq its.toArray n }) (hf : f its.toArray = its'.toArray) (hv : Vals ys its') (hz : ys.length ≤ sizeLine) :
    Inv X pins σ (upd H l (.lst ys)) { s with heap := s.heap.update l (Obj.mapSeq f), toks := t' } := by
  have q := PySem.IsL.update e f
  rw [hf] at q
  refine I.write (x := l) (e := l) (by rw [hH]; exact trivial) (.inl rfl) (fun b' u hb hu => (Heap.get?_update_other s.heap (Obj.mapSeq f) (Ne.symm hb)).trans hu) ⟨_, q⟩ ?_
  exact ⟨hz, its', _, hv, q⟩
theorem Inv.lnew {its : List Value} {t' : Nat} (I : Inv X pins σ H s) (hv : Vals ys its) (hz : ys.length ≤ sizeLine) :
    Inv X pins σ (upd H s.heap.objs.size (.lst ys)) { s with heap := s.heap.push { cls := .type "list", data := .seq its.toArray }, toks := t' } :=
  I.laid (fun _ _ q => Heap.get?_push_of_some _ q) (Nat.le_refl _) ⟨hz, its, 0, hv, Heap.get?_push_size _ rfl⟩
theorem Inv.fresh (I : Inv X pins σ H s) : H s.heap.objs.size = none := I.hok.fresh (Nat.le_refl _)
theorem Inv.lstM (I : Inv X pins σ H s) (hH : H l = some (.lst xs)) : xs.length ≤ sizeLine ∧ ∃ (its : List Value) (n : Nat), Vals xs its ∧ xs.length = its.length ∧ s.heap.get? l = some { cls := .type "list", data := .seq its.toArray n } := by
  obtain ⟨z, its, n, r, e⟩ := I.hok l _ hH
  exact ⟨z, its, n, r, r.length, e⟩
theorem notLongL {n : Nat} (h : n ≤ sizeLine) : Builtin.List.listTooLong n = false := by
  unfold Builtin.List.listTooLong
  exact decide_eq_false (by omega)
end
section
variable {X : Cx}
def rAppend : V → List V → Hp → VK → Prop := fun x vs H Q => ∃ l xs y, x = .ref l ∧ vs = [y] ∧ H l = some (.lst xs) ∧ xs.length < sizeLine ∧ Q .non (upd H l (.lst (xs ++ [y])))
theorem mt_append : MtM X "list.append" rAppend := by
  intro pins s σ H x vs v us Q I rx rv h
  obtain ⟨l, xs, y, rfl, rfl, hH, hz, q⟩ := h
  cases rx
  obtain ⟨u, rfl, ru⟩ := rv.one
  obtain ⟨z, its, n, r, hl, e⟩ := I.lstM hH
  refine call_meets F.slot_list_append ⟨_, e, rfl⟩ F.entry_list_append (F.args_list_append_2 _ _) (PySem.list_append l its.toArray n u (by rw [List.size_toArray]; omega)) ⟨e, ?_⟩
  refine ⟨.non, _, I.lset (its' := its ++ [u]) hH e (by simp) (r.append (.cons ru .nil)) ?_, rfl, q⟩
  rw [List.length_append, List.length_singleton]
  omega
def rExtend : V → List V → Hp → VK → Prop := fun x vs H Q => ∃ l b xs zs, x = .ref l ∧ vs = [.ref b] ∧ H l = some (.lst xs) ∧ H b = some (.lst zs) ∧ xs.length + zs.length ≤ sizeLine ∧ Q .non (upd H l (.lst (xs ++ zs)))
theorem mt_extend : MtM X "list.extend" rExtend := by
  intro pins s σ H x vs v us Q I rx rv h
  obtain ⟨l, b, xs, zs, rfl, rfl, hH, hB, hz, q⟩ := h
  cases rx
  obtain ⟨u, rfl, ru⟩ := rv.one
  cases ru
  obtain ⟨z, its, n, r, hl, e⟩ := I.lstM hH
  obtain ⟨z2, its2, n2, r2, hl2, e2⟩ := I.lstM hB
  have hsz : its.toArray.size + its2.toArray.size ≤ sizeLine := by rw [List.size_toArray, List.size_toArray]; omega
  have hlong : ¬ (!its.toArray.isEmpty && Builtin.List.listTooLong (its.toArray.size + its2.toArray.size)) = true := by
    rw [notLongL hsz, Bool.and_false]
    exact Bool.false_ne_true
  refine call_meets F.slot_list_extend ⟨_, e, rfl⟩ F.entry_list_extend (F.args_list_extend_2 _ _)
    (AutoSeq1.list_extend_list_list_0 l its.toArray n b its2.toArray n2 hlong (by rw [List.size_toArray]; omega) (by omega)) ⟨e, e2, ?_⟩
  refine ⟨.non, _, I.lset (its' := its ++ its2) hH e (by simp) (r.append r2) ?_, rfl, q⟩
  rw [List.length_append]
  omega
def rCat : R2 := fun x y H Q => ∃ l b xs zs, x = .ref l ∧ y = .ref b ∧ H l = some (.lst xs) ∧ H b = some (.lst zs) ∧ xs.length + zs.length ≤ sizeLine ∧ ∀ p, H p = none → Q (.ref p) (upd H p (.lst (xs ++ zs)))
theorem op_cat : OpR X (binaryOp .Add) rCat := by
  intro pins s σ H x y v u Q I rx ry h
  obtain ⟨l, b, xs, zs, rfl, rfl, hH, hB, hz, q⟩ := h
  cases rx
  cases ry
  obtain ⟨z, its, n, r, hl, e⟩ := I.lstM hH
  obtain ⟨z2, its2, n2, r2, hl2, e2⟩ := I.lstM hB
  refine PySem.P.add_list e e2 ?_ (by rw [List.size_toArray, List.size_toArray]; omega)
  have ea : its.toArray ++ its2.toArray = (its ++ its2).toArray := by simp
  rw [ea]
  exact ⟨.ref _, _, I.lnew (t' := s.toks) (r.append r2) (by rw [List.length_append]; omega), rfl, q _ I.fresh⟩
def rRep : R2 := fun x y H Q => ∃ l k xs, x = .ref l ∧ y = .int k ∧ H l = some (.lst xs) ∧ -(2 ^ 63) ≤ k ∧ k < 2 ^ 63 ∧ xs.length * k.toNat ≤ sizeLine ∧
  ∀ p, H p = none → Q (.ref p) (upd H p (.lst (List.replicate k.toNat xs).flatten))
theorem len_rep {α : Type} (xs : List α) (k : Nat) : (List.replicate k xs).flatten.length = k * xs.length := by
  induction k with
  | zero => simp
  | succ k ih => rw [List.replicate_succ, List.flatten_cons, List.length_append, ih, Nat.succ_mul, Nat.add_comm]
theorem op_rep : OpR X (binaryOp .Mult) rRep := by
  intro pins s σ H x y v u Q I rx ry h
  obtain ⟨l, k, xs, rfl, rfl, hH, h1, h2, hz, q⟩ := h
  cases rx
  obtain ⟨t, rfl⟩ := ry
  obtain ⟨z, its, n, r, hl, e⟩ := I.lstM hH
  have hlen : its.toArray.size * k.toNat ≤ sizeLine := by rw [List.size_toArray, ← hl]; exact hz
  have hcap : ¬ its.toArray.size * k.toNat > (2 ^ 63 - 1) / 8 := by
    have : (sizeLine : Nat) ≤ (2 ^ 63 - 1) / 8 := by decide
    omega
  have hfit : ¬ (!Builtin.List.listFitsIndex k) = true := by
    rw [fitsIndex_both h1 h2]
    exact Bool.false_ne_true
  have hlong : ¬ Builtin.List.listTooLong (its.toArray.size * k.toNat) = true := by
    rw [notLongL hlen]
    exact Bool.false_ne_true
  have hnew : List.foldl (fun x1 x2 => x1 ++ x2) #[] (List.replicate (if its.toArray.isEmpty = true then 0 else k.toNat) its.toArray) = (List.replicate k.toNat its).flatten.toArray := by
    have f0 : ∀ m : Nat, List.foldl (fun x1 x2 => x1 ++ x2) #[] (List.replicate m its.toArray) = (List.replicate m its).flatten.toArray := fun m => by
      have := foldl_rep its m []
      rw [List.nil_append] at this
      exact this
    rw [f0]
    cases its with
    | nil => simp
    | cons a r' => rw [if_neg (by simp)]
  refine wpAny_binaryOp_repeat_ref (T := "list") (U := "int") (by decide) ⟨_, e, rfl⟩ (fun s' => typeIs_int s' k t) noFill_list_mul F.fills_int_mul F.slot_int_rmul repeat_list F.slot_int_index.lookup
    (call_meets F.slot_int_rmul (typeIs_int s k t) F.entry_int_rmul (F.args_int_rmul_2 _ _) (int___rmul___int_list k t l its.toArray n)
      ⟨e, rfl, ⟨_, e, rfl⟩, call_meets F.slot_list_mul ⟨_, e, rfl⟩ F.entry_list_mul (F.args_list_mul_2 _ _) (AutoListH.list___mul___list_int_3 l its.toArray n k t hfit hcap hlong) ⟨e, ?_⟩⟩)
  rw [hnew]
  exact ⟨.ref _, _, I.lnew (t' := s.toks) (r.rep k.toNat) (by rw [len_rep, Nat.mul_comm]; exact hz), rfl, q _ I.fresh⟩
end
section
variable {prog : Program} {w : World} {A : Around} {E : Value → Shared → Prop} {s : Shared}
theorem bounds_run {a c n : Nat} (hac : a ≤ c) (hc : c ≤ n) : sliceBounds (some (a : Int)) (some (c : Int)) none n = ((a : Int), (c : Int), 1) := by
  simp only [sliceBounds, Option.getD_none]
  have h1 : ¬ ((a : Int) < 0) := by omega
  have h2 : ¬ ((c : Int) < 0) := by omega
  simp only [h1, h2, if_false, show (1 : Int) > 0 by decide, if_true]
  congr 1
  · omega
  · congr 1; omega
set_option maxRecDepth 100000 in
theorem setItem_slice {l b sl : Addr} {items new : Array Value} {n n2 : Nat} {vl vu : Value} {a c : Nat} {Q : Unit → Shared → Prop}
    (e : s.heap.get? l = some { cls := .type "list", data := .seq items n }) (e2 : s.heap.get? b = some { cls := .type "list", data := .seq new n2 }) (hne : l ≠ b)
    (hs : s.heap.IsSliceOf sl vl vu .none) (pl : IsPart vl (some (a : Int))) (pu : IsPart vu (some (c : Int))) (hac : a ≤ c) (hc : c ≤ items.size)
    (hsz : items.size + new.size ≤ sizeLine) (h : Q () { s with heap := s.heap.update l (Obj.mapSeq fun xs => xs.extract 0 a ++ new ++ xs.extract c xs.size) }) :
    wpAny (model prog w) A (setItem (.ref l) (.ref sl) (.ref b)) Q E s := by
  have hl : s.heap.IsList l items := PySem.IsL.isList e
  have hb : s.heap.IsList b new := PySem.IsL.isList e2
  obtain ⟨os, hos, hcs, hds⟩ := id hs
  have hTs : s.TypeIs (.ref sl) "slice" := ⟨os, hos, hcs⟩
  have hstep : ¬ ((rawPart none == rawInt 0) = true) := Bool.false_ne_true
  have hsame : Builtin.List.listSameRef (.ref l) (.ref b) = false := by
    unfold Builtin.List.listSameRef
    exact beq_eq_false_iff_ne.mpr hne
  have hmax : (max (a : Int) (c : Int)).toNat = c := by omega
  have hz' : ((fun xs : Array Value => xs.extract 0 a ++ new ++ xs.extract c xs.size) items).size ≤ sizeLine + 1 := by
    simp only [Array.size_append, Array.size_extract]
    omega
  unfold setItem
  try with_reducible refine wpAny_holding ?_
  first | refine wpAny_bind (wpAny_pure ?_) | skip
  refine wpAny_bind (wpAny_sequenceKey hl.typeIs (by decide) ?_)
  refine wpAny_bind (wpAny_callSpecial?_slot (name := Str.ofString "__setitem__") hl.typeIs slot_list_setitem
    (wpAny_call_entry slot_list_setitem hl.typeIs entry_list_setitem ?_ (args_list_setitem _ _ _)))
  show wpAny _ _ (Builtin.List.listSubscript? (.ref sl) >>= _) _ _ s
  refine wpAny_bind ?_
  unfold Builtin.List.listSubscript?
  refine wpAny_bind (wpAny_specialOf hTs slice_no_index ?_)
  simp only [Option.isNone_none, if_true]
  refine wpAny_pure ?_
  show wpAny _ _ (typeOf (.ref sl) >>= _) _ _ s
  refine wpAny_bind (wpAny_typeOf hTs ?_)
  first
    | rw [if_neg (by decide)]
    | refine PySem.W.KFB.if_not (by decide) ?_
  rw [listSliceParts_eq]
  refine wpAny_bind (wpAny_bind (wpAny_field hos hds (x := .none) rfl (wpAny_bind (wpAny_listPart .none ?_))))
  rw [if_neg hstep]
  refine wpAny_bind (wpAny_field hos hds (x := vl) rfl (wpAny_bind (wpAny_listPart pl ?_)))
  refine wpAny_bind (wpAny_field hos hds (x := vu) rfl (wpAny_bind (wpAny_listPart pu (wpAny_pure ?_))))
  first
    | simp only [hsame, Bool.false_eq_true, if_false]
    | refine PySem.W.KFB.if_not hsame ?_
    | (dsimp only
       rw [if_neg (by rw [hsame]; exact Bool.false_ne_true)])
  refine wpAny_bind (m := Builtin.List.listAllItems (.ref b) "must assign iterable to extended slice") ?_
  unfold Builtin.List.listAllItems
  refine wpAny_bind (wpAny_typeOf hb.typeIs ?_)
  first
    | refine PySem.W.KFB.if_so (by decide) ?_
    | rw [if_pos (by decide)]
    | simp only [beq_self_eq_true, Bool.true_or, if_true]
  unfold Builtin.List.listItems
  refine wpAny_bind (wpAny_seqItems e2 rfl (wpAny_pure ?_))
  refine wpAny_bind (wpAny_bind (wpAny_seqItems e rfl (wpAny_pure ?_)))
  refine wpAny_bind (wpAny_of_eq ((sliceIndices_raw (some (a : Int)) (some (c : Int)) none items.size (by simp)).trans (congrArg (pure : Int × Int × Int → Sem (Int × Int × Int)) (bounds_run hac hc))) ?_)
  show wpAny _ _ (if ((1 : Int) == 1) = true then _ else _) _ _ s
  rw [if_pos (by decide)]
  refine wpAny_bind (wpAny_rule ?_)
  first
    | simp only [notLongL hsz, Bool.false_eq_true, if_false]
    | refine PySem.W.KFB.if_not (notLongL hsz) ?_
  first | refine wpAny_bind (wpAny_pure ?_) | skip
  show wpAny _ _ (updateSeq l (fun xs => xs.extract 0 ((a : Int)).toNat ++ new ++ xs.extract (max (a : Int) (c : Int)).toNat xs.size) >>= _) _ _ s
  rw [hmax, Int.toNat_natCast]
  refine wpAny_bind (wpAny_updateSeq (hz := Nat.le_trans (Nat.le_add_right _ _) hsz) (_hz' := hz') e rfl ?_)
  refine wpAny_bind (wpAny_letGo ?_)
  first
    | exact wpAny_bind (wpAny_pure (wpAny_pure ⟨.none, rfl, wpAny_pure h⟩))
    | exact wpAny_pure ⟨.none, rfl, wpAny_pure h⟩
end
section
variable {X : Cx}
end
end L2
namespace Att
open PySem PySem.W PySem.Calls PyProof.Rows
theorem ints_of_wellAll {P : Params} {h : Heap} : ∀ (ns : List Int) (vs : List Value), WellAll P h vs (ns.map WData.int) → IntsAre vs ns := by
  intro ns
  induction ns with
  | nil =>
    intro vs w
    rw [List.map_nil] at w
    cases w
    exact .nil
  | cons n ns ih =>
    intro vs w
    rw [List.map_cons] at w
    cases w with
    | cons a b =>
      cases a
      exact .cons _ _ (ih _ b)
theorem script_of {l : OpenLaw} {n : Nat} (hn : l.most = some n) {P : Params} {h : Heap} {args : List WData} {vals : List Value}
    (hpre : l.row.toRowW.claim.pre args = true) (hwl : WellAll P h vals args) :
    ∃ a vs ns, vals = [Value.ref a] ∧ args = [WData.list (ns.map WData.int)] ∧ h.get? a = some { cls := .type "list", data := .seq vs.toArray } ∧ IntsAre vs ns ∧ ns.length ≤ n := by
  have hsh : WShape.hasAll [] args [.list .int] = true := (pre_splitW hpre).1
  have hc : l.pre.holds [] { args := args } = true := (pre_splitW hpre).2
  obtain ⟨d, r, rfl, h1, h2⟩ := hasAllW_cons hsh
  obtain rfl := hasAllW_nil h2
  obtain ⟨xs, rfl, h3⟩ := hasW_list h1
  obtain ⟨ns, rfl⟩ := items_int h3
  have hlen : ns.length ≤ n := by
    unfold OpenLaw.pre at hc
    have h4 : (WTm.not (.lt (.lit (.int (n : Int))) (.len (.arg 0)))).holds [] { args := [.list (ns.map .int)] } = true := by
      have h4 := (holds_andW hc).1
      rw [hn] at h4
      exact h4
    have h5 := condW_of h4 (w_not (w_lt w_lit (w_len_list (w_arg rfl))))
    rw [List.length_map] at h5
    refine Nat.le_of_not_lt fun q => ?_
    have q' : (n : Int) < ((ns.length : Nat) : Int) := by omega
    first
      | (rw [decide_eq_true q'] at h5; exact absurd h5 (by decide))
      | (simp at h5; omega)
  cases hwl with
  | cons w1 w2 =>
    cases w2
    cases w1 with
    | list ho hall => exact ⟨_, _, ns, rfl, rfl, ho, ints_of_wellAll ns _ hall, hlen⟩
theorem post_true (l : OpenLaw) (args : List WData) : l.row.toRowW.claim.post args (.bool true) args = true :=
  postW_of (r := l.row.toRowW) (X := (true == true))
    (show WShape.has [] (.bool true) .bool = true by first | rfl | decide | simp [WShape.has, WShape.arms, WShape.armsAll])
    (show (WTm.eq .res (.lit (.bool true))).value [] { args := args, res := some (.bool true), after := args } = some (.bool (true == true)) from w_eq_bool (w_res rfl) w_lit) rfl
theorem attach_call {l : OpenLaw} {n : Nat} {q : Program} {loose : List Str} {XP : (Str → Option Value) → Heap → Prop} {YP : World → Heap → Prop} {d : DefRec}
    (hn : l.most = some n) (hdf : d.params.defaults = [])
    (call : ∀ (w : World) (s₀ s₁ : Shared) (mg mb : Str → Option Value) (fa : Addr) (o : Obj) (pm cd doc : Value) (a : Addr) (vs : List Value) (ns : List Int),
      Ground q loose [] XP w s₀ mg mb s₁.heap → YP w s₁.heap →
      s₁.heap.get? fa = some o → o.data = .func (docDef d.name d.params d.body d.scope pm cd doc) → s₁.heap.CodeRec cd d.name → mg d.name = some (.ref fa) →
      s₁.heap.get? a = some { cls := .type "list", data := .seq vs.toArray } → IntsAre vs ns → ns.length ≤ n → s₁.gens = #[] →
      codeAny (model l.prog w) callerA (.call (.ref fa) ⟨[.ref a], []⟩) (fun r s' => r = .ok (.ret (.bool true)) ∧ OldK s₁.heap s'.heap ∧ s'.os = s₁.os ∧ AllBare s'.gens) s₁) :
    WalkO q loose XP YP l.row.toRowW d [] (fun f vs => PySem.call f vs) := by
  intro w s₀ s₁ mg mb G Y fa o pm cd doc dV kV ho hd hcd hD hmg hg args vals as hpre hlay hrd hwl hlo
  obtain rfl : dV = .none := Dflts.none hD hdf
  obtain rfl : kV = .none := Dflts.noKw hD
  obtain ⟨a, vs, ns, rfl, rfl, hobj, hints, hlen⟩ := script_of hn hpre hwl
  refine enter_call (codeAny_mono (call w s₀ s₁ mg mb fa o pm cd doc a vs ns G Y ho (fd_plain hd) hcd hmg hobj hints hlen hg) fun r s' hq => ?_)
  obtain ⟨rfl, h2, h3, h4⟩ := hq
  exact ⟨.inl ⟨.bool true, .bool true, [], rfl, fun _ => rfl, .bool true, post_true l _, fun _ => ⟨List.Pairwise.nil, fun _ hm => (nomatch hm)⟩⟩, h2, h3, h4⟩
section
variable {prog : Program} {w : World} {A : Around} {E : Value → Shared → Prop} {s : Shared} {K : Frag}
end
end Att
namespace L2
open PySem PySem.Spec PyProof.Rows
theorem vals_ints : ∀ {vs : List Value} {ns : List Int}, IntsAre vs ns → Vals (ns.map V.int) vs
  | _, _, .nil => .nil
  | _, _, .cons n t h => .cons ⟨t, rfl⟩ (vals_ints h)
def Only (H : Hp) : Prop := ∀ b, H b = none ∨ ∃ o xs, H b = some (.frz o (.lst xs))
theorem law_call {P : Program} {w : World} {K : PySem.W.Frag} {mg mb : Str → Option Value} {CX : CXT} {k : Nat} {fa a : Addr} {fd : FuncData} {x : Str} {sp : Sp} {s₁ : Shared} {vs : List Value} {ns : List Int}
    (KX : K.In s₁.heap) (hns : s₁.heap.Ns mainGlobals mg) (hb : s₁.heap.Ns builtinsNs mb) (hbb : ∀ x : Str, x ≠ "__name__" → mb x = bootBuiltins x) (hlim : s₁.heap.NoLimit) (hg : s₁.gens = #[])
    (ha : s₁.heap.get? a = some { cls := .type "list", data := .seq vs.toArray }) (hi : IntsAre vs ns) (hl : ns.length ≤ sizeLine) (hr : Room k callerA)
    (F : ∀ base : Heap, K.In base → base.Ns mainGlobals mg → FnOk P w K mg base CX k fa fd [x] sp) (hbind : ∀ (s : Shared) (u : Value), BindsTo s fd ⟨[u], []⟩ [(x, u)])
    (hsp : ∀ H : Hp, Only H → SqL K H a (ns.map V.int) → sp [.ref a] H (fun v _ => v = .bl true) fun _ _ _ => False)
    (hCX : ∀ H e s', CX [] H s₁ (fun _ _ _ => False) e s' → False) :
    codeAny (model P w) callerA (.call (.ref fa) ⟨[.ref a], []⟩) (fun r s' => r = .ok (.ret (.bool true)) ∧ OldK s₁.heap s'.heap ∧ s'.os = s₁.os ∧ AllBare s'.gens) s₁ := by
  have rv := vals_ints hi
  have lenV := hi.length
  -- from an abstract heap in which nothing but the script may be tracked
  have core : ∀ H : Hp, Only H → SqL K H a (ns.map V.int) → HOk P w H s₁.heap → (∀ b, H b ≠ none → b = a) → (H a ≠ none → K.lookup a = none) →
      codeAny (model P w) callerA (.call (.ref fa) ⟨[.ref a], []⟩) (fun r s' => r = .ok (.ret (.bool true)) ∧ OldK s₁.heap s'.heap ∧ s'.os = s₁.os ∧ AllBare s'.gens) s₁ := by
    intro H hO hS hok hA hK
    have base_of : ∀ {b : Addr} {o : Obj}, s₁.heap.get? b = some o → H b = none → (hidT s₁.heap H).get? b = some o := fun e n => hidT_get e n
    have noA : ∀ {b : Addr} {o : Obj} {es : Array DictEntry} {ep : Nat}, s₁.heap.get? b = some o → o.data = .dict es ep → H b = none := fun {b o es ep} e d => by
      cases q : H b with
      | none => rfl
      | some u =>
        have e' : b = a := hA b (by rw [q]; simp)
        subst e'
        rw [ha] at e; cases e
        have d' : Data.seq vs.toArray _ = Data.dict es ep := d
        cases d'
    have nsK : ∀ {b : Addr} {m : Str → Option Value}, s₁.heap.Ns b m → (hidT s₁.heap H).Ns b m := fun {b m} ⟨o, es, ep, e, d, r⟩ => ⟨o, es, ep, base_of e (noA e d), d, r⟩
    have hKb : K.In (hidT s₁.heap H) := fun b o e => base_of (KX b o e) (by
      cases q : H b with
      | none => rfl
      | some u =>
        have e' : b = a := hA b (by rw [q]; simp)
        subst e'
        rw [hK (by rw [q]; simp)] at e; cases e)
    have hM : Mod K mg (hidT s₁.heap H) := ⟨hKb, nsK hns, ⟨mb, nsK hb, hbb⟩, let ⟨mc, h1, h2⟩ := hlim; ⟨mc, nsK h1, h2⟩⟩
    have e0 : Env0 P w K mg (hidT s₁.heap H) callerA [] s₁ H := ⟨rfl, hM, fun b o e => of_hidT e, Nat.le_of_eq (hidT_size _ _), trivial, fun b hb => absurd (show b ∈ ([] : List Addr) from hb) (by simp), hok, .of_eq hg⟩
    refine codeAny_mono ((F _ hKb (nsK hns)).run callerA [] s₁ H ⟨[.ref a], []⟩ [.ref a] [.ref a] _ _ hr e0 (hbind s₁ (.ref a)) (.cons rfl .nil) (hsp H hO hS)) fun r s' h => ?_
    cases r with
    | error e => exact (hCX H e s' h).elim
    | ok fl =>
      cases fl with
      | next => exact False.elim h
      | brk => exact False.elim h
      | cont => exact False.elim h
      | ret u =>
        obtain ⟨v, H', os, bare, un, hok', r', q⟩ := h
        have q' : v = .bl true := q
        subst q'
        obtain rfl : u = Value.bool true := r'
        refine ⟨rfl, OldK.of_keep fun b o e => ?_, os, bare⟩
        cases q : H b with
        | none => exact un.keep b o e q (by intro z; exact absurd (show b ∈ ([] : List Addr) from z) (by simp)) (by simp)
        | some u =>
          rcases hO b with z | ⟨ob, xs, z⟩
          · rw [q] at z; cases z
          · have z2 := un.frzs b ob _ z
            obtain ⟨e1, _⟩ := hok b _ z
            obtain ⟨e2, _⟩ := hok' b _ z2
            rw [e] at e1; cases e1
            exact e2
  cases hk : K.lookup a with
  | some o =>
    -- the script is one of the module's own objects
    have e := KX a o hk
    rw [ha] at e
    cases e
    refine core (fun _ => none) (fun _ => .inl rfl) (.inr ⟨_, vs.toArray, _, hk, rfl, rfl, rfl, by rw [List.size_toArray, lenV]; exact hl, by simpa using rv⟩) (fun b u z => by have z' : (none : Option HO) = some u := z; cases z') (fun b z => absurd rfl z) fun z => absurd rfl z
  | none =>
    refine core (fun b => if b = a then some (.frz { cls := .type "list", data := .seq vs.toArray } (.lst (ns.map V.int))) else none) (fun b => ?_) (.inl (.inr ⟨{ cls := .type "list", data := .seq vs.toArray }, if_pos rfl⟩)) (fun b u z => ?_) (fun b z => ?_) fun _ => hk
    · by_cases hb : b = a
      · exact .inr ⟨_, _, if_pos hb⟩
      · exact .inl (if_neg hb)
    · by_cases hb : b = a
      · have z' := (if_pos hb).symm.trans z
        cases z'
        subst hb
        exact ⟨ha, by rw [List.length_map]; exact hl, vs, _, rv, ha⟩
      · have z' := (if_neg hb).symm.trans z
        cases z'
    · by_cases hb : b = a
      · exact hb
      · exact absurd (if_neg hb) z
end L2
namespace L2
open PySem PySem.Spec PyProof.Rows
abbrev KOf {K : PySem.W.Frag} {h : Heap} (_ : K.In h) : PySem.W.Frag := K
theorem walk_of {l : PySem.W.OpenLaw} {n k : Nat} {q : Program} {loose : List Str} {XP : (Str → Option Value) → Heap → Prop} {YP : World → Heap → Prop} {d : DefRec} {K : Params → PySem.W.Frag} {CX : World → CXT} {sp : World → Sp} {x : Str}
    (hn : l.most = some n) (hn2 : n ≤ sizeLine) (hdf : d.params.defaults = []) (hr : Room k callerA)
    (hY : ∀ (w : World) (h : Heap), YP w h → (K w.params).In h)
    (F : ∀ (w : World) (mg : Str → Option Value) (fa : Addr) (h : Heap), (K w.params).In h → h.Ns mainGlobals mg → mg d.name = some (.ref fa) →
      ∃ fd : FuncData, (∀ (s : Shared) (u : Value), BindsTo s fd ⟨[u], []⟩ [(x, u)]) ∧
        ∀ base : Heap, (K w.params).In base → base.Ns mainGlobals mg → FnOk l.prog w (K w.params) mg base (CX w) k fa fd [x] (sp w))
    (hsp : ∀ (w : World) (H : Hp) (a : Addr) (ns : List Int), ns.length ≤ n → Only H → SqL (K w.params) H a (ns.map V.int) → sp w [.ref a] H (fun v _ => v = .bl true) fun _ _ _ => False)
    (hCX : ∀ (w : World) (H : Hp) (s : Shared) (e : Value) (s' : Shared), CX w [] H s (fun _ _ _ => False) e s' → False) :
    PySem.W.WalkO q loose XP YP l.row.toRowW d [] (fun f vs => PySem.call f vs) := by
  refine Att.attach_call hn hdf fun w s₀ s₁ mg mb fa o pm cd doc a vs ns G Y ho hd hcd hmg hobj hints hlen hg => ?_
  have KX := hY w _ Y
  obtain ⟨fd, hb, hF⟩ := F w mg fa _ KX G.T.g hmg
  exact law_call KX G.T.g G.T.b G.T.builtins G.T.nolimit hg hobj hints (Nat.le_trans hlen hn2) hr hF hb (fun H hO hS => hsp w H a ns hlen hO hS) fun H e s' => hCX w H s₁ e s'
end L2
/- THE LAST THEOREM (shape; LID, My.* are yours):
   My.Adr: a structure of the addresses that your layer names (classes, functions); My.Txt K t: a structure (Prop) of the equations over K;
   My.txt_mk : {K} {implicit addresses ..} (e1 : nsIn K mainGlobals "law" = some (some (.ref f))) (e2 : K.lookup f = some ⟨oc, od, .func (fnOf "law" "law" params body scope dV kV doc pm an cdv ct), sl⟩) (e3 : codeIn K cdv "law" = true) .. : ∃ t, My.Txt K t
set_option maxRecDepth 100000 in
set_option maxHeartbeats 0 in
theorem PySem.Challenge.cw_LID_holds : PySem.Challenge.rw_LID.Holds := by
  w_on; o_law; k_head; (case hw => w_witness2)
  k_fill
  refine L2.walk_of (l := PySem.Challenge.rw_LID) (n := 63) (k := 40) (x := "script") (CX := fun w => ..) (sp := fun _ => My.sp_law) rfl (by decide) rfl ⟨rfl, by decide, by decide⟩ (fun w h Y => PySem.W.kIn_of Y) ?F ?S ?C
  case F =>
    intro w mg fa h KX G hmg
    have T : ∃ t, My.Txt (L2.KOf KX) t := by
      dsimp only [L2.KOf]                          -- K must stand as «<heap const> w.params» for k_is
      refine' My.txt_mk ?e1 ?e2 ?e3 ..
      (case e1 => PySem.W.k_is)                    -- in the order: a name -> its address -> its object -> its parts
      (case e2 => PySem.W.k_is)
      ..
    obtain ⟨t, T⟩ := T
    have e0 := hmg.symm.trans (PySem.W.mg_of KX G T.law)
    cases e0                                       -- fa is the law's own address
    exact ⟨_, fun s u => .of_eq rfl, fun base kb nb => My.law_fn T kb nb⟩     -- if «.of_eq rfl» comes too early: refine' ⟨_, ?b, fun base kb nb => My.law_fn T kb nb⟩; exact fun s u => .of_eq rfl
  case S => exact fun w H a ns hl hO hS => ..
  case C => exact ..
(the tactic k_is has no namespace: write k_is) -/
namespace L2
open PySem PySem.Spec PyProof.Rows
def defArgs (s : Stmt) : Arguments := match s with
  | .FunctionDef _ a _ _ _ _ _ _ _ _ => a
  | _ => { posonlyargs := [], args := [], vararg := none, kwonlyargs := [], kw_defaults := [], kwarg := none, defaults := [] }
def defBody (s : Stmt) : List Stmt := match s with
  | .FunctionDef _ _ b _ _ _ _ _ _ _ => b
  | _ => []
def defScope (s : Stmt) : Scope := match s with
  | .FunctionDef _ _ _ _ _ _ sc _ _ _ => sc
  | _ => { kind := .function, names := [], isGenerator := false, isCoroutine := false }
abbrev CX0 : CXT := fun _ _ _ _ _ _ => False
abbrev E0 : XK := fun _ _ _ => False
structure Fun (K : PySem.W.Frag) (x qual : Str) (st : Stmt) (f : Addr) (fd : FuncData) : Prop where
  ex : ∃ (oc : Value) (od : Option Addr) (kV doc pm : Value) (an : Option Addr) (cdv ct : Value) (osl : Array (Option Value)),
    fd = PySem.W.fnOf x qual (defArgs st) (defBody st) (defScope st) .none kV doc pm an cdv ct ∧ K.lookup f = some ⟨oc, od, .func fd, osl⟩ ∧ PySem.W.codeIn K cdv qual = true
  kp : PySem.W.keepIn K (.ref f) = true
section
variable {P : Program} {w : World} {K : PySem.W.Frag} {mg : Str → Option Value} {base : Heap}
theorem Fun.ok {x qual : Str} {st : Stmt} {f : Addr} {fd : FuncData} {N ps : List Str} {k : Nat} {sp : Sp} (F : Fun K x qual st f fd) (S : FnScope N ps (defScope st)) (len : ∀ vs H Q E, sp vs H Q E → vs.length = ps.length)
    (hbody : ∀ (cdv : Value) (A : Around) (outer : List Env) (s : Shared) (H : Hp) (vs : List V) (Q : VK) (E : XK), Room k (A.deeper (envOfC qual (defScope st) s.heap.objs.size f cdv)) → sp vs H Q E →
      ∃ t, PSs (cxOf CX0 P w K mg base N qual (defScope st) f cdv A outer s H E).nox (defBody st) t ∧ t { nx := fun _ H' => Q .non H', rt := Q } (start N vs) H) : FnOk P w K mg base CX0 (k + 1) f fd ps sp := by
  obtain ⟨oc, od, kV, doc, pm, an, cdv, ct, osl, rfl, lk, hcd⟩ := F.ex
  refine fn_of lk hcd S len fun A outer s H vs Q E hr hsp => ?_
  obtain ⟨t, h, q⟩ := hbody cdv A outer s H vs Q E hr hsp
  exact ⟨t, h.nox, q⟩
theorem Fun.binds {x qual : Str} {st : Stmt} {f : Addr} {fd : FuncData} {ps : List Str} (F : Fun K x qual st f fd)
    (h : ∀ (kV doc pm : Value) (an : Option Addr) (cdv ct : Value) (us : List Value), us.length = ps.length → bindArgs (PySem.W.fnOf x qual (defArgs st) (defBody st) (defScope st) .none kV doc pm an cdv ct) ⟨us, []⟩ = pure (ps.zip us)) : Binds K fd ps [] := by
  obtain ⟨oc, od, kV, doc, pm, an, cdv, ct, osl, rfl, lk, hcd⟩ := F.ex
  exact .all (h kV doc pm an cdv ct)
theorem fun_mk {x qual : Str} {st : Stmt} {f : Addr} {oc : Value} {od an : Option Addr} {osl : Array (Option Value)} {kV doc pm cdv ct : Value} (l : K.lookup f = some ⟨oc, od, .func (PySem.W.fnOf x qual (defArgs st) (defBody st) (defScope st) .none kV doc pm an cdv ct), osl⟩)
    (c : PySem.W.codeIn K cdv qual = true) (k : PySem.W.keepIn K (.ref f) = true) : Fun K x qual st f (PySem.W.fnOf x qual (defArgs st) (defBody st) (defScope st) .none kV doc pm an cdv ct) := ⟨⟨oc, od, kV, doc, pm, an, cdv, ct, osl, rfl, l, c⟩, k⟩
end
theorem hu_of {A : Around} {k : Nat} (hr : Room k A) : A.units + 1 < cLine := Nat.lt_of_le_of_lt (Nat.add_le_add_left (by decide : 1 ≤ 64) _) hr.units
section
variable {X : Cx}
theorem pv (i : Nat) {x : Str} {pos : Pos} (hN : X.N[i]? = some x := by rfl) (hv : Vis X.env.scope x := by first | exact Or.inl rfl | exact Or.inr (Or.inl rfl) | exact Or.inr (Or.inr rfl)) (hd : (x == ("__debug__" : Str)) = false := by decide)
    (hcd : (x == ("__classdict__" : Str)) = false := by decide) : PE X (.Name x pos) (tVar i) := pe_var hN hv hd hcd
end
theorem iteF {A B : Prop} (h : B) : if false = true then A else B := by
  rw [if_neg Bool.false_ne_true]
  exact h
theorem iteT {A B : Prop} (h : A) : if true = true then A else B := by
  rw [if_pos rfl]
  exact h
theorem ite2 {c A B : Prop} [Decidable c] (h1 : c → A) (h2 : ¬ c → B) : if c then A else B := by
  by_cases h : c
  · rw [if_pos h]
    exact h1 h
  · rw [if_neg h]
    exact h2 h
theorem iteNS {c A B : Prop} [Decidable c] (hc : c) (h : B) : if (!decide c) = true then A else B := by
  rw [decide_eq_true hc]
  exact iteF h
def Same (H H' : Hp) : Prop := ∀ b o, H b = some o → H' b = some o
theorem Same.refl (H : Hp) : Same H H := fun _ _ h => h
theorem Same.trans {H H1 H2 : Hp} (a : Same H H1) (b : Same H1 H2) : Same H H2 := fun c o h => b c o (a c o h)
theorem Same.free {H H' : Hp} (e : Same H H') {l : Addr} (h : H' l = Option.none) : H l = Option.none := by
  cases q : H l with
  | none => rfl
  | some o =>
    rw [e l o q] at h
    cases h
theorem Same.seq {K : PySem.W.Frag} {H H' : Hp} {a : Addr} {xs : List V} (e : Same H H') (h : SqL K H a xs) : SqL K H' a xs := by
  rcases h with (h | ⟨o, h⟩) | h
  · exact .inl (.inl (e _ _ h))
  · exact .inl (.inr ⟨o, e _ _ h⟩)
  · exact .inr h
end L2
set_option Elab.async false
set_option linter.all false
set_option maxRecDepth 100000
namespace L2
open PySem PySem.Spec PyProof.Rows
def clos (cells : List (Str × Addr)) : List (Str × NameKind) → List (Str × Addr) → List (Str × Addr)
  | [], cs => cs
  | (n, k) :: r, cs => if (k == NameKind.free) = true then (match cells.lookup n with | some c => clos cells r ((n, c) :: cs) | none => clos cells r cs) else clos cells r cs
theorem clos_for {env : Env} : ∀ (l : List (Str × NameKind)) (cs : List (Str × Addr)), (∀ x ∈ l, x.2 = .free → ∃ c, env.cells.lookup x.1 = some c) →
    (forIn (m := Sem) l cs fun x r => match x with
      | (name, kind) => if (kind == NameKind.free) = true then do let c ← cellOf env name; pure (ForInStep.yield ((name, c) :: r)) else pure (ForInStep.yield r)) = pure (clos env.cells l cs)
  | [], cs, _ => by rfl
  | (n, k) :: r, cs, h => by
    have ih := fun cs => clos_for r cs fun x hx => h x (List.mem_cons_of_mem _ hx)
    rw [List.forIn_cons]
    unfold clos
    by_cases hk : (k == NameKind.free) = true
    · obtain ⟨c, hc⟩ := h (n, k) List.mem_cons_self (by simpa using hk)
      have hc' : env.cells.lookup n = some c := hc
      simp only [hk, if_true, hc']
      have e : cellOf env n = pure c := by unfold cellOf; rw [hc']
      rw [e]
      simp only [pure_bind]
      exact ih _
    · have hk' : (k == NameKind.free) = false := by simpa using hk
      simp only [hk', Bool.false_eq_true, if_false, pure_bind]
      exact ih _
theorem clos_eq {scope : Scope} {env : Env} (h : ∀ x ∈ scope.names, x.2 = .free → ∃ c, env.cells.lookup x.1 = some c) : closureFor scope env = pure (clos env.cells scope.names []) := by
  unfold closureFor
  have := clos_for (env := env) scope.names [] h
  simp only [this, pure_bind]
theorem clos_sub {cells : List (Str × Addr)} {x : Str} {c : Addr} : ∀ (l : List (Str × NameKind)) (cs : List (Str × Addr)), (∀ y d, cs.lookup y = some d → cells.lookup y = some d) → (clos cells l cs).lookup x = some c → cells.lookup x = some c
  | [], cs, h, e => h x c e
  | (n, k) :: r, cs, h, e => by
    unfold clos at e
    split at e
    · split at e
      · rename_i d hd
        refine clos_sub r _ (fun y z q => ?_) e
        rw [List.lookup_cons] at q
        split at q
        · rename_i hy
          cases q
          rw [eq_of_beq hy]; exact hd
        · exact h y z q
      · exact clos_sub r cs h e
    · exact clos_sub r cs h e
theorem clos_keep {cells : List (Str × Addr)} {x : Str} : ∀ (l : List (Str × NameKind)) (cs : List (Str × Addr)), (∃ c, cs.lookup x = some c) → ∃ c, (clos cells l cs).lookup x = some c
  | [], cs, h => h
  | (n, k) :: r, cs, h => by
    unfold clos
    split
    · split
      · refine clos_keep r _ ?_
        rw [List.lookup_cons]
        split
        · exact ⟨_, rfl⟩
        · exact h
      · exact clos_keep r cs h
    · exact clos_keep r cs h
theorem clos_has {cells : List (Str × Addr)} {x : Str} : ∀ (l : List (Str × NameKind)) (cs : List (Str × Addr)), (x, NameKind.free) ∈ l → (∃ c, cells.lookup x = some c) → ∃ c, (clos cells l cs).lookup x = some c
  | [], _, h, _ => nomatch h
  | (n, k) :: r, cs, h, ⟨c, hc⟩ => by
    unfold clos
    rcases List.mem_cons.mp h with e | h
    · cases e
      rw [if_pos (by rfl), hc]
      refine clos_keep r _ ⟨c, ?_⟩
      simp [List.lookup_cons]
    · split
      · split
        · exact clos_has r _ h ⟨c, hc⟩
        · exact clos_has r _ h ⟨c, hc⟩
      · exact clos_has r _ h ⟨c, hc⟩
theorem relabel_free {env : Env} : ∀ {names : List (Str × NameKind)} {x : Str}, names.lookup x = some .free →
    (names.map fun (n, k) => if (k == NameKind.free && env.scope.kind == .function && env.kindOf n == some .cell) then (n, NameKind.cell) else (n, k)).lookup x = some .cell ∨
    (names.map fun (n, k) => if (k == NameKind.free && env.scope.kind == .function && env.kindOf n == some .cell) then (n, NameKind.cell) else (n, k)).lookup x = some .free
  | [], _, h => by simp at h
  | (n, k) :: r, x, h => by
    have ih := @relabel_free env r x
    by_cases hc : (k == NameKind.free && env.scope.kind == .function && env.kindOf n == some .cell) = true
    · simp only [List.map_cons, if_pos hc, List.lookup_cons]
      cases hx : x == n with
      | true => exact .inl rfl
      | false =>
        simp only [List.lookup_cons, hx] at h
        exact ih h
    · simp only [List.map_cons, if_neg hc, List.lookup_cons]
      cases hx : x == n with
      | true =>
        simp only [List.lookup_cons, hx] at h
        cases h
        exact .inr rfl
      | false =>
        simp only [List.lookup_cons, hx] at h
        exact ih h
theorem relabel_back {env : Env} : ∀ {names : List (Str × NameKind)} {x : Str}, (∀ y ∈ names, y.2 ≠ .cell) →
    ((names.map fun (n, k) => if (k == NameKind.free && env.scope.kind == .function && env.kindOf n == some .cell) then (n, NameKind.cell) else (n, k)).lookup x = some .cell ∨
    (names.map fun (n, k) => if (k == NameKind.free && env.scope.kind == .function && env.kindOf n == some .cell) then (n, NameKind.cell) else (n, k)).lookup x = some .free) → (x, NameKind.free) ∈ names
  | [], _, _, h => by simp at h
  | (n, k) :: r, x, hn, h => by
    have ih := @relabel_back env r x fun y hy => hn y (List.mem_cons_of_mem _ hy)
    by_cases hc : (k == NameKind.free && env.scope.kind == .function && env.kindOf n == some .cell) = true
    · simp only [List.map_cons, if_pos hc, List.lookup_cons] at h
      have hk : k = .free := by
        simp only [Bool.and_eq_true] at hc
        exact eq_of_beq hc.1.1
      cases hx : x == n with
      | true => rw [eq_of_beq hx, hk]; exact List.mem_cons_self
      | false =>
        simp only [hx] at h
        exact List.mem_cons_of_mem _ (ih h)
    · simp only [List.map_cons, if_neg hc, List.lookup_cons] at h
      cases hx : x == n with
      | true =>
        simp only [hx] at h
        rcases h with h | h
        · have e : k = .cell := Option.some.inj h
          exact absurd e (hn (n, k) List.mem_cons_self)
        · have e : k = .free := Option.some.inj h
          rw [eq_of_beq hx, e]; exact List.mem_cons_self
      | false =>
        simp only [hx] at h
        exact List.mem_cons_of_mem _ (ih h)
def compCx (X : Cx) (N : List Str) (scope : Scope) (C : Addr) (s : Shared) (H : Hp) (fp : List Addr) : Cx where
  prog := X.prog
  w := X.w
  K := X.K
  mg := X.mg
  base := X.base
  A := X.A
  N := N
  s₀ := s
  H₀ := H
  env := compEnvC scope (clos X.env.cells scope.names []) C X.env
  outer := X.stack
  stack := X.stack
  ex := fp
  fn := fun _ => false
  calm := X.calm
  pn := []
  xe := fun _ _ => False
structure CompScope (X : Cx) (N : List Str) (js : List (Option Nat)) (scope : Scope) : Prop where
  kind : scope.kind = .function
  nocell : ∀ y ∈ scope.names, y.2 ≠ .cell
  locs : ∀ y ∈ scope.names, y.2 = .local → scope.names.lookup y.1 = some .local
  free : ∀ y ∈ scope.names, y.2 = .free → X.env.kindOf y.1 = some .cell ∨ X.env.kindOf y.1 = some .free
  len : js.length = N.length
  js : ∀ (i j : Nat) (x : Str), js[i]? = some (some j) → N[i]? = some x → X.N[j]? = some x ∧ scope.names.lookup x = some .free
def innerSt (js : List (Option Nat)) (σ : St) : St := js.map fun j => (j.bind fun j => σ[j]?).join
section
variable {X : Cx} {pins : List (Addr × Obj)} {σ : St} {H : Hp} {s : Shared} {N : List Str} {js : List (Option Nat)} {scope : Scope} {fp : List Addr} {C D : Addr} {h₁ : Heap} {m : Str → Option Value} {tk : Nat}
theorem lookup_mem {α β : Type} [BEq α] [LawfulBEq α] {x : α} {y : β} : ∀ {l : List (α × β)}, l.lookup x = some y → (x, y) ∈ l
  | [], h => by simp at h
  | (a, b) :: r, h => by
    rw [List.lookup_cons] at h
    split at h
    · rename_i hx
      cases h
      rw [eq_of_beq hx]; exact List.mem_cons_self
    · exact List.mem_cons_of_mem _ (lookup_mem h)
theorem inv_comp (S : CompScope X N js scope) (I : Inv X pins σ H s) (f2 : ∀ b ∈ fp, FpOk X pins H b) (hfp : ∀ b ∈ fp, b < s.heap.objs.size) (keep : ∀ b o, s.heap.get? b = some o → h₁.get? b = some o)
    (hD0 : s.heap.objs.size ≤ D) (hC0 : s.heap.objs.size ≤ C) (hDC : D ≠ C) (hD : ∃ n, h₁.get? D = some { cls := .type "list", data := .seq ([] : List Value).toArray n }) (hns : h₁.Ns C m) :
    Inv (compCx X N scope C s H fp) [] (innerSt js σ) (upd H D (.lst [])) { s with heap := h₁, toks := tk } := by
  have hc : ∀ x ∈ scope.names, x.2 = .free → ∃ c, X.env.cells.lookup x.1 = some c := fun x hx e => I.ok.has _ (S.free x hx e)
  have sub : ∀ x c, (clos X.env.cells scope.names []).lookup x = some c → X.env.cells.lookup x = some c := fun x c e => clos_sub _ _ (fun _ _ z => by simp at z) e
  have clt : ∀ x c, X.env.cells.lookup x = some c → c < s.heap.objs.size := fun x c e => by obtain ⟨v, q⟩ := I.cell x c e; exact q.lt
  have hasF : ∀ x, (x, NameKind.free) ∈ scope.names → ∃ c, (clos X.env.cells scope.names []).lookup x = some c := fun x hx => clos_has _ _ hx (hc (x, .free) hx rfl)
  have fD : H D = none := I.hok.fresh hD0
  have fC : H C = none := I.hok.fresh hC0
  refine ⟨⟨I.ok.mod, S.kind, I.ok.glob, I.ok.blt, hC0, fun x y c h1 h2 => I.ok.inj x y c (sub _ _ h1) (sub _ _ h2), fun x hx => ?_, fun x c h _ => (Bool.noConfusion h), I.ok.hd, I.ok.frames, .inl rfl, fun b hb => ⟨?_, fun x c e => (f2 b hb).2.2.2.2.1 x c (sub _ _ e)⟩, I.bs,
      Nat.le_trans I.ok.bsz I.sz, fun b o e hb => ?_, fun b hb z => ?_, I.stack, I.stkFree⟩,
    rfl, I.bare, Un.laid keep hD0 fD, ⟨m, hns, fun i x v h1 h2 h3 => ?_⟩, fun x c e => ?_, ?_, fun x c e => ?_, fun p hp => absurd hp (by simp [compCx]), I.hok.laid keep hD0 ?_, ?_⟩
  · exact hasF x (relabel_back S.nocell hx)
  · exact Nat.ne_of_lt (Nat.lt_of_lt_of_le (hfp b hb) hC0)
  · rcases (f2 b hb).2.2.2.1 with q | q
    · exact I.ok.noex b o e q
    · exact absurd (Nat.lt_of_lt_of_le (Heap.lt_size e) (Nat.le_trans I.ok.bsz q)) (Nat.lt_irrefl _)
  · rcases List.mem_cons.mp (I.stkSub b z) with q | q
    · exact (f2 b hb).2.1 q
    · exact (f2 b hb).2.2.1 q
  · have h2' : (js[i]?.map fun j => (j.bind fun j => σ[j]?).join) = some (some v) := by rw [← List.getElem?_map]; exact h2
    cases ej : js[i]? with
    | none => rw [ej] at h2'; cases h2'
    | some j =>
      rw [ej] at h2'
      cases j with
      | none => simp at h2'
      | some j =>
        have e2 : σ[j]? = some (some v) := by
          simp only [Option.map_some, Option.bind_some, Option.some.injEq] at h2'
          cases q : σ[j]? with
          | none => rw [q] at h2'; simp at h2'
          | some z => rw [q] at h2'; simp at h2'; rw [h2']
        obtain ⟨n1, n2⟩ := S.js i j x ej h1
        have hx := lookup_mem n2
        have hk := S.free _ hx rfl
        obtain ⟨m0, _, hl⟩ := I.loc
        obtain ⟨u, r, l⟩ := hl j x v n1 e2 (hk.elim (fun z => .inr (.inl z)) fun z => .inr (.inr z))
        refine ⟨u, r, ?_⟩
        rcases l with ⟨k, _⟩ | ⟨_, c, e, z⟩
        · have k' : X.env.kindOf x = some .local := k
          rcases hk with q | q <;> (rw [show X.env.kindOf x = _ from q] at k'; cases k')
        · obtain ⟨c', e'⟩ := hasF x hx
          have := sub _ _ e'
          rw [e] at this; cases this
          exact .inr ⟨relabel_free n2, c, e', z.keeps keep⟩
  · obtain ⟨v, q⟩ := I.cell x c (sub _ _ e)
    exact ⟨v, q.keeps keep⟩
  · show upd H D _ C = none
    rw [upd_ne (Ne.symm hDC)]; exact fC
  · show upd H D _ c = none
    have hlt := clt x c (sub _ _ e)
    rw [upd_ne (Nat.ne_of_lt (Nat.lt_of_lt_of_le hlt hD0))]
    exact I.freeC x c (sub _ _ e)
  · obtain ⟨n, hD⟩ := hD
    exact ⟨Nat.zero_le _, [], n, .nil, hD⟩
  · show (innerSt js σ).length = N.length
    unfold innerSt
    rw [List.length_map, S.len]
end
def PIfs (X : Cx) (ifs : List Expr) (t : TT) : Prop :=
  ∀ (pins : List (Addr × Obj)) (s : Shared) (σ : St) (H : Hp) (Q : Bool → Hp → Prop), Inv X pins σ H s → t σ H Q →
    wpAny (model X.prog X.w) X.A (forIn ifs true fun c r => if r = true then do let ok ← isTrue c X.env (eval c X.env); pure (ForInStep.yield ok) else pure (ForInStep.yield r)) (TP X pins σ Q) X.xe s
def tTrue : TT := fun _ H Q => Q true H
theorem pif_nil {X : Cx} : PIfs X [] tTrue := fun _ _ _ H _ I h => wpAny_tests_nil ⟨H, I, h⟩
theorem compLoop_gen {prog : Program} {w : World} {A : Around} {R : Result → Shared → Prop} {s : Shared} {elt target iter : Expr} {ifs : List Expr} {scope : Scope} {pos : Pos} {it acc : Value} {env : Env} (I : Nat → Shared → Prop)
    (turn : ∀ n s, I n s → wpAny (model prog w) A (pyNext it) (fun r s₁ => match r with
      | none => R (.ok .next) s₁
      | some v => wpAny (model prog w) A (letOwnedTupleGo target it v) (fun _ s₁' => wpAny (model prog w) A (assign target env v) (fun _ s₂ =>
          wpAny (model prog w) A (forIn ifs true fun c r => if r = true then do let ok ← isTrue c env (eval c env); pure (ForInStep.yield ok) else pure (ForInStep.yield r)) (fun ok s₃ =>
            if ok = true then wpAny (model prog w) A (eval elt env) (fun x s₄ =>
              wpAny (model prog w) A (call (.builtin "list.append") [acc, x]) (fun _ s₅ => ∃ m, m < n ∧ I m s₅) (fun _ _ => False) s₄) (fun _ _ => False) s₃
            else ∃ m, m < n ∧ I m s₃) (fun _ _ => False) s₂) (fun _ _ => False) s₁') (fun _ _ => False) s₁) (fun _ _ => False) s)
    (n : Nat) (h : I n s) :
    codeAny (model prog w) A (.compLoop (.ListComp elt [⟨target, iter, ifs, 0⟩] scope pos) 0 it acc env) R s := by
  refine codeAny_loop rfl I (fun n s hI => ?_) n h
  show wpAny _ A ((compTurn (.ListComp elt [⟨target, iter, ifs, 0⟩] scope pos) 0 it acc env).onRaise (fun x => do noteFrame x env; theTreesLotGoes x)) _ _ s
  refine wpAny_noted ?_
  rw [compTurn_list]
  refine wpAny_bind (wpAny_standAt (wpAny_bind (wpAny_mono (turn n s hI) (fun r s₁ h₁ => ?_) fun _ _ h' => h'.elim)))
  cases r with
  | none => exact wpAny_pure h₁
  | some v =>
    refine wpAny_bind (wpAny_mono h₁ (fun _ s₁' h₁' => ?_) fun _ _ h' => h'.elim)
    refine wpAny_bind (wpAny_mono h₁' (fun _ s₂ h₂ => wpAny_bind (wpAny_mono h₂ (fun ok s₃ h₃ => ?_) fun _ _ h' => h'.elim)) fun _ _ h' => h'.elim)
    cases ok with
    | false => exact wpAny_pure ⟨rfl, h₃⟩
    | true =>
      exact wpAny_bind (wpAny_bind (wpAny_mono h₃ (fun x s₄ h₄ => wpAny_bind (wpAny_mono h₄ (fun _ s₅ h₅ => wpAny_pure (wpAny_pure ⟨rfl, h₅⟩)) fun _ _ h' => h'.elim)) fun _ _ h' => h'.elim))
def tComp (js : List (Option Nat)) (wi : TI) (g : TG) (tc : TT) (te : TE) : TE := fun σ H Q =>
  wi σ H fun J H1 => ∀ D, H1 D = none → ∃ W : Nat → Nat → St → Hp → Prop, (∃ m, W 0 m (innerSt js σ) (upd H1 D (.lst []))) ∧
    ∀ i m σ' H', W i m σ' H' → (J.stop i H' ∧ Q (.ref D) H') ∨ (J.go i H' ∧ ∀ x H2, J.yld i H' x H2 → g x σ' H2 fun σ2 H3 => tc σ2 H3 fun b H4 =>
      if b = true then te σ2 H4 fun v H5 => rAppend (.ref D) [v] H5 fun _ H6 => ∃ m', m' < m ∧ W (i + 1) m' σ2 H6 else ∃ m', m' < m ∧ W (i + 1) m' σ2 H4)
theorem pe_comp {X : Cx} {elt tg iter : Expr} {ifs : List Expr} {scope : Scope} {pos : Pos} {N : List Str} {js : List (Option Nat)} {wi : TI} {g : TG} {tc : TT} {te : TE} (hcalm : X.calm = true) (S : CompScope X N js scope)
    (hi : PI X tg iter wi) (hg : ∀ C s H fp, PG (compCx X N scope C s H fp) tg g) (ht : ∀ C s H fp, PIfs (compCx X N scope C s H fp) ifs tc) (he : ∀ C s H fp, PE (compCx X N scope C s H fp) elt te)
    (hs : ∀ x, foldedSetIterable iter X.env x = pure x := by intro _; rfl) : PE X (.ListComp elt [⟨tg, iter, ifs, 0⟩] scope pos) (tComp js wi g tc te) := by
  intro pins s σ H Q I h
  have hc : ∀ x ∈ scope.names, x.2 = .free → ∃ c, X.env.cells.lookup x.1 = some c := fun x hx e => I.ok.has _ (S.free x hx e)
  rw [eval_ListComp]
  refine wpAny_comprehension_free (use := none) rfl hs (clos_eq hc) S.kind S.locs (thn (hi pins s σ H _ I h) fun v s1 h1 => thn h1 fun itv s2 h2 => ?_)
  obtain ⟨it, fp, tn, J, H2, e, I2, T, st2, f2, q⟩ := h2
  subst e
  refine wpAny_newObj_type (wpAny_newFunctionEnv S.nocell (by intro y hy; simp at hy) (fun h₁ hns₁ hsb₁ => ?_) S.kind)
  dsimp only at hns₁ hsb₁ ⊢
  generalize hH2 : s2.heap.push { cls := .type "list", dict := none, data := .seq ([] : List Value).toArray } = G2 at hns₁ hsb₁ ⊢
  have hC : G2.objs.size = s2.heap.objs.size + 1 := by rw [← hH2, Heap.size_push]
  have hDC : s2.heap.objs.size ≠ G2.objs.size := by rw [hC]; exact Nat.ne_of_lt (Nat.lt_succ_self _)
  have hC0 : s2.heap.objs.size ≤ G2.objs.size := by rw [hC]; exact Nat.le_succ _
  have below : ∀ b, b < s2.heap.objs.size → b ≠ G2.objs.size := fun b hb => by rw [hC]; exact Nat.ne_of_lt (Nat.lt_succ_of_lt hb)
  have old : ∀ b o, s2.heap.get? b = some o → h₁.get? b = some o := fun b o e => hsb₁.extBut b o (below b (Heap.lt_size e)) (Heap.get?_push_of_some _ (hH2 ▸ Heap.get?_push_of_some _ e))
  have hacc : h₁.get? s2.heap.objs.size = some { cls := .type "list", data := .seq ([] : List Value).toArray } := hsb₁.extBut _ _ hDC (Heap.get?_push_of_some _ (hH2 ▸ Heap.get?_push_size _ rfl))
  have hfp : ∀ b ∈ fp, b < s2.heap.objs.size := fun b hb => by obtain ⟨o, e, _⟩ := T.obj 0 _ st2 b hb; exact Heap.lt_size e
  obtain ⟨W, ⟨m0, w0⟩, turn⟩ := q s2.heap.objs.size (I2.hok.fresh (Nat.le_refl _))
  have stat : ∀ {H' : Hp}, (∀ b ∈ fp, H' b = none) → ∀ b ∈ fp, FpOk (compCx X N scope G2.objs.size s2 H2 fp) [] H' b := fun {H'} hn b hb =>
    ⟨hn b hb, below b (hfp b hb), fun z => by
      rcases List.mem_cons.mp (I2.stkSub b z) with q | q
      · exact (f2 b hb).2.1 q
      · exact (f2 b hb).2.2.1 q, .inl hb, fun x c e => (f2 b hb).2.2.2.2.1 x c (clos_sub _ _ (fun _ _ z => by simp at z) e), fun p hp => absurd hp (by simp [compCx])⟩
  have loop : ∀ s3 : Shared, s3 = { s2 with heap := h₁, toks := s2.toks + ([] : List (Str × Value)).length } →
      codeAny (model X.prog X.w) X.A (.compLoop (.ListComp elt [⟨tg, iter, ifs, 0⟩] scope pos) 0 (.ref it) (.ref s2.heap.objs.size) (compEnvC scope (clos X.env.cells scope.names []) G2.objs.size X.env))
        (compPost (model X.prog X.w) X.A X.xe none (EP X pins σ Q) (.ref s2.heap.objs.size) G2.objs.size) s3 := by
    rintro s3 rfl
    have I3 : Inv (compCx X N scope G2.objs.size s2 H2 fp) [] (innerSt js σ) (upd H2 s2.heap.objs.size (.lst [])) { s2 with heap := h₁, toks := s2.toks + ([] : List (Str × Value)).length } :=
      inv_comp S I2 f2 hfp old (Nat.le_refl _) hC0 hDC ⟨_, hacc⟩ hns₁
    refine compLoop_gen (fun n s' => ∃ i σ' H', Inv (compCx X N scope G2.objs.size s2 H2 fp) [] σ' H' s' ∧ tn i s'.heap ∧ (∀ b ∈ fp, H' b = none) ∧ W i n σ' H') ?_ m0
      ⟨0, _, _, I3, T.keep 0 _ _ st2 fun b _ o e => old b o e, fun b hb => by rw [upd_ne (Nat.ne_of_lt (hfp b hb))]; exact (f2 b hb).1, w0⟩
    rintro n s4 ⟨i, σ4, H4, I4, st4, fr4, w4⟩
    rcases turn i n σ4 H4 w4 with ⟨stop, qn⟩ | ⟨go, step⟩
    · refine thn (T.done (compCx X N scope G2.objs.size s2 H2 fp) rfl rfl rfl hcalm i [] s4 σ4 H4 (fun _ _ => False) I4 (stat fr4) st4 stop) fun r s5 ⟨hr, I5⟩ => ?_
      subst hr
      obtain ⟨m5, n5, _⟩ := I5.loc
      refine ⟨m5, n5, fun h' sb => ?_⟩
      have hos : s5.os = s2.os := I5.os
      obtain ⟨hh, gg, dd, tt, os5⟩ := s5
      obtain rfl : os5 = s2.os := hos
      have un : Un (frs X.stack) fp H2 H4 s2.heap h' := by
        have u := I5.base
        have nC : ∀ b o, s2.heap.get? b = some o → b ≠ G2.objs.size := fun b o e => below b (Heap.lt_size e)
        exact ⟨fun b o e n hf hx => sb.extBut b o (nC b o e) (u.keep b o e n hf hx), fun b o e n hf hx => by
            obtain ⟨sl, z⟩ := u.slot b o e n hf hx
            exact ⟨sl, sb.extBut b _ (nC b o e) z⟩, u.free, fun b o e hx => by
            obtain ⟨o', z⟩ := u.there b o e hx
            exact ⟨o', sb.extBut b _ (nC b o e) z⟩, u.tups, u.frzs, u.tbls⟩
      have hok : HOk X.prog X.w H4 h' := fun b ob e => (I5.hok b ob e).stay (fun c v hcv z => sb.extBut c v (fun q => by
        rcases hcv with hcv | hcv
        · rw [← hcv, q] at e
          have := I5.free
          have this' : H4 G2.objs.size = none := this
          rw [e] at this'; cases this'
        · rw [q] at hcv
          have this' : H4 G2.objs.size = none := I5.free
          rw [hcv] at this'; cases this') z) (fun _ z => z) fun _ _ z => z
      have IE := I2.call (h' := h') (g' := gg) (d' := dd) (t' := tt) (ch := fp) un hok I5.bare fun b hb => ⟨(f2 b hb).2.2.2.1, (f2 b hb).2.1, (f2 b hb).2.2.2.2.1, (f2 b hb).2.2.2.2.2⟩
      exact ⟨.ref s2.heap.objs.size, H4, IE, rfl, qn⟩
    · refine thn (T.item (compCx X N scope G2.objs.size s2 H2 fp) rfl rfl rfl hcalm i [] s4 σ4 H4 (fun _ _ => False) I4 (stat fr4) st4 go) fun r s5 ⟨u, hr, h5⟩ => ?_
      subst hr
      refine thn h5 fun _ s6 ⟨x, H6, I6, r6, y6, st6, fr6⟩ => ?_
      have I6' := I6.pinned (stat fr6) (T.obj _ _ st6)
      refine thn (hg _ _ _ _ _ s6 σ4 H6 x u _ I6' r6 (step x H6 y6)) fun _ s7 ⟨σ7, H7, I7, q7⟩ => ?_
      refine thn (ht _ _ _ _ _ s7 σ7 H7 _ I7 q7) fun b s8 ⟨H8, I8, q8⟩ => ?_
      have again : ∀ {s9 : Shared} {H9 : Hp}, Inv (compCx X N scope G2.objs.size s2 H2 fp) ([] ++ pinsAt fp s6.heap) σ7 H9 s9 → (∃ m', m' < n ∧ W (i + 1) m' σ7 H9) → ∃ m, m < n ∧ ∃ i σ' H', Inv (compCx X N scope G2.objs.size s2 H2 fp) [] σ' H' s9 ∧ tn i s9.heap ∧ (∀ b ∈ fp, H' b = none) ∧ W i m σ' H' := fun {s9 H9} I9 ⟨m', hm, w9⟩ => by
        refine ⟨m', hm, i + 1, σ7, H9, I9.unpinned, T.keep _ _ _ st6 fun b hb o e => (I9.pin (b, o) (List.mem_append_right _ (List.mem_append_right _ (mem_pinsAt hb e)))).1, fun b hb => ?_, w9⟩
        obtain ⟨o, e, d⟩ := T.obj _ _ st6 b hb
        exact (I9.pin (b, o) (List.mem_append_right _ (List.mem_append_right _ (mem_pinsAt hb e)))).2.1
      cases b with
      | false =>
        rw [if_neg Bool.false_ne_true] at q8 ⊢
        exact again I8 q8
      | true =>
        rw [if_pos rfl] at q8 ⊢
        refine thn (he _ _ _ _ _ s8 σ7 H8 _ I8 q8) fun xv s9 ⟨xx, H9, I9, r9, q9⟩ => ?_
        refine thn (mt_append _ s9 σ7 H9 (.ref s2.heap.objs.size) [xx] (.ref s2.heap.objs.size) [xv] _ I9 rfl (.cons r9 .nil) q9) fun _ s10 ⟨_, H10, I10, _, q10⟩ => ?_
        exact again I10 q10
  exact codeAny_compStart_list (loop _ rfl) (T.self _ _ _ _ _ (T.keep 0 _ _ st2 fun b _ o e => old b o e) (loop _ rfl))
end L2
set_option Elab.async false
set_option linter.all false
set_option maxRecDepth 100000
namespace L2
open PySem PySem.Spec PyProof.Rows
theorem ObjOk.obj {P : Program} {w : World} {H : Hp} {h : Heap} {a : Addr} {o : HO} (x : ObjOk P w H h a o) : ∃ ob, h.get? a = some ob := by
  cases o with
  | lst xs => obtain ⟨_, _, _, _, e⟩ := x; exact ⟨_, e⟩
  | tup xs => obtain ⟨_, _, _, o, e, _⟩ := x; exact ⟨_, e⟩
  | dK kvs => obtain ⟨_, _, _, _, o, _, _, e, _⟩ := x; exact ⟨_, e⟩
  | dT kvs => obtain ⟨_, _, _, _, o, _, _, e, _⟩ := x; exact ⟨_, e⟩
  | set S n => obtain ⟨o, _, _, _, e, _⟩ := x; exact ⟨_, e⟩
  | ins C dx fs => obtain ⟨_, _, _, e, _⟩ := x; exact ⟨_, e⟩
  | own y => exact x
  | xd fs => obtain ⟨_, ⟨_, _, _, e, _⟩, _⟩ := x; exact ⟨_, e⟩
  | rng lo hi => obtain ⟨_, _, _, e⟩ := x; exact ⟨_, e⟩
  | frz ob u => obtain ⟨e, _⟩ := x; exact ⟨_, e⟩
  | tbl ps => exact ⟨_, (show h.get? a = some _ from x)⟩
  | met f y => exact ⟨_, (show h.get? a = some _ from x)⟩
  | ext φ => obtain ⟨_, e, _⟩ := x; exact e
def CXW (P : Program) (w : World) : CXT := fun outer H s E e s' => ∃ (a : Addr) (cls a0 : Value) (H' : Hp) (B : Heap), e = .ref a ∧ s'.os = s.os ∧ AllBare s'.gens ∧ Un (frs outer) [] H H' s.heap s'.heap ∧ HOk P w H' B ∧
  Heap.FlyingW B outer a cls a0 s'.heap ∧ (∀ b o, s.heap.get? b = some o → H b = none → b ∉ frs outer → B.get? b = some o) ∧ (∀ b o, s.heap.get? b = some o → b ∉ frs outer → ∃ o', B.get? b = some o') ∧ E cls none H'
theorem passN {P : Program} {w : World} {X : Cx} : Passes (CXW P w) X E0 := fun _ _ _ _ _ _ _ h => by
  obtain ⟨_, _, _, _, _, _, _, _, _, _, _, _, _, hE⟩ := h
  exact hE.elim
theorem mem_frs {env : Env} {L b : Addr} {outer : List Env} (hf : env.frame = some L) : b ∈ frs (env :: outer) ↔ b = L ∨ b ∈ frs outer := by
  unfold frs
  rw [List.filterMap_cons, hf]
  exact List.mem_cons
section
variable {P : Program} {w : World} {K : PySem.W.Frag} {mg : Str → Option Value} {base : Heap} {N : List Str} {qual : Str} {scope : Scope} {f : Addr} {cd : Value} {A : Around} {outer : List Env} {s : Shared} {H : Hp} {E : XK}
  {pins : List (Addr × Obj)} {σ : St} {H1 : Hp} {s1 : Shared}
theorem cxw_out (I : Inv (cxOf (CXW P w) P w K mg base N qual scope f cd A outer s H E) pins σ H1 s1) {a : Addr} {cls a0 : Value} {H' : Hp} {B : Heap} {s2 : Shared}
    (hos : s2.os = s1.os) (hb : AllBare s2.gens) (hokB : HOk P w H' B) (hfl : Heap.FlyingW B outer a cls a0 s2.heap)
    (keepB : ∀ b o, s1.heap.get? b = some o → H1 b = none → b ∉ frs (envOfC qual scope s.heap.objs.size f cd :: outer) → B.get? b = some o)
    (thereB : ∀ b o, s1.heap.get? b = some o → b ∉ frs (envOfC qual scope s.heap.objs.size f cd :: outer) → ∃ o', B.get? b = some o')
    (up : ∀ b o, s1.heap.get? b = some o → (∀ vs, o.data ≠ .fields vs) → b ∈ frs outer → H1 b = none → ∃ sl, s2.heap.get? b = some { o with slots := sl })
    (free1 : ∀ b o, s1.heap.get? b = some o → H1 b = none → H' b = none)
    (tups : ∀ b xs, H1 b = some (.tup xs) → H' b = some (.tup xs)) (frzs : ∀ b o u, H1 b = some (.frz o u) → H' b = some (.frz o u)) (tbls : ∀ b ps, H1 b = some (.tbl ps) → ∃ more, H' b = some (.tbl (ps ++ more)))
    (hE : E cls none H') : CXW P w outer H s E (.ref a) s2 := by
  have u := I.base
  have notL : ∀ b o, s.heap.get? b = some o → b ∉ frs outer → b ∉ frs (envOfC qual scope s.heap.objs.size f cd :: outer) := fun b o e nf z => by
    rcases (mem_frs (env := envOfC qual scope s.heap.objs.size f cd) rfl).mp z with q | q
    · rw [q] at e; exact absurd (Heap.lt_size e) (Nat.lt_irrefl _)
    · exact nf q
  have inB : ∀ b o, s.heap.get? b = some o → H b = none → b ∉ frs outer → B.get? b = some o := fun b o e n nf =>
    keepB b o (u.keep b o e n nf (by simp [cxOf])) (u.free b o e n (by simp [cxOf])) (notL b o e nf)
  have thB : ∀ b o, s.heap.get? b = some o → b ∉ frs outer → ∃ o', B.get? b = some o' := fun b o e nf => by
    obtain ⟨o1, e1⟩ := u.there b o e (by simp [cxOf])
    exact thereB b o1 e1 (notL b o e nf)
  have sl : ∀ b o, s.heap.get? b = some o → H b = none → b ∈ frs outer → ∃ sl, s2.heap.get? b = some { o with slots := sl } := fun b o e n hb => by
    obtain ⟨sl1, e1⟩ := u.slot b o e n hb (by simp [cxOf])
    obtain ⟨_, o', e', nf⟩ := I.ok.funs.mem hb
    have e'' : s.heap.get? b = some o' := e'
    rw [e] at e''; cases e''
    obtain ⟨sl2, e2⟩ := up b _ e1 nf hb (u.free b o e n (by simp [cxOf]))
    exact ⟨sl2, e2⟩
  refine ⟨a, cls, a0, H', B, rfl, hos.trans I.os, hb, ⟨fun b o e n nf _ => hfl.1 b o (inB b o e n nf), fun b o e n hb _ => sl b o e n hb, fun b o e n _ => ?_, fun b o e _ => ?_, fun b xs e => tups b xs (u.tups b xs e), fun b o x e => frzs b o x (u.frzs b o x e), fun b ps e => ?_⟩, hokB, hfl, inB, thB, hE⟩
  · obtain ⟨o1, e1⟩ := u.there b o e (by simp [cxOf])
    exact free1 b o1 e1 (u.free b o e n (by simp [cxOf]))
  · by_cases hb : b ∈ frs outer
    · obtain ⟨sl, q⟩ := sl b o e (I.ok.frf b hb) hb
      exact ⟨_, q⟩
    · obtain ⟨o', q⟩ := thB b o e hb
      exact ⟨o', hfl.1 b o' q⟩
  · obtain ⟨m1, e1⟩ := u.tbls b ps e
    obtain ⟨m2, e2⟩ := tbls b _ e1
    exact ⟨m1 ++ m2, by rw [e2, Array.append_assoc]⟩
theorem passW : Passes (CXW P w) (cxOf (CXW P w) P w K mg base N qual scope f cd A outer s H E) E := by
  intro pins σ H1 s1 e s' I hx
  obtain ⟨a, cls, a0, H', B, rfl, hos, hb, un, hokB, hfl, keepB, thereB, hE⟩ := hx
  show wpAny _ _ (leaving _ (.ref a)) _ _ s'
  refine wpAny_leaves_onW (L := s.heap.objs.size) I.ok.frames rfl hfl fun h'' hfl' hup => ?_
  refine cxw_out I (s2 := { s' with heap := h'' }) hos hb hokB hfl' keepB thereB (fun b o e nf hb n => ?_) (fun b o e n => un.free b o e n (by simp)) un.tups un.frzs un.tbls hE
  obtain ⟨sl, e1⟩ := un.slot b o e n ((mem_frs (env := envOfC qual scope s.heap.objs.size f cd) rfl).mpr (.inr hb)) (by simp)
  obtain ⟨sl2, e2⟩ := hup b _ e1 nf
  exact ⟨sl2, e2⟩
theorem madeW (I : Inv (cxOf (CXW P w) P w K mg base N qual scope f cd A outer s H E) pins σ H1 s1) {h' : Heap} {a : Addr} {cls : Value} {vs : List Value} (hx : Heap.MadeExcOf s1.heap h' a cls vs) (hE : E cls none H1) :
    (cxOf (CXW P w) P w K mg base N qual scope f cd A outer s H E).xe (.ref a) { s1 with heap := h' } := by
  have hin : ∀ env ∈ (envOfC qual scope s.heap.objs.size f cd :: outer), ∀ b, env.frame = some b → b ∈ frs (envOfC qual scope s.heap.objs.size f cd :: outer) := fun env he b hb => List.mem_filterMap.mpr ⟨env, he, hb⟩
  have stk : s1.heap.FunFrames base (envOfC qual scope s.heap.objs.size f cd :: outer) := I.stack
  have fr0 : ∀ b, b ∈ frs (envOfC qual scope s.heap.objs.size f cd :: outer) → H1 b = none := I.stkFree
  show wpAny _ _ (leaving _ (.ref a)) _ _ _
  refine wpAny_leaves_madeW (base := PySem.W.hideAll s1.heap (frs (envOfC qual scope s.heap.objs.size f cd :: outer))) (h := s1.heap) (L := s.heap.objs.size) (s := { s1 with heap := h' }) I.ok.frames rfl (fun b o q => PySem.W.of_hideAll _ q) (PySem.W.funFrames_hide stk hin) hx fun h'' t x1 x2 x3 x4 => ?_
  have hg : ∀ b o, s1.heap.get? b = some o → b ∉ frs (envOfC qual scope s.heap.objs.size f cd :: outer) → (PySem.W.hideAll s1.heap (frs (envOfC qual scope s.heap.objs.size f cd :: outer))).get? b = some o := fun b o e nf => PySem.W.hideAll_get _ e nf
  refine cxw_out I (s2 := { s1 with heap := h'' }) (H' := H1) rfl I.bare (fun b ob e => (I.hok b ob e).stay (fun c v hcv z => hg c v z fun q => ?_) (fun _ z => z) fun _ _ z => z) x1 (fun b o e _ nf => hg b o e nf) (fun b o e nf => ⟨o, hg b o e nf⟩) (fun b o e nf hb n => ?_) (fun _ _ _ n => n) (fun _ _ e => e) (fun _ _ _ e => e) (fun b ps e => ⟨#[], by rw [e]; simp⟩) hE
  · have z := fr0 c q
    rcases hcv with r | r
    · rw [← r, z] at e; cases e
    · rw [z] at r; cases r
  · exact x4 b o (hx.keeps b o e) nf
theorem pown : PassesOwn (model (cxOf (CXW P w) P w K mg base N qual scope f cd A outer s H E).prog (cxOf (CXW P w) P w K mg base N qual scope f cd A outer s H E).w) (cxOf (CXW P w) P w K mg base N qual scope f cd A outer s H E).A
    (cxOf (CXW P w) P w K mg base N qual scope f cd A outer s H E).env (cxOf (CXW P w) P w K mg base N qual scope f cd A outer s H E).xe := PassesOwn.leaving
end
theorem exc_obj {K : PySem.W.Frag} {h : Heap} {C : Addr} {bmB : List Value} {newId : String} (X : K.In h) (q : PySem.W.excIn K C bmB newId = true) :
    ∃ bm N nm qn bs hdct sn sub ab col dd k0 k1 k2 k3 k5 mN, h.get? C = some (excClassObj nm qn C N bs bm hdct sn sub ab col dd k0 k1 k2 k3 k5 newId) ∧ h.Ns N mN ∧ mN "__init__" = none ∧ OwnTail h bmB bm := by
  unfold PySem.W.excIn at q
  split at q
  · rename_i dd cd sl ho
    split at q
    · rename_i C' bm k0 k1 k2 k3 n k5 hm hs
      simp only [Bool.and_eq_true, beq_iff_eq, Bool.not_eq_true'] at q
      obtain ⟨⟨⟨⟨⟨rfl, rfl⟩, hdel⟩, ht⟩, hok⟩, hni⟩ := q
      obtain ⟨nm, bs, mro, ns, qn, hd, sn, sub, ab, col, del⟩ := cd
      dsimp only at hm hdel hok hni
      subst hm hdel
      have hsl : sl = #[k0, k1, k2, k3, some (.builtin n), k5] := by
        obtain ⟨l⟩ := sl
        simp only at hs
        rw [hs]
      subst hsl
      exact ⟨bm, ns, nm, qn, bs, hd, sn, sub, ab, col, dd, k0, k1, k2, k3, k5, _, X _ _ ho, .of_isNs (PySem.W.isNs_of_in X hok), PySem.W.nsMap_none_of_in X hok hni, PySem.W.tail_of_in X ht⟩
    · cases q
  · cases q
def tRaise (E : XK) (C : Addr) : TS := fun _ _ H => E (.ref C) none H
theorem ps_raise {P : Program} {w : World} {K : PySem.W.Frag} {mg : Str → Option Value} {base : Heap} {N : List Str} {qual : Str} {scope : Scope} {f : Addr} {cd : Value} {A : Around} {outer : List Env} {s : Shared} {H : Hp} {E : XK}
    {x msg : Str} {C : Addr} {B newId initId : String} {bmB : List Value} {np cpos pos p3 : Pos} {j : Nat} (FB : ExcBaseFacts B newId initId bmB) (q : PySem.W.excIn K C bmB newId = true)
    (hm : mg x = some (.ref C)) (hg : Gl (cxOf (CXW P w) P w K mg base N qual scope f cd A outer s H E) x) (hd : (x == ("__debug__" : Str)) = false := by decide) :
    PS (cxOf (CXW P w) P w K mg base N qual scope f cd A outer s H E) (.Raise (some (.Call (.Name x np) [.Constant (.str msg) j p3] [] cpos)) none pos) (tRaise E C) := by
  intro pins s1 σ H1 D I h
  obtain ⟨bm, Nn, nm, qn, bs, hdct, sn, sub, ab, col, dd, k0, k1, k2, k3, k5, mN, hC, hN, hni, T⟩ := exc_obj I.ok.mod.kin q
  refine wpAny_Raise_call_subT (C := C) (nm := nm) (q := qn) (N := Nn) (bs := bs) (bm := bm) (hdct := hdct) (sn := sn) (sub := sub) (ab := ab) (col := col) (dd := dd) (k0 := k0) (k1 := k1) (k2 := k2) (k3 := k3) (k5 := k5)
    FB (mN := mN) (T.hasType FB.hasBase) (I.ok.hd rfl) rfl hni (ld_glob I hg hm ⟨rfl, ?_⟩ hd)
  have ha : PA (cxOf (CXW P w) P w K mg base N qual scope f cd A outer s H E) [.Constant (.str msg) j p3] (tCons (tC (.str msg)) tNil) := pa_cons pe_str pa_nil
  have hw := ha cpos pins s1 σ H1 (fun vs H2 => vs.length = 1 ∧ H2 = H1) I ⟨rfl, rfl⟩
  refine Calls.evalArgs_plain (thn hw fun us s2 ⟨vs, H2, I2, r, hl, e2⟩ => ?_)
  subst e2
  refine ⟨rfl, ?_, I2.bk _ _ hC, hN.keeps I2.bk, T.keeps I2.bk, fun h' e hx => madeW I2 hx h⟩
  show us.length ≤ sizeLine
  rw [← r.length, hl]; decide
section
variable {P : Program} {w : World} {K : PySem.W.Frag} {mg : Str → Option Value} {base : Heap}
theorem Fun.okX {x qual : Str} {st : Stmt} {f : Addr} {fd : FuncData} {N ps : List Str} {k : Nat} {sp : Sp} (F : Fun K x qual st f fd) (S : FnScope N ps (defScope st)) (len : ∀ vs H Q E, sp vs H Q E → vs.length = ps.length)
    (hbody : ∀ (cdv : Value) (A : Around) (outer : List Env) (s : Shared) (H : Hp) (vs : List V) (Q : VK) (E : XK), Room k (A.deeper (envOfC qual (defScope st) s.heap.objs.size f cdv)) → sp vs H Q E →
      ∃ t, PSs (cxOf (CXW P w) P w K mg base N qual (defScope st) f cdv A outer s H E) (defBody st) t ∧ t { nx := fun _ H' => Q .non H', rt := Q } (start N vs) H) : FnOk P w K mg base (CXW P w) (k + 1) f fd ps sp := by
  obtain ⟨oc, od, kV, doc, pm, an, cdv, ct, osl, rfl, lk, hcd⟩ := F.ex
  exact fn_of lk hcd S len fun A outer s H vs Q E hr hsp => hbody cdv A outer s H vs Q E hr hsp
theorem Fun.okN {x qual : Str} {st : Stmt} {f : Addr} {fd : FuncData} {N ps : List Str} {k : Nat} {sp : Sp} (F : Fun K x qual st f fd) (S : FnScope N ps (defScope st)) (len : ∀ vs H Q E, sp vs H Q E → vs.length = ps.length)
    (hbody : ∀ (cdv : Value) (A : Around) (outer : List Env) (s : Shared) (H : Hp) (vs : List V) (Q : VK) (E : XK), Room k (A.deeper (envOfC qual (defScope st) s.heap.objs.size f cdv)) → sp vs H Q E →
      ∃ t, PSs (cxOf (CXW P w) P w K mg base N qual (defScope st) f cdv A outer s H E).nox (defBody st) t ∧ t { nx := fun _ H' => Q .non H', rt := Q } (start N vs) H) : FnOk P w K mg base (CXW P w) (k + 1) f fd ps sp :=
  F.okX S len fun cdv A outer s H vs Q E hr hsp => by
    obtain ⟨t, h, q⟩ := hbody cdv A outer s H vs Q E hr hsp
    exact ⟨t, h.nox, q⟩
end
end L2
set_option Elab.async false
set_option linter.all false
set_option maxRecDepth 100000
namespace L2
open PySem PySem.Spec PyProof.Rows PySem.W
structure ExcC (K : Frag) (C : Addr) : Prop where
  ga : findIn K (.ref C) "__getattribute__" = some (some (.builtin "BaseException.__getattribute__"))
  gt : findIn K (.ref C) "__getattr__" = some none
  ca : findIn K (.ref C) "__class__" = some (some (.builtin "object.__class__"))
  ob : mroIn K C (.type "object") = some true
  be : mroIn K C (.type "BaseException") = some true
  ty : typeIn K (.ref C) = some (.type "type")
theorem ExcC.cls {K : Frag} {C : Addr} (T : ExcC K C) : (clsIn K C).isSome = true := by
  have h := T.ob
  unfold mroIn at h
  cases e : clsIn K C with
  | none => rw [e] at h; cases h
  | some cd => rfl
def ExcAt (a C : Addr) (h : Heap) : Prop := ∃ o vs, h.get? a = some o ∧ o.cls = .ref C ∧ o.data = .fields vs
section
variable {prog : Program} {w : World} {A : Around} {E : Value → Shared → Prop} {h : Heap} {g : Array GenState} {d : Drawn} {t : Nat} {os : OsState} {a C : Addr} {o : Obj} {K : Frag}
theorem exc_class_get {R : Result → Shared → Prop} (X : K.In h) (T : ExcC K C) (hx : h.get? a = some o) (hc : o.cls = .ref C) (hq : R (.ok (.ret (.ref C))) ⟨h, g, d, t, os⟩) :
    codeAny (model prog w) A (.call (.builtin "getset_descriptor.__get__") ⟨[.builtin "object.__class__", .ref a, .ref C], []⟩) R ⟨h, g, d, t, os⟩ := by
  have hT5 : (⟨h, g, d, t, os⟩ : Shared).TypeIs (.builtin "object.__class__") "getset_descriptor" := F.typeOf_object_class
  have L1 := looks_mroIn (M := model prog w) X T.ob
  refine codeAny_call_builtin F.slot_gs_get.plain F.entry_gs_get (F.slot_gs_get.check _ _ _ _ _ _ _ _ hT5 (F.args_gs_get _ _ _) ?_)
  repeat (any_goals (first | assumption | (with_reducible refine wpAny_loadPart_at hx ?_; rw [hc]) | (rw [F.owner_object_class]; with_reducible refine L1.at ?_) | wp_step))
  refine ⟨Code.quiet_builtin _ (by decide +kernel), codeAny_builtin F.entry_object_class ?_⟩
  repeat (any_goals (first | assumption | (with_reducible refine wpAny_loadPart_at hx ?_; rw [hc]) | wp_step))
theorem exc_class_entry {tk : Tok} {Q : Fin → Shared → Prop} (X : K.In h) (T : ExcC K C) (hx : h.get? a = some o) (hc : o.cls = .ref C) (hq : Q (.done (.ret (.ref C))) ⟨h, g, d, t, os⟩) :
    wpAny (model prog w) A (Builtin.«object.__getattribute__» ⟨[.ref a, .str "__class__" tk], []⟩) Q E ⟨h, g, d, t, os⟩ := by
  have hT5 : (⟨h, g, d, t, os⟩ : Shared).TypeIs (.builtin "object.__class__") "getset_descriptor" := F.typeOf_object_class
  have f5 := F.typeOf_object_class
  have f6 := F.slot_gs_get.lookup
  have f7 := F.slot_gs_set.lookup
  have L1 := looks_findIn (M := model prog w) X T.ca
  repeat (any_goals (first | assumption | (with_reducible refine wpAny_loadPart_at hx ?_; rw [hc]) | with_reducible refine L1.at ?_ | wp_step))
  refine exc_class_get X T hx hc ?_
  repeat (any_goals (first | assumption | wp_step))
theorem exc_check_ga {M : Model} {nameV : Value} {Q : Unit → Shared → Prop} (X : K.In h) (T : ExcC K C) (hx : h.get? a = some o) (hc : o.cls = .ref C) (hq : Q () ⟨h, g, d, t, os⟩) :
    wpAny M A (checkBuiltinCall "BaseException.__getattribute__" ⟨[.ref a, nameV], []⟩) Q E ⟨h, g, d, t, os⟩ := by
  have hk : builtinKind "BaseException.__getattribute__" = some .slot := by decide +kernel
  have hsplit : splitId "BaseException.__getattribute__" = some ("BaseException", "__getattribute__") := by decide +kernel
  have ha := F.args_bexc_ga (.ref a) nameV
  have L1 := looks_mroIn (M := M) X T.be
  simp only [checkBuiltinCall, hk, hsplit]
  refine wpAny_bind ?_
  · unfold isInstance
    repeat (first | (with_reducible refine wpAny_loadPart_at hx ?_; rw [hc]) | with_reducible refine L1.at ?_ | wp_step)
    exact hq
theorem exc_class_by {tk : Tok} {Q : Value → Shared → Prop} (X : K.In h) (T : ExcC K C) (hx : h.get? a = some o) (hc : o.cls = .ref C) (hq : Q (.ref C) ⟨h, g, d, t, os⟩) :
    wpAny (model prog w) A (getAttrBy (.ref a) (.str "__class__" tk) false) Q E ⟨h, g, d, t, os⟩ := by
  have FB := PySem.F.attrBase_ValueError
  have f3 := FB.ga.bind (.ref a)
  have hx0 : (false && onTheHeap (Value.builtin "BaseException.__getattribute__")) = false := rfl
  have hx2 : (Value.builtin "BaseException.__getattribute__" == Value.builtin "object.__getattribute__") = false := by decide +kernel
  have hx1 : (onTheHeap (Value.ref C) && Value.builtin "BaseException.__getattribute__" == Value.builtin "object.__getattribute__") = false := by rw [hx2]; rfl
  have L1 := looks_findIn (M := model prog w) X T.ga
  have L2 := looks_findIn (M := model prog w) X T.gt
  repeat (any_goals (first | assumption | (with_reducible refine wpAny_loadPart_at hx ?_; rw [hc]) | with_reducible refine L1.at ?_ | with_reducible refine L2.at ?_ | wp_step))
  refine codeAny_call_builtin FB.ga.plain F.entry_bexc_ga (exc_check_ga X T hx hc (exc_class_entry X T hx hc ?_))
  repeat (any_goals (first | assumption | wp_step))
theorem exc_class_attr {Q : Option Value → Shared → Prop} (X : K.In h) (T : ExcC K C) (hx : h.get? a = some o) (hc : o.cls = .ref C) (hq : Q (some (.ref C)) ⟨h, g, d, t + 1, os⟩) :
    wpAny (model prog w) A (getAttr? (.ref a) "__class__") Q E ⟨h, g, d, t, os⟩ := by
  unfold getAttr? getAttrBy?
  repeat (any_goals (first | assumption | with_reducible apply exc_class_by X T hx hc | wp_step))
end
theorem kitx_exc {K : Frag} {a C : Addr} (T : ExcC K C) : KitX K (.ref a) (.ref C) (ExcAt a C) where
  ty := fun M h _ p => by
    obtain ⟨o, vs, h1, h2, _⟩ := p
    exact h2 ▸ (Looks.ld h1).andThen .now
  it := fun _ _ X _ => by
    obtain ⟨cdD, hcD⟩ := Option.isSome_iff_exists.mp T.cls
    unfold clsIn at hcD
    split at hcD
    · rename_i c' d' cd' sl' ho
      intro A' Q' E' s' k q
      unfold isType loadHead
      exact wpAny_bind (wpAny_loadPart (k _ _ (X _ _ ho)) (wpAny_pure q))
    · cases hcD
  ne := fun h tp dd its n sl X htp => by
    obtain ⟨cdD, hcD⟩ := Option.isSome_iff_exists.mp T.cls
    refine Bool.eq_false_iff.mpr fun q => ?_
    have e : C = tp := Value.ref.inj (beq_iff_eq.mp q)
    subst e
    unfold clsIn at hcD
    split at hcD
    · rename_i c' d' cd' sl' ho
      have z := (X _ _ ho).symm.trans htp
      cases z
    · cases hcD
  ca := fun {_ _ _ _ _ s} X p k => by
    obtain ⟨o, vs, h1, h2, _⟩ := p
    obtain ⟨hh, g, d, t, os⟩ := s
    exact exc_class_attr X T h1 h2 k
def excO (a C : Addr) : HO := .ext (ExcAt a C)
theorem excO_ok {P : Program} {w : World} {H : Hp} {h : Heap} {a C : Addr} (p : ExcAt a C h) : ObjOk P w H h a (excO a C) := by
  refine ⟨p, ?_, fun h1 h2 q k => ?_⟩
  · obtain ⟨o, _, e, _⟩ := p; exact ⟨o, e⟩
  · obtain ⟨o, vs, e, r⟩ := q; exact ⟨o, vs, k o e, r⟩
inductive TyX (K : Frag) (H : Hp) : V → Value → Prop where
  | of {x : V} {t : Value} (h : TyOf K H x t) : TyX K H x t
  | exc {a C : Addr} (T : ExcC K C) (e : H a = some (excO a C)) : TyX K H (.ref a) (.ref C)
theorem isinst_x {X : Cx} {pins : List (Addr × Obj)} {σ : St} {H : Hp} {s : Shared} {A : Around} {E : Value → Shared → Prop} {Q : Value → Shared → Prop} {c : Value} {b : Bool} {x : V} {u t : Value} (I : Inv X pins σ H s) (rx : RelV x u) (ty : TyX X.K H x t)
    (e : kitOne X.K t c = some b) (h : ∀ tk, Q (.bool b) { s with toks := tk }) : wpAny (model X.prog X.w) A (call (.builtin "isinstance") [u, c]) Q E s := by
  cases ty with
  | of ty => exact isinst_ok I rx ty e h
  | @exc a C T ea =>
    cases (show u = Value.ref a from rx)
    obtain ⟨p, _, _⟩ := (show ObjOk X.prog X.w H s.heap a (excO a C) from I.hok a _ ea)
    exact kia_one (kitx_exc T) I.kIn p e (fun z => nomatch z) h
def clsV : V → Option Value
  | .ref a => some (.ref a)
  | .ty n => some (.type n)
  | _ => none
theorem clsV_rel {x : V} {c u : Value} (h : clsV x = some c) (r : RelV x u) : u = c := by
  cases x with
  | ref a => cases h; exact r
  | ty n => cases h; exact r
  | _ => cases h
def rIsi (K : Frag) : List V → Hp → VK → Prop := fun xs H Q => ∃ x t vc c b, xs = [x, vc] ∧ TyX K H x t ∧ clsV vc = some c ∧ kitOne K t c = some b ∧ Q (.bl b) H
theorem call_isi {X : Cx} : CallR X (.builtin "isinstance") (rIsi X.K) := by
  intro pins s σ H xs us Q I rv h
  obtain ⟨x, t, vc, c, b, rfl, ty, rc, e, q⟩ := h
  obtain ⟨u, v, rfl, r1, r2⟩ := rv.two
  rw [clsV_rel rc r2]
  exact isinst_x I r1 ty e fun tk => ⟨.bl b, H, I.tok _, rfl, q⟩
end L2
set_option Elab.async false
set_option linter.all false
set_option maxRecDepth 100000
namespace L2
open PySem PySem.Spec PyProof.Rows PySem.W
def PassesAt (CX : CXT) (X : Cx) (E : XK) (pins : List (Addr × Obj)) (σ : St) : Prop := ∀ (H : Hp) (s : Shared) (e : Value) (s' : Shared), Inv X pins σ H s → CX X.stack H s E e s' → X.xe e s'
def PEAt (X : Cx) (pins : List (Addr × Obj)) (σ : St) (e : Expr) (t : TE) : Prop := ∀ (s : Shared) (H : Hp) (Q : VK), Inv X pins σ H s → t σ H Q → wpAny (model X.prog X.w) X.A (eval e X.env) (EP X pins σ Q) X.xe s
def PSsAt (X : Cx) (pins : List (Addr × Obj)) (σ : St) (st : List Stmt) (t : TS) : Prop := ∀ (s : Shared) (H : Hp) (D : Ends), Inv X pins σ H s → t D σ H → wpAny (model X.prog X.w) X.A (execs st X.env) (SP X pins D) X.xe s
section
variable {X : Cx} {CX : CXT} {k : Nat} {f : Addr} {fd : FuncData} {ps : List Str} {sp : Sp} {dvs : List V} {ds : List Value} {E : XK} {x : Str} {p pos : Pos} {e : Expr} {es : List Expr} {te : TE} {t : TA} {pins : List (Addr × Obj)} {σ : St} {ta tb : TS}
theorem pea_call (F : FnOk X.prog X.w X.K X.mg X.base CX k f fd ps sp) (hr : Room k X.A) (hg : Gl X x) (hm : X.mg x = some (.ref f)) (hk : PySem.W.keepIn X.K (.ref f) = true) (hb : Binds X.K fd ps ds) (hd : Vals dvs ds) (hx : PassesAt CX X E pins σ)
    (ha : PA X (e :: es) t) (hdb : (x == ("__debug__" : Str)) = false := by decide) (he : starEach (e :: es) X.env = (false, eval e X.env) :: starEach es X.env := by rfl) (hpl : (backTo pos (starEach es X.env)).any (·.1) = false := by rfl) :
    PEAt X pins σ (.Call (.Name x p) (e :: es) [] pos) (tCall sp dvs E t) := by
  intro s H Q I h
  refine wpAny_Call_Name_kw (ld_glob I hg hm ?_ hdb)
  refine PySem.W.callWith_K (h₀ := X.base) I.ok.mod.kin hk (thn (ha pos pins s σ H _ I h) fun us s1 ⟨vs, H1, I1, r, q⟩ => ⟨I1.kIn, ?_⟩) he hpl
  have r2 : Vals (vs ++ dvs) (us ++ ds) := r.append hd
  have hl : (us ++ ds).length = ps.length := by rw [← r2.length]; exact F.len _ _ _ _ q
  refine wpAny_call (codeAny_mono (F.run X.A X.stack s1 H1 ⟨us, []⟩ (us ++ ds) (vs ++ dvs) Q E hr I1.env0 (hb s1 us I1.kIn hl) r2 q) fun r s' hq => ?_)
  cases r with
  | error e => exact hx H1 s1 e s' I1 hq
  | ok fl =>
    cases fl with
    | ret u => exact I1.after hq
    | next => exact False.elim hq
    | brk => exact False.elim hq
    | cont => exact False.elim hq
theorem psa_expr (he : PEAt X pins σ e te) (hs : swapsWith e none pos.line X.env = pure false := by rfl) : PSsAt X pins σ [.Expr e pos] (tDrop te) := by
  intro s H D I h
  refine wpAny_execs_cons (wpAny_Expr_any (thn (he s H _ I h) fun v s1 ⟨x, H1, I1, r1, q1⟩ => ?_) I.quiet hs)
  exact wpAny_execs_nil ⟨σ, H1, I1, q1⟩
theorem psa_if {c : Expr} {a b : List Stmt} {tc : TT} (hc : PT X c tc) (ha : PSsAt X pins σ a ta) (hb : PSsAt X pins σ b tb) : PSsAt X pins σ [.If c a b pos] (tIfS tc ta tb) := by
  intro s H D I h
  refine wpAny_execs_cons (wpAny_If (thn (hc pins s σ H _ I h) fun d s1 ⟨H1, I1, q1⟩ => ?_))
  have fin : ∀ {f : Flow} {s2 : Shared}, SP X pins D f s2 → (match f with | .next => wpAny (model X.prog X.w) X.A (execs [] X.env) (SP X pins D) X.xe s2 | f => SP X pins D f s2) := fun {f s2} q => by
    cases f with
    | next => exact wpAny_execs_nil q
    | ret v => exact q
    | brk => exact q
    | cont => exact q
  cases d with
  | true => exact thn (ha s1 H1 D I1 q1) fun f s2 q => fin q
  | false => exact thn (hb s1 H1 D I1 q1) fun f s2 q => fin q
end
theorem HOk.add {P : Program} {w : World} {H : Hp} {h : Heap} {a : Addr} {o : HO} (x : HOk P w H h) (hn : H a = none) (new : ObjOk P w (upd H a o) h a o) : HOk P w (upd H a o) h := fun b u e => by
  by_cases hb : b = a
  · subst hb; rw [upd_same] at e; cases e; exact new
  · rw [upd_ne hb] at e
    exact (x b u e).stay (fun c v _ q => q) (fun c q => by rw [upd_ne (ne_of_none q hn)]; exact q) fun c xs q => by rw [upd_ne (ne_of_none q hn)]; exact q
abbrev hdCx (X : Cx) (a : Addr) : Cx := { X with A := X.A.mark (some (.ref a)), calm := false, xe := fun _ _ => False }
theorem Inv.hd {X : Cx} {pins : List (Addr × Obj)} {σ : St} {H : Hp} {s : Shared} {a : Addr} (I : Inv X pins σ H s) : Inv (hdCx X a) pins σ H s :=
  ⟨⟨I.ok.mod, I.ok.kind, I.ok.glob, I.ok.blt, I.ok.above, I.ok.inj, I.ok.has, I.ok.cab, fun z => Bool.noConfusion z, I.ok.frames, I.ok.stk, I.ok.exf, I.ok.bs, I.ok.bsz, I.ok.noex, I.ok.exfs, I.ok.funs, I.ok.frf⟩, I.os, I.bare, I.base, I.loc, I.cell, I.free, I.freeC, I.pin, I.hok, I.len⟩
theorem Inv.unhd {X : Cx} {pins : List (Addr × Obj)} {σ : St} {H : Hp} {s : Shared} {a : Addr} (hd : X.calm = true → X.A.handled = none) (I : Inv (hdCx X a) pins σ H s) : Inv X pins σ H s :=
  ⟨⟨I.ok.mod, I.ok.kind, I.ok.glob, I.ok.blt, I.ok.above, I.ok.inj, I.ok.has, I.ok.cab, hd, I.ok.frames, I.ok.stk, I.ok.exf, I.ok.bs, I.ok.bsz, I.ok.noex, I.ok.exfs, I.ok.funs, I.ok.frf⟩, I.os, I.bare, I.base, I.loc, I.cell, I.free, I.freeC, I.pin, I.hok, I.len⟩
theorem Inv.gone {X : Cx} {pins : List (Addr × Obj)} {σ : St} {H : Hp} {s : Shared} {n : Str} {i : Nat} {h' : Heap} {v : Option Value} {m : Str → Option Value} {t' : Nat} (I : Inv X pins σ H s) (hN : X.N.Nodup) (hi : X.N[i]? = some n)
    (hl : ∀ (j : Nat) (x : Str) (v : V), X.N[j]? = some x → σ[j]? = some (some v) → Vis X.env.scope x → ∃ u, RelV v u ∧ Look X.env s.heap m x u)
    (hn : h'.Ns X.env.locals (fun x => if x = n then v else m x)) (hs : Heap.SameBut X.env.locals s.heap h') : Inv X pins (σ.set i none) H { s with heap := h', toks := t' } := by
  have cne := I.cne
  have hiσ : i < σ.length := by rw [I.len]; exact (List.getElem?_eq_some_iff.mp hi).1
  obtain ⟨m0, ⟨oL, es, ep, hoL, _⟩, _⟩ := I.loc
  have tracked : HOk X.prog X.w H h' := fun b ob e => by
    refine (I.hok b ob e).stay (fun c w' hc q => (hs.2 c ?_).trans q) (fun _ q => q) fun _ _ q => q
    rintro rfl
    have fr := I.free
    rcases hc with rfl | hc
    · rw [fr] at e; cases e
    · rw [fr] at hc; cases hc
  refine ⟨I.ok, I.os, I.bare, ⟨fun b o e n hb hx => ?_, fun b o e n hb hx => ?_, I.base.free, fun b o e hx => ?_, I.base.tups, I.base.frzs, I.base.tbls⟩, ⟨_, hn, fun j y v' e1 e2 e3 => ?_⟩, fun y c e => ?_, I.free, I.freeC, fun p hp => ?_, tracked, by simpa using I.len⟩
  · exact (hs.2 b (Nat.ne_of_lt (Nat.lt_of_lt_of_le (Heap.lt_size e) I.ok.above))).trans (I.base.keep b o e n hb hx)
  · obtain ⟨sl, e1⟩ := I.base.slot b o e n hb hx
    exact ⟨sl, (hs.2 b (Nat.ne_of_lt (Nat.lt_of_lt_of_le (Heap.lt_size e) I.ok.above))).trans e1⟩
  · obtain ⟨o', e1⟩ := I.base.there b o e hx
    exact ⟨o', (hs.2 b (Nat.ne_of_lt (Nat.lt_of_lt_of_le (Heap.lt_size e) I.ok.above))).trans e1⟩
  · by_cases hj : j = i
    · subst hj
      rw [List.getElem?_set_self hiσ] at e2
      cases e2
    · rw [List.getElem?_set_ne (Ne.symm hj)] at e2
      obtain ⟨u', r', q⟩ := hl j y v' e1 e2 e3
      refine ⟨u', r', ?_⟩
      rcases q with ⟨k, e⟩ | ⟨k, c, e, z⟩
      · refine .inl ⟨k, ?_⟩
        have : y ≠ n := fun e => hj (nodup_ix hN e1 (e ▸ hi))
        simp [this, e]
      · exact .inr ⟨k, c, e, z.sameBut hs (cne y c e)⟩
  · obtain ⟨w', z⟩ := I.cell y c e
    exact ⟨w', z.sameBut hs (cne y c e)⟩
  · obtain ⟨e, n, ne, nf, d⟩ := I.pin p hp
    exact ⟨(hs.2 p.1 ne).trans e, n, ne, nf, d⟩
theorem exc_isType {M : Model} {h : Heap} {Cp : Addr} {K : Frag} (X : K.In h) (Tp : ExcC K Cp) : Looks M h (isType (.ref Cp)) true := by
  obtain ⟨cdD, hcD⟩ := Option.isSome_iff_exists.mp Tp.cls
  unfold clsIn at hcD
  split at hcD
  · rename_i c' d' cd' sl' ho
    intro A' Q' E' s' k q
    unfold isType loadHead
    exact wpAny_bind (wpAny_loadPart (k _ _ (X _ _ ho)) (wpAny_pure q))
  · cases hcD
theorem exc_matches {M : Model} {A : Around} {E : Value → Shared → Prop} {h : Heap} {g : Array GenState} {d : Drawn} {t : Nat} {os : OsState} {a C Cp : Addr} {o : Obj} {K : Frag} {b : Bool} {Q : Bool → Shared → Prop} (X : K.In h) (Tp : ExcC K Cp) (hm : mroIn K C (.ref Cp) = some b)
    (hx : h.get? a = some o) (hc : o.cls = .ref C) (hq : Q b ⟨h, g, d, t, os⟩) : wpAny M A (excMatches (.ref a) (.ref Cp)) Q E ⟨h, g, d, t, os⟩ := by
  have L1 := looks_typeIn (M := M) X Tp.ty
  have L3 := looks_mroIn (M := M) X Tp.be
  have L4 := looks_mroIn (M := M) X hm
  have L5 : Looks M h (isType (.ref Cp)) true := exc_isType X Tp
  have f := tc_notTuple
  unfold excMatches
  repeat (first | (with_reducible refine wpAny_loadPart_at hx ?_; rw [hc]) | with_reducible refine L1.at ?_ | with_reducible refine L3.at ?_ | with_reducible refine L4.at ?_ | with_reducible refine L5.at ?_ | wp_step)
  cases b <;> (wp_walk; exact hq)
def tTry (K : Frag) (Cp : Addr) (i : Nat) (tb : XK → TS) (th : TS) : TS := fun D σ H =>
  tb (fun cls _ H' => ∃ C, cls = .ref C ∧ ExcC K C ∧ mroIn K C (.ref Cp) = some true ∧ ∀ a, H' a = none → th { nx := fun σ2 H2 => D.nx (σ2.set i none) H2, rt := fun _ _ => False } (σ.set i (some (.ref a))) (upd H' a (excO a C))) D σ H
theorem ps_try {X : Cx} {body suite : List Stmt} {b₀ : Stmt} {x n : Str} {np hpos pos : Pos} {Cp : Addr} {i : Nat} {tb : XK → TS} {th : TS}
    (hstk : X.stack = X.env :: X.outer) (hfr : X.env.frame = some X.env.locals) (hN : X.N.Nodup) (hi : X.N[i]? = some n) (hl : X.env.kindOf n = some .local) (hg : Gl X x) (hm : X.mg x = some (.ref Cp)) (Tp : ExcC X.K Cp)
    (hb : ∀ (pins : List (Addr × Obj)) (σ : St) (xe' : Value → Shared → Prop) (E' : XK), PassesAt (CXW X.prog X.w) (X.wish xe') E' pins σ → PSsAt (X.wish xe') pins σ body (tb E'))
    (hh : ∀ a, PSs (hdCx X a) (b₀ :: suite) th) (hd : (x == ("__debug__" : Str)) = false := by decide) :
    PS X (.Try body [.ExceptHandler (some (.Name x np)) (some n) (b₀ :: suite) hpos] [] [] pos) (tTry X.K Cp i tb th) := by
  intro pins s σ H D I h
  refine wpAny_Try_except (wpAny_mono (hb pins σ (fun e s₁ => wpAny (model X.prog X.w) X.A (noteFrame e X.env) (fun _ s₂ => wpAny (model X.prog X.w) X.A (setFlight e none) (fun _ s₃ =>
    wpAny (model X.prog X.w) X.A (handleBy e X.env [.ExceptHandler (some (.Name x np)) (some n) (b₀ :: suite) hpos]) (SP X pins D) X.xe s₃) X.xe s₂) X.xe s₁) _ ?pass s H D (I.wish _) h) (fun f s1 q => ?_) (fun e s1 q => q))
  case pass =>
    intro H1 s1 e s' I1 hx
    obtain ⟨a, cls, a0, H', B, rfl, hos, hbare, un, hokB, hfl, keepB, thereB, C, rfl, T, hmC, hth⟩ := hx
    have J : Inv X pins σ H1 s1 := I1.unwish
    have hfl0 : Heap.FlyingW B (X.env :: X.outer) a (.ref C) a0 s'.heap := by rw [← hstk]; exact hfl
    have hfrm : X.A.frames = some (X.env :: X.outer) := by rw [← hstk]; exact J.ok.frames
    have nBa : B.get? a = none := hfl.2.1
    have nHa : H' a = none := by
      cases q : H' a with
      | none => rfl
      | some u =>
        obtain ⟨ob, eb⟩ := (hokB a u q).obj
        rw [nBa] at eb; cases eb
    have frame_ne : ∀ b, b ∈ frs X.stack → b ≠ a := fun b hb z => by
      obtain ⟨_, o, ho, nf⟩ := hfl.2.2.1.mem hb
      obtain ⟨oe, vs, _, _, _, he, _, hd', _⟩ := hfl.2.2.2
      rw [z, he] at ho; cases ho
      exact nf vs hd'
    have old_ne : ∀ b o, s1.heap.get? b = some o → b ≠ a := fun b o e z => by
      by_cases hb : b ∈ frs X.stack
      · exact frame_ne b hb z
      · obtain ⟨o', e'⟩ := thereB b o e hb
        rw [z, nBa] at e'; cases e'
    -- the heap at any later station
    have station : ∀ h5 : Heap, Heap.FlyingW B (X.env :: X.outer) a (.ref C) a0 h5 → s'.heap.UpToSlots h5 → ∀ t5, Inv X pins σ (upd H' a (excO a C)) { s' with heap := h5, toks := t5 } := fun h5 f5 up5 t5 => by
      have sl : ∀ b o, s1.heap.get? b = some o → H1 b = none → b ∈ frs X.stack → ∃ sl, h5.get? b = some { o with slots := sl } := fun b o e n hb => by
        obtain ⟨sl1, e1⟩ := un.slot b o e n hb (by simp)
        obtain ⟨_, o', e', nf⟩ := J.stack.mem hb
        rw [e] at e'; cases e'
        obtain ⟨sl2, e2⟩ := up5 b _ e1 nf
        exact ⟨sl2, e2⟩
      have un5 : Un (frs X.stack) [] H1 (upd H' a (excO a C)) s1.heap h5 := ⟨fun b o e n nf _ => f5.1 b o (keepB b o e n nf), fun b o e n hb _ => sl b o e n hb, fun b o e n _ => by rw [upd_ne (old_ne b o e)]; exact un.free b o e n (by simp), fun b o e _ => by
          by_cases hb : b ∈ frs X.stack
          · obtain ⟨sl, q⟩ := sl b o e (J.stkFree b hb) hb
            exact ⟨_, q⟩
          · obtain ⟨o', q⟩ := thereB b o e hb
            exact ⟨o', f5.1 b o' q⟩, fun b xs e => by
          have q := un.tups b xs e
          rw [upd_ne (ne_of_none q nHa)]; exact q, fun b o x e => by
          have q := un.frzs b o x e
          rw [upd_ne (ne_of_none q nHa)]; exact q, fun b ps e => by
          obtain ⟨m, q⟩ := un.tbls b ps e
          exact ⟨m, by rw [upd_ne (ne_of_none q nHa)]; exact q⟩⟩
      have at5 : ExcAt a C h5 := by
        obtain ⟨oe, vs, _, _, _, he, hc, hd', _⟩ := f5.2.2.2
        exact ⟨oe, vs, he, hc.1, hd'⟩
      have hok5 : HOk X.prog X.w (upd H' a (excO a C)) h5 := HOk.add (hokB.kept f5.1) nHa (excO_ok at5)
      obtain ⟨hh', gg, dd, tt, os'⟩ := s'
      obtain rfl : os' = s1.os := hos
      have IE := J.call (h' := h5) (g' := gg) (d' := dd) (t' := t5) (ch := []) un5 hok5 hbare (fun b z => absurd z (by simp))
      exact IE
    refine wpAny_looks_onW hfrm hfr hfl0 fun h4 held4 up4 => ?_
    refine wpAny_landsW held4 fun h5 f5 up5 => ?_
    have up5' := up4.trans up5
    have I5 := (station h5 f5 up5' s'.toks).hd (a := a)
    have at5 : ExcAt a C h5 := by
      obtain ⟨oe, vs, _, _, _, he, hc, hd', _⟩ := f5.2.2.2
      exact ⟨oe, vs, he, hc.1, hd'⟩
    refine wpAny_handleBy_cons (codeAny_handlers_test ?_) (by intro q; cases q)
    refine ld_glob (X := hdCx X a) I5 hg hm ?_ hd
    obtain ⟨oe, vs, he, hc, _⟩ := at5
    refine exc_matches I5.kIn Tp hmC he hc ?_
    refine codeAny_handlers_suite_as ?_
    refine lands_againW f5 fun h6 f6 up6 => ?_
    have I6 := (station h6 f6 (up5'.trans up6) s'.toks).hd (a := a)
    refine store_ok (X := hdCx X a) I6 hN hi (.inl hl) (v := .ref a) rfl (fun s7 I7 => ?_) (.inr hl)
    refine wpAny_mono (hh a pins s7 _ _ { nx := fun σ2 H2 => D.nx (σ2.set i none) H2, rt := fun _ _ => False } I7 (hth a nHa)) (fun f s8 q8 => ?_) fun _ _ z => z.elim
    cases f with
    | brk => obtain ⟨_, _, _, z⟩ := q8; exact z.elim
    | cont => obtain ⟨_, _, _, z⟩ := q8; exact z.elim
    | ret v => obtain ⟨_, _, _, _, _, z⟩ := q8; exact z.elim
    | next =>
      obtain ⟨σ8, H8, I8, q8⟩ := q8
      have J8 : Inv X pins σ8 H8 s8 := I8.unhd J.ok.hd
      obtain ⟨m8, n8, l8⟩ := J8.loc
      refine wpAny_nameGoes_keeps hl n8 (by rw [J8.ok.kind]; rfl) fun h9 v n9 sb9 => ?_
      exact ⟨σ8.set i none, H8, J8.gone hN hi l8 n9 sb9, q8⟩
  · have q' := q.unwish
    cases f with
    | next => exact wpAny_execs_nil q'
    | ret v => exact q'
    | brk => exact q'
    | cont => exact q'
end L2
set_option Elab.async false
set_option linter.all false
set_option maxRecDepth 100000
namespace L2
open PySem PySem.Spec PyProof.Rows PySem.W
inductive DV where
  | non | bl (b : Bool) | int (i : Int) | str (x : Str) | lst (xs : List DV) | tup (xs : List DV)
mutual
def eqD : DV → DV → Bool
  | .non, .non => true
  | .bl a, .bl b => a == b
  | .bl a, .int b => (if a then 1 else 0) == b
  | .int a, .bl b => a == (if b then 1 else 0)
  | .int a, .int b => a == b
  | .str a, .str b => a == b
  | .lst a, .lst b => eqDs a b
  | .tup a, .tup b => eqDs a b
  | _, _ => false
def eqDs : List DV → List DV → Bool
  | [], [] => true
  | a :: r, b :: t => eqD a b && eqDs r t
  | _, _ => false
end
mutual
def ht : DV → Nat
  | .lst xs => hts xs + 1
  | .tup xs => hts xs + 1
  | _ => 0
def hts : List DV → Nat
  | [] => 0
  | a :: r => max (ht a) (hts r)
end
theorem ht_lst (ds : List DV) : ht (.lst ds) = hts ds + 1 := by unfold ht; rfl
theorem ht_tup (ds : List DV) : ht (.tup ds) = hts ds + 1 := by unfold ht; rfl
mutual
inductive Deep (K : Frag) (H : Hp) : V → DV → Prop where
  | non : Deep K H .non .non
  | bl (b : Bool) : Deep K H (.bl b) (.bl b)
  | int (i : Int) : Deep K H (.int i) (.int i)
  | str (x : Str) : Deep K H (.str x) (.str x)
  | lst {a : Addr} {xs : List V} {ds : List DV} (h : SqL K H a xs) (t : Deeps K H xs ds) : Deep K H (.ref a) (.lst ds)
  | tup {a : Addr} {xs : List V} {ds : List DV} (h : SqT K H a xs) (t : Deeps K H xs ds) : Deep K H (.ref a) (.tup ds)
inductive Deeps (K : Frag) (H : Hp) : List V → List DV → Prop where
  | nil : Deeps K H [] []
  | cons {x : V} {d : DV} {xs : List V} {ds : List DV} (h : Deep K H x d) (t : Deeps K H xs ds) : Deeps K H (x :: xs) (d :: ds)
end
theorem Deeps.length {K : Frag} {H : Hp} : ∀ {xs : List V} {ds : List DV}, Deeps K H xs ds → xs.length = ds.length
  | _, _, .nil => rfl
  | _, _, .cons _ t => by rw [List.length_cons, List.length_cons, Deeps.length t]
theorem Deeps.get {K : Frag} {H : Hp} : ∀ {xs : List V} {ds : List DV} {i : Nat} {d : DV}, Deeps K H xs ds → ds[i]? = some d → ∃ x, xs[i]? = some x ∧ Deep K H x d
  | _, _, _, _, .nil, e => by simp at e
  | _, _, 0, _, .cons h _, e => by simp at e; subst e; exact ⟨_, rfl, h⟩
  | _, _, i + 1, d, .cons _ t, e => by
    obtain ⟨x, h1, h2⟩ := Deeps.get (i := i) (d := d) t (by simpa using e)
    exact ⟨x, by simpa using h1, h2⟩
theorem Deeps.ints {K : Frag} {H : Hp} : ∀ ns : List Int, Deeps K H (ns.map V.int) (ns.map DV.int)
  | [] => .nil
  | n :: r => .cons (.int n) (Deeps.ints r)
theorem eqDs_len : ∀ {a b : List DV}, eqDs a b = true → a.length = b.length
  | [], [], _ => rfl
  | a :: r, b :: t, h => by
    unfold eqDs at h
    rw [Bool.and_eq_true] at h
    rw [List.length_cons, List.length_cons, eqDs_len h.2]
  | [], _ :: _, h => by unfold eqDs at h; cases h
  | _ :: _, [], h => by unfold eqDs at h; cases h
def eAt (ds es : List DV) (j : Nat) : Bool := match ds[j]?, es[j]? with
  | some d, some e => eqD d e
  | _, _ => true
theorem all_eAt : ∀ (ds es : List DV), ds.length = es.length → (List.range ds.length).all (eAt ds es) = eqDs ds es
  | [], [], _ => by unfold eqDs; rfl
  | d :: r, e :: t, h => by
    have ih := all_eAt r t (by simpa using h)
    rw [List.length_cons, List.range_succ_eq_map, List.all_cons, List.all_map]
    unfold eqDs
    rw [← ih]
    congr 1
  | [], _ :: _, h => by cases h
  | _ :: _, [], h => by cases h
theorem all_eAt_min : ∀ (ds es : List DV), ((List.range (min ds.length es.length)).all (eAt ds es) && ds.length == es.length) = eqDs ds es := fun ds es => by
  by_cases h : ds.length = es.length
  · rw [h, Nat.min_self, ← h, all_eAt ds es h]; simp
  · have h1 : (ds.length == es.length) = false := by simpa using h
    rw [h1, Bool.and_false]
    cases q : eqDs ds es with
    | false => rfl
    | true => exact absurd (eqDs_len q) h
theorem hts_get : ∀ {ds : List DV} {i : Nat} {d : DV}, ds[i]? = some d → ht d ≤ hts ds
  | [], _, _, e => by simp at e
  | a :: r, 0, d, e => by simp at e; subst e; unfold hts; exact Nat.le_max_left _ _
  | a :: r, i + 1, d, e => by
    have := hts_get (ds := r) (i := i) (d := d) (by simpa using e)
    unfold hts; exact Nat.le_trans this (Nat.le_max_right _ _)
section
variable {X : Cx} {pins : List (Addr × Obj)} {σ : St} {H : Hp} {s : Shared}
theorem lt_ne {a : Addr} {xs ys : List V} (I : Inv X pins σ H s) (h1 : SqL X.K H a xs) (h2 : SqT X.K H a ys) : False := by
  obtain ⟨its, _, p, _⟩ := I.list h1
  obtain ⟨its2, _, q, _⟩ := I.tuple h2
  exact SeqAt.ne_of_list_tuple p.isList (show s.heap.IsTuple a its2.toArray from q) rfl
mutual
theorem Deep.inj (I : Inv X pins σ H s) : ∀ {d : DV} {x : V} {e : DV}, Deep X.K H x d → Deep X.K H x e → d = e
  | .non, _, _, .non, h => by cases h; rfl
  | .bl b, _, _, .bl _, h => by cases h; rfl
  | .int b, _, _, .int _, h => by cases h; rfl
  | .str b, _, _, .str _, h => by cases h; rfl
  | .lst ds, _, _, .lst h t, h' => by
    cases h' with
    | lst h2 t2 =>
      have e := I.list_inj h h2
      subst e
      rw [Deeps.inj I t t2]
    | tup h2 t2 => exact (lt_ne I h h2).elim
  | .tup ds, _, _, .tup h t, h' => by
    cases h' with
    | tup h2 t2 =>
      have e := I.tuple_inj h h2
      subst e
      rw [Deeps.inj I t t2]
    | lst h2 t2 => exact (lt_ne I h2 h).elim
theorem Deeps.inj (I : Inv X pins σ H s) : ∀ {ds : List DV} {xs : List V} {es : List DV}, Deeps X.K H xs ds → Deeps X.K H xs es → ds = es
  | [], _, _, .nil, h => by cases h; rfl
  | d :: ds, _, _, .cons h t, h' => by
    cases h' with
    | cons h2 t2 => rw [Deep.inj I h h2, Deeps.inj I t t2]
end
mutual
theorem eqD_refl : ∀ d : DV, eqD d d = true
  | .non => by unfold eqD; rfl
  | .bl b => by unfold eqD; simp
  | .int b => by unfold eqD; simp
  | .str b => by unfold eqD; simp
  | .lst ds => by unfold eqD; exact eqDs_refl ds
  | .tup ds => by unfold eqD; exact eqDs_refl ds
theorem eqDs_refl : ∀ ds : List DV, eqDs ds ds = true
  | [] => by unfold eqDs; rfl
  | d :: r => by unfold eqDs; rw [eqD_refl d, eqDs_refl r]; rfl
end
theorem items_eq {A : Around} {xs ys : List V} {us vs : List Value} {ds es : List DV} (rx : Vals xs us) (ry : Vals ys vs) (t1 : Deeps X.K H xs ds) (t2 : Deeps X.K H ys es)
    (ih : ∀ d ∈ ds, ∀ (e : DV) (x y : V) (u v : Value), Deep X.K H x d → Deep X.K H y e → RelV x u → RelV y v → SeqAt.EqAt A s u v (eqD d e)) (j : Nat) (h1 : j < us.toArray.size) (h2 : j < vs.toArray.size) :
    SeqAt.EqAt A s us.toArray[j] vs.toArray[j] (eAt ds es j) := by
  have l1 := rx.length
  have l2 := ry.length
  have m1 := t1.length
  have m2 := t2.length
  simp only [List.size_toArray] at h1 h2
  have g1 : ds[j]? = some ds[j] := List.getElem?_eq_getElem (by omega)
  have g2 : es[j]? = some es[j] := List.getElem?_eq_getElem (by omega)
  obtain ⟨x, ex, dx⟩ := t1.get g1
  obtain ⟨y, ey, dy⟩ := t2.get g2
  obtain ⟨u, eu, ru⟩ := rx.get ex
  obtain ⟨v, ev, rv⟩ := ry.get ey
  have e1 : us.toArray[j] = u := by
    rw [List.getElem_toArray]
    exact Option.some.inj ((List.getElem?_eq_getElem h1).symm.trans eu)
  have e2 : vs.toArray[j] = v := by
    rw [List.getElem_toArray]
    exact Option.some.inj ((List.getElem?_eq_getElem h2).symm.trans ev)
  have e3 : eAt ds es j = eqD ds[j] es[j] := by unfold eAt; rw [g1, g2]
  rw [e1, e2, e3]
  exact ih _ (List.getElem_mem _) _ x y u v dx dy ru rv
theorem rc_deep (I : Inv X pins σ H s) {A : Around} (d e : DV) (x y : V) (u v : Value) (hx : Deep X.K H x d) (hy : Deep X.K H y e) (rx : RelV x u) (ry : RelV y v) (hu : A.units < cLine)
    (ih : ∀ (d' : DV), ht d' < ht d → ∀ (e : DV) (x y : V) (u v : Value), Deep X.K H x d' → Deep X.K H y e → RelV x u → RelV y v → SeqAt.EqAt A.in1 s u v (eqD d' e)) : SeqAt.RcAt A s u v (eqD d e) := by
  have hlt : ∀ {ds : List DV} {d' : DV}, d' ∈ ds → ht d' < hts ds + 1 := fun {ds d'} hm => by
    obtain ⟨i, hi, e⟩ := List.getElem_of_mem hm
    exact Nat.lt_succ_of_le (hts_get (i := i) (by rw [List.getElem?_eq_getElem hi, e]))
  cases hx with
  | non =>
    cases (show u = Value.none from rx)
    cases hy with
    | non => cases (show v = Value.none from ry); unfold eqD; exact SeqAt.RcAt.none_none
    | bl b => cases (show v = Value.bool b from ry); unfold eqD; exact SeqAt.RcAt.none_bool b
    | int b => obtain ⟨t, rfl⟩ := ry; unfold eqD; exact SeqAt.RcAt.none_int b t
    | str b => obtain ⟨t, rfl⟩ := ry; unfold eqD; exact SeqAt.RcAt.none_str b t
    | lst h t => cases ry; obtain ⟨its, r, p, _⟩ := I.list h; unfold eqD; exact SeqAt.RcAt.none_list p.isList hu
    | tup h t => cases ry; obtain ⟨its, r, p, _⟩ := I.tuple h; unfold eqD; exact SeqAt.RcAt.none_tuple (show s.heap.IsTuple _ its.toArray from p) hu
  | bl a =>
    cases (show u = Value.bool a from rx)
    cases hy with
    | non => cases (show v = Value.none from ry); unfold eqD; exact SeqAt.RcAt.bool_none a
    | bl b => cases (show v = Value.bool b from ry); unfold eqD; exact SeqAt.RcAt.bool_bool a b
    | int b => obtain ⟨t, rfl⟩ := ry; unfold eqD; exact SeqAt.RcAt.bool_int a b t
    | str b => obtain ⟨t, rfl⟩ := ry; unfold eqD; exact SeqAt.RcAt.bool_str a b t
    | lst h t => cases ry; obtain ⟨its, r, p, _⟩ := I.list h; unfold eqD; exact SeqAt.RcAt.bool_list a p.isList hu
    | tup h t => cases ry; obtain ⟨its, r, p, _⟩ := I.tuple h; unfold eqD; exact SeqAt.RcAt.bool_tuple a (show s.heap.IsTuple _ its.toArray from p) hu
  | int a =>
    obtain ⟨t', rfl⟩ := rx
    cases hy with
    | non => cases (show v = Value.none from ry); unfold eqD; exact SeqAt.RcAt.int_none a t'
    | bl b => cases (show v = Value.bool b from ry); unfold eqD; exact SeqAt.RcAt.int_bool a t' b
    | int b => obtain ⟨t, rfl⟩ := ry; unfold eqD; exact SeqAt.RcAt.int_int a t' b t
    | str b => obtain ⟨t, rfl⟩ := ry; unfold eqD; exact SeqAt.RcAt.int_str a t' b t
    | lst h t => cases ry; obtain ⟨its, r, p, _⟩ := I.list h; unfold eqD; exact SeqAt.RcAt.int_list a t' p.isList hu
    | tup h t => cases ry; obtain ⟨its, r, p, _⟩ := I.tuple h; unfold eqD; exact SeqAt.RcAt.int_tuple a t' (show s.heap.IsTuple _ its.toArray from p) hu
  | str a =>
    obtain ⟨t', rfl⟩ := rx
    cases hy with
    | non => cases (show v = Value.none from ry); unfold eqD; exact SeqAt.RcAt.str_none a t'
    | bl b => cases (show v = Value.bool b from ry); unfold eqD; exact SeqAt.RcAt.str_bool a t' b
    | int b => obtain ⟨t, rfl⟩ := ry; unfold eqD; exact SeqAt.RcAt.str_int a t' b t
    | str b => obtain ⟨t, rfl⟩ := ry; unfold eqD; exact SeqAt.RcAt.str_str a t' b t
    | lst h t => cases ry; obtain ⟨its, r, p, _⟩ := I.list h; unfold eqD; exact SeqAt.RcAt.str_list a t' p.isList hu
    | tup h t => cases ry; obtain ⟨its, r, p, _⟩ := I.tuple h; unfold eqD; exact SeqAt.RcAt.str_tuple a t' (show s.heap.IsTuple _ its.toArray from p) hu
  | @lst a xs ds h t1 =>
    cases rx
    obtain ⟨its, r, p, _⟩ := I.list h
    cases hy with
    | non => cases (show v = Value.none from ry); unfold eqD; exact SeqAt.RcAt.list_none p.isList hu
    | bl b => cases (show v = Value.bool b from ry); unfold eqD; exact SeqAt.RcAt.list_bool b p.isList hu
    | int b => obtain ⟨t, rfl⟩ := ry; unfold eqD; exact SeqAt.RcAt.list_int b t p.isList hu
    | str b => obtain ⟨t, rfl⟩ := ry; unfold eqD; exact SeqAt.RcAt.list_str b t p.isList hu
    | @lst b ys es h2 t2 =>
      cases ry
      obtain ⟨its2, r2, p2, _⟩ := I.list h2
      have l1 := r.length
      have l2 := r2.length
      have m1 := t1.length
      have m2 := t2.length
      have it := items_eq (A := A.in1) r r2 t1 t2 fun d' hd' e x y u v a b c d => ih d' (by rw [ht_lst]; exact hlt hd') e x y u v a b c d
      unfold eqD
      by_cases hl : ds.length = es.length
      · have q := SeqAt.RcAt.lists (e := eAt ds es) p.isList p2.isList (by simp only [List.size_toArray]; omega) hu it
        rw [← all_eAt ds es hl]
        have e1 : its.toArray.size = ds.length := by simp only [List.size_toArray]; omega
        rw [e1] at q
        exact q
      · have q := SeqAt.RcAt.lists_lengths (A := A) p.isList p2.isList (by simp only [List.size_toArray, bne_iff_ne]; omega) hu
        cases z : eqDs ds es with
        | false => exact q
        | true => exact absurd (eqDs_len z) hl
    | @tup b ys es h2 t2 =>
      cases ry
      obtain ⟨its2, r2, p2, _⟩ := I.tuple h2
      unfold eqD
      exact SeqAt.RcAt.list_tuple p.isList (show s.heap.IsTuple b its2.toArray from p2) hu
  | @tup a xs ds h t1 =>
    cases rx
    obtain ⟨its, r, p, _⟩ := I.tuple h
    have p' : s.heap.IsTuple a its.toArray := p
    cases hy with
    | non => cases (show v = Value.none from ry); unfold eqD; exact SeqAt.RcAt.tuple_none p' hu
    | bl b => cases (show v = Value.bool b from ry); unfold eqD; exact SeqAt.RcAt.tuple_bool b p' hu
    | int b => obtain ⟨t, rfl⟩ := ry; unfold eqD; exact SeqAt.RcAt.tuple_int b t p' hu
    | str b => obtain ⟨t, rfl⟩ := ry; unfold eqD; exact SeqAt.RcAt.tuple_str b t p' hu
    | @lst b ys es h2 t2 =>
      cases ry
      obtain ⟨its2, r2, p2, _⟩ := I.list h2
      unfold eqD
      exact SeqAt.RcAt.tuple_list p' p2.isList hu
    | @tup b ys es h2 t2 =>
      cases ry
      obtain ⟨its2, r2, p2, _⟩ := I.tuple h2
      have p2' : s.heap.IsTuple b its2.toArray := p2
      have l1 := r.length
      have l2 := r2.length
      have m1 := t1.length
      have m2 := t2.length
      have it := items_eq (A := A.in1) r r2 t1 t2 fun d' hd' e x y u v a b c d => ih d' (by rw [ht_tup]; exact hlt hd') e x y u v a b c d
      unfold eqD
      have q := SeqAt.RcAt.tuples (e := eAt ds es) p' p2' hu it
      have e1 : its.toArray.size = ds.length := by simp only [List.size_toArray]; omega
      have e2 : its2.toArray.size = es.length := by simp only [List.size_toArray]; omega
      rw [e1, e2, all_eAt_min] at q
      exact q
theorem eq_deep (I : Inv X pins σ H s) : ∀ (n : Nat) {A : Around} (d : DV), ht d ≤ n → A.units + n < cLine → ∀ (e : DV) (x y : V) (u v : Value), Deep X.K H x d → Deep X.K H y e → RelV x u → RelV y v → SeqAt.EqAt A s u v (eqD d e) := by
  intro n
  induction n with
  | zero =>
    intro A d hd hu e x y u v hx hy rx ry
    have rc := rc_deep I (A := A) d e x y u v hx hy rx ry (by omega) (fun d' h => absurd h (by omega))
    exact eq_of_rc I hx hy rx ry rc
  | succ n ihn =>
    intro A d hd hu e x y u v hx hy rx ry
    have rc := rc_deep I (A := A) d e x y u v hx hy rx ry (by omega) (fun d' h => ihn (A := A.in1) d' (by omega) (by rw [Around.in1_units]; omega))
    exact eq_of_rc I hx hy rx ry rc
where
  eq_of_rc (I : Inv X pins σ H s) {A : Around} {d e : DV} {x y : V} {u v : Value} (hx : Deep X.K H x d) (hy : Deep X.K H y e) (rx : RelV x u) (ry : RelV y v) (rc : SeqAt.RcAt A s u v (eqD d e)) : SeqAt.EqAt A s u v (eqD d e) := by
    intro prog w E Q hq
    unfold eqBool
    refine wpAny_holding ?_
    refine wpAny_ite_split (fun hab => ?_) (fun hab => ?_)
    · have e1 : x = y := by
        have e0 := eq_of_beq hab
        rw [e0] at rx
        exact rx.inj ry
      subst e1
      have e2 := Deep.inj I hx hy
      subst e2
      rw [eqD_refl] at hq
      exact wpAny_bind (wpAny_rule (wpAny_pure hq))
    · cases hx <;> cases hy <;> first
        | (cases rx; cases ry; exact wpAny_bind (rc prog w E _ (wpAny_truthy_bool hq)))
        | (obtain ⟨t, rfl⟩ := rx; cases ry; exact wpAny_bind (rc prog w E _ (wpAny_truthy_bool hq)))
        | (cases rx; obtain ⟨t, rfl⟩ := ry; exact wpAny_bind (rc prog w E _ (wpAny_truthy_bool hq)))
        | (obtain ⟨t, rfl⟩ := rx; obtain ⟨t', rfl⟩ := ry; exact wpAny_bind (rc prog w E _ (wpAny_truthy_bool hq)))
theorem rcne_deep (I : Inv X pins σ H s) {A : Around} (d e : DV) (x y : V) (u v : Value) (hx : Deep X.K H x d) (hy : Deep X.K H y e) (rx : RelV x u) (ry : RelV y v) (hu : A.units < cLine)
    (ih : ∀ (d' : DV), ht d' < ht d → ∀ (e : DV) (x y : V) (u v : Value), Deep X.K H x d' → Deep X.K H y e → RelV x u → RelV y v → SeqAt.EqAt A.in1 s u v (eqD d' e)) : SeqAt.RcNeAt A s u v (!eqD d e) := by
  have hlt : ∀ {ds : List DV} {d' : DV}, d' ∈ ds → ht d' < hts ds + 1 := fun {ds d'} hm => by
    obtain ⟨i, hi, e⟩ := List.getElem_of_mem hm
    exact Nat.lt_succ_of_le (hts_get (i := i) (by rw [List.getElem?_eq_getElem hi, e]))
  cases hx with
  | non =>
    cases (show u = Value.none from rx)
    cases hy with
    | non => cases (show v = Value.none from ry); unfold eqD; exact SeqAt.RcNeAt.none_none
    | bl b => cases (show v = Value.bool b from ry); unfold eqD; exact SeqAt.RcNeAt.none_bool b
    | int b => obtain ⟨t, rfl⟩ := ry; unfold eqD; exact SeqAt.RcNeAt.none_int b t
    | str b => obtain ⟨t, rfl⟩ := ry; unfold eqD; exact SeqAt.RcNeAt.none_str b t
    | lst h t => cases ry; obtain ⟨its, r, p, _⟩ := I.list h; unfold eqD; exact SeqAt.RcNeAt.none_list p.isList hu
    | tup h t => cases ry; obtain ⟨its, r, p, _⟩ := I.tuple h; unfold eqD; exact SeqAt.RcNeAt.none_tuple (show s.heap.IsTuple _ its.toArray from p) hu
  | bl a =>
    cases (show u = Value.bool a from rx)
    cases hy with
    | non => cases (show v = Value.none from ry); unfold eqD; exact SeqAt.RcNeAt.bool_none a
    | bl b => cases (show v = Value.bool b from ry); unfold eqD; exact SeqAt.RcNeAt.bool_bool a b
    | int b => obtain ⟨t, rfl⟩ := ry; unfold eqD; exact SeqAt.RcNeAt.bool_int a b t
    | str b => obtain ⟨t, rfl⟩ := ry; unfold eqD; exact SeqAt.RcNeAt.bool_str a b t
    | lst h t => cases ry; obtain ⟨its, r, p, _⟩ := I.list h; unfold eqD; exact SeqAt.RcNeAt.bool_list a p.isList hu
    | tup h t => cases ry; obtain ⟨its, r, p, _⟩ := I.tuple h; unfold eqD; exact SeqAt.RcNeAt.bool_tuple a (show s.heap.IsTuple _ its.toArray from p) hu
  | int a =>
    obtain ⟨t', rfl⟩ := rx
    cases hy with
    | non => cases (show v = Value.none from ry); unfold eqD; exact SeqAt.RcNeAt.int_none a t'
    | bl b => cases (show v = Value.bool b from ry); unfold eqD; exact SeqAt.RcNeAt.int_bool a t' b
    | int b => obtain ⟨t, rfl⟩ := ry; unfold eqD; exact SeqAt.RcNeAt.int_int a t' b t
    | str b => obtain ⟨t, rfl⟩ := ry; unfold eqD; exact SeqAt.RcNeAt.int_str a t' b t
    | lst h t => cases ry; obtain ⟨its, r, p, _⟩ := I.list h; unfold eqD; exact SeqAt.RcNeAt.int_list a t' p.isList hu
    | tup h t => cases ry; obtain ⟨its, r, p, _⟩ := I.tuple h; unfold eqD; exact SeqAt.RcNeAt.int_tuple a t' (show s.heap.IsTuple _ its.toArray from p) hu
  | str a =>
    obtain ⟨t', rfl⟩ := rx
    cases hy with
    | non => cases (show v = Value.none from ry); unfold eqD; exact SeqAt.RcNeAt.str_none a t'
    | bl b => cases (show v = Value.bool b from ry); unfold eqD; exact SeqAt.RcNeAt.str_bool a t' b
    | int b => obtain ⟨t, rfl⟩ := ry; unfold eqD; exact SeqAt.RcNeAt.str_int a t' b t
    | str b => obtain ⟨t, rfl⟩ := ry; unfold eqD; exact SeqAt.RcNeAt.str_str a t' b t
    | lst h t => cases ry; obtain ⟨its, r, p, _⟩ := I.list h; unfold eqD; exact SeqAt.RcNeAt.str_list a t' p.isList hu
    | tup h t => cases ry; obtain ⟨its, r, p, _⟩ := I.tuple h; unfold eqD; exact SeqAt.RcNeAt.str_tuple a t' (show s.heap.IsTuple _ its.toArray from p) hu
  | @lst a xs ds h t1 =>
    cases rx
    obtain ⟨its, r, p, _⟩ := I.list h
    cases hy with
    | non => cases (show v = Value.none from ry); unfold eqD; exact SeqAt.RcNeAt.list_none p.isList hu
    | bl b => cases (show v = Value.bool b from ry); unfold eqD; exact SeqAt.RcNeAt.list_bool b p.isList hu
    | int b => obtain ⟨t, rfl⟩ := ry; unfold eqD; exact SeqAt.RcNeAt.list_int b t p.isList hu
    | str b => obtain ⟨t, rfl⟩ := ry; unfold eqD; exact SeqAt.RcNeAt.list_str b t p.isList hu
    | @lst b ys es h2 t2 =>
      cases ry
      obtain ⟨its2, r2, p2, _⟩ := I.list h2
      have l1 := r.length
      have l2 := r2.length
      have m1 := t1.length
      have m2 := t2.length
      have it := items_eq (A := A.in1) r r2 t1 t2 fun d' hd' e x y u v a b c d => ih d' (by rw [ht_lst]; exact hlt hd') e x y u v a b c d
      unfold eqD
      by_cases hl : ds.length = es.length
      · have q := SeqAt.RcNeAt.lists (e := eAt ds es) p.isList p2.isList (by simp only [List.size_toArray]; omega) hu it
        rw [← all_eAt ds es hl]
        have e1 : its.toArray.size = ds.length := by simp only [List.size_toArray]; omega
        rw [e1] at q
        exact q
      · have q := SeqAt.RcNeAt.lists_lengths (A := A) p.isList p2.isList (by simp only [List.size_toArray, bne_iff_ne]; omega) hu
        cases z : eqDs ds es with
        | false => exact q
        | true => exact absurd (eqDs_len z) hl
    | @tup b ys es h2 t2 =>
      cases ry
      obtain ⟨its2, r2, p2, _⟩ := I.tuple h2
      unfold eqD
      exact SeqAt.RcNeAt.list_tuple p.isList (show s.heap.IsTuple b its2.toArray from p2) hu
  | @tup a xs ds h t1 =>
    cases rx
    obtain ⟨its, r, p, _⟩ := I.tuple h
    have p' : s.heap.IsTuple a its.toArray := p
    cases hy with
    | non => cases (show v = Value.none from ry); unfold eqD; exact SeqAt.RcNeAt.tuple_none p' hu
    | bl b => cases (show v = Value.bool b from ry); unfold eqD; exact SeqAt.RcNeAt.tuple_bool b p' hu
    | int b => obtain ⟨t, rfl⟩ := ry; unfold eqD; exact SeqAt.RcNeAt.tuple_int b t p' hu
    | str b => obtain ⟨t, rfl⟩ := ry; unfold eqD; exact SeqAt.RcNeAt.tuple_str b t p' hu
    | @lst b ys es h2 t2 =>
      cases ry
      obtain ⟨its2, r2, p2, _⟩ := I.list h2
      unfold eqD
      exact SeqAt.RcNeAt.tuple_list p' p2.isList hu
    | @tup b ys es h2 t2 =>
      cases ry
      obtain ⟨its2, r2, p2, _⟩ := I.tuple h2
      have p2' : s.heap.IsTuple b its2.toArray := p2
      have l1 := r.length
      have l2 := r2.length
      have m1 := t1.length
      have m2 := t2.length
      have it := items_eq (A := A.in1) r r2 t1 t2 fun d' hd' e x y u v a b c d => ih d' (by rw [ht_tup]; exact hlt hd') e x y u v a b c d
      unfold eqD
      have q := SeqAt.RcNeAt.tuples (e := eAt ds es) p' p2' hu it
      have e1 : its.toArray.size = ds.length := by simp only [List.size_toArray]; omega
      have e2 : its2.toArray.size = es.length := by simp only [List.size_toArray]; omega
      rw [e1, e2, all_eAt_min] at q
      exact q
end
def rNeD (K : Frag) : R2 := fun x y H Q => ∃ d e, Deep K H x d ∧ Deep K H y e ∧ ht d ≤ 60 ∧ Q (.bl (!eqD d e)) H
theorem op_neD {X : Cx} (hu : X.A.units + 64 < cLine) : OpR X (compareOp .NotEq) (rNeD X.K) := by
  intro pins s σ H x y v u Q I rx ry h
  obtain ⟨d, e, hx, hy, hh, q⟩ := h
  have rc := rcne_deep I (A := X.A) d e x y v u hx hy rx ry (by omega) (fun d' h => eq_deep I 60 d' (by omega) (by rw [Around.in1_units]; omega))
  exact rc X.prog X.w X.xe _ ⟨.bl _, H, I, rfl, q⟩
end L2
set_option Elab.async false
set_option linter.all false
set_option maxRecDepth 100000
namespace L2
open PySem PySem.Spec PyProof.Rows PySem.W
def compOk (osc : Scope) (XN N : List Str) (js : List (Option Nat)) (scope : Scope) : Bool :=
  scope.names.all (fun y => !(y.2 == NameKind.cell)) && scope.names.all (fun y => !(y.2 == NameKind.local) || scope.names.lookup y.1 == some .local) &&
  scope.names.all (fun y => !(y.2 == NameKind.free) || osc.names.lookup y.1 == some .cell || osc.names.lookup y.1 == some .free) && js.length == N.length &&
  (js.zip N).all (fun p => match p.1 with | none => true | some j => XN[j]? == some p.2 && scope.names.lookup p.2 == some .free)
theorem comp_scope {X : Cx} {N : List Str} {js : List (Option Nat)} {scope : Scope} {osc : Scope} {XN : List Str} (hk : scope.kind = .function) (e1 : X.env.scope = osc) (e2 : X.N = XN) (h : compOk osc XN N js scope = true) : CompScope X N js scope := by
  unfold compOk at h
  simp only [Bool.and_eq_true, List.all_eq_true, Bool.or_eq_true, Bool.not_eq_true', beq_iff_eq] at h
  obtain ⟨⟨⟨⟨h1, h2⟩, h3⟩, h4⟩, h5⟩ := h
  refine ⟨hk, fun y hy z => ?_, fun y hy z => ?_, fun y hy z => ?_, h4, fun i j x ej ex => ?_⟩
  · have := h1 y hy
    rw [z] at this; cases this
  · rcases h2 y hy with q | q
    · rw [z] at q; cases q
    · exact q
  · show X.env.scope.names.lookup y.1 = _ ∨ X.env.scope.names.lookup y.1 = _
    rw [e1]
    rcases h3 y hy with (q | q) | q
    · rw [z] at q; cases q
    · exact .inl q
    · exact .inr q
  · have hm : (some j, x) ∈ js.zip N := by
      refine List.mem_iff_getElem?.mpr ⟨i, ?_⟩
      rw [List.getElem?_zip_eq_some]
      exact ⟨ej, ex⟩
    have q := h5 _ hm
    simp only [Bool.and_eq_true, beq_iff_eq] at q
    rw [e2]
    exact q
def CW (n : Nat) (Pv : Nat → St → Hp → Prop) (i m : Nat) (σ : St) (H : Hp) : Prop := m = n - i ∧ i ≤ n ∧ Pv i σ H
theorem CW.next {n : Nat} {Pv : Nat → St → Hp → Prop} {i : Nat} {σ : St} {H : Hp} (hi : i < n) (h : Pv (i + 1) σ H) : ∃ m', m' < n - i ∧ CW n Pv (i + 1) m' σ H := ⟨n - (i + 1), by omega, rfl, hi, h⟩
theorem comp_rng {lo : Int} {n : Nat} {D : Addr} {σ0 : St} {H1 : Hp} {Q : VK} {g : TG} {tc : TT} {te : TE} (Pv : Nat → St → Hp → Prop) (h0 : Pv 0 σ0 (upd H1 D (.lst [])))
    (hs : ∀ i σ' H', i < n → Pv i σ' H' → g (.int (lo + i)) σ' H' fun σ2 H3 => tc σ2 H3 fun b H4 => if b = true then te σ2 H4 fun v H5 => rAppend (.ref D) [v] H5 fun _ H6 => ∃ m', m' < n - i ∧ CW n Pv (i + 1) m' σ2 H6 else ∃ m', m' < n - i ∧ CW n Pv (i + 1) m' σ2 H4)
    (hd : ∀ σ' H', Pv n σ' H' → Q (.ref D) H') :
    ∃ W : Nat → Nat → St → Hp → Prop, (∃ m, W 0 m σ0 (upd H1 D (.lst []))) ∧ ∀ i m σ' H', W i m σ' H' → ((Itr lo n).stop i H' ∧ Q (.ref D) H') ∨ ((Itr lo n).go i H' ∧ ∀ x H2, (Itr lo n).yld i H' x H2 → g x σ' H2 fun σ2 H3 => tc σ2 H3 fun b H4 =>
      if b = true then te σ2 H4 fun v H5 => rAppend (.ref D) [v] H5 fun _ H6 => ∃ m', m' < m ∧ W (i + 1) m' σ2 H6 else ∃ m', m' < m ∧ W (i + 1) m' σ2 H4) := by
  refine ⟨CW n Pv, ⟨n, rfl, Nat.zero_le _, h0⟩, ?_⟩
  rintro i m σ' H' ⟨rfl, hi, p⟩
  by_cases hlt : i < n
  · refine .inr ⟨hlt, fun x H2 y => ?_⟩
    obtain ⟨e, y⟩ := y
    subst e y
    exact hs i σ' _ hlt p
  · have e : i = n := by omega
    subst e
    exact .inl ⟨Nat.le_refl _, hd σ' H' p⟩
theorem comp_lst {K : Frag} {a : Addr} {xs : List V} {D : Addr} {σ0 : St} {H1 : Hp} {Q : VK} {g : TG} {tc : TT} {te : TE} (Pv : Nat → St → Hp → Prop) (h0 : Pv 0 σ0 (upd H1 D (.lst []))) (hl : ∀ i σ H, i ≤ xs.length → Pv i σ H → SqL K H a xs)
    (hs : ∀ i x σ' H', xs[i]? = some x → Pv i σ' H' → g x σ' H' fun σ2 H3 => tc σ2 H3 fun b H4 => if b = true then te σ2 H4 fun v H5 => rAppend (.ref D) [v] H5 fun _ H6 => ∃ m', m' < xs.length - i ∧ CW xs.length Pv (i + 1) m' σ2 H6 else ∃ m', m' < xs.length - i ∧ CW xs.length Pv (i + 1) m' σ2 H4)
    (hd : ∀ σ' H', Pv xs.length σ' H' → Q (.ref D) H') :
    ∃ W : Nat → Nat → St → Hp → Prop, (∃ m, W 0 m σ0 (upd H1 D (.lst []))) ∧ ∀ i m σ' H', W i m σ' H' → ((Itl K a).stop i H' ∧ Q (.ref D) H') ∨ ((Itl K a).go i H' ∧ ∀ x H2, (Itl K a).yld i H' x H2 → g x σ' H2 fun σ2 H3 => tc σ2 H3 fun b H4 =>
      if b = true then te σ2 H4 fun v H5 => rAppend (.ref D) [v] H5 fun _ H6 => ∃ m', m' < m ∧ W (i + 1) m' σ2 H6 else ∃ m', m' < m ∧ W (i + 1) m' σ2 H4) := by
  refine ⟨CW xs.length Pv, ⟨xs.length, rfl, Nat.zero_le _, h0⟩, ?_⟩
  rintro i m σ' H' ⟨rfl, hi, p⟩
  have q := hl i σ' H' hi p
  by_cases hlt : i < xs.length
  · refine .inr ⟨⟨xs, xs[i], q, by simp [hlt]⟩, fun x H2 y => ?_⟩
    obtain ⟨e, y⟩ := y
    subst e
    exact hs i x σ' _ (y xs q) p
  · have e : i = xs.length := by omega
    subst e
    exact .inl ⟨⟨xs, q, Nat.le_refl _⟩, hd σ' H' p⟩
theorem units_of {A : Around} {k : Nat} (hr : Room k A) : A.units + 64 < cLine := by have := hr.un; omega
def rIndex (K : Frag) : V → List V → Hp → VK → Prop := fun x vs H Q => ∃ (p : Addr) (pre : List Int) (k : Int) (post : List Int), x = .ref p ∧ vs = [.int k] ∧ SqL K H p ((pre ++ k :: post).map V.int) ∧ k ∉ pre ∧ Q (.int (pre.length : Nat)) H
theorem mt_index {X : Cx} : MtR X "list.index" (rIndex X.K) := by
  intro pins s σ H x vs v us Q I rx rv h
  obtain ⟨p, pre, k, post, rfl, rfl, hs, hn, q⟩ := h
  cases rx
  obtain ⟨u, rfl, ru⟩ := rv.one
  obtain ⟨t, rfl⟩ := ru
  obtain ⟨its, r, pl, hz⟩ := I.list hs
  obtain ⟨⟨oc, od, dt, sl⟩, n, e, hc, hdn, hdt⟩ := id pl
  dsimp only at hc hdn hdt
  subst hc hdn hdt
  have hl := r.length
  rw [List.length_map, List.length_append, List.length_cons] at hl hz
  have fl : ((pre ++ k :: post).map V.int).all flatV = true := by
    rw [List.all_eq_true]
    intro y hy
    obtain ⟨z, _, rfl⟩ := List.mem_map.mp hy
    rfl
  have at' : ∀ (j : Nat) (z : Int), (pre ++ k :: post)[j]? = some z → ∀ (h : j < its.toArray.size), eqU (.int k) its.toArray[j] = (z == k) := fun j z ez h => by
    obtain ⟨u, eu, ru⟩ := r.get (i := j) (x := .int z) (by rw [List.getElem?_map, ez]; rfl)
    have e1 : its.toArray[j] = u := by
      rw [List.getElem_toArray]
      exact Option.some.inj ((List.getElem?_eq_getElem (by simpa using h)).symm.trans eu)
    rw [e1, eqU_of ru rfl]; rfl
  refine call_meets F.slot_list_index ⟨_, e, rfl⟩ F.entry_list_index (F.args_list_index_2 _ _) (SeqAt.list_indexAt p its.toArray n none sl (.int k t) (eqU (.int k)) pre.length (by rw [List.size_toArray]; omega) ?_ ?_ ?_) ⟨e, fun y hy => mem_eqAt (x := .int k) ⟨t, rfl⟩ rfl r fl y (by simpa using hy), ?_⟩
  · have h24 : sizeLine = 16777216 := by decide
    omega
  · rw [at' pre.length k (by rw [List.getElem?_append_right (Nat.le_refl _)]; simp)]
    simp
  · intro m hm hlt
    have hp : m < pre.length := hlt
    rw [at' m pre[m] (by rw [List.getElem?_append_left hp, List.getElem?_eq_getElem hp])]
    have : pre[m] ≠ k := fun z => hn (z ▸ List.getElem_mem hp)
    simpa using this
  · exact ⟨.int _, H, I.tok _, ⟨_, rfl⟩, q⟩
theorem nameT {j : Nat} {v : V} {σ : St} {H : Hp} {A B : St → Hp → Prop} (h : A (σ.set j (some v)) H) : gName j v σ H (fun σ2 H3 => tTrue σ2 H3 (fun b H4 => if b = true then A σ2 H4 else B σ2 H4)) := by
  show if true = true then A (σ.set j (some v)) H else B (σ.set j (some v)) H
  exact iteT h
end L2
namespace PH
end PH
set_option Elab.async false
set_option linter.all false
set_option maxRecDepth 100000
set_option maxHeartbeats 4000000
namespace PH
open PySem L2 PySem.W
theorem same_new {H : Hp} {p : Addr} (h : H p = none) (o : HO) : Same H (upd H p o) := fun b u q => by rw [upd_ne (ne_of_none q h)]; exact q
def deckO (a b c : Int) : HO := .lst [.int a, .int b, .int c]
def lsI (ns : List Int) : HO := .lst (ns.map V.int)
theorem int_at {ns : List Int} {i : Nat} {y : V} (h : (ns.map V.int)[i]? = some y) : ∃ z, y = V.int z ∧ ns[i]? = some z := by
  rw [List.getElem?_map] at h
  cases e : ns[i]? with
  | none => rw [e] at h; cases h
  | some z => rw [e] at h; exact ⟨z, (Option.some.inj h).symm, rfl⟩
theorem take_at {α : Type} {ns : List α} {i : Nat} {z : α} (h : ns[i]? = some z) : ns.take (i + 1) = ns.take i ++ [z] := by rw [List.take_add_one, h]; rfl
abbrev bmV : List Value := [.type "ValueError", .type "Exception", .type "BaseException", .type "object"]
structure Ex (K : Frag) (mg : Str → Option Value) (x : Str) (C : Addr) : Prop where
  mg : mg x = some (.ref C)
  ex : excIn K C bmV "ValueError.__new__" = true
  cl : ExcC K C
theorem kit_refl (K : Frag) (t : Value) : kitOne K t t = some true := by unfold kitOne; rw [if_pos (beq_self_eq_true t)]
theorem kit_ib (K : Frag) : kitOne K (.type "int") (.type "bool") = some false := by rfl
theorem boot_isi : bootBuiltins "isinstance" = some (.builtin "isinstance") := by decide +kernel
theorem boot_list' : bootBuiltins "list" = some (.type "list") := by decide +kernel
theorem boot_int' : bootBuiltins "int" = some (.type "int") := by decide +kernel
theorem boot_bool' : bootBuiltins "bool" = some (.type "bool") := by decide +kernel
theorem boot_VE : bootBuiltins "ValueError" = some (.type "ValueError") := by decide +kernel
theorem boot_max' : bootBuiltins "max" = some (.builtin "max") := by decide +kernel
structure Bl (mg : Str → Option Value) : Prop where
  isi : mg "isinstance" = none
  list : mg "list" = none
  int : mg "int" = none
  bool : mg "bool" = none
  len : mg "len" = none
  range : mg "range" = none
  max : mg "max" = none
  ve : mg "ValueError" = none
theorem rep_ints (m : Nat) (x : Int) : (List.replicate m [V.int x]).flatten = (List.replicate m x).map V.int := by
  induction m with
  | zero => rfl
  | succ m ih => rw [List.replicate_succ, List.replicate_succ, List.flatten_cons, List.map_cons, ih]; rfl
def spLaw (K : PySem.W.Frag) : Sp := fun vs H Q _ => ∃ (a : Addr) (ns : List Int), vs = [.ref a] ∧ SqL K H a (ns.map V.int) ∧ ns.length ≤ 63 ∧ ∀ H', Q (.bl true) H'
theorem fits {n : Nat} (h : n ≤ 1000000) : n ≤ sizeLine := by
  have : sizeLine = 16777216 := by decide
  omega
theorem fits_lt {n : Nat} (h : n ≤ 1000000) : n < sizeLine := by
  have : sizeLine = 16777216 := by decide
  omega
end PH
namespace PH
end PH
set_option Elab.async false
set_option linter.all false
set_option maxRecDepth 100000
namespace L2
open PySem PySem.Spec PyProof.Rows PySem.W
section
variable {X : Cx} {tg : Expr}
end
theorem comp_rngQ {lo : Int} {n : Nat} {D : Addr} {σ0 : St} {H1 : Hp} {Qd : Hp → Prop} {g : TG} {tc : TT} {te : TE} (Pv : Nat → St → Hp → Prop) (h0 : Pv 0 σ0 (upd H1 D (.lst [])))
    (hs : ∀ i σ' H', i < n → Pv i σ' H' → g (.int (lo + i)) σ' H' fun σ2 H3 => tc σ2 H3 fun b H4 => if b = true then te σ2 H4 fun v H5 => rAppend (.ref D) [v] H5 fun _ H6 => ∃ m', m' < n - i ∧ CW n Pv (i + 1) m' σ2 H6 else ∃ m', m' < n - i ∧ CW n Pv (i + 1) m' σ2 H4)
    (hd : ∀ σ' H', Pv n σ' H' → Qd H') :
    ∃ W : Nat → Nat → St → Hp → Prop, (∃ m, W 0 m σ0 (upd H1 D (.lst []))) ∧ ∀ i m σ' H', W i m σ' H' → ((Itr lo n).stop i H' ∧ Qd H') ∨ ((Itr lo n).go i H' ∧ ∀ x H2, (Itr lo n).yld i H' x H2 → g x σ' H2 fun σ2 H3 => tc σ2 H3 fun b H4 =>
      if b = true then te σ2 H4 fun v H5 => rAppend (.ref D) [v] H5 fun _ H6 => ∃ m', m' < m ∧ W (i + 1) m' σ2 H6 else ∃ m', m' < m ∧ W (i + 1) m' σ2 H4) :=
  comp_rng (Q := fun _ H => Qd H) Pv h0 hs hd
theorem comp_lstQ {K : Frag} {a : Addr} {xs : List V} {D : Addr} {σ0 : St} {H1 : Hp} {Qd : Hp → Prop} {g : TG} {tc : TT} {te : TE} (Pv : Nat → St → Hp → Prop) (h0 : Pv 0 σ0 (upd H1 D (.lst []))) (hl : ∀ i σ H, i ≤ xs.length → Pv i σ H → SqL K H a xs)
    (hs : ∀ i x σ' H', xs[i]? = some x → Pv i σ' H' → g x σ' H' fun σ2 H3 => tc σ2 H3 fun b H4 => if b = true then te σ2 H4 fun v H5 => rAppend (.ref D) [v] H5 fun _ H6 => ∃ m', m' < xs.length - i ∧ CW xs.length Pv (i + 1) m' σ2 H6 else ∃ m', m' < xs.length - i ∧ CW xs.length Pv (i + 1) m' σ2 H4)
    (hd : ∀ σ' H', Pv xs.length σ' H' → Qd H') :
    ∃ W : Nat → Nat → St → Hp → Prop, (∃ m, W 0 m σ0 (upd H1 D (.lst []))) ∧ ∀ i m σ' H', W i m σ' H' → ((Itl K a).stop i H' ∧ Qd H') ∨ ((Itl K a).go i H' ∧ ∀ x H2, (Itl K a).yld i H' x H2 → g x σ' H2 fun σ2 H3 => tc σ2 H3 fun b H4 =>
      if b = true then te σ2 H4 fun v H5 => rAppend (.ref D) [v] H5 fun _ H6 => ∃ m', m' < m ∧ W (i + 1) m' σ2 H6 else ∃ m', m' < m ∧ W (i + 1) m' σ2 H4) :=
  comp_lst (Q := fun _ H => Qd H) Pv h0 hl hs hd
end L2
set_option Elab.async false
set_option linter.all false
set_option maxRecDepth 100000
set_option maxHeartbeats 4000000
namespace PH
open PySem L2 PySem.W
theorem boot_tuple' : bootBuiltins "tuple" = some (.type "tuple") := by decide +kernel
structure ExR (K : Frag) (cP cN c1 c2 c3 c4 c5 c6 : Addr) : Prop where
  m : mroIn K cN (.ref cP) = some true
  v : kitOne K (.ref cN) (.type "ValueError") = some true
  o : kitAny K (.ref cN) [.ref c1, .ref c2, .ref c3, .ref c4, .ref c5, .ref c6] = some false
end PH
namespace PH
end PH
set_option Elab.async false
set_option linter.all false
namespace L2
open PySem PySem.Spec PyProof.Rows
section
variable {X : Cx}
end
end L2
set_option Elab.async false
set_option linter.all false
set_option maxRecDepth 100000
set_option maxHeartbeats 4000000
namespace PH
open PySem L2 PySem.W
theorem boot_min' : bootBuiltins "min" = some (.builtin "min") := by decide +kernel
structure Bls (mg : Str → Option Value) : Prop where
  isi : mg "isinstance" = none
  list : mg "list" = none
  int : mg "int" = none
  bool : mg "bool" = none
  len : mg "len" = none
  range : mg "range" = none
  max : mg "max" = none
  ve : mg "ValueError" = none
  tuple : mg "tuple" = none
  min : mg "min" = none
  sorted : mg "sorted" = none
  all : mg "all" = none
  dict : mg "dict" = none
theorem Bls.bl {mg : Str → Option Value} (B : Bls mg) : Bl mg := ⟨B.isi, B.list, B.int, B.bool, B.len, B.range, B.max, B.ve⟩
theorem same_upd {H H' : Hp} (s : Same H H') {q : Addr} (u : HO) (hq : H q = none) : Same H (upd H' q u) := fun b w e => by
  rw [upd_ne (ne_of_none e hq)]; exact s b w e
theorem lsI_app1 (a : List Int) (z : Int) : (.lst (a.map V.int ++ [V.int z]) : HO) = lsI (a ++ [z]) := by unfold lsI; rw [List.map_append]; rfl
end PH
set_option Elab.async false
set_option linter.all false
set_option maxRecDepth 100000
set_option maxHeartbeats 4000000
namespace PH
open PySem L2 PySem.W
structure Dks (ps : List Addr) (D : Addr) (H : Hp) : Prop where
  at_ : H D = some (.lst (ps.map V.ref))
  each : ∀ p ∈ ps, p ≠ D ∧ ∃ a b c, H p = some (deckO a b c)
theorem Dks.same {ps : List Addr} {D : Addr} {H H' : Hp} (h : Dks ps D H) (s : Same H H') : Dks ps D H' := ⟨s _ _ h.at_, fun p hp => by
  obtain ⟨e, a, b, c, q⟩ := h.each p hp
  exact ⟨e, a, b, c, s _ _ q⟩⟩
theorem Dks.other {ps : List Addr} {D q : Addr} {H : Hp} {o : HO} (h : Dks ps D H) (h1 : D ≠ q) (h2 : ∀ p ∈ ps, p ≠ q) : Dks ps D (upd H q o) := ⟨by rw [upd_ne h1]; exact h.at_, fun p hp => by
  obtain ⟨e, a, b, c, z⟩ := h.each p hp
  exact ⟨e, a, b, c, by rw [upd_ne (h2 p hp)]; exact z⟩⟩
theorem Dks.of {ps : List Addr} {D : Addr} {H H' : Hp} (hD : H' D = some (.lst (ps.map V.ref))) (h : ∀ p ∈ ps, H p = none ∧ p ≠ D ∧ ∃ a b c, H' p = some (deckO a b c)) : Dks ps D H' := ⟨hD, fun p hp => (h p hp).2⟩
theorem Dks.ne {ps : List Addr} {D q : Addr} {H : Hp} (h : Dks ps D H) (hq : H q = none) : (∀ p ∈ ps, p ≠ q) ∧ D ≠ q := ⟨fun p hp => by
  obtain ⟨_, _, _, _, z⟩ := h.each p hp
  exact ne_of_none z hq, ne_of_none h.at_ hq⟩
end PH
set_option Elab.async false
set_option linter.all false
set_option maxRecDepth 100000
namespace L2
open PySem PySem.Spec PyProof.Rows PySem.W
end L2
set_option Elab.async false
set_option linter.all false
set_option maxRecDepth 100000
namespace L2
open PySem PySem.Spec PyProof.Rows
section
variable {κ : Type} [DecidableEq κ]
def valV (kvs : List (κ × V)) (k : κ) : Option V := (kvs.find? fun kv => decide (kv.1 = k)).map (·.2)
def putK (kvs : List (κ × V)) (k : κ) (v : V) : List (κ × V) :=
  if (kvs.any fun kv => decide (kv.1 = k)) = true then kvs.map (fun kv => if kv.1 = k then (kv.1, v) else kv) else kvs ++ [(k, v)]
def dropK (kvs : List (κ × V)) (k : κ) : List (κ × V) := kvs.filter fun kv => decide (kv.1 ≠ k)
theorem valV_pos {p : κ × V} {r : List (κ × V)} {k : κ} (e : p.1 = k) : valV (p :: r) k = some p.2 := by simp [valV, List.find?_cons, e]
theorem valV_neg {p : κ × V} {r : List (κ × V)} {k : κ} (e : ¬ p.1 = k) : valV (p :: r) k = valV r k := by simp [valV, List.find?_cons, e]
theorem valV_any (k : κ) : ∀ kvs : List (κ × V), (kvs.any fun kv => decide (kv.1 = k)) = (valV kvs k).isSome
  | [] => rfl
  | p :: r => by
    rw [List.any_cons]
    by_cases e : p.1 = k
    · simp only [valV_pos e, decide_eq_true e, Bool.true_or, Option.isSome_some]
    · rw [valV_neg e, decide_eq_false e, Bool.false_or]; exact valV_any k r
theorem length_putK (kvs : List (κ × V)) (k : κ) (v : V) : (putK kvs k v).length ≤ kvs.length + 1 := by
  unfold putK
  split
  · rw [List.length_map]; omega
  · rw [List.length_append, List.length_cons, List.length_nil]; omega
theorem putK_new {kvs : List (κ × V)} {k : κ} (v : V) (h : valV kvs k = none) : putK kvs k v = kvs ++ [(k, v)] := by
  unfold putK
  rw [valV_any, h]
  exact if_neg (by decide)
theorem RelO.isSome_eq {o : Option V} {u : Option Value} (r : RelO o u) : o.isSome = u.isSome := by
  cases o with
  | none => cases u with
    | none => rfl
    | some _ => exact (show False from r).elim
  | some _ => cases u with
    | none => exact (show False from r).elim
    | some _ => rfl
theorem RelO.getD {o : Option V} {u : Option Value} {d : V} {d' : Value} (r : RelO o u) (rd : RelV d d') : RelV (o.getD d) (u.getD d') := by
  cases o with
  | none => cases u with
    | none => exact rd
    | some _ => exact (show False from r).elim
  | some _ => cases u with
    | none => exact (show False from r).elim
    | some _ => exact r
theorem KV.val {kvs : List (κ × V)} {vs : List (κ × Value)} (r : KV kvs vs) (k : κ) : RelO (valV kvs k) (valueAt vs k) := by
  unfold KV at r
  induction r with
  | nil => exact True.intro
  | @cons p q ps qs h t ih =>
    obtain ⟨h1, h2⟩ := h
    by_cases e : p.1 = k
    · have e' : q.1 = k := h1.symm.trans e
      have b : valueAt (q :: qs) k = some q.2 := by simp [valueAt, List.find?_cons, e']
      rw [valV_pos e, b]; exact h2
    · have e' : ¬ q.1 = k := fun z => e (h1.trans z)
      have b : valueAt (q :: qs) k = valueAt qs k := by simp [valueAt, List.find?_cons, e']
      rw [valV_neg e, b]; exact ih
theorem KV.any {kvs : List (κ × V)} {vs : List (κ × Value)} (r : KV kvs vs) (k : κ) : (kvs.any fun kv => decide (kv.1 = k)) = vs.any fun kv => decide (kv.1 = k) := by
  unfold KV at r
  induction r with
  | nil => rfl
  | cons h t ih => rw [List.any_cons, List.any_cons, ih, h.1]
theorem KV.repl {kvs : List (κ × V)} {vs : List (κ × Value)} (r : KV kvs vs) (k : κ) {y : V} {u : Value} (ry : RelV y u) :
    KV (kvs.map fun kv => if kv.1 = k then (kv.1, y) else kv) (vs.map fun kv => if kv.1 = k then (kv.1, u) else kv) := by
  unfold KV at r ⊢
  induction r with
  | nil => exact .nil
  | @cons p q ps qs h t ih =>
    rw [List.map_cons, List.map_cons]
    refine .cons ?_ ih
    obtain ⟨h1, h2⟩ := h
    by_cases e : p.1 = k
    · rw [if_pos e, if_pos (h1.symm.trans e)]; exact ⟨h1, ry⟩
    · rw [if_neg e, if_neg (fun z => e (h1.trans z))]; exact ⟨h1, h2⟩
theorem KV.put {kvs : List (κ × V)} {vs : List (κ × Value)} (r : KV kvs vs) (k : κ) {y : V} {u : Value} (ry : RelV y u) : KV (putK kvs k y) (stored vs k u) := by
  unfold putK stored
  rw [r.any k]
  by_cases e : (vs.any fun kv => decide (kv.1 = k)) = true
  · rw [if_pos e, if_pos e]; exact r.repl k ry
  · rw [if_neg e, if_neg e]; exact Paired.snoc r ⟨rfl, ry⟩
theorem KV.drop {kvs : List (κ × V)} {vs : List (κ × Value)} (r : KV kvs vs) (k : κ) : KV (dropK kvs k) (without vs k) := by
  unfold KV at r ⊢
  unfold dropK without
  induction r with
  | nil => exact .nil
  | @cons p q ps qs h t ih =>
    obtain ⟨h1, h2⟩ := h
    rw [List.filter_cons, List.filter_cons]
    by_cases e : p.1 = k
    · have a : ¬ decide (p.1 ≠ k) = true := by simp [e]
      have b : ¬ decide (q.1 ≠ k) = true := by simp [h1.symm.trans e]
      rw [if_neg a, if_neg b]; exact ih
    · have e' : ¬ q.1 = k := fun z => e (h1.trans z)
      have a : decide (p.1 ≠ k) = true := by simp [e]
      have b : decide (q.1 ≠ k) = true := by simp [e']
      rw [if_pos a, if_pos b]; exact .cons ⟨h1, h2⟩ ih
theorem KV.keys {kvs : List (κ × V)} {vs : List (κ × Value)} (r : KV kvs vs) : kvs.map (·.1) = vs.map (·.1) := by
  unfold KV at r
  induction r with
  | nil => rfl
  | cons h t ih => rw [List.map_cons, List.map_cons, ih, h.1]
theorem KV.length {kvs : List (κ × V)} {vs : List (κ × Value)} (r : KV kvs vs) : kvs.length = vs.length := Paired.length r
end
theorem kV_is {P : Program} {w : World} {k : Key} {u : Value} (r : RelV (kV k) u) : (mixKind P w).is k u = true := by
  cases k with
  | inl i => obtain ⟨t, e⟩ := (show ∃ t, u = Value.int i t from r); subst e; exact mixKind_int P w i t
  | inr x => obtain ⟨t, e⟩ := (show ∃ t, u = Value.str x t from r); subst e; exact mixKind_str P w x t
theorem items_are {P : Program} {w : World} : ∀ {ks : List Key} {us : List Value}, Vals (ks.map kV) us → ItemsAre (mixKind P w) ks us
  | [], _, r => by rw [List.map_nil] at r; cases r; exact .nil
  | k :: ks, _, r => by
    rw [List.map_cons] at r
    cases r with
    | cons h t => exact .cons (kV_is h) (items_are t)
abbrev KT (H : Hp) : List (List Key × V) → List (List Key × Addr × Value) → Prop := Paired fun p q => p.1 = q.1 ∧ H q.2.1 = some (.tup (p.1.map kV)) ∧ RelV p.2 q.2.2
theorem KT.val {H : Hp} {kvs : List (List Key × V)} {xs : List (List Key × Addr × Value)} (r : KT H kvs xs) (k : List Key) : RelO (valV kvs k) ((atKey xs k).map (·.2)) := by
  induction r with
  | nil => exact True.intro
  | @cons p q ps qs h t ih =>
    obtain ⟨h1, _, h2⟩ := h
    by_cases e : p.1 = k
    · have e' : q.1 = k := h1.symm.trans e
      have b : atKey (q :: qs) k = some q.2 := by simp [atKey, List.find?_cons, e']
      rw [valV_pos e, b]; exact h2
    · have e' : ¬ q.1 = k := fun z => e (h1.trans z)
      have b : atKey (q :: qs) k = atKey qs k := by simp [atKey, List.find?_cons, e']
      rw [valV_neg e, b]; exact ih
theorem KT.repl {H : Hp} {kvs : List (List Key × V)} {xs : List (List Key × Addr × Value)} (r : KT H kvs xs) (k : List Key) {y : V} {u : Value} (ry : RelV y u) :
    KT H (kvs.map fun kv => if kv.1 = k then (kv.1, y) else kv) (xs.map (putAt k u)) := by
  induction r with
  | nil => exact .nil
  | @cons p q ps qs h t ih =>
    rw [List.map_cons, List.map_cons]
    refine .cons ?_ ih
    obtain ⟨h1, h2, h3⟩ := h
    unfold putAt
    by_cases e : p.1 = k
    · rw [if_pos e, if_pos (h1.symm.trans e)]; exact ⟨h1, h2, ry⟩
    · rw [if_neg e, if_neg (fun z => e (h1.trans z))]; exact ⟨h1, h2, h3⟩
theorem KT.put {H : Hp} {kvs : List (List Key × V)} {xs : List (List Key × Addr × Value)} (r : KT H kvs xs) (k : List Key) {b : Addr} {y : V} {u : Value} (hb : H b = some (.tup (k.map kV))) (ry : RelV y u) :
    KT H (putK kvs k y) (storedH xs k b u) := by
  have e : (kvs.any fun kv => decide (kv.1 = k)) = (atKey xs k).isSome := by
    rw [valV_any, (r.val k).isSome_eq, Option.isSome_map]
  unfold putK storedH
  rw [e]
  by_cases q : (atKey xs k).isSome = true
  · rw [if_pos q, if_pos q]; exact r.repl k ry
  · rw [if_neg q, if_neg q]; exact Paired.snoc r ⟨rfl, hb, ry⟩
theorem KT.keeps {H H' : Hp} {kvs : List (List Key × V)} {xs : List (List Key × Addr × Value)} (r : KT H kvs xs) (ht : ∀ b ys, H b = some (.tup ys) → H' b = some (.tup ys)) : KT H' kvs xs :=
  Paired.mapP r fun _ _ z => ⟨z.1, ht _ _ z.2.1, z.2.2⟩
section
variable {P : Program} {w : World} {H : Hp} {h : Heap} {a : Addr}
theorem rd_of {u : HO} (ok : HOk P w H h) (e : Rd H a u) : ObjOk P w H h a u := e.ok ok
theorem dk_rd {kvs : List (Key × V)} (ok : HOk P w H h) (e : Rd H a (.dK kvs)) : kvs.length ≤ sizeLine ∧ (a == sysModules) = false ∧ ∃ vs, KV kvs vs ∧ h.DictOf (mixKind P w) a vs :=
  show ObjOk P w H h a (.dK kvs) from rd_of ok e
theorem dk_of {kvs : List (Key × V)} (ok : HOk P w H h) (e : H a = some (.dK kvs)) : kvs.length ≤ sizeLine ∧ (a == sysModules) = false ∧ ∃ vs, KV kvs vs ∧ h.DictOf (mixKind P w) a vs := dk_rd ok (.inl e)
theorem key_of {ks : List Key} (ok : HOk P w H h) (e : H a = some (.tup (ks.map kV))) : (tupleKind (mixKind P w)).is h ks a := by
  obtain ⟨_, its, r, o, h1, h2, n, h3⟩ := (show ObjOk P w H h a (.tup (ks.map kV)) from ok a _ e)
  exact ⟨o, its.toArray, n, h1, h2, h3, by simpa using items_are r⟩
theorem dt_rd {kvs : List (List Key × V)} (ok : HOk P w H h) (e : Rd H a (.dT kvs)) : kvs.length ≤ sizeLine ∧ (a == sysModules) = false ∧
    ∃ xs, KT H kvs xs ∧ h.DictOfH (tupleKind (mixKind P w)) a xs := by
  obtain ⟨z, y, xs, r, o, es, ep, h1, h2, h3, h4, h5⟩ := (show ObjOk P w H h a (.dT kvs) from rd_of ok e)
  refine ⟨z, y, xs, r, o, es, ep, h1, h2, h3, h4, fun x hx => ?_, h5⟩
  have all : ∀ {l : List (List Key × V)} {m : List (List Key × Addr × Value)}, KT H l m → ∀ x ∈ m, (tupleKind (mixKind P w)).is h x.1 x.2.1 := by
    intro l m q
    induction q with
    | nil => intro x hx; exact nomatch hx
    | @cons p q ps qs hq t ih =>
      intro x hx
      rcases List.mem_cons.mp hx with e | hx
      · subst e
        exact key_of ok (by rw [← hq.1]; exact hq.2.1)
      · exact ih x hx
  exact all r x hx
theorem dt_of {kvs : List (List Key × V)} (ok : HOk P w H h) (e : H a = some (.dT kvs)) : kvs.length ≤ sizeLine ∧ (a == sysModules) = false ∧
    ∃ xs, KT H kvs xs ∧ h.DictOfH (tupleKind (mixKind P w)) a xs := dt_rd ok (.inl e)
end
def DGet (H : Hp) (a : Addr) (y : V) (r : Option V) : Prop :=
  (∃ kvs k, Rd H a (.dK kvs) ∧ y = kV k ∧ r = valV kvs k) ∨ ∃ kvs k b, Rd H a (.dT kvs) ∧ y = .ref b ∧ H b = some (.tup (k.map kV)) ∧ r = valV kvs k
def DPut (H : Hp) (a : Addr) (y v : V) (H' : Hp) : Prop :=
  (∃ kvs k, H a = some (.dK kvs) ∧ y = kV k ∧ kvs.length < sizeLine ∧ H' = upd H a (.dK (putK kvs k v))) ∨
  ∃ kvs k b, H a = some (.dT kvs) ∧ y = .ref b ∧ H b = some (.tup (k.map kV)) ∧ kvs.length < sizeLine ∧ H' = upd H a (.dT (putK kvs k v))
theorem DGet.k {H : Hp} {a : Addr} {kvs : List (Key × V)} {k : Key} (e : H a = some (.dK kvs)) : DGet H a (kV k) (valV kvs k) := .inl ⟨kvs, k, .inl e, rfl, rfl⟩
theorem DGet.t {H : Hp} {a b : Addr} {kvs : List (List Key × V)} {k : List Key} (e : H a = some (.dT kvs)) (eb : H b = some (.tup (k.map kV))) : DGet H a (.ref b) (valV kvs k) := .inr ⟨kvs, k, b, .inl e, rfl, eb, rfl⟩
theorem DPut.k {H : Hp} {a : Addr} {kvs : List (Key × V)} {k : Key} {v : V} (e : H a = some (.dK kvs)) (hl : kvs.length < sizeLine) : DPut H a (kV k) v (upd H a (.dK (putK kvs k v))) := .inl ⟨kvs, k, e, rfl, hl, rfl⟩
theorem DPut.t {H : Hp} {a b : Addr} {kvs : List (List Key × V)} {k : List Key} {v : V} (e : H a = some (.dT kvs)) (eb : H b = some (.tup (k.map kV))) (hl : kvs.length < sizeLine) :
    DPut H a (.ref b) v (upd H a (.dT (putK kvs k v))) := .inr ⟨kvs, k, b, e, rfl, eb, hl, rfl⟩
section
variable {X : Cx} {pins : List (Addr × Obj)} {σ : St} {H : Hp} {s : Shared} {a : Addr} {y v : V} {u r : Value} {o : Option V} {A : Around} {E : Value → Shared → Prop}
theorem Inv.big (I : Inv X pins σ H s) : sysModules < s.heap.objs.size := by
  have h : mainGlobals < s.heap.objs.size := (I.mod.glob.keeps I.bk).lt
  exact Nat.lt_trans (by decide) h
theorem d_write {h' : Heap} {t' : Nat} {ob : HO} (I : Inv X pins σ H s) (mu : Mut (H a)) (hs : Heap.SameBut a s.heap h') (he : ∃ q, h'.get? a = some q) (new : ObjOk X.prog X.w (upd H a ob) h' a ob) :
    Inv X pins σ (upd H a ob) { s with heap := h', toks := t' } :=
  I.write (x := a) (e := a) mu (.inl rfl) (fun b q hb z => (hs.2 b hb).trans z) he new
theorem dk_new {P : Program} {w : World} {H' : Hp} {h' : Heap} {kvs : List (Key × V)} {vs : List (Key × Value)} (z : kvs.length ≤ sizeLine) (hd : (a == sysModules) = false) (rel : KV kvs vs) (dd : h'.DictOf (mixKind P w) a vs) :
    ObjOk P w H' h' a (.dK kvs) := ⟨z, hd, vs, rel, dd⟩
theorem d_setItem {H' : Hp} {Q : Unit → Shared → Prop} (hu : A.units + 1 < cLine) (I : Inv X pins σ H s) (g : DPut H a y v H') (ry : RelV y u) (rv : RelV v r) (h : ∀ s', Inv X pins σ H' s' → Q () s') :
    wpAny (model X.prog X.w) A (setItem (.ref a) u r) Q E s := by
  rcases g with ⟨kvs, k, e, ey, l, eH⟩ | ⟨kvs, k, b, e, ey, eb, l, eH⟩
  · subst ey eH
    obtain ⟨z, hd, vs, rel, dd⟩ := dk_of I.hok e
    have hz : vs.length ≤ sizeLine := by rw [← rel.length]; exact z
    have hl : (putK kvs k v).length ≤ sizeLine := by have := length_putK kvs k v; omega
    refine wpAny_setItem_pairs (hsz := hz) (kV_is ry) dd fun h' dd' hs => h _ ?_
    have he : ∃ q, h'.get? a = some q := let ⟨q, _, _, hq, _⟩ := dd'; ⟨q, hq⟩
    exact d_write I (by rw [e]; exact True.intro) hs he (dk_new hl hd (rel.put k rv) dd')
  · subst ey eH
    cases (show u = Value.ref b from ry)
    obtain ⟨z, hd, xs, rel, dd⟩ := dt_of I.hok e
    have hz : xs.length ≤ sizeLine := by rw [← Paired.length rel]; exact z
    have hl : (putK kvs k v).length ≤ sizeLine := by have := length_putK kvs k v; omega
    refine wpAny_setItem_heap (hsz := hz) (tupleKind_room_in1 hu) (key_of I.hok eb) dd fun h' dd' hs => h _ ?_
    obtain ⟨q, es, ep, hq, h2, h3, h4, _, h5⟩ := dd'
    refine d_write I (by rw [e]; exact True.intro) hs ⟨q, hq⟩ ⟨hl, hd, _, (rel.put k eb rv).keeps fun c ys ec => ?_, q, es, ep, hq, h2, h3, h4, h5⟩
    rw [upd_ne (ne_of ec e (fun z => nomatch z))]
    exact ec
end
section
variable {X : Cx} {pins : List (Addr × Obj)} {σ : St} {H : Hp} {s : Shared} {a : Addr} {kvs : List (Key × V)} {k : Key} {u : Value} {A : Around} {E : Value → Shared → Prop}
end
def sDPut (td ty tv : TE) : TS := fun D σ H => tv σ H fun v H1 => td σ H1 fun x H2 => ty σ H2 fun y H3 => ∃ a H4, x = .ref a ∧ DPut H3 a y v H4 ∧ D.nx σ H4
section
variable {X : Cx} {o i e value : Expr} {pos pos' tpos : Pos} {td ty tv : TE}
theorem ps_dput (hu : X.A.units + 1 < cLine) (ho : PE X o td) (hi : PE X i ty) (hv : PE X value tv) (hs : swapsWith value (some (.Subscript o i pos')) pos.line X.env = pure false) :
    PS X (.Assign [.Subscript o i pos'] value pos) (sDPut td ty tv) := by
  intro pins s σ H D I h
  refine wpAny_Assign_Subscript (thn (hv pins s σ H _ I h) fun r s1 ⟨v, H1, I1, rv, q1⟩ => thn (ho pins s1 σ H1 _ I1 q1) fun u s2 ⟨x, H2, I2, rx, q2⟩ => thn (hi pins s2 σ H2 _ I2 q2) fun iv s3 ⟨y, H3, I3, ry, a, H4, ex, g, q3⟩ => ?_) hs
  subst ex
  obtain rfl : u = Value.ref a := rx
  exact d_setItem hu I3 g ry rv fun s4 I4 => ⟨σ, H4, I4, q3⟩
end
theorem dk_empty {P : Program} {w : World} {H : Hp} (h : Heap) (hb : sysModules < h.objs.size) : ObjOk P w H (h.push { cls := .type "dict", data := .dict #[] }) h.objs.size (.dK []) :=
  ⟨Nat.zero_le _, beq_eq_false_iff_ne.mpr (Ne.symm (Nat.ne_of_lt hb)), [], .nil, Heap.DictOf.new h⟩
def tDNewK : TE := fun _ H Q => ∀ p, H p = none → Q (.ref p) (upd H p (.dK []))
section
variable {X : Cx} {pos : Pos}
theorem pe_dnewK : PE X (.Dict [] [] pos) tDNewK := fun pins s σ H Q I h =>
  wpAny_Dict_empty ⟨.ref s.heap.objs.size, _, I.laid (a := s.heap.objs.size) (o := .dK []) (t' := s.toks) (fun _ _ q => Heap.get?_push_of_some _ q) (Nat.le_refl _) (dk_empty s.heap I.big), rfl, h _ (I.hok.fresh (Nat.le_refl _))⟩
end
structure M1 (X : Cx) (o : Expr) (m : Str) (apos : Pos) (e : Expr) (cpos : Pos) : Prop where
  base : attributeBase o m X.env (eval o X.env) = eval o X.env
  few : ((backTo cpos (starEach [e] X.env)).all (fun x => !x.1) && (backToKw cpos (keywordEach [] X.env)).all (fun x => x.1.isSome)
    && decide (([e] : List Expr).length + ([] : List Keyword).length + (if ([] : List Keyword).isEmpty then 0 else 1) < 30)) = true
  line : (apos.endLine == cpos.line) = true
  trees : backTo cpos (starEach [e] X.env) = [(false, eval e X.env)]
structure M2 (X : Cx) (o : Expr) (m : Str) (apos : Pos) (e f : Expr) (cpos : Pos) : Prop where
  base : attributeBase o m X.env (eval o X.env) = eval o X.env
  few : ((backTo cpos (starEach [e, f] X.env)).all (fun x => !x.1) && (backToKw cpos (keywordEach [] X.env)).all (fun x => x.1.isSome)
    && decide (([e, f] : List Expr).length + ([] : List Keyword).length + (if ([] : List Keyword).isEmpty then 0 else 1) < 30)) = true
  line : (apos.endLine == cpos.line) = true
  trees : backTo cpos (starEach [e, f] X.env) = [(false, eval e X.env), (false, eval f X.env)]
section
variable {X : Cx} {pins : List (Addr × Obj)} {σ : St} {H : Hp} {s : Shared} {a : Addr} {y d : V} {u r : Value} {o : Option V} {A : Around} {E : Value → Shared → Prop}
end
section
variable {X : Cx} {o e f : Expr} {apos cpos : Pos} {td ty tx : TE}
end
section
variable {X : Cx} {pins : List (Addr × Obj)} {σ : St} {H : Hp} {s : Shared} {a : Addr} {kvs : List (Key × V)} {A : Around} {E : Value → Shared → Prop}
end
section
variable {X : Cx} {pins : List (Addr × Obj)} {σ : St} {H : Hp} {s : Shared} {a : Addr} {y : V} {u : Value} {A : Around} {E : Value → Shared → Prop}
end
end L2
namespace L2
open PySem PySem.Spec PyProof.Rows
section
variable {X : Cx}
end
section
variable {κ : Type} [DecidableEq κ]
theorem nd_snoc : ∀ {l : List κ} {k : κ}, l.Nodup → ¬ k ∈ l → (l ++ [k]).Nodup
  | [], k, _, _ => by simp
  | a :: r, k, h, hk => by
    obtain ⟨h1, h2⟩ := List.nodup_cons.mp h
    show (a :: (r ++ [k])).Nodup
    refine List.nodup_cons.mpr ⟨fun m => ?_, nd_snoc h2 fun m => hk (List.mem_cons.mpr (Or.inr m))⟩
    rcases List.mem_append.mp m with q | q
    · exact h1 q
    · exact hk (List.mem_cons.mpr (Or.inl (List.mem_singleton.mp q).symm))
end
end L2
set_option linter.all false
namespace TS
open PySem PyProof.Rows
def gallop' : Bool → Keyed → Array Keyed → Nat → Nat → Nat → StateT SortSt Sem (Option Nat) := sortPriv% PySem.Builtin.gallop
def mergeLo' : Array Keyed → Array Keyed → StateT SortSt Sem (Array Keyed) := sortPriv% PySem.Builtin.mergeLo
def mergeHi' : Array Keyed → Array Keyed → StateT SortSt Sem (Array Keyed) := sortPriv% PySem.Builtin.mergeHi
def mergeAt' : Nat → StateT SortSt Sem Bool := sortPriv% PySem.Builtin.mergeAt
section
variable {prog : Program} {w : World} {A : Around} {E : Value → Shared → Prop} {s : Shared}
structure Cmp (prog : Program) (w : World) (A : Around) (s : Shared) (kd : SortKind) (O : KeyOrd) (ky : Keyed → O.α) (S : Keyed → Prop) : Prop where
  lt : ∀ p q, S p → S q → ∀ {E : Value → Shared → Prop} {Q : Bool → Shared → Prop}, Q (O.blt (ky p) (ky q)) s → wpAny (model prog w) A (keyLt' kd p.1 q.1) Q E s
variable {kd : SortKind} {O : KeyOrd} {ky : Keyed → O.α} {S : Keyed → Prop}
theorem wpS_lt (C : Cmp prog w A s kd O ky S) {st : SortSt} {p q : Keyed} {Q : Option Bool → SortSt → Prop} (hk : kindOf st = kd) (hp : S p) (hq : S q) (h : Q (some (O.blt (ky p) (ky q))) st) : wpS (model prog w) A E s (lt' p q) Q st := by
  rw [lt'_eq]
  refine wpS_bind (wpS_get ?_)
  rw [hk]
  refine wpS_bind (wpS_lift (wpAny_attempt (C.lt p q hp hq ⟨rfl, ?_⟩)))
  exact wpS_pure h
theorem wpS_elem {arr : Array Keyed} {i : Nat} {p : Keyed} {Q : Keyed → SortSt → Prop} {st : SortSt} (h : arr[i]? = some p) (hq : Q p st) : wpS (model prog w) A E s (elem' arr i) Q st := by
  rw [elem'_eq, h]
  exact wpS_pure hq
def bey (O : KeyOrd) (ky : Keyed → O.α) (left : Bool) (key p : Keyed) : Bool := if left then O.blt (ky p) (ky key) else !O.blt (ky key) (ky p)
theorem wpS_bey (C : Cmp prog w A s kd O ky S) {st : SortSt} {left : Bool} {key p : Keyed} {arr : Array Keyed} {i : Nat} {Q : Option Bool → SortSt → Prop} (hk : kindOf st = kd) (hs : S key) (hp : arr[i]? = some p) (hsp : S p) (h : Q (some (bey O ky left key p)) st) :
    wpS (model prog w) A E s (do
      let x ← elem' arr i
      if left = true then lt' x key else do
        let r ← lt' key x
        pure (Option.map (fun x => !x) r)) Q st := by
  refine wpS_bind (wpS_elem hp ?_)
  unfold bey at h
  cases left with
  | true =>
    rw [if_pos rfl] at h ⊢
    exact wpS_lt C hk hsp hs h
  | false =>
    rw [if_neg Bool.false_ne_true] at h ⊢
    exact wpS_bind (wpS_lt C hk hs hsp (wpS_pure h))
theorem wpS_gallop (C : Cmp prog w A s kd O ky S) {st : SortSt} {left : Bool} {key : Keyed} {arr : Array Keyed} {base n hint : Nat} {Q : Option Nat → SortSt → Prop} (hk : kindOf st = kd) (hs : S key) {el : Nat → Keyed} (hel : ∀ i, i < n → arr[base + i]? = some (el i) ∧ S (el i))
    (anti : ∀ i j, i ≤ j → j < n → bey O ky left key (el j) = true → bey O ky left key (el i) = true) (hh : hint < n)
    (h : ∀ k, k ≤ n → (∀ i, i < k → bey O ky left key (el i) = true) → (∀ i, k ≤ i → i < n → bey O ky left key (el i) = false) → Q (some k) st) :
    wpS (model prog w) A E s (gallop' left key arr base n hint) Q st := by
  have anti' : ∀ i j, i ≤ j → j < n → bey O ky left key (el i) = false → bey O ky left key (el j) = false := fun i j h1 h2 h3 => by
    cases e : bey O ky left key (el j) with
    | false => rfl
    | true => rw [anti i j h1 h2 e] at h3; cases h3
  have ask : ∀ (i : Nat) {Q : Option Bool → SortSt → Prop}, i < n → Q (some (bey O ky left key (el i))) st → wpS (model prog w) A E s (do
      let x ← elem' arr (base + i)
      if left = true then lt' x key else do
        let r ← lt' key x
        pure (Option.map (fun x => !x) r)) Q st := fun i Q hi hq => wpS_bey C hk hs (hel i hi).1 (hel i hi).2 hq
  unfold gallop'
  refine wpS_bind (ask hint hh ?_)
  -- the last search
  have fin : ∀ lo hi, lo ≤ hi → hi ≤ n → (∀ i, i < lo → bey O ky left key (el i) = true) → (∀ i, hi ≤ i → i < n → bey O ky left key (el i) = false) → ∀ {f : Nat → Option (Option Nat) × Nat × Nat → StateT SortSt Sem (ForInStep (Option (Option Nat) × Nat × Nat))},
      (∀ (x : Nat) lo hi, lo ≤ hi → hi ≤ n → ∀ {R : ForInStep (Option (Option Nat) × Nat × Nat) → SortSt → Prop}, (lo ≥ hi → R (.done (none, lo, hi)) st) → (∀ m, lo ≤ m → m < hi → bey O ky left key (el m) = true → R (.yield (none, m + 1, hi)) st) → (∀ m, lo ≤ m → m < hi → bey O ky left key (el m) = false → R (.yield (none, lo, m)) st) → wpS (model prog w) A E s (f x (none, lo, hi)) R st) →
      ∀ {g : Option (Option Nat) × Nat × Nat → StateT SortSt Sem (Option Nat)}, (∀ lo hi, g (none, lo, hi) = pure (some hi)) → wpS (model prog w) A E s (forIn [:n] (none, lo, hi) f >>= g) Q st := by
    intro lo hi h1 h2 h3 h4 f hf g hg
    refine wpS_bind (wpS_mono (wpS_forRange (I := fun x c st' => st' = st ∧ ∃ lo hi, c = (none, lo, hi) ∧ lo ≤ hi ∧ hi ≤ n ∧ hi - lo ≤ n - x ∧ (∀ i, i < lo → bey O ky left key (el i) = true) ∧ (∀ i, hi ≤ i → i < n → bey O ky left key (el i) = false))
      (Q := fun c st' => st' = st ∧ ∃ hi, c = (none, hi, hi) ∧ hi ≤ n ∧ (∀ i, i < hi → bey O ky left key (el i) = true) ∧ (∀ i, hi ≤ i → i < n → bey O ky left key (el i) = false)) ?step ?fin ⟨rfl, lo, hi, rfl, h1, h2, by omega, h3, h4⟩) ?post)
    case fin =>
      rintro c st' ⟨rfl, lo, hi, rfl, a1, a2, a3, a4, a5⟩
      have : lo = hi := by omega
      subst this
      exact ⟨rfl, lo, rfl, a2, a4, a5⟩
    case post =>
      rintro c st' ⟨rfl, hi, rfl, a2, a4, a5⟩
      rw [hg]
      exact wpS_pure (h hi a2 a4 a5)
    case step =>
      rintro x c st' _ hx ⟨rfl, lo, hi, rfl, a1, a2, a3, a4, a5⟩
      refine hf x lo hi a1 a2 (fun q => ?_) (fun m m1 m2 mb => ?_) (fun m m1 m2 mb => ?_)
      · have : lo = hi := by omega
        subst this
        exact ⟨rfl, lo, rfl, a2, a4, a5⟩
      · exact ⟨rfl, m + 1, hi, rfl, by omega, a2, by omega, fun i hi' => anti i m (by omega) (by omega) mb, a5⟩
      · exact ⟨rfl, lo, m, rfl, m1, by omega, by omega, a4, fun i i1 i2 => anti' m i i1 i2 mb⟩
  have body : ∀ (x : Nat) lo hi, lo ≤ hi → hi ≤ n → ∀ {R : ForInStep (Option (Option Nat) × Nat × Nat) → SortSt → Prop}, (lo ≥ hi → R (.done (none, lo, hi)) st) → (∀ m, lo ≤ m → m < hi → bey O ky left key (el m) = true → R (.yield (none, m + 1, hi)) st) → (∀ m, lo ≤ m → m < hi → bey O ky left key (el m) = false → R (.yield (none, lo, m)) st) →
      wpS (model prog w) A E s (if lo ≥ hi then pure (ForInStep.done ((none : Option (Option Nat)), lo, hi)) else do
        let r ← (do
          let x ← elem' arr (base + (lo + (hi - lo) / 2))
          if left = true then lt' x key else do
            let r ← lt' key x
            pure (Option.map (fun x => !x) r))
        match r with
          | some more => if more = true then pure (ForInStep.yield (none, lo + (hi - lo) / 2 + 1, hi)) else pure (ForInStep.yield (none, lo, lo + (hi - lo) / 2))
          | x => pure (ForInStep.done (some none, lo, hi))) R st := by
    intro x lo hi h1 h2 R r1 r2 r3
    by_cases hge : lo ≥ hi
    · rw [if_pos hge]; exact wpS_pure (r1 hge)
    · rw [if_neg hge]
      refine wpS_bind (ask _ (by omega) ?_)
      dsimp only
      cases e : bey O ky left key (el (lo + (hi - lo) / 2)) with
      | true => rw [if_pos rfl]; exact wpS_pure (r2 _ (by omega) (by omega) e)
      | false => rw [if_neg Bool.false_ne_true]; exact wpS_pure (r3 _ (by omega) (by omega) e)
  dsimp only
  cases e0 : bey O ky left key (el hint) with
  | true =>
    rw [if_pos rfl]
    refine wpS_bind (wpS_mono (wpS_forRange (I := fun x c st' => st' = st ∧ ∃ la of_, c = (none, la, of_) ∧ la < of_ ∧ hint + la < n ∧ x + 1 ≤ of_ ∧ bey O ky left key (el (hint + la)) = true)
      (Q := fun c st' => st' = st ∧ ∃ la of_, c = (none, la, of_) ∧ la < of_ ∧ hint + la < n ∧ bey O ky left key (el (hint + la)) = true ∧ (n - hint ≤ of_ ∨ (hint + of_ < n ∧ bey O ky left key (el (hint + of_)) = false))) ?step ?fin ⟨rfl, 0, 1, rfl, by omega, by omega, by omega, e0⟩) ?post)
    case fin =>
      rintro c st' ⟨rfl, la, of_, rfl, a1, a2, a3, a4⟩
      exact ⟨rfl, la, of_, rfl, a1, a2, a4, .inl (by omega)⟩
    case step =>
      rintro x c st' _ hx ⟨rfl, la, of_, rfl, a1, a2, a3, a4⟩
      dsimp only
      by_cases hge : of_ ≥ n - hint
      · rw [if_pos hge]; exact wpS_pure ⟨rfl, la, of_, rfl, a1, a2, a4, .inl hge⟩
      · rw [if_neg hge]
        refine wpS_bind (ask (hint + of_) (by omega) ?_)
        dsimp only
        cases e : bey O ky left key (el (hint + of_)) with
        | true =>
          rw [if_neg (by decide)]
          exact wpS_pure ⟨rfl, of_, 2 * of_ + 1, rfl, by omega, by omega, by omega, e⟩
        | false =>
          rw [if_pos (by decide)]
          exact wpS_pure ⟨rfl, la, of_, rfl, a1, a2, a4, .inr ⟨by omega, e⟩⟩
    case post =>
      rintro c st' ⟨rfl, la, of_, rfl, a1, a2, a4, a5⟩
      dsimp only
      refine fin (hint + la + 1) (hint + min of_ (n - hint)) (by omega) (by omega) (fun i hi => anti i (hint + la) (by omega) a2 a4) (fun i i1 i2 => ?_) (body) (fun lo hi => rfl)
      rcases a5 with a5 | ⟨a5, a6⟩
      · omega
      · exact anti' (hint + of_) i (by omega) i2 a6
  | false =>
    rw [if_neg Bool.false_ne_true]
    refine wpS_bind (wpS_mono (wpS_forRange (I := fun x c st' => st' = st ∧ ∃ la of_, c = (none, la, of_) ∧ la < of_ ∧ la ≤ hint ∧ x + 1 ≤ of_ ∧ bey O ky left key (el (hint - la)) = false)
      (Q := fun c st' => st' = st ∧ ∃ la of_, c = (none, la, of_) ∧ la < of_ ∧ la ≤ hint ∧ bey O ky left key (el (hint - la)) = false ∧ (hint + 1 ≤ of_ ∨ (of_ ≤ hint ∧ bey O ky left key (el (hint - of_)) = true))) ?step ?fin ⟨rfl, 0, 1, rfl, by omega, by omega, by omega, e0⟩) ?post)
    case fin =>
      rintro c st' ⟨rfl, la, of_, rfl, a1, a2, a3, a4⟩
      exact ⟨rfl, la, of_, rfl, a1, a2, a4, .inl (by omega)⟩
    case step =>
      rintro x c st' _ hx ⟨rfl, la, of_, rfl, a1, a2, a3, a4⟩
      dsimp only
      by_cases hge : of_ ≥ hint + 1
      · rw [if_pos hge]; exact wpS_pure ⟨rfl, la, of_, rfl, a1, a2, a4, .inl hge⟩
      · rw [if_neg hge]
        refine wpS_bind (ask (hint - of_) (by omega) ?_)
        dsimp only
        cases e : bey O ky left key (el (hint - of_)) with
        | true =>
          rw [if_pos rfl]
          exact wpS_pure ⟨rfl, la, of_, rfl, a1, a2, a4, .inr ⟨by omega, e⟩⟩
        | false =>
          rw [if_neg Bool.false_ne_true]
          exact wpS_pure ⟨rfl, of_, 2 * of_ + 1, rfl, by omega, by omega, by omega, e⟩
    case post =>
      rintro c st' ⟨rfl, la, of_, rfl, a1, a2, a4, a5⟩
      dsimp only
      refine fin (hint + 1 - min of_ (hint + 1)) (hint - la) (by omega) (by omega) (fun i hi => ?_) (fun i i1 i2 => anti' (hint - la) i (by omega) i2 a4) (body) (fun lo hi => rfl)
      rcases a5 with a5 | ⟨a5, a6⟩
      · omega
      · exact anti i (hint - of_) (by omega) (by omega) a6
end
end TS
set_option linter.all false
namespace TS
open PySem PyProof.Rows
section
variable (O : KeyOrd) (ky : Keyed → O.α)
def R (p q : Keyed) : Prop := O.kle (ky p) (ky q)
def Srt (l : List Keyed) : Prop := l.Pairwise (R O ky)
structure MI (a b out : Array Keyed) (ia ib : Nat) : Prop where
  ha : ia ≤ a.size
  hb : ib ≤ b.size
  perm : out.toList.Perm (a.toList.take ia ++ b.toList.take ib)
  srt : Srt O ky out.toList
  ra : ∀ x ∈ out.toList, ∀ y ∈ a.toList.drop ia, R O ky x y
  rb : ∀ x ∈ out.toList, ∀ y ∈ b.toList.drop ib, R O ky x y
def Good (a b o : Array Keyed) : Prop := o.toList.Perm (a.toList ++ b.toList) ∧ Srt O ky o.toList
variable {O ky} {a b out o : Array Keyed} {ia ib : Nat}
theorem drop_srt {l : List Keyed} (h : Srt O ky l) (k : Nat) : Srt O ky (l.drop k) := List.Pairwise.sublist (List.drop_sublist k l) h
theorem take_srt {l : List Keyed} (h : Srt O ky l) (k : Nat) : Srt O ky (l.take k) := List.Pairwise.sublist (List.take_sublist k l) h
theorem split_srt {l : List Keyed} (h : Srt O ky l) (k : Nat) : ∀ x ∈ l.take k, ∀ y ∈ l.drop k, R O ky x y := by
  have e := (List.take_append_drop k l).symm
  unfold Srt at h
  rw [e, List.pairwise_append] at h
  exact h.2.2
theorem mem_drop_le {l : List Keyed} {i j : Nat} (h : i ≤ j) {x : Keyed} (hx : x ∈ l.drop j) : x ∈ l.drop i := by
  rw [show j = i + (j - i) by omega, ← List.drop_drop] at hx
  exact List.mem_of_mem_drop hx
theorem mem_take_le {l : List Keyed} {i j : Nat} (h : i ≤ j) {x : Keyed} (hx : x ∈ l.take i) : x ∈ l.take j := by
  rw [show i = min i j by omega, ← List.take_take] at hx
  exact List.mem_of_mem_take hx
theorem MI.addA (h : MI O ky a b out ia ib) (sa : Srt O ky a.toList) {k : Nat} (hk : ia + k ≤ a.size) (hx : ∀ x ∈ (a.toList.drop ia).take k, ∀ y ∈ b.toList.drop ib, R O ky x y) (ho : o.toList = out.toList ++ (a.toList.drop ia).take k) : MI O ky a b o (ia + k) ib := by
  refine ⟨hk, h.hb, ?_, ?_, fun x hm y hy => ?_, fun x hm y hy => ?_⟩
  · rw [ho, List.take_add, List.append_assoc]
    refine (h.perm.append_right _).trans ?_
    rw [List.append_assoc]
    exact List.Perm.append_left _ List.perm_append_comm
  · unfold Srt
    rw [ho, List.pairwise_append]
    exact ⟨h.srt, take_srt (drop_srt sa _) _, fun x hx' y hy => h.ra x hx' y (List.mem_of_mem_take hy)⟩
  · rw [ho] at hm
    rcases List.mem_append.mp hm with hm | hm
    · exact h.ra x hm y (mem_drop_le (by omega) hy)
    · rw [← List.drop_drop] at hy
      exact split_srt (drop_srt sa ia) k x hm y hy
  · rw [ho] at hm
    rcases List.mem_append.mp hm with hm | hm
    · exact h.rb x hm y hy
    · exact hx x hm y hy
theorem MI.swap (h : MI O ky a b out ia ib) : MI O ky b a out ib ia := ⟨h.hb, h.ha, h.perm.trans List.perm_append_comm, h.srt, h.rb, h.ra⟩
theorem MI.addB (h : MI O ky a b out ia ib) (sb : Srt O ky b.toList) {k : Nat} (hk : ib + k ≤ b.size) (hx : ∀ x ∈ (b.toList.drop ib).take k, ∀ y ∈ a.toList.drop ia, R O ky x y) (ho : o.toList = out.toList ++ (b.toList.drop ib).take k) : MI O ky a b o ia (ib + k) := (h.swap.addA sb hk hx ho).swap
theorem ext_all (x : Array Keyed) (i : Nat) : (x.extract i x.size).toList = x.toList.drop i := by simp [List.extract, List.take_of_length_le]
theorem ext_some (x : Array Keyed) (i k : Nat) : (x.extract i (i + k)).toList = (x.toList.drop i).take k := by simp [List.extract]
theorem MI.done (h : MI O ky a b out ia ib) (sa : Srt O ky a.toList) (sb : Srt O ky b.toList) (hor : ia = a.size ∨ ib = b.size) : Good O ky a b (out ++ a.extract ia a.size ++ b.extract ib b.size) := by
  unfold Good Srt
  rw [Array.toList_append, Array.toList_append, ext_all, ext_all]
  refine ⟨?_, ?_⟩
  · have e1 := List.take_append_drop ia a.toList
    have e2 := List.take_append_drop ib b.toList
    conv => rhs; rw [← e1, ← e2]
    rw [List.append_assoc]
    refine (h.perm.append_right _).trans ?_
    rw [List.append_assoc, List.append_assoc]
    refine List.Perm.append_left _ ?_
    rw [← List.append_assoc, ← List.append_assoc]
    exact List.perm_append_comm.append_right _
  · rw [List.pairwise_append, List.pairwise_append]
    refine ⟨⟨h.srt, drop_srt sa _, h.ra⟩, drop_srt sb _, fun x hx y hy => ?_⟩
    rcases List.mem_append.mp hx with hx | hx
    · exact h.rb x hx y hy
    · rcases hor with q | q
      · rw [q, List.drop_of_length_le (by simp)] at hx; cases hx
      · rw [q, List.drop_of_length_le (by simp)] at hy; cases hy
theorem MI.last (h : MI O ky a b out ia ib) (sa : Srt O ky a.toList) (sb : Srt O ky b.toList) (hl : ∀ y ∈ b.toList, ∀ x ∈ a.toList.drop ia, R O ky y x) : Good O ky a b (out ++ b.extract ib b.size ++ a.extract ia a.size) := by
  unfold Good Srt
  rw [Array.toList_append, Array.toList_append, ext_all, ext_all]
  refine ⟨?_, ?_⟩
  · have e1 := List.take_append_drop ia a.toList
    have e2 := List.take_append_drop ib b.toList
    conv => rhs; rw [← e1, ← e2]
    rw [List.append_assoc]
    refine (h.perm.append_right _).trans ?_
    rw [List.append_assoc, List.append_assoc]
    refine List.Perm.append_left _ ?_
    rw [← List.append_assoc]
    exact List.perm_append_comm
  · rw [List.pairwise_append, List.pairwise_append]
    refine ⟨⟨h.srt, drop_srt sb _, h.rb⟩, drop_srt sa _, fun x hx y hy => ?_⟩
    rcases List.mem_append.mp hx with hx | hx
    · exact h.ra x hx y hy
    · exact hl x (List.mem_of_mem_drop hx) y hy
structure MH (O : KeyOrd) (ky : Keyed → O.α) (a b out : Array Keyed) (na nb : Nat) : Prop where
  ha : na ≤ a.size
  hb : nb ≤ b.size
  perm : out.toList.Perm (a.toList.drop na ++ b.toList.drop nb)
  srt : out.toList.Pairwise fun x y => R O ky y x
  ra : ∀ x ∈ out.toList, ∀ y ∈ a.toList.take na, R O ky y x
  rb : ∀ x ∈ out.toList, ∀ y ∈ b.toList.take nb, R O ky y x
theorem MH.swap {na nb : Nat} (h : MH O ky a b out na nb) : MH O ky b a out nb na := ⟨h.hb, h.ha, h.perm.trans List.perm_append_comm, h.srt, h.rb, h.ra⟩
theorem MH.addA {na nb k : Nat} (h : MH O ky a b out na nb) (sa : Srt O ky a.toList) (hk : k ≤ na) (hx : ∀ x ∈ (a.toList.take na).drop k, ∀ y ∈ b.toList.take nb, R O ky y x) (ho : o.toList = out.toList ++ ((a.toList.take na).drop k).reverse) : MH O ky a b o k nb := by
  have hd : a.toList.drop k = (a.toList.take na).drop k ++ a.toList.drop na := by
    conv => lhs; rw [← List.take_append_drop na a.toList]
    rw [List.drop_append_of_le_length (by have := h.ha; rw [List.length_take]; simp; omega)]
  refine ⟨Nat.le_trans hk h.ha, h.hb, ?_, ?_, fun x hm y hy => ?_, fun x hm y hy => ?_⟩
  · rw [ho, hd]
    refine (h.perm.append_right _).trans ?_
    refine (List.perm_append_comm).trans ?_
    rw [← List.append_assoc]
    exact ((List.reverse_perm _).append_right _).append_right _
  · rw [ho, List.pairwise_append]
    refine ⟨h.srt, ?_, fun x hx' y hy => h.ra x hx' y (List.mem_of_mem_drop (List.mem_reverse.mp hy))⟩
    rw [List.pairwise_reverse]
    exact drop_srt (take_srt sa _) _
  · rw [ho] at hm
    rcases List.mem_append.mp hm with hm | hm
    · exact h.ra x hm y (mem_take_le hk hy)
    · have := split_srt (take_srt sa na) k y (by rw [List.take_take, Nat.min_eq_left hk]; exact hy) x (List.mem_reverse.mp hm)
      exact this
  · rw [ho] at hm
    rcases List.mem_append.mp hm with hm | hm
    · exact h.rb x hm y hy
    · exact hx x (List.mem_reverse.mp hm) y hy
theorem MH.addB {na nb k : Nat} (h : MH O ky a b out na nb) (sb : Srt O ky b.toList) (hk : k ≤ nb) (hx : ∀ x ∈ (b.toList.take nb).drop k, ∀ y ∈ a.toList.take na, R O ky y x) (ho : o.toList = out.toList ++ ((b.toList.take nb).drop k).reverse) : MH O ky a b o na k := (h.swap.addA sb hk hx ho).swap
theorem ext0 (x : Array Keyed) (k : Nat) : (x.extract 0 k).toList = x.toList.take k := by simp [List.extract]
theorem ext2 (x : Array Keyed) {i j : Nat} : (x.extract i j).toList = (x.toList.take j).drop i := by
  simp [List.extract]
  rw [List.drop_take]
theorem MH.done {na nb : Nat} (h : MH O ky a b out na nb) (sa : Srt O ky a.toList) (sb : Srt O ky b.toList) (hor : na = 0 ∨ nb = 0) : Good O ky a b (a.extract 0 na ++ b.extract 0 nb ++ out.reverse) := by
  unfold Good Srt
  rw [Array.toList_append, Array.toList_append, ext0, ext0, Array.toList_reverse]
  refine ⟨?_, ?_⟩
  · have e1 := List.take_append_drop na a.toList
    have e2 := List.take_append_drop nb b.toList
    conv => rhs; rw [← e1, ← e2]
    refine (List.Perm.append_left _ ((List.reverse_perm _).trans h.perm)).trans ?_
    rw [List.append_assoc, List.append_assoc]
    refine List.Perm.append_left _ ?_
    rw [← List.append_assoc, ← List.append_assoc]
    exact List.perm_append_comm.append_right _
  · rw [List.pairwise_append, List.pairwise_append, List.pairwise_reverse]
    refine ⟨⟨take_srt sa _, take_srt sb _, fun x hx y hy => ?_⟩, h.srt, fun x hx y hy => ?_⟩
    · rcases hor with q | q
      · rw [q, List.take_zero] at hx; cases hx
      · rw [q, List.take_zero] at hy; cases hy
    · rcases List.mem_append.mp hx with hx | hx
      · exact h.ra y (List.mem_reverse.mp hy) x hx
      · exact h.rb y (List.mem_reverse.mp hy) x hx
theorem MH.first {na nb : Nat} (h : MH O ky a b out na nb) (sa : Srt O ky a.toList) (sb : Srt O ky b.toList) (hl : ∀ x ∈ b.toList.take nb, ∀ y ∈ a.toList, R O ky x y) : Good O ky a b (b.extract 0 nb ++ a.extract 0 na ++ out.reverse) := by
  unfold Good Srt
  rw [Array.toList_append, Array.toList_append, ext0, ext0, Array.toList_reverse]
  refine ⟨?_, ?_⟩
  · have e1 := List.take_append_drop na a.toList
    have e2 := List.take_append_drop nb b.toList
    conv => rhs; rw [← e1, ← e2]
    refine (List.Perm.append_left _ ((List.reverse_perm _).trans h.perm)).trans ?_
    refine (List.perm_append_comm.append_right _).trans ?_
    rw [List.append_assoc, List.append_assoc]
    refine List.Perm.append_left _ ?_
    rw [← List.append_assoc, ← List.append_assoc]
    exact List.perm_append_comm.append_right _
  · rw [List.pairwise_append, List.pairwise_append, List.pairwise_reverse]
    refine ⟨⟨take_srt sb _, take_srt sa _, fun x hx y hy => hl x hx y (List.mem_of_mem_take hy)⟩, h.srt, fun x hx y hy => ?_⟩
    rcases List.mem_append.mp hx with hx | hx
    · exact h.rb y (List.mem_reverse.mp hy) x hx
    · exact h.ra y (List.mem_reverse.mp hy) x hx
end
end TS
set_option linter.all false
namespace TS
open PySem PyProof.Rows
structure SameSt (st st' : SortSt) : Prop where
  kind : kindOf st' = kindOf st
  arr : arrOf st' = arrOf st
  pend : pendingOf st' = pendingOf st
  fail : failedOf st' = failedOf st
theorem SameSt.refl (st : SortSt) : SameSt st st := ⟨rfl, rfl, rfl, rfl⟩
theorem SameSt.trans {a b c : SortSt} (h : SameSt a b) (h' : SameSt b c) : SameSt a c := ⟨h'.kind.trans h.kind, h'.arr.trans h.arr, h'.pend.trans h.pend, h'.fail.trans h.fail⟩
def at_ (a : Array Keyed) (i : Nat) : Keyed := (a[i]?).getD (.none, .none)
theorem at_eq {a : Array Keyed} {i : Nat} (h : i < a.size) : a[i]? = some (at_ a i) := by unfold at_; rw [getElem?_pos a i h]; rfl
theorem at_list {a : Array Keyed} {i : Nat} (h : i < a.size) : a.toList[i]? = some (at_ a i) := by rw [← at_eq h]; simp
theorem at_mem {a : Array Keyed} {i : Nat} (h : i < a.size) : at_ a i ∈ a.toList := List.mem_of_getElem? (at_list h)
theorem at_cons {a : Array Keyed} {i : Nat} (h : i < a.size) : a.toList.drop i = at_ a i :: a.toList.drop (i + 1) := by
  have e := at_list h
  obtain ⟨hl, e2⟩ := List.getElem?_eq_some_iff.mp e
  rw [List.drop_eq_getElem_cons hl, e2]
theorem at_one {a : Array Keyed} {i : Nat} (h : i < a.size) : (a.toList.drop i).take 1 = [at_ a i] := by rw [at_cons h]; rfl
section
variable {O : KeyOrd} {ky : Keyed → O.α}
theorem at_le {a : Array Keyed} (sa : Srt O ky a.toList) {i : Nat} (h : i < a.size) : ∀ y ∈ a.toList.drop i, R O ky (at_ a i) y := by
  intro y hy
  have s := drop_srt sa i
  rw [at_cons h] at hy s
  rcases List.mem_cons.mp hy with e | hy
  · rw [e]; exact KeyOrd.kle_refl _
  · exact (List.pairwise_cons.mp s).1 y hy
theorem at_ij {a : Array Keyed} (sa : Srt O ky a.toList) {i j : Nat} (hij : i ≤ j) (h : j < a.size) : R O ky (at_ a i) (at_ a j) := at_le sa (by omega) _ (by
  have : at_ a j ∈ a.toList.drop j := by rw [at_cons h]; exact List.mem_cons_self
  exact mem_drop_le hij this)
theorem mem_at {a : Array Keyed} {i k : Nat} {x : Keyed} (hx : x ∈ (a.toList.drop i).take k) : ∃ j, j < k ∧ i + j < a.size ∧ x = at_ a (i + j) := by
  obtain ⟨j, hj, e⟩ := List.getElem_of_mem hx
  rw [List.length_take, List.length_drop] at hj
  have hl : i + j < a.size := by simp at hj; omega
  refine ⟨j, by omega, hl, ?_⟩
  have e2 : ((a.toList.drop i).take k)[j]? = some x := by rw [← e]; exact List.getElem?_eq_getElem _
  rw [List.getElem?_take, if_pos (by omega), List.getElem?_drop, at_list hl] at e2
  exact (Option.some.inj e2).symm
end
section
variable {prog : Program} {w : World} {A : Around} {E : Value → Shared → Prop} {s : Shared}
variable {kd : SortKind} {O : KeyOrd} {ky : Keyed → O.α} {S : Keyed → Prop}
theorem wpS_gal (C : Cmp prog w A s kd O ky S) {st : SortSt} {left : Bool} {key : Keyed} {arr : Array Keyed} {base n hint : Nat} {Q : Option Nat → SortSt → Prop} (hk : kindOf st = kd) (hs : S key) (hS : ∀ p ∈ arr.toList, S p) (sr : ∀ i j, i ≤ j → j < n → R O ky (at_ arr (base + i)) (at_ arr (base + j))) (hn : base + n ≤ arr.size) (hh : hint < n)
    (h : ∀ k, k ≤ n → (∀ i, i < k → if left then O.klt (ky (at_ arr (base + i))) (ky key) else R O ky (at_ arr (base + i)) key) → (∀ i, k ≤ i → i < n → if left then R O ky key (at_ arr (base + i)) else O.klt (ky key) (ky (at_ arr (base + i)))) → Q (some k) st) :
    wpS (model prog w) A E s (gallop' left key arr base n hint) Q st := by
  refine wpS_gallop C hk hs (el := fun i => at_ arr (base + i)) (fun i hi => ⟨at_eq (by omega), hS _ (at_mem (by omega))⟩) (fun i j hij hj hb => ?_) hh (fun k hkn h1 h2 => h k hkn (fun i hi => ?_) (fun i hi hin => ?_))
  · have r := sr i j hij hj
    unfold bey at hb ⊢
    cases left with
    | true =>
      rw [if_pos rfl] at hb ⊢
      exact KeyOrd.klt_of_kle_of_klt r hb
    | false =>
      rw [if_neg Bool.false_ne_true] at hb ⊢
      have hb' : O.blt (ky key) (ky (at_ arr (base + j))) = false := by simpa using hb
      have : O.kle (ky (at_ arr (base + i))) (ky key) := KeyOrd.kle_trans r hb'
      unfold KeyOrd.kle at this
      rw [this]; rfl
  · have := h1 i hi
    unfold bey at this
    cases left with
    | true =>
      rw [if_pos rfl] at this ⊢
      exact this
    | false =>
      rw [if_neg Bool.false_ne_true] at this ⊢
      have hb' : O.blt (ky key) (ky (at_ arr (base + i))) = false := by simpa using this
      exact hb'
  · have := h2 i hi hin
    unfold bey at this
    cases left with
    | true =>
      rw [if_pos rfl] at this ⊢
      exact this
    | false =>
      rw [if_neg Bool.false_ne_true] at this ⊢
      have hb' : O.blt (ky key) (ky (at_ arr (base + i))) = true := by simpa using this
      exact hb'
theorem wpS_mergeLo (C : Cmp prog w A s kd O ky S) {st : SortSt} {a b : Array Keyed} {Q : Array Keyed → SortSt → Prop} (hk : kindOf st = kd) (hSa : ∀ p ∈ a.toList, S p) (hSb : ∀ p ∈ b.toList, S p) (sa : Srt O ky a.toList) (sb : Srt O ky b.toList) (na : 1 ≤ a.size) (nb : 1 ≤ b.size)
    (h0 : ∀ y ∈ a.toList, R O ky (at_ b 0) y) (hl : ∀ y ∈ b.toList, R O ky y (at_ a (a.size - 1))) (h : ∀ o st', Good O ky a b o → SameSt st st' → Q o st') : wpS (model prog w) A E s (mergeLo' a b) Q st := by
  have lst : ∀ {ia}, ia + 1 = a.size → ∀ y ∈ b.toList, ∀ x ∈ a.toList.drop ia, R O ky y x := fun {ia} e y hy x hx => by
    rw [at_cons (by omega), List.drop_of_length_le (by simp; omega)] at hx
    have : x = at_ a ia := by simpa using hx
    rw [this, show ia = a.size - 1 by omega]
    exact hl y hy
  unfold mergeLo'
  refine wpS_bind (wpS_lift (wpAny_rule ⟨rfl, ?_⟩))
  dsimp only
  refine wpS_bind (wpS_elem (at_eq (by omega)) ?_)
  have m0 : MI O ky a b #[at_ b 0] 0 1 := by
    have z : MI O ky a b #[] 0 0 := ⟨by omega, by omega, by simp, List.Pairwise.nil, fun x hx => by simp at hx, fun x hx => by simp at hx⟩
    have := z.addB sb (k := 1) (o := #[at_ b 0]) (by omega) (fun x hx y hy => ?_) (by rw [at_one (by omega)]; rfl)
    · exact this
    · rw [at_one (by omega)] at hx
      have : x = at_ b 0 := by simpa using hx
      rw [this]; exact h0 y hy
  by_cases e1 : (1 == b.size) = true
  · rw [if_pos e1]
    exact wpS_pure (h _ _ (m0.done sa sb (.inr (by simpa using e1))) (SameSt.refl _))
  rw [if_neg e1]
  have e1' : ¬ 1 = b.size := by simpa using e1
  by_cases e2 : (0 + 1 == a.size) = true
  · rw [if_pos e2]
    exact wpS_pure (h _ _ (m0.last sa sb (lst (by simpa using e2))) (SameSt.refl _))
  rw [if_neg e2]
  have e2' : ¬ 0 + 1 = a.size := by simpa using e2
  refine wpS_bind (wpS_get ?_)
  refine wpS_bind (wpS_mono (wpS_forRange
    (I := fun x c st' => SameSt st st' ∧ c.1 = none ∧ MI O ky a b c.2.1 c.2.2.1 c.2.2.2.1 ∧ c.2.2.1 + 1 < a.size ∧ c.2.2.2.1 < b.size ∧ x + 1 ≤ c.2.2.1 + c.2.2.2.1)
    (Q := fun c st' => SameSt st st' ∧ ∃ r, c.1 = some r ∧ Good O ky a b r) ?step ?fin ⟨SameSt.refl _, rfl, m0, by dsimp only; omega, by dsimp only; omega, by dsimp only; omega⟩) ?post)
  case fin =>
    rintro c st' ⟨_, _, m, c1, c2, c3⟩
    omega
  case post =>
    rintro ⟨r, out, ia, ib, mg⟩ st' ⟨ss, r', hr, g⟩
    dsimp only at hr ⊢
    subst hr
    exact wpS_pure (h _ _ g ss)
  case step =>
    rintro x ⟨r, out, ia, ib, mg⟩ st1 _ hx ⟨ss, hr, m, c1, c2, c3⟩
    dsimp only at hr m c1 c2 c3 ⊢
    subst hr
    -- one by one
    refine wpS_bind (wpS_mono (wpS_forRange
      (I := fun y c st' => st' = st1 ∧ c.1 = none ∧ MI O ky a b c.2.1 c.2.2.1 c.2.2.2.1 ∧ c.2.2.1 + 1 < a.size ∧ c.2.2.2.1 < b.size ∧ ia + ib + y ≤ c.2.2.1 + c.2.2.2.1)
      (Q := fun c st' => st' = st1 ∧ ((∃ r, c.1 = some r ∧ Good O ky a b r) ∨ (c.1 = none ∧ MI O ky a b c.2.1 c.2.2.1 c.2.2.2.1 ∧ c.2.2.1 + 1 < a.size ∧ c.2.2.2.1 < b.size ∧ ia + ib + 1 ≤ c.2.2.1 + c.2.2.2.1))) ?step1 ?fin1 ⟨rfl, rfl, m, c1, c2, by dsimp only; omega⟩) ?post1)
    case fin1 =>
      rintro c st' ⟨_, _, m, c1, c2, c3⟩
      omega
    case step1 =>
      rintro y ⟨r, out, ia', ib', ac, bc⟩ st' _ hy ⟨rfl, hr, m, c1, c2, c3⟩
      dsimp only at hr m c1 c2 c3 ⊢
      subst hr
      have ka : kindOf st' = kd := ss.kind.trans hk
      refine wpS_bind (wpS_elem (at_eq c2) (wpS_bind (wpS_elem (at_eq (by omega)) (wpS_bind (wpS_lt C ka (hSb _ (at_mem c2)) (hSa _ (at_mem (by omega))) ?_)))))
      dsimp only
      cases hw : O.blt (ky (at_ b ib')) (ky (at_ a ia')) with
      | true =>
        rw [if_pos rfl]
        have m1 : MI O ky a b (out.push (at_ b ib')) ia' (ib' + 1) := m.addB sb (k := 1) (by omega) (fun x hx y hy => by
          rw [at_one c2] at hx
          have : x = at_ b ib' := by simpa using hx
          rw [this]
          exact KeyOrd.kle_trans (KeyOrd.kle_of_klt hw) (at_le sa (by omega) y hy)) (by rw [at_one c2]; simp)
        refine wpS_bind (wpS_elem (at_eq c2) ?_)
        split
        · rename_i q
          exact wpS_pure ⟨rfl, .inl ⟨_, rfl, m1.done sa sb (.inr (by simpa using q))⟩⟩
        · rename_i q
          have q' : ¬ ib' + 1 = b.size := by simpa using q
          split
          · exact wpS_pure ⟨rfl, .inr ⟨rfl, m1, c1, by dsimp only; omega, by dsimp only; omega⟩⟩
          · exact wpS_pure ⟨rfl, rfl, m1, c1, by dsimp only; omega, by dsimp only; omega⟩
      | false =>
        rw [if_neg Bool.false_ne_true]
        have m1 : MI O ky a b (out.push (at_ a ia')) (ia' + 1) ib' := m.addA sa (k := 1) (by omega) (fun x hx y hy => by
          rw [at_one (by omega)] at hx
          have : x = at_ a ia' := by simpa using hx
          rw [this]
          exact KeyOrd.kle_trans hw (at_le sb c2 y hy)) (by rw [at_one (by omega)]; simp)
        refine wpS_bind (wpS_elem (at_eq (by omega)) ?_)
        split
        · rename_i q
          exact wpS_pure ⟨rfl, .inl ⟨_, rfl, m1.last sa sb (lst (by simpa using q))⟩⟩
        · rename_i q
          have q' : ¬ ia' + 1 + 1 = a.size := by simpa using q
          split
          · exact wpS_pure ⟨rfl, .inr ⟨rfl, m1, by dsimp only; omega, c2, by dsimp only; omega⟩⟩
          · exact wpS_pure ⟨rfl, rfl, m1, by dsimp only; omega, c2, by dsimp only; omega⟩
    case post1 =>
      rintro ⟨r, out, ia1, ib1, ac, bc⟩ st' ⟨rfl, hc⟩
      dsimp only at hc ⊢
      rcases hc with ⟨r, rfl, g⟩ | ⟨rfl, m, c1', c2', c3'⟩
      · exact wpS_pure ⟨ss, r, rfl, g⟩
      dsimp only
      refine wpS_bind (wpS_lift (wpAny_rule ⟨rfl, ?_⟩))
      refine wpS_bind (wpS_mono (wpS_forRange
        (I := fun y c st' => SameSt st st' ∧ c.1 = none ∧ MI O ky a b c.2.1 c.2.2.1 c.2.2.2.1 ∧ c.2.2.1 + 1 < a.size ∧ c.2.2.2.1 < b.size ∧ ia + ib + 1 ≤ c.2.2.1 + c.2.2.2.1)
        (Q := fun c st' => SameSt st st' ∧ ((∃ r, c.1 = some r ∧ Good O ky a b r) ∨ (c.1 = none ∧ MI O ky a b c.2.1 c.2.2.1 c.2.2.2.1 ∧ c.2.2.1 + 1 < a.size ∧ c.2.2.2.1 < b.size ∧ ia + ib + 1 ≤ c.2.2.1 + c.2.2.2.1))) ?step2 ?fin2 ⟨ss, rfl, m, c1', c2', by dsimp only; omega⟩) ?post2)
      case fin2 =>
        rintro c st' ⟨s', h1, h2, h3, h4, h5⟩
        exact ⟨s', .inr ⟨h1, h2, h3, h4, h5⟩⟩
      case post2 =>
        rintro ⟨r, out, ia2, ib2, mg2, ac2, bc2⟩ st2 ⟨s2, hc⟩
        dsimp only at hc ⊢
        rcases hc with ⟨r, rfl, g⟩ | ⟨rfl, m, d1, d2, d3⟩
        · exact wpS_pure ⟨s2, r, rfl, g⟩
        dsimp only
        refine wpS_bind (wpS_modify (wpS_pure ⟨⟨s2.kind, s2.arr, s2.pend, s2.fail⟩, rfl, m, d1, d2, by dsimp only; omega⟩))
      case step2 =>
        rintro y ⟨r, out, ia', ib', mg', ac', bc'⟩ st2 _ hy ⟨s2, hr, m, c1, c2, c3⟩
        dsimp only at hr m c1 c2 c3 ⊢
        subst hr
        -- behind the gallop in a
        have T2 : ∀ {out : Array Keyed} {ia2 ib2 : Nat}, MI O ky a b out ia2 ib2 → ia2 + 1 < a.size → ib2 < b.size → ia + ib + 1 ≤ ia2 + ib2 → (∀ y ∈ b.toList.drop ib2, R O ky (at_ a ia2) y) → MI O ky a b (out.push (at_ a ia2)) (ia2 + 1) ib2 := fun {out ia2 ib2} m i1 i2 i3 hle => m.addA sa (k := 1) (by omega) (fun x hx y hy => by
            rw [at_one (by omega)] at hx
            have : x = at_ a ia2 := by simpa using hx
            rw [this]; exact hle y hy) (by rw [at_one (by omega)]; simp)
        have T1 : ∀ {out : Array Keyed} {ia2 ib2 : Nat}, MI O ky a b out ia2 ib2 → ib2 < b.size → (∀ y ∈ a.toList.drop ia2, R O ky (at_ b ib2) y) → MI O ky a b (out.push (at_ b ib2)) ia2 (ib2 + 1) := fun {out ia2 ib2} m i2 hle => m.addB sb (k := 1) (by omega) (fun x hx y hy => by
            rw [at_one (by omega)] at hx
            have : x = at_ b ib2 := by simpa using hx
            rw [this]; exact hle y hy) (by rw [at_one (by omega)]; simp)
        by_cases hmg : mg' > 1
        · rw [if_pos hmg]
          refine wpS_bind (wpS_modify ?_)
          refine wpS_bind (wpS_elem (at_eq c2) ?_)
          refine wpS_bind (wpS_gal C (s2.kind.trans hk) (hSb _ (at_mem c2)) hSa (fun i j hij hj => at_ij sa (by omega) (by omega)) (by omega) (by omega) fun k hkn k1 k2 => ?_)
          dsimp only
          simp only [Bool.false_eq_true, if_false] at k1 k2
          have hle : ∀ y ∈ a.toList.drop (ia' + k), R O ky (at_ b ib') y := fun y hy => by
            by_cases hlt : ia' + k < a.size
            · exact KeyOrd.kle_trans (KeyOrd.kle_of_klt (k2 k (Nat.le_refl _) (by omega))) (at_le sa hlt y hy)
            · rw [List.drop_of_length_le (by simp; omega)] at hy; cases hy
          have mA : MI O ky a b (out ++ a.extract ia' (ia' + k)) (ia' + k) ib' := m.addA sa (by omega) (fun x hx y hy => by
            obtain ⟨j, j1, j2, rfl⟩ := mem_at hx
            exact KeyOrd.kle_trans (k1 j j1) (at_le sb c2 y hy)) (by rw [Array.toList_append, ext_some])
          by_cases hk0 : k > 0
          · rw [if_pos hk0]
            by_cases p1 : (ia' + k + 1 == a.size) = true
            · rw [if_pos p1]
              exact wpS_pure ⟨⟨s2.kind, s2.arr, s2.pend, s2.fail⟩, .inl ⟨_, rfl, mA.last sa sb (lst (by simpa using p1))⟩⟩
            rw [if_neg p1]
            by_cases p2 : (ia' + k == a.size) = true
            · rw [if_pos p2]
              exact wpS_pure ⟨⟨s2.kind, s2.arr, s2.pend, s2.fail⟩, .inl ⟨_, rfl, mA.done sa sb (.inl (by simpa using p2))⟩⟩
            rw [if_neg p2]
            have p1' : ¬ ia' + k + 1 = a.size := by simpa using p1
            have p2' : ¬ ia' + k = a.size := by simpa using p2
            refine wpS_bind (wpS_elem (at_eq c2) ?_)
            have m1 := T1 mA c2 hle
            by_cases q1 : (ib' + 1 == b.size) = true
            · rw [if_pos q1]
              exact wpS_pure ⟨⟨s2.kind, s2.arr, s2.pend, s2.fail⟩, .inl ⟨_, rfl, m1.done sa sb (.inr (by simpa using q1))⟩⟩
            rw [if_neg q1]
            have q1' : ¬ ib' + 1 = b.size := by simpa using q1
            refine wpS_bind (wpS_elem (at_eq (by omega)) ?_)
            refine wpS_bind (wpS_gal C (s2.kind.trans hk) (hSa _ (at_mem (by omega))) hSb (fun i j hij hj => at_ij sb (by omega) (by omega)) (by omega) (by omega) fun k' hkn' k1' k2' => ?_)
            dsimp only
            simp only [if_true] at k1' k2'
            have hle2 : ∀ y ∈ b.toList.drop (ib' + 1 + k'), R O ky (at_ a (ia' + k)) y := fun y hy => by
              by_cases hlt : ib' + 1 + k' < b.size
              · exact KeyOrd.kle_trans (k2' k' (Nat.le_refl _) (by omega)) (at_le sb hlt y hy)
              · rw [List.drop_of_length_le (by simp; omega)] at hy; cases hy
            have mB := m1.addB sb (k := k') (o := (out ++ a.extract ia' (ia' + k)).push (at_ b ib') ++ b.extract (ib' + 1) (ib' + 1 + k')) (by omega) (fun x hx y hy => by
              obtain ⟨j, j1, j2, rfl⟩ := mem_at hx
              exact KeyOrd.kle_trans (KeyOrd.kle_of_klt (k1' j j1)) (at_le sa (by omega) y hy)) (by rw [Array.toList_append, ext_some])
            by_cases hk1 : k' > 0
            · rw [if_pos hk1]
              by_cases q2 : (ib' + 1 + k' == b.size) = true
              · rw [if_pos q2]
                exact wpS_pure ⟨⟨s2.kind, s2.arr, s2.pend, s2.fail⟩, .inl ⟨_, rfl, mB.done sa sb (.inr (by simpa using q2))⟩⟩
              rw [if_neg q2]
              have q2' : ¬ ib' + 1 + k' = b.size := by simpa using q2
              refine wpS_bind (wpS_elem (at_eq (by omega)) ?_)
              have m2 := T2 mB (by omega) (by omega) (by omega) hle2
              by_cases q3 : (ia' + k + 1 + 1 == a.size) = true
              · rw [if_pos q3]
                exact wpS_pure ⟨⟨s2.kind, s2.arr, s2.pend, s2.fail⟩, .inl ⟨_, rfl, m2.last sa sb (lst (by simpa using q3))⟩⟩
              rw [if_neg q3]
              have q3' : ¬ ia' + k + 1 + 1 = a.size := by simpa using q3
              by_cases q4 : (decide (k < 7) && decide (k' < 7)) = true
              · rw [if_pos q4]
                exact wpS_pure ⟨⟨s2.kind, s2.arr, s2.pend, s2.fail⟩, .inr ⟨rfl, m2, by dsimp only; omega, by dsimp only; omega, by dsimp only; omega⟩⟩
              · rw [if_neg q4]
                exact wpS_pure ⟨⟨s2.kind, s2.arr, s2.pend, s2.fail⟩, rfl, m2, by dsimp only; omega, by dsimp only; omega, by dsimp only; omega⟩
            · rw [if_neg hk1]
              have hle3 : ∀ y ∈ b.toList.drop (ib' + 1), R O ky (at_ a (ia' + k)) y := by
                have h' := hle2
                rw [show ib' + 1 + k' = ib' + 1 by omega] at h'
                exact h'
              refine wpS_bind (wpS_elem (at_eq (by omega)) ?_)
              have m2 := T2 m1 (by omega) (by omega) (by omega) hle3
              by_cases q3 : (ia' + k + 1 + 1 == a.size) = true
              · rw [if_pos q3]
                exact wpS_pure ⟨⟨s2.kind, s2.arr, s2.pend, s2.fail⟩, .inl ⟨_, rfl, m2.last sa sb (lst (by simpa using q3))⟩⟩
              rw [if_neg q3]
              have q3' : ¬ ia' + k + 1 + 1 = a.size := by simpa using q3
              by_cases q4 : (decide (k < 7) && decide (k' < 7)) = true
              · rw [if_pos q4]
                exact wpS_pure ⟨⟨s2.kind, s2.arr, s2.pend, s2.fail⟩, .inr ⟨rfl, m2, by dsimp only; omega, by dsimp only; omega, by dsimp only; omega⟩⟩
              · rw [if_neg q4]
                exact wpS_pure ⟨⟨s2.kind, s2.arr, s2.pend, s2.fail⟩, rfl, m2, by dsimp only; omega, by dsimp only; omega, by dsimp only; omega⟩
          · rw [if_neg hk0]
            have hle0 : ∀ y ∈ a.toList.drop ia', R O ky (at_ b ib') y := by
              have h' := hle
              rw [show ia' + k = ia' by omega] at h'
              exact h'
            refine wpS_bind (wpS_elem (at_eq c2) ?_)
            have m1 := T1 m c2 hle0
            by_cases q1 : (ib' + 1 == b.size) = true
            · rw [if_pos q1]
              exact wpS_pure ⟨⟨s2.kind, s2.arr, s2.pend, s2.fail⟩, .inl ⟨_, rfl, m1.done sa sb (.inr (by simpa using q1))⟩⟩
            rw [if_neg q1]
            have q1' : ¬ ib' + 1 = b.size := by simpa using q1
            refine wpS_bind (wpS_elem (at_eq (by omega)) ?_)
            refine wpS_bind (wpS_gal C (s2.kind.trans hk) (hSa _ (at_mem (by omega))) hSb (fun i j hij hj => at_ij sb (by omega) (by omega)) (by omega) (by omega) fun k' hkn' k1' k2' => ?_)
            dsimp only
            simp only [if_true] at k1' k2'
            have hle2 : ∀ y ∈ b.toList.drop (ib' + 1 + k'), R O ky (at_ a (ia')) y := fun y hy => by
              by_cases hlt : ib' + 1 + k' < b.size
              · exact KeyOrd.kle_trans (k2' k' (Nat.le_refl _) (by omega)) (at_le sb hlt y hy)
              · rw [List.drop_of_length_le (by simp; omega)] at hy; cases hy
            have mB := m1.addB sb (k := k') (o := out.push (at_ b ib') ++ b.extract (ib' + 1) (ib' + 1 + k')) (by omega) (fun x hx y hy => by
              obtain ⟨j, j1, j2, rfl⟩ := mem_at hx
              exact KeyOrd.kle_trans (KeyOrd.kle_of_klt (k1' j j1)) (at_le sa (by omega) y hy)) (by rw [Array.toList_append, ext_some])
            by_cases hk1 : k' > 0
            · rw [if_pos hk1]
              by_cases q2 : (ib' + 1 + k' == b.size) = true
              · rw [if_pos q2]
                exact wpS_pure ⟨⟨s2.kind, s2.arr, s2.pend, s2.fail⟩, .inl ⟨_, rfl, mB.done sa sb (.inr (by simpa using q2))⟩⟩
              rw [if_neg q2]
              have q2' : ¬ ib' + 1 + k' = b.size := by simpa using q2
              refine wpS_bind (wpS_elem (at_eq (by omega)) ?_)
              have m2 := T2 mB (by omega) (by omega) (by omega) hle2
              by_cases q3 : (ia' + 1 + 1 == a.size) = true
              · rw [if_pos q3]
                exact wpS_pure ⟨⟨s2.kind, s2.arr, s2.pend, s2.fail⟩, .inl ⟨_, rfl, m2.last sa sb (lst (by simpa using q3))⟩⟩
              rw [if_neg q3]
              have q3' : ¬ ia' + 1 + 1 = a.size := by simpa using q3
              by_cases q4 : (decide (k < 7) && decide (k' < 7)) = true
              · rw [if_pos q4]
                exact wpS_pure ⟨⟨s2.kind, s2.arr, s2.pend, s2.fail⟩, .inr ⟨rfl, m2, by dsimp only; omega, by dsimp only; omega, by dsimp only; omega⟩⟩
              · rw [if_neg q4]
                exact wpS_pure ⟨⟨s2.kind, s2.arr, s2.pend, s2.fail⟩, rfl, m2, by dsimp only; omega, by dsimp only; omega, by dsimp only; omega⟩
            · rw [if_neg hk1]
              have hle3 : ∀ y ∈ b.toList.drop (ib' + 1), R O ky (at_ a (ia')) y := by
                have h' := hle2
                rw [show ib' + 1 + k' = ib' + 1 by omega] at h'
                exact h'
              refine wpS_bind (wpS_elem (at_eq (by omega)) ?_)
              have m2 := T2 m1 (by omega) (by omega) (by omega) hle3
              by_cases q3 : (ia' + 1 + 1 == a.size) = true
              · rw [if_pos q3]
                exact wpS_pure ⟨⟨s2.kind, s2.arr, s2.pend, s2.fail⟩, .inl ⟨_, rfl, m2.last sa sb (lst (by simpa using q3))⟩⟩
              rw [if_neg q3]
              have q3' : ¬ ia' + 1 + 1 = a.size := by simpa using q3
              by_cases q4 : (decide (k < 7) && decide (k' < 7)) = true
              · rw [if_pos q4]
                exact wpS_pure ⟨⟨s2.kind, s2.arr, s2.pend, s2.fail⟩, .inr ⟨rfl, m2, by dsimp only; omega, by dsimp only; omega, by dsimp only; omega⟩⟩
              · rw [if_neg q4]
                exact wpS_pure ⟨⟨s2.kind, s2.arr, s2.pend, s2.fail⟩, rfl, m2, by dsimp only; omega, by dsimp only; omega, by dsimp only; omega⟩
        · rw [if_neg hmg]
          refine wpS_bind (wpS_modify ?_)
          refine wpS_bind (wpS_elem (at_eq c2) ?_)
          refine wpS_bind (wpS_gal C (s2.kind.trans hk) (hSb _ (at_mem c2)) hSa (fun i j hij hj => at_ij sa (by omega) (by omega)) (by omega) (by omega) fun k hkn k1 k2 => ?_)
          dsimp only
          simp only [Bool.false_eq_true, if_false] at k1 k2
          have hle : ∀ y ∈ a.toList.drop (ia' + k), R O ky (at_ b ib') y := fun y hy => by
            by_cases hlt : ia' + k < a.size
            · exact KeyOrd.kle_trans (KeyOrd.kle_of_klt (k2 k (Nat.le_refl _) (by omega))) (at_le sa hlt y hy)
            · rw [List.drop_of_length_le (by simp; omega)] at hy; cases hy
          have mA : MI O ky a b (out ++ a.extract ia' (ia' + k)) (ia' + k) ib' := m.addA sa (by omega) (fun x hx y hy => by
            obtain ⟨j, j1, j2, rfl⟩ := mem_at hx
            exact KeyOrd.kle_trans (k1 j j1) (at_le sb c2 y hy)) (by rw [Array.toList_append, ext_some])
          by_cases hk0 : k > 0
          · rw [if_pos hk0]
            by_cases p1 : (ia' + k + 1 == a.size) = true
            · rw [if_pos p1]
              exact wpS_pure ⟨⟨s2.kind, s2.arr, s2.pend, s2.fail⟩, .inl ⟨_, rfl, mA.last sa sb (lst (by simpa using p1))⟩⟩
            rw [if_neg p1]
            by_cases p2 : (ia' + k == a.size) = true
            · rw [if_pos p2]
              exact wpS_pure ⟨⟨s2.kind, s2.arr, s2.pend, s2.fail⟩, .inl ⟨_, rfl, mA.done sa sb (.inl (by simpa using p2))⟩⟩
            rw [if_neg p2]
            have p1' : ¬ ia' + k + 1 = a.size := by simpa using p1
            have p2' : ¬ ia' + k = a.size := by simpa using p2
            refine wpS_bind (wpS_elem (at_eq c2) ?_)
            have m1 := T1 mA c2 hle
            by_cases q1 : (ib' + 1 == b.size) = true
            · rw [if_pos q1]
              exact wpS_pure ⟨⟨s2.kind, s2.arr, s2.pend, s2.fail⟩, .inl ⟨_, rfl, m1.done sa sb (.inr (by simpa using q1))⟩⟩
            rw [if_neg q1]
            have q1' : ¬ ib' + 1 = b.size := by simpa using q1
            refine wpS_bind (wpS_elem (at_eq (by omega)) ?_)
            refine wpS_bind (wpS_gal C (s2.kind.trans hk) (hSa _ (at_mem (by omega))) hSb (fun i j hij hj => at_ij sb (by omega) (by omega)) (by omega) (by omega) fun k' hkn' k1' k2' => ?_)
            dsimp only
            simp only [if_true] at k1' k2'
            have hle2 : ∀ y ∈ b.toList.drop (ib' + 1 + k'), R O ky (at_ a (ia' + k)) y := fun y hy => by
              by_cases hlt : ib' + 1 + k' < b.size
              · exact KeyOrd.kle_trans (k2' k' (Nat.le_refl _) (by omega)) (at_le sb hlt y hy)
              · rw [List.drop_of_length_le (by simp; omega)] at hy; cases hy
            have mB := m1.addB sb (k := k') (o := (out ++ a.extract ia' (ia' + k)).push (at_ b ib') ++ b.extract (ib' + 1) (ib' + 1 + k')) (by omega) (fun x hx y hy => by
              obtain ⟨j, j1, j2, rfl⟩ := mem_at hx
              exact KeyOrd.kle_trans (KeyOrd.kle_of_klt (k1' j j1)) (at_le sa (by omega) y hy)) (by rw [Array.toList_append, ext_some])
            by_cases hk1 : k' > 0
            · rw [if_pos hk1]
              by_cases q2 : (ib' + 1 + k' == b.size) = true
              · rw [if_pos q2]
                exact wpS_pure ⟨⟨s2.kind, s2.arr, s2.pend, s2.fail⟩, .inl ⟨_, rfl, mB.done sa sb (.inr (by simpa using q2))⟩⟩
              rw [if_neg q2]
              have q2' : ¬ ib' + 1 + k' = b.size := by simpa using q2
              refine wpS_bind (wpS_elem (at_eq (by omega)) ?_)
              have m2 := T2 mB (by omega) (by omega) (by omega) hle2
              by_cases q3 : (ia' + k + 1 + 1 == a.size) = true
              · rw [if_pos q3]
                exact wpS_pure ⟨⟨s2.kind, s2.arr, s2.pend, s2.fail⟩, .inl ⟨_, rfl, m2.last sa sb (lst (by simpa using q3))⟩⟩
              rw [if_neg q3]
              have q3' : ¬ ia' + k + 1 + 1 = a.size := by simpa using q3
              by_cases q4 : (decide (k < 7) && decide (k' < 7)) = true
              · rw [if_pos q4]
                exact wpS_pure ⟨⟨s2.kind, s2.arr, s2.pend, s2.fail⟩, .inr ⟨rfl, m2, by dsimp only; omega, by dsimp only; omega, by dsimp only; omega⟩⟩
              · rw [if_neg q4]
                exact wpS_pure ⟨⟨s2.kind, s2.arr, s2.pend, s2.fail⟩, rfl, m2, by dsimp only; omega, by dsimp only; omega, by dsimp only; omega⟩
            · rw [if_neg hk1]
              have hle3 : ∀ y ∈ b.toList.drop (ib' + 1), R O ky (at_ a (ia' + k)) y := by
                have h' := hle2
                rw [show ib' + 1 + k' = ib' + 1 by omega] at h'
                exact h'
              refine wpS_bind (wpS_elem (at_eq (by omega)) ?_)
              have m2 := T2 m1 (by omega) (by omega) (by omega) hle3
              by_cases q3 : (ia' + k + 1 + 1 == a.size) = true
              · rw [if_pos q3]
                exact wpS_pure ⟨⟨s2.kind, s2.arr, s2.pend, s2.fail⟩, .inl ⟨_, rfl, m2.last sa sb (lst (by simpa using q3))⟩⟩
              rw [if_neg q3]
              have q3' : ¬ ia' + k + 1 + 1 = a.size := by simpa using q3
              by_cases q4 : (decide (k < 7) && decide (k' < 7)) = true
              · rw [if_pos q4]
                exact wpS_pure ⟨⟨s2.kind, s2.arr, s2.pend, s2.fail⟩, .inr ⟨rfl, m2, by dsimp only; omega, by dsimp only; omega, by dsimp only; omega⟩⟩
              · rw [if_neg q4]
                exact wpS_pure ⟨⟨s2.kind, s2.arr, s2.pend, s2.fail⟩, rfl, m2, by dsimp only; omega, by dsimp only; omega, by dsimp only; omega⟩
          · rw [if_neg hk0]
            have hle0 : ∀ y ∈ a.toList.drop ia', R O ky (at_ b ib') y := by
              have h' := hle
              rw [show ia' + k = ia' by omega] at h'
              exact h'
            refine wpS_bind (wpS_elem (at_eq c2) ?_)
            have m1 := T1 m c2 hle0
            by_cases q1 : (ib' + 1 == b.size) = true
            · rw [if_pos q1]
              exact wpS_pure ⟨⟨s2.kind, s2.arr, s2.pend, s2.fail⟩, .inl ⟨_, rfl, m1.done sa sb (.inr (by simpa using q1))⟩⟩
            rw [if_neg q1]
            have q1' : ¬ ib' + 1 = b.size := by simpa using q1
            refine wpS_bind (wpS_elem (at_eq (by omega)) ?_)
            refine wpS_bind (wpS_gal C (s2.kind.trans hk) (hSa _ (at_mem (by omega))) hSb (fun i j hij hj => at_ij sb (by omega) (by omega)) (by omega) (by omega) fun k' hkn' k1' k2' => ?_)
            dsimp only
            simp only [if_true] at k1' k2'
            have hle2 : ∀ y ∈ b.toList.drop (ib' + 1 + k'), R O ky (at_ a (ia')) y := fun y hy => by
              by_cases hlt : ib' + 1 + k' < b.size
              · exact KeyOrd.kle_trans (k2' k' (Nat.le_refl _) (by omega)) (at_le sb hlt y hy)
              · rw [List.drop_of_length_le (by simp; omega)] at hy; cases hy
            have mB := m1.addB sb (k := k') (o := out.push (at_ b ib') ++ b.extract (ib' + 1) (ib' + 1 + k')) (by omega) (fun x hx y hy => by
              obtain ⟨j, j1, j2, rfl⟩ := mem_at hx
              exact KeyOrd.kle_trans (KeyOrd.kle_of_klt (k1' j j1)) (at_le sa (by omega) y hy)) (by rw [Array.toList_append, ext_some])
            by_cases hk1 : k' > 0
            · rw [if_pos hk1]
              by_cases q2 : (ib' + 1 + k' == b.size) = true
              · rw [if_pos q2]
                exact wpS_pure ⟨⟨s2.kind, s2.arr, s2.pend, s2.fail⟩, .inl ⟨_, rfl, mB.done sa sb (.inr (by simpa using q2))⟩⟩
              rw [if_neg q2]
              have q2' : ¬ ib' + 1 + k' = b.size := by simpa using q2
              refine wpS_bind (wpS_elem (at_eq (by omega)) ?_)
              have m2 := T2 mB (by omega) (by omega) (by omega) hle2
              by_cases q3 : (ia' + 1 + 1 == a.size) = true
              · rw [if_pos q3]
                exact wpS_pure ⟨⟨s2.kind, s2.arr, s2.pend, s2.fail⟩, .inl ⟨_, rfl, m2.last sa sb (lst (by simpa using q3))⟩⟩
              rw [if_neg q3]
              have q3' : ¬ ia' + 1 + 1 = a.size := by simpa using q3
              by_cases q4 : (decide (k < 7) && decide (k' < 7)) = true
              · rw [if_pos q4]
                exact wpS_pure ⟨⟨s2.kind, s2.arr, s2.pend, s2.fail⟩, .inr ⟨rfl, m2, by dsimp only; omega, by dsimp only; omega, by dsimp only; omega⟩⟩
              · rw [if_neg q4]
                exact wpS_pure ⟨⟨s2.kind, s2.arr, s2.pend, s2.fail⟩, rfl, m2, by dsimp only; omega, by dsimp only; omega, by dsimp only; omega⟩
            · rw [if_neg hk1]
              have hle3 : ∀ y ∈ b.toList.drop (ib' + 1), R O ky (at_ a (ia')) y := by
                have h' := hle2
                rw [show ib' + 1 + k' = ib' + 1 by omega] at h'
                exact h'
              refine wpS_bind (wpS_elem (at_eq (by omega)) ?_)
              have m2 := T2 m1 (by omega) (by omega) (by omega) hle3
              by_cases q3 : (ia' + 1 + 1 == a.size) = true
              · rw [if_pos q3]
                exact wpS_pure ⟨⟨s2.kind, s2.arr, s2.pend, s2.fail⟩, .inl ⟨_, rfl, m2.last sa sb (lst (by simpa using q3))⟩⟩
              rw [if_neg q3]
              have q3' : ¬ ia' + 1 + 1 = a.size := by simpa using q3
              by_cases q4 : (decide (k < 7) && decide (k' < 7)) = true
              · rw [if_pos q4]
                exact wpS_pure ⟨⟨s2.kind, s2.arr, s2.pend, s2.fail⟩, .inr ⟨rfl, m2, by dsimp only; omega, by dsimp only; omega, by dsimp only; omega⟩⟩
              · rw [if_neg q4]
                exact wpS_pure ⟨⟨s2.kind, s2.arr, s2.pend, s2.fail⟩, rfl, m2, by dsimp only; omega, by dsimp only; omega, by dsimp only; omega⟩
end
end TS
set_option linter.all false
namespace TS
open PySem PyProof.Rows
section
variable {O : KeyOrd} {ky : Keyed → O.α}
theorem at_snoc {a : Array Keyed} {i : Nat} (h : i < a.size) : a.toList.take (i + 1) = a.toList.take i ++ [at_ a i] := by rw [List.take_add_one, at_list h]; rfl
theorem at_ge {a : Array Keyed} (sa : Srt O ky a.toList) {i : Nat} (h : i < a.size) : ∀ y ∈ a.toList.take (i + 1), R O ky y (at_ a i) := by
  intro y hy
  have s := take_srt sa (i + 1)
  unfold Srt at s
  rw [at_snoc h] at hy s
  rcases List.mem_append.mp hy with hy | hy
  · exact (List.pairwise_append.mp s).2.2 y hy _ List.mem_cons_self
  · have : y = at_ a i := by simpa using hy
    rw [this]; exact KeyOrd.kle_refl _
theorem at_one' {a : Array Keyed} {i : Nat} (h : i < a.size) : (a.toList.take (i + 1)).drop i = [at_ a i] := by
  rw [at_snoc h, List.drop_append_of_le_length (by simp; omega), List.drop_of_length_le (by simp; omega)]; rfl
theorem mem_at' {a : Array Keyed} {i k : Nat} (hk : k ≤ a.size) {x : Keyed} (hx : x ∈ (a.toList.take k).drop i) : ∃ j, i ≤ j ∧ j < k ∧ x = at_ a j := by
  rw [List.drop_take] at hx
  obtain ⟨j, j1, j2, e⟩ := mem_at hx
  exact ⟨i + j, by omega, by omega, e⟩
theorem mem_take' {a : Array Keyed} {k : Nat} (hk : k ≤ a.size) {x : Keyed} (hx : x ∈ a.toList.take k) : ∃ j, j < k ∧ x = at_ a j := by
  obtain ⟨j, _, j2, e⟩ := mem_at' (i := 0) hk (by rw [List.drop_zero]; exact hx)
  exact ⟨j, j2, e⟩
theorem MH.pushA {a b out : Array Keyed} {na nb : Nat} (m : MH O ky a b out na nb) (sa : Srt O ky a.toList) (h1 : 1 ≤ na) (hx : ∀ y ∈ b.toList.take nb, R O ky y (at_ a (na - 1))) : MH O ky a b (out.push (at_ a (na - 1))) (na - 1) nb := by
  have ha := m.ha
  obtain ⟨j, rfl⟩ : ∃ j, na = j + 1 := ⟨na - 1, by omega⟩
  rw [Nat.add_sub_cancel] at hx ⊢
  exact m.addA sa (by omega) (fun x hx' y hy => by
    rw [at_one' (by omega)] at hx'
    have : x = at_ a j := by simpa using hx'
    rw [this]; exact hx y hy) (by rw [at_one' (by omega)]; simp)
theorem MH.pushB {a b out : Array Keyed} {na nb : Nat} (m : MH O ky a b out na nb) (sb : Srt O ky b.toList) (h1 : 1 ≤ nb) (hx : ∀ y ∈ a.toList.take na, R O ky y (at_ b (nb - 1))) : MH O ky a b (out.push (at_ b (nb - 1))) na (nb - 1) := (m.swap.pushA sb h1 hx).swap
end
section
variable {prog : Program} {w : World} {A : Around} {E : Value → Shared → Prop} {s : Shared}
variable {kd : SortKind} {O : KeyOrd} {ky : Keyed → O.α} {S : Keyed → Prop}
theorem wpS_mergeHi (C : Cmp prog w A s kd O ky S) {st : SortSt} {a b : Array Keyed} {Q : Array Keyed → SortSt → Prop} (hk : kindOf st = kd) (hSa : ∀ p ∈ a.toList, S p) (hSb : ∀ p ∈ b.toList, S p) (sa : Srt O ky a.toList) (sb : Srt O ky b.toList) (na1 : 1 ≤ a.size) (nb1 : 1 ≤ b.size)
    (h0 : ∀ y ∈ a.toList, R O ky (at_ b 0) y) (hl : ∀ y ∈ b.toList, R O ky y (at_ a (a.size - 1))) (h : ∀ o st', Good O ky a b o → SameSt st st' → Q o st') : wpS (model prog w) A E s (mergeHi' a b) Q st := by
  have fst : ∀ {nb}, nb = 1 → ∀ x ∈ b.toList.take nb, ∀ y ∈ a.toList, R O ky x y := fun {nb} e x hx y hy => by
    obtain ⟨j, j1, rfl⟩ := mem_take' (by omega) hx
    rw [show j = 0 by omega]
    exact h0 y hy
  unfold mergeHi'
  refine wpS_bind (wpS_lift (wpAny_rule ⟨rfl, ?_⟩))
  dsimp only
  refine wpS_bind (wpS_elem (at_eq (by omega)) ?_)
  have m0 : MH O ky a b #[at_ a (a.size - 1)] (a.size - 1) b.size := by
    have z : MH O ky a b #[] a.size b.size := ⟨Nat.le_refl _, Nat.le_refl _, by simp, List.Pairwise.nil, fun x hx => by simp at hx, fun x hx => by simp at hx⟩
    exact z.pushA sa na1 (fun y hy => hl y (List.mem_of_mem_take hy))
  by_cases e1 : (a.size - 1 == 0) = true
  · rw [if_pos e1]
    exact wpS_pure (h _ _ (m0.done sa sb (.inl (by simpa using e1))) (SameSt.refl _))
  rw [if_neg e1]
  have e1' : ¬ a.size - 1 = 0 := by simpa using e1
  by_cases e2 : (b.size == 1) = true
  · rw [if_pos e2]
    exact wpS_pure (h _ _ (m0.first sa sb (fst (by simpa using e2))) (SameSt.refl _))
  rw [if_neg e2]
  have e2' : ¬ b.size = 1 := by simpa using e2
  refine wpS_bind (wpS_get ?_)
  refine wpS_bind (wpS_mono (wpS_forRange
    (I := fun x c st' => SameSt st st' ∧ c.1 = none ∧ MH O ky a b c.2.2.2.1 c.2.1 c.2.2.1 ∧ 1 ≤ c.2.1 ∧ 2 ≤ c.2.2.1 ∧ c.2.1 + c.2.2.1 + x + 1 ≤ a.size + b.size)
    (Q := fun c st' => SameSt st st' ∧ ∃ r, c.1 = some r ∧ Good O ky a b r) ?step ?fin ⟨SameSt.refl _, rfl, m0, by dsimp only; omega, by dsimp only; omega, by dsimp only; omega⟩) ?post)
  case fin =>
    rintro c st' ⟨_, _, m, c1, c2, c3⟩
    omega
  case post =>
    rintro ⟨r, na, nb, out, mg⟩ st' ⟨ss, r', hr, g⟩
    dsimp only at hr ⊢
    subst hr
    exact wpS_pure (h _ _ g ss)
  case step =>
    rintro x ⟨r, na, nb, out, mg⟩ st1 _ hx ⟨ss, hr, m, c1, c2, c3⟩
    dsimp only at hr m c1 c2 c3 ⊢
    subst hr
    have ha0 := m.ha
    have hb0 := m.hb
    refine wpS_bind (wpS_mono (wpS_forRange
      (I := fun y c st' => st' = st1 ∧ c.1 = none ∧ MH O ky a b c.2.2.2.1 c.2.1 c.2.2.1 ∧ 1 ≤ c.2.1 ∧ 2 ≤ c.2.2.1 ∧ c.2.1 + c.2.2.1 + y ≤ na + nb)
      (Q := fun c st' => st' = st1 ∧ ((∃ r, c.1 = some r ∧ Good O ky a b r) ∨ (c.1 = none ∧ MH O ky a b c.2.2.2.1 c.2.1 c.2.2.1 ∧ 1 ≤ c.2.1 ∧ 2 ≤ c.2.2.1 ∧ c.2.1 + c.2.2.1 + 1 ≤ na + nb))) ?step1 ?fin1 ⟨rfl, rfl, m, c1, c2, by dsimp only; omega⟩) ?post1)
    case fin1 =>
      rintro c st' ⟨_, _, m, c1, c2, c3⟩
      omega
    case step1 =>
      rintro y ⟨r, na', nb', out, ac, bc⟩ st' _ hy ⟨rfl, hr, m, c1, c2, c3⟩
      dsimp only at hr m c1 c2 c3 ⊢
      subst hr
      have ha' := m.ha
      have hb' := m.hb
      have ka : kindOf st' = kd := ss.kind.trans hk
      refine wpS_bind (wpS_elem (at_eq (by omega)) (wpS_bind (wpS_elem (at_eq (by omega)) (wpS_bind (wpS_lt C ka (hSb _ (at_mem (by omega))) (hSa _ (at_mem (by omega))) ?_)))))
      dsimp only
      cases hw : O.blt (ky (at_ b (nb' - 1))) (ky (at_ a (na' - 1))) with
      | true =>
        rw [if_pos rfl]
        have m1 := m.pushA sa c1 (fun y hy => by
          have := at_ge sb (i := nb' - 1) (by omega) y (by rw [show nb' - 1 + 1 = nb' by omega]; exact hy)
          exact KeyOrd.kle_trans this (KeyOrd.kle_of_klt hw))
        refine wpS_bind (wpS_elem (at_eq (by omega)) ?_)
        split
        · rename_i q
          exact wpS_pure ⟨rfl, .inl ⟨_, rfl, m1.done sa sb (.inl (by simpa using q))⟩⟩
        · rename_i q
          have q' : ¬ na' - 1 = 0 := by simpa using q
          split
          · exact wpS_pure ⟨rfl, .inr ⟨rfl, m1, by dsimp only; omega, c2, by dsimp only; omega⟩⟩
          · exact wpS_pure ⟨rfl, rfl, m1, by dsimp only; omega, c2, by dsimp only; omega⟩
      | false =>
        rw [if_neg Bool.false_ne_true]
        have m1 := m.pushB sb (by omega) (fun y hy => by
          have := at_ge sa (i := na' - 1) (by omega) y (by rw [show na' - 1 + 1 = na' by omega]; exact hy)
          exact KeyOrd.kle_trans this hw)
        refine wpS_bind (wpS_elem (at_eq (by omega)) ?_)
        split
        · rename_i q
          exact wpS_pure ⟨rfl, .inl ⟨_, rfl, m1.first sa sb (fst (by simpa using q))⟩⟩
        · rename_i q
          have q' : ¬ nb' - 1 = 1 := by simpa using q
          split
          · exact wpS_pure ⟨rfl, .inr ⟨rfl, m1, c1, by dsimp only; omega, by dsimp only; omega⟩⟩
          · exact wpS_pure ⟨rfl, rfl, m1, c1, by dsimp only; omega, by dsimp only; omega⟩
    case post1 =>
      rintro ⟨r, na2, nb2, out, ac, bc⟩ st' ⟨rfl, hc⟩
      dsimp only at hc ⊢
      rcases hc with ⟨r, rfl, g⟩ | ⟨rfl, m, c1', c2', c3'⟩
      · exact wpS_pure ⟨ss, r, rfl, g⟩
      dsimp only
      refine wpS_bind (wpS_lift (wpAny_rule ⟨rfl, ?_⟩))
      refine wpS_bind (wpS_mono (wpS_forRange
        (I := fun y c st' => SameSt st st' ∧ c.1 = none ∧ MH O ky a b c.2.2.2.1 c.2.1 c.2.2.1 ∧ 1 ≤ c.2.1 ∧ 2 ≤ c.2.2.1 ∧ c.2.1 + c.2.2.1 + 1 ≤ na + nb)
        (Q := fun c st' => SameSt st st' ∧ ((∃ r, c.1 = some r ∧ Good O ky a b r) ∨ (c.1 = none ∧ MH O ky a b c.2.2.2.1 c.2.1 c.2.2.1 ∧ 1 ≤ c.2.1 ∧ 2 ≤ c.2.2.1 ∧ c.2.1 + c.2.2.1 + 1 ≤ na + nb))) ?step2 ?fin2 ⟨ss, rfl, m, c1', c2', by dsimp only; omega⟩) ?post2)
      case fin2 =>
        rintro c st' ⟨s', h1, h2, h3, h4, h5⟩
        exact ⟨s', .inr ⟨h1, h2, h3, h4, h5⟩⟩
      case post2 =>
        rintro ⟨r, na3, nb3, out, mg2, ac2, bc2⟩ st2 ⟨s2, hc⟩
        dsimp only at hc ⊢
        rcases hc with ⟨r, rfl, g⟩ | ⟨rfl, m, d1, d2, d3⟩
        · exact wpS_pure ⟨s2, r, rfl, g⟩
        dsimp only
        refine wpS_bind (wpS_modify (wpS_pure ⟨⟨s2.kind, s2.arr, s2.pend, s2.fail⟩, rfl, m, d1, d2, by dsimp only; omega⟩))
      case step2 =>
        rintro y ⟨r, na', nb', out, mg', ac', bc'⟩ st2 _ hy ⟨s2, hr, m, c1, c2, c3⟩
        dsimp only at hr m c1 c2 c3 ⊢
        subst hr
        have ha' := m.ha
        have hb' := m.hb
        by_cases hmg : mg' > 1
        · rw [if_pos hmg]
          refine wpS_bind (wpS_modify ?_)
          refine wpS_bind (wpS_elem (at_eq (by omega)) ?_)
          refine wpS_bind (wpS_gal C (s2.kind.trans hk) (hSb _ (at_mem (by omega))) hSa (fun i j hij hj => at_ij sa (by omega) (by omega)) (by omega) (by omega) fun k hkn k1 k2 => ?_)
          dsimp only
          simp only [Bool.false_eq_true, if_false, Nat.zero_add] at k1 k2
          have hle : ∀ y ∈ a.toList.take k, R O ky y (at_ b (nb' - 1)) := fun y hy => by
            obtain ⟨j, j1, rfl⟩ := mem_take' (by omega) hy
            exact k1 j j1
          have mA : MH O ky a b (out ++ (a.extract k na').reverse) k nb' := m.addA sa hkn (fun x hx y hy => by
            obtain ⟨j, j1, j2, rfl⟩ := mem_at' (by omega) hx
            exact KeyOrd.kle_trans (at_ge sb (i := nb' - 1) (by omega) y (by rw [show nb' - 1 + 1 = nb' by omega]; exact hy)) (KeyOrd.kle_of_klt (k2 j j1 j2))) (by rw [Array.toList_append, Array.toList_reverse, ext2])
          by_cases hk0 : na' - k > 0
          · rw [if_pos hk0]
            by_cases p1 : (k == 0) = true
            · rw [if_pos p1]
              exact wpS_pure ⟨⟨s2.kind, s2.arr, s2.pend, s2.fail⟩, .inl ⟨_, rfl, mA.done sa sb (.inl (by simpa using p1))⟩⟩
            rw [if_neg p1]
            have p1' : ¬ k = 0 := by simpa using p1
            refine wpS_bind (wpS_elem (at_eq (by omega)) ?_)
            have m1 := MH.pushB mA sb (by omega) hle
            by_cases q1 : (nb' - 1 == 1) = true
            · rw [if_pos q1]
              exact wpS_pure ⟨⟨s2.kind, s2.arr, s2.pend, s2.fail⟩, .inl ⟨_, rfl, m1.first sa sb (fst (by simpa using q1))⟩⟩
            rw [if_neg q1]
            have q1' : ¬ nb' - 1 = 1 := by simpa using q1
            refine wpS_bind (wpS_elem (at_eq (by omega)) ?_)
            refine wpS_bind (wpS_gal C (s2.kind.trans hk) (hSa _ (at_mem (by omega))) hSb (fun i j hij hj => at_ij sb (by omega) (by omega)) (by omega) (by omega) fun k' hkn' k1' k2' => ?_)
            dsimp only
            simp only [if_true, Nat.zero_add] at k1' k2'
            have hle2 : ∀ y ∈ b.toList.take k', R O ky y (at_ a (k - 1)) := fun y hy => by
              obtain ⟨j, j1, rfl⟩ := mem_take' (by omega) hy
              exact KeyOrd.kle_of_klt (k1' j j1)
            have mB := m1.addB sb (k := k') (o := (out ++ (a.extract k na').reverse).push (at_ b (nb' - 1)) ++ (b.extract k' (nb' - 1)).reverse) hkn' (fun x hx y hy => by
              obtain ⟨j, j1, j2, rfl⟩ := mem_at' (by omega) hx
              exact KeyOrd.kle_trans (at_ge sa (i := k - 1) (by omega) y (by rw [show k - 1 + 1 = k by omega]; exact hy)) (k2' j j1 j2)) (by rw [Array.toList_append, Array.toList_reverse, ext2])
            by_cases hk1 : nb' - 1 - k' > 0
            · rw [if_pos hk1]
              by_cases q2 : (k' == 1) = true
              · rw [if_pos q2]
                exact wpS_pure ⟨⟨s2.kind, s2.arr, s2.pend, s2.fail⟩, .inl ⟨_, rfl, mB.first sa sb (fst (by simpa using q2))⟩⟩
              rw [if_neg q2]
              by_cases q5 : (k' == 0) = true
              · rw [if_pos q5]
                exact wpS_pure ⟨⟨s2.kind, s2.arr, s2.pend, s2.fail⟩, .inl ⟨_, rfl, mB.done sa sb (.inr (by simpa using q5))⟩⟩
              rw [if_neg q5]
              have q2' : ¬ k' = 1 := by simpa using q2
              have q5' : ¬ k' = 0 := by simpa using q5
              refine wpS_bind (wpS_elem (at_eq (by omega)) ?_)
              have m2 := MH.pushA mB sa (by omega) hle2
              by_cases q3 : (k - 1 == 0) = true
              · rw [if_pos q3]
                exact wpS_pure ⟨⟨s2.kind, s2.arr, s2.pend, s2.fail⟩, .inl ⟨_, rfl, m2.done sa sb (.inl (by simpa using q3))⟩⟩
              rw [if_neg q3]
              have q3' : ¬ k - 1 = 0 := by simpa using q3
              by_cases q4 : (decide (na' - k < 7) && decide (nb' - 1 - k' < 7)) = true
              · rw [if_pos q4]
                exact wpS_pure ⟨⟨s2.kind, s2.arr, s2.pend, s2.fail⟩, .inr ⟨rfl, m2, by dsimp only; omega, by dsimp only; omega, by dsimp only; omega⟩⟩
              · rw [if_neg q4]
                exact wpS_pure ⟨⟨s2.kind, s2.arr, s2.pend, s2.fail⟩, rfl, m2, by dsimp only; omega, by dsimp only; omega, by dsimp only; omega⟩
            · rw [if_neg hk1]
              have hle3 : ∀ y ∈ b.toList.take (nb' - 1), R O ky y (at_ a (k - 1)) := by
                have h' := hle2
                rw [show k' = nb' - 1 by omega] at h'
                exact h'
              refine wpS_bind (wpS_elem (at_eq (by omega)) ?_)
              have m2 := MH.pushA m1 sa (by omega) hle3
              by_cases q3 : (k - 1 == 0) = true
              · rw [if_pos q3]
                exact wpS_pure ⟨⟨s2.kind, s2.arr, s2.pend, s2.fail⟩, .inl ⟨_, rfl, m2.done sa sb (.inl (by simpa using q3))⟩⟩
              rw [if_neg q3]
              have q3' : ¬ k - 1 = 0 := by simpa using q3
              by_cases q4 : (decide (na' - k < 7) && decide (nb' - 1 - k' < 7)) = true
              · rw [if_pos q4]
                exact wpS_pure ⟨⟨s2.kind, s2.arr, s2.pend, s2.fail⟩, .inr ⟨rfl, m2, by dsimp only; omega, by dsimp only; omega, by dsimp only; omega⟩⟩
              · rw [if_neg q4]
                exact wpS_pure ⟨⟨s2.kind, s2.arr, s2.pend, s2.fail⟩, rfl, m2, by dsimp only; omega, by dsimp only; omega, by dsimp only; omega⟩
          · rw [if_neg hk0]
            have hle0 : ∀ y ∈ a.toList.take na', R O ky y (at_ b (nb' - 1)) := by
              have h' := hle
              rw [show k = na' by omega] at h'
              exact h'
            refine wpS_bind (wpS_elem (at_eq (by omega)) ?_)
            have m1 := MH.pushB m sb (by omega) hle0
            by_cases q1 : (nb' - 1 == 1) = true
            · rw [if_pos q1]
              exact wpS_pure ⟨⟨s2.kind, s2.arr, s2.pend, s2.fail⟩, .inl ⟨_, rfl, m1.first sa sb (fst (by simpa using q1))⟩⟩
            rw [if_neg q1]
            have q1' : ¬ nb' - 1 = 1 := by simpa using q1
            refine wpS_bind (wpS_elem (at_eq (by omega)) ?_)
            refine wpS_bind (wpS_gal C (s2.kind.trans hk) (hSa _ (at_mem (by omega))) hSb (fun i j hij hj => at_ij sb (by omega) (by omega)) (by omega) (by omega) fun k' hkn' k1' k2' => ?_)
            dsimp only
            simp only [if_true, Nat.zero_add] at k1' k2'
            have hle2 : ∀ y ∈ b.toList.take k', R O ky y (at_ a (na' - 1)) := fun y hy => by
              obtain ⟨j, j1, rfl⟩ := mem_take' (by omega) hy
              exact KeyOrd.kle_of_klt (k1' j j1)
            have mB := m1.addB sb (k := k') (o := out.push (at_ b (nb' - 1)) ++ (b.extract k' (nb' - 1)).reverse) hkn' (fun x hx y hy => by
              obtain ⟨j, j1, j2, rfl⟩ := mem_at' (by omega) hx
              exact KeyOrd.kle_trans (at_ge sa (i := na' - 1) (by omega) y (by rw [show na' - 1 + 1 = na' by omega]; exact hy)) (k2' j j1 j2)) (by rw [Array.toList_append, Array.toList_reverse, ext2])
            by_cases hk1 : nb' - 1 - k' > 0
            · rw [if_pos hk1]
              by_cases q2 : (k' == 1) = true
              · rw [if_pos q2]
                exact wpS_pure ⟨⟨s2.kind, s2.arr, s2.pend, s2.fail⟩, .inl ⟨_, rfl, mB.first sa sb (fst (by simpa using q2))⟩⟩
              rw [if_neg q2]
              by_cases q5 : (k' == 0) = true
              · rw [if_pos q5]
                exact wpS_pure ⟨⟨s2.kind, s2.arr, s2.pend, s2.fail⟩, .inl ⟨_, rfl, mB.done sa sb (.inr (by simpa using q5))⟩⟩
              rw [if_neg q5]
              have q2' : ¬ k' = 1 := by simpa using q2
              have q5' : ¬ k' = 0 := by simpa using q5
              refine wpS_bind (wpS_elem (at_eq (by omega)) ?_)
              have m2 := MH.pushA mB sa (by omega) hle2
              by_cases q3 : (na' - 1 == 0) = true
              · rw [if_pos q3]
                exact wpS_pure ⟨⟨s2.kind, s2.arr, s2.pend, s2.fail⟩, .inl ⟨_, rfl, m2.done sa sb (.inl (by simpa using q3))⟩⟩
              rw [if_neg q3]
              have q3' : ¬ na' - 1 = 0 := by simpa using q3
              by_cases q4 : (decide (na' - k < 7) && decide (nb' - 1 - k' < 7)) = true
              · rw [if_pos q4]
                exact wpS_pure ⟨⟨s2.kind, s2.arr, s2.pend, s2.fail⟩, .inr ⟨rfl, m2, by dsimp only; omega, by dsimp only; omega, by dsimp only; omega⟩⟩
              · rw [if_neg q4]
                exact wpS_pure ⟨⟨s2.kind, s2.arr, s2.pend, s2.fail⟩, rfl, m2, by dsimp only; omega, by dsimp only; omega, by dsimp only; omega⟩
            · rw [if_neg hk1]
              have hle3 : ∀ y ∈ b.toList.take (nb' - 1), R O ky y (at_ a (na' - 1)) := by
                have h' := hle2
                rw [show k' = nb' - 1 by omega] at h'
                exact h'
              refine wpS_bind (wpS_elem (at_eq (by omega)) ?_)
              have m2 := MH.pushA m1 sa (by omega) hle3
              by_cases q3 : (na' - 1 == 0) = true
              · rw [if_pos q3]
                exact wpS_pure ⟨⟨s2.kind, s2.arr, s2.pend, s2.fail⟩, .inl ⟨_, rfl, m2.done sa sb (.inl (by simpa using q3))⟩⟩
              rw [if_neg q3]
              have q3' : ¬ na' - 1 = 0 := by simpa using q3
              by_cases q4 : (decide (na' - k < 7) && decide (nb' - 1 - k' < 7)) = true
              · rw [if_pos q4]
                exact wpS_pure ⟨⟨s2.kind, s2.arr, s2.pend, s2.fail⟩, .inr ⟨rfl, m2, by dsimp only; omega, by dsimp only; omega, by dsimp only; omega⟩⟩
              · rw [if_neg q4]
                exact wpS_pure ⟨⟨s2.kind, s2.arr, s2.pend, s2.fail⟩, rfl, m2, by dsimp only; omega, by dsimp only; omega, by dsimp only; omega⟩
        · rw [if_neg hmg]
          refine wpS_bind (wpS_modify ?_)
          refine wpS_bind (wpS_elem (at_eq (by omega)) ?_)
          refine wpS_bind (wpS_gal C (s2.kind.trans hk) (hSb _ (at_mem (by omega))) hSa (fun i j hij hj => at_ij sa (by omega) (by omega)) (by omega) (by omega) fun k hkn k1 k2 => ?_)
          dsimp only
          simp only [Bool.false_eq_true, if_false, Nat.zero_add] at k1 k2
          have hle : ∀ y ∈ a.toList.take k, R O ky y (at_ b (nb' - 1)) := fun y hy => by
            obtain ⟨j, j1, rfl⟩ := mem_take' (by omega) hy
            exact k1 j j1
          have mA : MH O ky a b (out ++ (a.extract k na').reverse) k nb' := m.addA sa hkn (fun x hx y hy => by
            obtain ⟨j, j1, j2, rfl⟩ := mem_at' (by omega) hx
            exact KeyOrd.kle_trans (at_ge sb (i := nb' - 1) (by omega) y (by rw [show nb' - 1 + 1 = nb' by omega]; exact hy)) (KeyOrd.kle_of_klt (k2 j j1 j2))) (by rw [Array.toList_append, Array.toList_reverse, ext2])
          by_cases hk0 : na' - k > 0
          · rw [if_pos hk0]
            by_cases p1 : (k == 0) = true
            · rw [if_pos p1]
              exact wpS_pure ⟨⟨s2.kind, s2.arr, s2.pend, s2.fail⟩, .inl ⟨_, rfl, mA.done sa sb (.inl (by simpa using p1))⟩⟩
            rw [if_neg p1]
            have p1' : ¬ k = 0 := by simpa using p1
            refine wpS_bind (wpS_elem (at_eq (by omega)) ?_)
            have m1 := MH.pushB mA sb (by omega) hle
            by_cases q1 : (nb' - 1 == 1) = true
            · rw [if_pos q1]
              exact wpS_pure ⟨⟨s2.kind, s2.arr, s2.pend, s2.fail⟩, .inl ⟨_, rfl, m1.first sa sb (fst (by simpa using q1))⟩⟩
            rw [if_neg q1]
            have q1' : ¬ nb' - 1 = 1 := by simpa using q1
            refine wpS_bind (wpS_elem (at_eq (by omega)) ?_)
            refine wpS_bind (wpS_gal C (s2.kind.trans hk) (hSa _ (at_mem (by omega))) hSb (fun i j hij hj => at_ij sb (by omega) (by omega)) (by omega) (by omega) fun k' hkn' k1' k2' => ?_)
            dsimp only
            simp only [if_true, Nat.zero_add] at k1' k2'
            have hle2 : ∀ y ∈ b.toList.take k', R O ky y (at_ a (k - 1)) := fun y hy => by
              obtain ⟨j, j1, rfl⟩ := mem_take' (by omega) hy
              exact KeyOrd.kle_of_klt (k1' j j1)
            have mB := m1.addB sb (k := k') (o := (out ++ (a.extract k na').reverse).push (at_ b (nb' - 1)) ++ (b.extract k' (nb' - 1)).reverse) hkn' (fun x hx y hy => by
              obtain ⟨j, j1, j2, rfl⟩ := mem_at' (by omega) hx
              exact KeyOrd.kle_trans (at_ge sa (i := k - 1) (by omega) y (by rw [show k - 1 + 1 = k by omega]; exact hy)) (k2' j j1 j2)) (by rw [Array.toList_append, Array.toList_reverse, ext2])
            by_cases hk1 : nb' - 1 - k' > 0
            · rw [if_pos hk1]
              by_cases q2 : (k' == 1) = true
              · rw [if_pos q2]
                exact wpS_pure ⟨⟨s2.kind, s2.arr, s2.pend, s2.fail⟩, .inl ⟨_, rfl, mB.first sa sb (fst (by simpa using q2))⟩⟩
              rw [if_neg q2]
              by_cases q5 : (k' == 0) = true
              · rw [if_pos q5]
                exact wpS_pure ⟨⟨s2.kind, s2.arr, s2.pend, s2.fail⟩, .inl ⟨_, rfl, mB.done sa sb (.inr (by simpa using q5))⟩⟩
              rw [if_neg q5]
              have q2' : ¬ k' = 1 := by simpa using q2
              have q5' : ¬ k' = 0 := by simpa using q5
              refine wpS_bind (wpS_elem (at_eq (by omega)) ?_)
              have m2 := MH.pushA mB sa (by omega) hle2
              by_cases q3 : (k - 1 == 0) = true
              · rw [if_pos q3]
                exact wpS_pure ⟨⟨s2.kind, s2.arr, s2.pend, s2.fail⟩, .inl ⟨_, rfl, m2.done sa sb (.inl (by simpa using q3))⟩⟩
              rw [if_neg q3]
              have q3' : ¬ k - 1 = 0 := by simpa using q3
              by_cases q4 : (decide (na' - k < 7) && decide (nb' - 1 - k' < 7)) = true
              · rw [if_pos q4]
                exact wpS_pure ⟨⟨s2.kind, s2.arr, s2.pend, s2.fail⟩, .inr ⟨rfl, m2, by dsimp only; omega, by dsimp only; omega, by dsimp only; omega⟩⟩
              · rw [if_neg q4]
                exact wpS_pure ⟨⟨s2.kind, s2.arr, s2.pend, s2.fail⟩, rfl, m2, by dsimp only; omega, by dsimp only; omega, by dsimp only; omega⟩
            · rw [if_neg hk1]
              have hle3 : ∀ y ∈ b.toList.take (nb' - 1), R O ky y (at_ a (k - 1)) := by
                have h' := hle2
                rw [show k' = nb' - 1 by omega] at h'
                exact h'
              refine wpS_bind (wpS_elem (at_eq (by omega)) ?_)
              have m2 := MH.pushA m1 sa (by omega) hle3
              by_cases q3 : (k - 1 == 0) = true
              · rw [if_pos q3]
                exact wpS_pure ⟨⟨s2.kind, s2.arr, s2.pend, s2.fail⟩, .inl ⟨_, rfl, m2.done sa sb (.inl (by simpa using q3))⟩⟩
              rw [if_neg q3]
              have q3' : ¬ k - 1 = 0 := by simpa using q3
              by_cases q4 : (decide (na' - k < 7) && decide (nb' - 1 - k' < 7)) = true
              · rw [if_pos q4]
                exact wpS_pure ⟨⟨s2.kind, s2.arr, s2.pend, s2.fail⟩, .inr ⟨rfl, m2, by dsimp only; omega, by dsimp only; omega, by dsimp only; omega⟩⟩
              · rw [if_neg q4]
                exact wpS_pure ⟨⟨s2.kind, s2.arr, s2.pend, s2.fail⟩, rfl, m2, by dsimp only; omega, by dsimp only; omega, by dsimp only; omega⟩
          · rw [if_neg hk0]
            have hle0 : ∀ y ∈ a.toList.take na', R O ky y (at_ b (nb' - 1)) := by
              have h' := hle
              rw [show k = na' by omega] at h'
              exact h'
            refine wpS_bind (wpS_elem (at_eq (by omega)) ?_)
            have m1 := MH.pushB m sb (by omega) hle0
            by_cases q1 : (nb' - 1 == 1) = true
            · rw [if_pos q1]
              exact wpS_pure ⟨⟨s2.kind, s2.arr, s2.pend, s2.fail⟩, .inl ⟨_, rfl, m1.first sa sb (fst (by simpa using q1))⟩⟩
            rw [if_neg q1]
            have q1' : ¬ nb' - 1 = 1 := by simpa using q1
            refine wpS_bind (wpS_elem (at_eq (by omega)) ?_)
            refine wpS_bind (wpS_gal C (s2.kind.trans hk) (hSa _ (at_mem (by omega))) hSb (fun i j hij hj => at_ij sb (by omega) (by omega)) (by omega) (by omega) fun k' hkn' k1' k2' => ?_)
            dsimp only
            simp only [if_true, Nat.zero_add] at k1' k2'
            have hle2 : ∀ y ∈ b.toList.take k', R O ky y (at_ a (na' - 1)) := fun y hy => by
              obtain ⟨j, j1, rfl⟩ := mem_take' (by omega) hy
              exact KeyOrd.kle_of_klt (k1' j j1)
            have mB := m1.addB sb (k := k') (o := out.push (at_ b (nb' - 1)) ++ (b.extract k' (nb' - 1)).reverse) hkn' (fun x hx y hy => by
              obtain ⟨j, j1, j2, rfl⟩ := mem_at' (by omega) hx
              exact KeyOrd.kle_trans (at_ge sa (i := na' - 1) (by omega) y (by rw [show na' - 1 + 1 = na' by omega]; exact hy)) (k2' j j1 j2)) (by rw [Array.toList_append, Array.toList_reverse, ext2])
            by_cases hk1 : nb' - 1 - k' > 0
            · rw [if_pos hk1]
              by_cases q2 : (k' == 1) = true
              · rw [if_pos q2]
                exact wpS_pure ⟨⟨s2.kind, s2.arr, s2.pend, s2.fail⟩, .inl ⟨_, rfl, mB.first sa sb (fst (by simpa using q2))⟩⟩
              rw [if_neg q2]
              by_cases q5 : (k' == 0) = true
              · rw [if_pos q5]
                exact wpS_pure ⟨⟨s2.kind, s2.arr, s2.pend, s2.fail⟩, .inl ⟨_, rfl, mB.done sa sb (.inr (by simpa using q5))⟩⟩
              rw [if_neg q5]
              have q2' : ¬ k' = 1 := by simpa using q2
              have q5' : ¬ k' = 0 := by simpa using q5
              refine wpS_bind (wpS_elem (at_eq (by omega)) ?_)
              have m2 := MH.pushA mB sa (by omega) hle2
              by_cases q3 : (na' - 1 == 0) = true
              · rw [if_pos q3]
                exact wpS_pure ⟨⟨s2.kind, s2.arr, s2.pend, s2.fail⟩, .inl ⟨_, rfl, m2.done sa sb (.inl (by simpa using q3))⟩⟩
              rw [if_neg q3]
              have q3' : ¬ na' - 1 = 0 := by simpa using q3
              by_cases q4 : (decide (na' - k < 7) && decide (nb' - 1 - k' < 7)) = true
              · rw [if_pos q4]
                exact wpS_pure ⟨⟨s2.kind, s2.arr, s2.pend, s2.fail⟩, .inr ⟨rfl, m2, by dsimp only; omega, by dsimp only; omega, by dsimp only; omega⟩⟩
              · rw [if_neg q4]
                exact wpS_pure ⟨⟨s2.kind, s2.arr, s2.pend, s2.fail⟩, rfl, m2, by dsimp only; omega, by dsimp only; omega, by dsimp only; omega⟩
            · rw [if_neg hk1]
              have hle3 : ∀ y ∈ b.toList.take (nb' - 1), R O ky y (at_ a (na' - 1)) := by
                have h' := hle2
                rw [show k' = nb' - 1 by omega] at h'
                exact h'
              refine wpS_bind (wpS_elem (at_eq (by omega)) ?_)
              have m2 := MH.pushA m1 sa (by omega) hle3
              by_cases q3 : (na' - 1 == 0) = true
              · rw [if_pos q3]
                exact wpS_pure ⟨⟨s2.kind, s2.arr, s2.pend, s2.fail⟩, .inl ⟨_, rfl, m2.done sa sb (.inl (by simpa using q3))⟩⟩
              rw [if_neg q3]
              have q3' : ¬ na' - 1 = 0 := by simpa using q3
              by_cases q4 : (decide (na' - k < 7) && decide (nb' - 1 - k' < 7)) = true
              · rw [if_pos q4]
                exact wpS_pure ⟨⟨s2.kind, s2.arr, s2.pend, s2.fail⟩, .inr ⟨rfl, m2, by dsimp only; omega, by dsimp only; omega, by dsimp only; omega⟩⟩
              · rw [if_neg q4]
                exact wpS_pure ⟨⟨s2.kind, s2.arr, s2.pend, s2.fail⟩, rfl, m2, by dsimp only; omega, by dsimp only; omega, by dsimp only; omega⟩
end
end TS
set_option linter.all false
namespace TS
open PySem PyProof.Rows
structure Chg (lo : Nat) (st st' : SortSt) : Prop where
  kind : kindOf st' = kindOf st
  pend : pendingOf st' = pendingOf st
  fail : failedOf st' = failedOf st
  perm : (arrOf st').Perm (arrOf st)
  low : ∀ i, i < lo → (arrOf st')[i]? = (arrOf st)[i]?
theorem Chg.refl (lo : Nat) (st : SortSt) : Chg lo st st := ⟨rfl, rfl, rfl, Array.Perm.refl _, fun _ _ => rfl⟩
theorem Chg.trans {lo : Nat} {a b c : SortSt} (h : Chg lo a b) (h' : Chg lo b c) : Chg lo a c := ⟨h'.kind.trans h.kind, h'.pend.trans h.pend, h'.fail.trans h.fail, h'.perm.trans h.perm, fun i hi => (h'.low i hi).trans (h.low i hi)⟩
theorem Chg.size {lo : Nat} {a b : SortSt} (h : Chg lo a b) : (arrOf b).size = (arrOf a).size := h.perm.size_eq
theorem Chg.all {lo : Nat} {a b : SortSt} {S : Keyed → Prop} (h : Chg lo a b) (hS : ∀ p ∈ (arrOf a).toList, S p) : ∀ p ∈ (arrOf b).toList, S p := fun p hp => hS p ((Array.perm_iff_toList_perm.mp h.perm).mem_iff.mp hp)
theorem chg_mirror {lo i j : Nat} {st : SortSt} (h : lo ≤ i) (hj : j ≤ (arrOf st).size) : Chg lo st (setArr st (mirror (arrOf st) i j ((j - i) / 2))) := ⟨rfl, rfl, rfl, mirror_perm _ _ _ _, fun k hk => by
  show (mirror (arrOf st) i j ((j - i) / 2))[k]? = _
  rw [getElem?_mirror_all hj, if_neg (by omega)]⟩
theorem chg_bubble {lo src d : Nat} {st : SortSt} (hs : src < (arrOf st).size) (hd : d ≤ src) (h : lo ≤ src - d) : Chg lo st (setArr st (bubble (arrOf st) src d)) := ⟨rfl, rfl, rfl, bubble_perm _ _ _, fun k hk => by
  show (bubble (arrOf st) src d)[k]? = _
  rw [getElem?_bubble hs d hd, if_neg (by omega), if_neg (by omega)]⟩
theorem at_congr {a b : Array Keyed} {i j : Nat} (h : a[i]? = b[j]?) : at_ a i = at_ b j := by unfold at_; rw [h]
theorem at_mirror {xs : Array Keyed} {i j : Nat} (hj : j ≤ xs.size) (k : Nat) : at_ (mirror xs i j ((j - i) / 2)) k = if i ≤ k ∧ k < j then at_ xs (i + j - 1 - k) else at_ xs k := by
  have e := getElem?_mirror_all (i := i) hj k
  split at e
  · rename_i c; rw [if_pos c]; exact at_congr e
  · rename_i c; rw [if_neg c]; exact at_congr e
theorem at_bubble {xs : Array Keyed} {src d : Nat} (hs : src < xs.size) (hd : d ≤ src) (k : Nat) : at_ (bubble xs src d) k = if k = src - d then at_ xs src else if src - d < k ∧ k ≤ src then at_ xs (k - 1) else at_ xs k := by
  have e := getElem?_bubble hs d hd k
  split at e
  · rename_i c; rw [if_pos c]; exact at_congr e
  · rename_i c
    rw [if_neg c]
    split at e
    · rename_i c2; rw [if_pos c2]; exact at_congr e
    · rename_i c2; rw [if_neg c2]; exact at_congr e
section
variable {prog : Program} {w : World} {A : Around} {E : Value → Shared → Prop} {s : Shared}
variable {kd : SortKind} {O : KeyOrd} {ky : Keyed → O.α} {S : Keyed → Prop}
abbrev kf (ky : Keyed → O.α) (st : SortSt) (lo i : Nat) : O.α := ky (at_ (arrOf st) (lo + i))
def Up (ky : Keyed → O.α) (st : SortSt) (lo n : Nat) : Prop := ∀ i j, i ≤ j → j < n → O.kle (kf ky st lo i) (kf ky st lo j)
def Dn (ky : Keyed → O.α) (st : SortSt) (lo n : Nat) : Prop := ∀ i j, i ≤ j → j < n → O.kle (kf ky st lo j) (kf ky st lo i)
theorem wpS_ltAt' (C : Cmp prog w A s kd O ky S) {st : SortSt} {i j : Nat} {Q : Option Bool → SortSt → Prop} (hk : kindOf st = kd) (hS : ∀ p ∈ (arrOf st).toList, S p) (hi : i < (arrOf st).size) (hj : j < (arrOf st).size)
    (h : Q (some (O.blt (ky (at_ (arrOf st) i)) (ky (at_ (arrOf st) j)))) st) : wpS (model prog w) A E s (ltAt' i j) Q st := by
  rw [ltAt'_eq]
  refine wpS_bind (wpS_get ?_)
  exact wpS_bind (wpS_elem (at_eq hi) (wpS_bind (wpS_elem (at_eq hj) (wpS_lt C hk (hS _ (at_mem hi)) (hS _ (at_mem hj)) h))))
theorem asc_loop {st : SortSt} {lo a nrem : Nat} {Q : Option (Option Nat) × Nat → SortSt → Prop} {f : Nat → Option (Option Nat) × Nat → StateT SortSt Sem (ForInStep (Option (Option Nat) × Nat))} (h1 : 1 ≤ a) (h2 : a ≤ nrem) (hu : Up ky st lo a)
    (hf : ∀ (x n : Nat), 1 ≤ n → n < nrem → ∀ {R : ForInStep (Option (Option Nat) × Nat) → SortSt → Prop}, (O.klt (kf ky st lo n) (kf ky st lo (n - 1)) → R (.done (none, n)) st) → (O.kle (kf ky st lo (n - 1)) (kf ky st lo n) → R (.yield (none, n + 1)) st) → wpS (model prog w) A E s (f x (none, n)) R st)
    (h : ∀ n, a ≤ n → n ≤ nrem → Up ky st lo n → (n = nrem ∨ O.klt (kf ky st lo n) (kf ky st lo (n - 1))) → Q (none, n) st) : wpS (model prog w) A E s (forIn [a:nrem] (none, a) f) Q st := by
  refine wpS_forRange (I := fun x c st' => st' = st ∧ c = (none, x) ∧ Up ky st lo x) ?step ?fin ⟨rfl, rfl, hu⟩
  case fin =>
    rintro c st' ⟨rfl, rfl, hs'⟩
    rw [show max a nrem = nrem by omega] at hs' ⊢
    exact h nrem h2 (Nat.le_refl _) hs' (.inl rfl)
  case step =>
    rintro x c st' hax hxn ⟨rfl, rfl, hs'⟩
    refine hf x x (by omega) hxn (fun q => h x hax (by omega) hs' (.inr q)) (fun q => ⟨rfl, rfl, fun i j hij hj => ?_⟩)
    by_cases e : j = x
    · by_cases e2 : i = x
      · rw [e, e2]; exact KeyOrd.kle_refl _
      · rw [e]; exact KeyOrd.kle_trans (hs' i (x - 1) (by omega) (by omega)) q
    · exact hs' i j hij (by omega)
theorem kf_mirror {st : SortSt} {lo i j k : Nat} (hj : lo + j ≤ (arrOf st).size) : kf ky (setArr st (mirror (arrOf st) (lo + i) (lo + j) ((lo + j - (lo + i)) / 2))) lo k = if i ≤ k ∧ k < j then kf ky st lo (i + j - 1 - k) else kf ky st lo k := by
  show ky (at_ (mirror (arrOf st) (lo + i) (lo + j) ((lo + j - (lo + i)) / 2)) (lo + k)) = _
  rw [at_mirror hj]
  by_cases c : i ≤ k ∧ k < j
  · rw [if_pos c, if_pos (by omega)]
    show ky (at_ _ _) = ky (at_ _ _)
    congr 2; omega
  · rw [if_neg c, if_neg (by omega)]
theorem kf_mirror_eq {st : SortSt} {lo i j : Nat} (hj : lo + j ≤ (arrOf st).size) (he : ∀ k, i ≤ k → k < j → kf ky st lo k = kf ky st lo (j - 1)) (k : Nat) : kf ky (setArr st (mirror (arrOf st) (lo + i) (lo + j) ((lo + j - (lo + i)) / 2))) lo k = kf ky st lo k := by
  rw [kf_mirror hj]
  split
  · rw [he _ (by omega) (by omega), he k (by omega) (by omega)]
  · rfl
theorem wpS_rev {st : SortSt} {i j : Nat} {Q : Unit → SortSt → Prop} (h : Q () (setArr st (mirror (arrOf st) i j ((j - i) / 2)))) : wpS (model prog w) A E s (reverseSlice' i j) Q st := by
  rw [reverseSlice'_eq]
  exact wpS_modify h
theorem wpS_run (C : Cmp prog w A s kd O ky S) {st0 : SortSt} {lo nrem : Nat} {Q : Option Nat → SortSt → Prop} (hk0 : kindOf st0 = kd) (hS0 : ∀ p ∈ (arrOf st0).toList, S p) (hn : lo + nrem ≤ (arrOf st0).size) (h1 : 1 ≤ nrem)
    (h : ∀ n st', Chg lo st0 st' → 1 ≤ n → n ≤ nrem → Up ky st' lo n → Q (some n) st') : wpS (model prog w) A E s (countRun' lo nrem) Q st0 := by
  have ask : ∀ {st : SortSt}, Chg lo st0 st → ∀ (i j : Nat) {Q : Option Bool → SortSt → Prop}, i < lo + nrem → j < lo + nrem → Q (some (O.blt (ky (at_ (arrOf st) i)) (ky (at_ (arrOf st) j)))) st → wpS (model prog w) A E s (ltAt' i j) Q st := fun {st} ch i j Q hi hj hq =>
    wpS_ltAt' C (ch.kind.trans hk0) (ch.all hS0) (by rw [ch.size]; omega) (by rw [ch.size]; omega) hq
  unfold countRun'
  refine wpS_bind (asc_loop (ky := ky) (lo := lo) (Nat.le_refl 1) h1 (fun i j hij hj => by rw [show i = j by omega]; exact KeyOrd.kle_refl _) ?hf ?hq)
  case hf =>
    intro x n n1 n2 R r1 r2
    refine wpS_bind (ask (Chg.refl _ _) _ _ (by omega) (by omega) ?_)
    dsimp only
    rw [show lo + n - 1 = lo + (n - 1) by omega]
    cases e : O.blt (ky (at_ (arrOf st0) (lo + n))) (ky (at_ (arrOf st0) (lo + (n - 1)))) with
    | true => exact wpS_pure (r1 e)
    | false => exact wpS_pure (r2 e)
  case hq =>
  intro n n1 n2 hup hor
  dsimp only
  by_cases e1 : (n == nrem) = true
  · rw [if_pos e1]
    exact wpS_pure (h n _ (Chg.refl _ _) n1 n2 hup)
  rw [if_neg e1]
  have e1' : ¬ n = nrem := by simpa using e1
  have hlt := hor.resolve_left e1'
  by_cases hgt : n > 1
  · rw [if_pos hgt]
    refine wpS_bind (ask (Chg.refl _ _) _ _ (by omega) (by omega) ?_)
    dsimp only
    rw [show lo + n - 1 = lo + (n - 1) by omega]
    cases e : O.blt (ky (at_ (arrOf st0) lo)) (ky (at_ (arrOf st0) (lo + (n - 1)))) with
    | true =>
      rw [if_pos rfl]
      exact wpS_pure (h n _ (Chg.refl _ _) n1 n2 hup)
    | false =>
      rw [if_neg Bool.false_ne_true]
      have hsz0 : lo + n ≤ (arrOf st0).size := by omega
      have e' : O.kle (kf ky st0 lo (n - 1)) (kf ky st0 lo 0) := e
      have hall : ∀ k, 0 ≤ k → k < n → kf ky st0 lo k = kf ky st0 lo (n - 1) := fun k _ hk => by
        have a1 := hup 0 k (by omega) hk
        have a2 := hup k (n - 1) (by omega) (by omega)
        exact KeyOrd.kle_antisymm a2 (KeyOrd.kle_trans e' a1)
      refine wpS_bind (wpS_rev ?_)
      have ch1 := chg_mirror (lo := lo) (i := lo + 0) (j := lo + n) (st := st0) (by omega) hsz0
      have d1 : Dn ky (setArr st0 (mirror (arrOf st0) (lo + 0) (lo + n) ((lo + n - (lo + 0)) / 2))) lo (n + 1) := fun i j hij hj => by
        rw [kf_mirror_eq hsz0 hall, kf_mirror_eq hsz0 hall]
        by_cases c : j < n
        · rw [hall i (by omega) (by omega), hall j (by omega) c]; exact KeyOrd.kle_refl _
        · by_cases c2 : i < n
          · rw [show j = n by omega, hall i (by omega) c2]; exact KeyOrd.kle_of_klt hlt
          · rw [show i = j by omega]; exact KeyOrd.kle_refl _
      rw [show mirror (arrOf st0) lo (lo + n) ((lo + n - lo) / 2) = mirror (arrOf st0) (lo + 0) (lo + n) ((lo + n - (lo + 0)) / 2) from rfl]
      generalize setArr st0 (mirror (arrOf st0) (lo + 0) (lo + n) ((lo + n - (lo + 0)) / 2)) = st1 at ch1 d1 ⊢
      refine wpS_bind (wpS_lift (wpAny_rule ⟨rfl, ?_⟩))
      refine wpS_bind (wpS_mono (wpS_forRange
        (I := fun x c st' => ∃ neq, c = (none, x, neq) ∧ Chg lo st0 st' ∧ Dn ky st' lo x ∧ neq + 1 ≤ x ∧ (∀ i, x - (neq + 1) ≤ i → i < x → kf ky st' lo i = kf ky st' lo (x - 1)))
        (Q := fun c st' => ∃ m neq, c = (none, m, neq) ∧ n + 1 ≤ m ∧ m ≤ nrem ∧ Chg lo st0 st' ∧ Dn ky st' lo m ∧ neq + 1 ≤ m ∧ (∀ i, m - (neq + 1) ≤ i → i < m → kf ky st' lo i = kf ky st' lo (m - 1))) ?step ?fin ⟨0, rfl, ch1, d1, by omega, fun i i1 i2 => by congr 1; omega⟩) ?post)
      case fin =>
        rintro c st' ⟨neq, rfl, ch, d, q1, q2⟩
        rw [show max (n + 1) nrem = nrem by omega] at d q1 q2 ⊢
        exact ⟨nrem, neq, rfl, by omega, Nat.le_refl _, ch, d, q1, q2⟩
      case step =>
        rintro x c st' hx1 hx2 ⟨neq, rfl, ch, d, q1, q2⟩
        dsimp only
        have hsz : lo + x ≤ (arrOf st').size := by rw [ch.size]; omega
        refine wpS_bind (ask ch _ _ (by omega) (by omega) ?_)
        dsimp only
        rw [show lo + x - 1 = lo + (x - 1) by omega]
        cases e : O.blt (ky (at_ (arrOf st') (lo + x))) (ky (at_ (arrOf st') (lo + (x - 1)))) with
        | true =>
          rw [if_pos rfl]
          have more : ∀ st2 : SortSt, (∀ k, kf ky st2 lo k = kf ky st' lo k) → Dn ky st2 lo (x + 1) := fun st2 hk2 i j hij hj => by
            rw [hk2, hk2]
            by_cases e2 : j = x
            · by_cases e3 : i = x
              · rw [e2, e3]; exact KeyOrd.kle_refl _
              · rw [e2]; exact KeyOrd.kle_trans (KeyOrd.kle_of_klt e) (d i (x - 1) (by omega) (by omega))
            · exact d i j hij (by omega)
          by_cases hne : neq > 0
          · rw [if_pos hne]
            rw [show lo + x - (neq + 1) = lo + (x - (neq + 1)) by omega]
            refine wpS_bind (wpS_rev (wpS_pure ⟨0, rfl, ch.trans (chg_mirror (by omega) hsz), more _ (kf_mirror_eq hsz q2), by omega, fun i i1 i2 => by congr 1; omega⟩))
          · rw [if_neg hne]
            exact wpS_pure ⟨0, rfl, ch, more _ (fun _ => rfl), by omega, fun i i1 i2 => by congr 1; omega⟩
        | false =>
          rw [if_neg Bool.false_ne_true]
          refine wpS_bind (ask ch _ _ (by omega) (by omega) ?_)
          dsimp only
          cases e2 : O.blt (ky (at_ (arrOf st') (lo + (x - 1)))) (ky (at_ (arrOf st') (lo + x))) with
          | true =>
            rw [if_pos rfl]
            exact wpS_pure ⟨x, neq, rfl, by omega, by omega, ch, d, q1, q2⟩
          | false =>
            rw [if_neg Bool.false_ne_true]
            have heq : kf ky st' lo x = kf ky st' lo (x - 1) := KeyOrd.kle_antisymm e2 e
            refine wpS_pure ⟨neq + 1, rfl, ch, fun i j hij hj => ?_, by omega, fun i i1 i2 => ?_⟩
            · by_cases e3 : j = x
              · by_cases e4 : i = x
                · rw [e3, e4]; exact KeyOrd.kle_refl _
                · rw [e3, heq]; exact d i (x - 1) (by omega) (by omega)
              · exact d i j hij (by omega)
            · rw [show x + 1 - 1 = x by omega]
              by_cases e3 : i = x
              · rw [e3]
              · rw [heq]; exact q2 i (by omega) (by omega)
      case post =>
        rintro c st' ⟨m, neq, rfl, m1, m2, ch, d, q1, q2⟩
        dsimp only
        have hsz : lo + m ≤ (arrOf st').size := by rw [ch.size]; omega
        by_cases hne : neq > 0
        · rw [if_pos hne]
          rw [show lo + m - (neq + 1) = lo + (m - (neq + 1)) by omega]
          refine wpS_bind (wpS_rev ?_)
          have ch2 := ch.trans (chg_mirror (lo := lo) (i := lo + (m - (neq + 1))) (j := lo + m) (st := st') (by omega) hsz)
          have d2 : Dn ky (setArr st' (mirror (arrOf st') (lo + (m - (neq + 1))) (lo + m) ((lo + m - (lo + (m - (neq + 1)))) / 2))) lo m := fun i j hij hj => by
            rw [kf_mirror_eq hsz q2, kf_mirror_eq hsz q2]; exact d i j hij hj
          generalize setArr st' (mirror (arrOf st') (lo + (m - (neq + 1))) (lo + m) ((lo + m - (lo + (m - (neq + 1)))) / 2)) = st4 at ch2 d2 ⊢
          refine wpS_bind (wpS_rev ?_)
          have hsz3 : lo + m ≤ (arrOf st4).size := by rw [(ch2).size]; omega
          have ch3 := (ch2).trans (chg_mirror (lo := lo) (i := lo + 0) (j := lo + m) (st := st4) (by omega) hsz3)
          have up3 : Up ky (setArr st4 (mirror (arrOf st4) (lo + 0) (lo + m) ((lo + m - (lo + 0)) / 2))) lo m := fun i j hij hj => by
            rw [kf_mirror hsz3, kf_mirror hsz3, if_pos (by omega), if_pos (by omega)]
            exact d2 _ _ (by omega) (by omega)
          refine wpS_bind (asc_loop (ky := ky) (lo := lo) (by omega) (by omega) up3 ?_ (fun n3 a1 a2 a3 _ => wpS_pure (h n3 _ ch3 (by omega) a2 a3)))
          intro x n' b1 b2 R r1 r2
          refine wpS_bind (ask ch3 _ _ (by omega) (by omega) ?_)
          dsimp only
          rw [show lo + n' - 1 = lo + (n' - 1) by omega]
          cases e : O.blt (ky (at_ (mirror (arrOf st4) (lo + 0) (lo + m) ((lo + m - (lo + 0)) / 2)) (lo + n'))) (ky (at_ (mirror (arrOf st4) (lo + 0) (lo + m) ((lo + m - (lo + 0)) / 2)) (lo + (n' - 1)))) with
          | true => exact wpS_pure (r1 e)
          | false => exact wpS_pure (r2 e)
        · rw [if_neg hne]
          refine wpS_bind (wpS_rev ?_)
          have hsz3 : lo + m ≤ (arrOf st').size := by rw [(ch).size]; omega
          have ch3 := (ch).trans (chg_mirror (lo := lo) (i := lo + 0) (j := lo + m) (st := st') (by omega) hsz3)
          have up3 : Up ky (setArr st' (mirror (arrOf st') (lo + 0) (lo + m) ((lo + m - (lo + 0)) / 2))) lo m := fun i j hij hj => by
            rw [kf_mirror hsz3, kf_mirror hsz3, if_pos (by omega), if_pos (by omega)]
            exact d _ _ (by omega) (by omega)
          refine wpS_bind (asc_loop (ky := ky) (lo := lo) (by omega) (by omega) up3 ?_ (fun n3 a1 a2 a3 _ => wpS_pure (h n3 _ ch3 (by omega) a2 a3)))
          intro x n' b1 b2 R r1 r2
          refine wpS_bind (ask ch3 _ _ (by omega) (by omega) ?_)
          dsimp only
          rw [show lo + n' - 1 = lo + (n' - 1) by omega]
          cases e : O.blt (ky (at_ (mirror (arrOf st') (lo + 0) (lo + m) ((lo + m - (lo + 0)) / 2)) (lo + n'))) (ky (at_ (mirror (arrOf st') (lo + 0) (lo + m) ((lo + m - (lo + 0)) / 2)) (lo + (n' - 1)))) with
          | true => exact wpS_pure (r1 e)
          | false => exact wpS_pure (r2 e)
  · rw [if_neg hgt]
    have d1 : Dn ky st0 lo (n + 1) := fun i j hij hj => by
      by_cases c : i = j
      · rw [c]; exact KeyOrd.kle_refl _
      · rw [show i = n - 1 by omega, show j = n by omega]; exact KeyOrd.kle_of_klt hlt
    refine wpS_bind (wpS_lift (wpAny_rule ⟨rfl, ?_⟩))
    refine wpS_bind (wpS_mono (wpS_forRange
      (I := fun x c st' => ∃ neq, c = (none, x, neq) ∧ Chg lo st0 st' ∧ Dn ky st' lo x ∧ neq + 1 ≤ x ∧ (∀ i, x - (neq + 1) ≤ i → i < x → kf ky st' lo i = kf ky st' lo (x - 1)))
      (Q := fun c st' => ∃ m neq, c = (none, m, neq) ∧ n + 1 ≤ m ∧ m ≤ nrem ∧ Chg lo st0 st' ∧ Dn ky st' lo m ∧ neq + 1 ≤ m ∧ (∀ i, m - (neq + 1) ≤ i → i < m → kf ky st' lo i = kf ky st' lo (m - 1))) ?step ?fin ⟨0, rfl, Chg.refl _ _, d1, by omega, fun i i1 i2 => by congr 1; omega⟩) ?post)
    case fin =>
      rintro c st' ⟨neq, rfl, ch, d, q1, q2⟩
      rw [show max (n + 1) nrem = nrem by omega] at d q1 q2 ⊢
      exact ⟨nrem, neq, rfl, by omega, Nat.le_refl _, ch, d, q1, q2⟩
    case step =>
      rintro x c st' hx1 hx2 ⟨neq, rfl, ch, d, q1, q2⟩
      dsimp only
      have hsz : lo + x ≤ (arrOf st').size := by rw [ch.size]; omega
      refine wpS_bind (ask ch _ _ (by omega) (by omega) ?_)
      dsimp only
      rw [show lo + x - 1 = lo + (x - 1) by omega]
      cases e : O.blt (ky (at_ (arrOf st') (lo + x))) (ky (at_ (arrOf st') (lo + (x - 1)))) with
      | true =>
        rw [if_pos rfl]
        have more : ∀ st2 : SortSt, (∀ k, kf ky st2 lo k = kf ky st' lo k) → Dn ky st2 lo (x + 1) := fun st2 hk2 i j hij hj => by
          rw [hk2, hk2]
          by_cases e2 : j = x
          · by_cases e3 : i = x
            · rw [e2, e3]; exact KeyOrd.kle_refl _
            · rw [e2]; exact KeyOrd.kle_trans (KeyOrd.kle_of_klt e) (d i (x - 1) (by omega) (by omega))
          · exact d i j hij (by omega)
        by_cases hne : neq > 0
        · rw [if_pos hne]
          rw [show lo + x - (neq + 1) = lo + (x - (neq + 1)) by omega]
          refine wpS_bind (wpS_rev (wpS_pure ⟨0, rfl, ch.trans (chg_mirror (by omega) hsz), more _ (kf_mirror_eq hsz q2), by omega, fun i i1 i2 => by congr 1; omega⟩))
        · rw [if_neg hne]
          exact wpS_pure ⟨0, rfl, ch, more _ (fun _ => rfl), by omega, fun i i1 i2 => by congr 1; omega⟩
      | false =>
        rw [if_neg Bool.false_ne_true]
        refine wpS_bind (ask ch _ _ (by omega) (by omega) ?_)
        dsimp only
        cases e2 : O.blt (ky (at_ (arrOf st') (lo + (x - 1)))) (ky (at_ (arrOf st') (lo + x))) with
        | true =>
          rw [if_pos rfl]
          exact wpS_pure ⟨x, neq, rfl, by omega, by omega, ch, d, q1, q2⟩
        | false =>
          rw [if_neg Bool.false_ne_true]
          have heq : kf ky st' lo x = kf ky st' lo (x - 1) := KeyOrd.kle_antisymm e2 e
          refine wpS_pure ⟨neq + 1, rfl, ch, fun i j hij hj => ?_, by omega, fun i i1 i2 => ?_⟩
          · by_cases e3 : j = x
            · by_cases e4 : i = x
              · rw [e3, e4]; exact KeyOrd.kle_refl _
              · rw [e3, heq]; exact d i (x - 1) (by omega) (by omega)
            · exact d i j hij (by omega)
          · rw [show x + 1 - 1 = x by omega]
            by_cases e3 : i = x
            · rw [e3]
            · rw [heq]; exact q2 i (by omega) (by omega)
    case post =>
      rintro c st' ⟨m, neq, rfl, m1, m2, ch, d, q1, q2⟩
      dsimp only
      have hsz : lo + m ≤ (arrOf st').size := by rw [ch.size]; omega
      by_cases hne : neq > 0
      · rw [if_pos hne]
        rw [show lo + m - (neq + 1) = lo + (m - (neq + 1)) by omega]
        refine wpS_bind (wpS_rev ?_)
        have ch2 := ch.trans (chg_mirror (lo := lo) (i := lo + (m - (neq + 1))) (j := lo + m) (st := st') (by omega) hsz)
        have d2 : Dn ky (setArr st' (mirror (arrOf st') (lo + (m - (neq + 1))) (lo + m) ((lo + m - (lo + (m - (neq + 1)))) / 2))) lo m := fun i j hij hj => by
          rw [kf_mirror_eq hsz q2, kf_mirror_eq hsz q2]; exact d i j hij hj
        generalize setArr st' (mirror (arrOf st') (lo + (m - (neq + 1))) (lo + m) ((lo + m - (lo + (m - (neq + 1)))) / 2)) = st4 at ch2 d2 ⊢
        refine wpS_bind (wpS_rev ?_)
        have hsz3 : lo + m ≤ (arrOf st4).size := by rw [(ch2).size]; omega
        have ch3 := (ch2).trans (chg_mirror (lo := lo) (i := lo + 0) (j := lo + m) (st := st4) (by omega) hsz3)
        have up3 : Up ky (setArr st4 (mirror (arrOf st4) (lo + 0) (lo + m) ((lo + m - (lo + 0)) / 2))) lo m := fun i j hij hj => by
          rw [kf_mirror hsz3, kf_mirror hsz3, if_pos (by omega), if_pos (by omega)]
          exact d2 _ _ (by omega) (by omega)
        refine wpS_bind (asc_loop (ky := ky) (lo := lo) (by omega) (by omega) up3 ?_ (fun n3 a1 a2 a3 _ => wpS_pure (h n3 _ ch3 (by omega) a2 a3)))
        intro x n' b1 b2 R r1 r2
        refine wpS_bind (ask ch3 _ _ (by omega) (by omega) ?_)
        dsimp only
        rw [show lo + n' - 1 = lo + (n' - 1) by omega]
        cases e : O.blt (ky (at_ (mirror (arrOf st4) (lo + 0) (lo + m) ((lo + m - (lo + 0)) / 2)) (lo + n'))) (ky (at_ (mirror (arrOf st4) (lo + 0) (lo + m) ((lo + m - (lo + 0)) / 2)) (lo + (n' - 1)))) with
        | true => exact wpS_pure (r1 e)
        | false => exact wpS_pure (r2 e)
      · rw [if_neg hne]
        refine wpS_bind (wpS_rev ?_)
        have hsz3 : lo + m ≤ (arrOf st').size := by rw [(ch).size]; omega
        have ch3 := (ch).trans (chg_mirror (lo := lo) (i := lo + 0) (j := lo + m) (st := st') (by omega) hsz3)
        have up3 : Up ky (setArr st' (mirror (arrOf st') (lo + 0) (lo + m) ((lo + m - (lo + 0)) / 2))) lo m := fun i j hij hj => by
          rw [kf_mirror hsz3, kf_mirror hsz3, if_pos (by omega), if_pos (by omega)]
          exact d _ _ (by omega) (by omega)
        refine wpS_bind (asc_loop (ky := ky) (lo := lo) (by omega) (by omega) up3 ?_ (fun n3 a1 a2 a3 _ => wpS_pure (h n3 _ ch3 (by omega) a2 a3)))
        intro x n' b1 b2 R r1 r2
        refine wpS_bind (ask ch3 _ _ (by omega) (by omega) ?_)
        dsimp only
        rw [show lo + n' - 1 = lo + (n' - 1) by omega]
        cases e : O.blt (ky (at_ (mirror (arrOf st') (lo + 0) (lo + m) ((lo + m - (lo + 0)) / 2)) (lo + n'))) (ky (at_ (mirror (arrOf st') (lo + 0) (lo + m) ((lo + m - (lo + 0)) / 2)) (lo + (n' - 1)))) with
        | true => exact wpS_pure (r1 e)
        | false => exact wpS_pure (r2 e)
theorem wpS_bin (C : Cmp prog w A s kd O ky S) {st0 : SortSt} {lo n ok : Nat} {Q : Bool → SortSt → Prop} (hk0 : kindOf st0 = kd) (hS0 : ∀ p ∈ (arrOf st0).toList, S p) (hn : lo + n ≤ (arrOf st0).size) (hok : ok ≤ n) (hu : Up ky st0 lo ok)
    (h : ∀ st', Chg lo st0 st' → Up ky st' lo n → Q true st') : wpS (model prog w) A E s (binarySort' lo n ok) Q st0 := by
  unfold binarySort'
  refine wpS_bind (wpS_mono (wpS_forRange (I := fun k c st' => c = (none, ()) ∧ Chg lo st0 st' ∧ Up ky st' lo (min k n)) (Q := fun c st' => c = (none, ()) ∧ Chg lo st0 st' ∧ Up ky st' lo n) ?step ?fin ?init) ?post)
  case post =>
    rintro c st' ⟨rfl, ch, u⟩
    exact wpS_pure (h st' ch u)
  case init =>
    refine ⟨rfl, Chg.refl _ _, fun i j hij hj => ?_⟩
    by_cases z : i = j
    · rw [z]; exact KeyOrd.kle_refl _
    · exact hu i j hij (by omega)
  case fin =>
    rintro c st' ⟨hc, ch, u⟩
    rw [show min (max (max ok 1) n) n = n by omega] at u
    exact ⟨hc, ch, u⟩
  case step =>
    rintro k c st' hk1 hk2 ⟨rfl, ch, u⟩
    rw [show min k n = k by omega] at u
    have hsz := ch.size
    dsimp only
    refine wpS_bind (wpS_mono (wpS_forRange (I := fun x c st2 => st2 = st' ∧ ∃ l r, c = (none, l, r) ∧ l ≤ r ∧ r ≤ k ∧ r - l ≤ k - x ∧ (∀ i, i < l → O.kle (kf ky st' lo i) (kf ky st' lo k)) ∧ (∀ i, r ≤ i → i < k → O.klt (kf ky st' lo k) (kf ky st' lo i)))
      (Q := fun c st2 => st2 = st' ∧ ∃ l r, c = (none, l, r) ∧ l ≤ k ∧ (∀ i, i < l → O.kle (kf ky st' lo i) (kf ky st' lo k)) ∧ (∀ i, l ≤ i → i < k → O.klt (kf ky st' lo k) (kf ky st' lo i))) ?s2 ?f2 ⟨rfl, 0, k, rfl, by omega, by omega, by omega, fun i hi => by omega, fun i i1 i2 => by omega⟩) ?p2)
    case f2 =>
      rintro c st2 ⟨rfl, l, r, rfl, a1, a2, a3, a4, a5⟩
      obtain rfl : l = r := by omega
      exact ⟨rfl, l, l, rfl, a2, a4, a5⟩
    case s2 =>
      rintro x c st2 _ hx ⟨rfl, l, r, rfl, a1, a2, a3, a4, a5⟩
      dsimp only
      by_cases hge : l ≥ r
      · rw [if_pos hge]
        obtain rfl : l = r := by omega
        exact wpS_pure ⟨rfl, l, l, rfl, a2, a4, a5⟩
      · rw [if_neg hge]
        refine wpS_bind (wpS_ltAt' C (ch.kind.trans hk0) (ch.all hS0) (by omega) (by omega) ?_)
        dsimp only
        cases e : O.blt (ky (at_ (arrOf st2) (lo + k))) (ky (at_ (arrOf st2) (lo + (l + r) / 2))) with
        | true =>
          rw [if_pos rfl]
          exact wpS_pure ⟨rfl, l, (l + r) / 2, rfl, by omega, by omega, by omega, a4, fun i i1 i2 => KeyOrd.klt_of_klt_of_kle e (u _ i i1 i2)⟩
        | false =>
          rw [if_neg Bool.false_ne_true]
          exact wpS_pure ⟨rfl, (l + r) / 2 + 1, r, rfl, by omega, by omega, by omega, fun i i1 => KeyOrd.kle_trans (u i ((l + r) / 2) (by omega) (by omega)) e, a5⟩
    case p2 =>
      rintro c st2 ⟨rfl, l, r, rfl, a1, a4, a5⟩
      dsimp only
      have hks : lo + k < (arrOf st2).size := by omega
      show wpS _ _ _ _ (moveDown' (lo + k) (lo + l) >>= fun _ => pure (ForInStep.yield (none, ()))) _ _
      rw [moveDown'_eq]
      refine wpS_bind (wpS_modify (wpS_pure ⟨rfl, ch.trans (chg_bubble hks (by omega) (by omega)), ?_⟩))
      rw [show min (k + 1) n = k + 1 by omega]
      intro i j hij hj
      show O.kle (ky (at_ (bubble (arrOf st2) (lo + k) (lo + k - (lo + l))) (lo + i))) (ky (at_ (bubble (arrOf st2) (lo + k) (lo + k - (lo + l))) (lo + j)))
      rw [at_bubble hks (by omega), at_bubble hks (by omega), show lo + k - (lo + k - (lo + l)) = lo + l by omega]
      by_cases i1 : i = l
      · rw [if_pos (by omega)]
        by_cases j1 : j = l
        · rw [if_pos (by omega)]; exact KeyOrd.kle_refl _
        · rw [if_neg (by omega), if_pos (by omega), show lo + j - 1 = lo + (j - 1) by omega]
          exact KeyOrd.kle_of_klt (a5 (j - 1) (by omega) (by omega))
      · rw [if_neg (by omega)]
        by_cases i2 : l < i
        · rw [if_pos (by omega), if_neg (by omega), if_pos (by omega), show lo + i - 1 = lo + (i - 1) by omega, show lo + j - 1 = lo + (j - 1) by omega]
          exact u _ _ (by omega) (by omega)
        · rw [if_neg (by omega)]
          by_cases j1 : j = l
          · rw [if_pos (by omega)]; exact a4 i (by omega)
          · rw [if_neg (by omega)]
            by_cases j2 : l < j
            · rw [if_pos (by omega), show lo + j - 1 = lo + (j - 1) by omega]; exact u _ _ (by omega) (by omega)
            · rw [if_neg (by omega)]; exact u _ _ hij (by omega)
end
end TS
set_option linter.all false
namespace TS
open PySem PyProof.Rows
def offs : Nat → List (List Keyed) → List (Nat × Nat)
  | _, [] => []
  | o, g :: r => (o, g.length) :: offs (o + g.length) r
theorem offs_append : ∀ (p q : List (List Keyed)) (o : Nat), offs o (p ++ q) = offs o p ++ offs (o + p.flatten.length) q
  | [], q, o => by simp [offs]
  | g :: r, q, o => by
    show (o, g.length) :: offs (o + g.length) (r ++ q) = (o, g.length) :: offs (o + g.length) r ++ _
    rw [offs_append r q, List.cons_append, List.flatten_cons, List.length_append, Nat.add_assoc]
theorem offs_length : ∀ (p : List (List Keyed)) (o : Nat), (offs o p).length = p.length
  | [], _ => rfl
  | g :: r, o => by show (offs (o + g.length) r).length + 1 = _; rw [offs_length r]; rfl
def two (p : Nat × Nat × Nat) : Nat × Nat := (p.1, p.2.1)
structure Stk (O : KeyOrd) (ky : Keyed → O.α) (kd : SortKind) (a0 : Array Keyed) (st : SortSt) (segs : List (List Keyed)) (rest : List Keyed) : Prop where
  kind : kindOf st = kd
  fail : failedOf st = none
  arr : (arrOf st).toList = segs.flatten ++ rest
  perm : (arrOf st).Perm a0
  pend : (pendingOf st).toList.map two = offs 0 segs
  each : ∀ g ∈ segs, g ≠ [] ∧ Srt O ky g
theorem at_seg {arr : Array Keyed} {P G T : List Keyed} (h : arr.toList = P ++ (G ++ T)) {i : Nat} {x : Keyed} (hx : G[i]? = some x) : at_ arr (P.length + i) = x := by
  have e : arr.toList[P.length + i]? = some x := by
    rw [h, List.getElem?_append_right (by omega), show P.length + i - P.length = i by omega, List.getElem?_append_left (List.getElem?_eq_some_iff.mp hx).1]
    exact hx
  unfold at_
  rw [← Array.getElem?_toList, e]; rfl
section
variable {O : KeyOrd} {ky : Keyed → O.α}
theorem srt_ij {G : List Keyed} (h : Srt O ky G) {i j : Nat} {x y : Keyed} (hij : i ≤ j) (hx : G[i]? = some x) (hy : G[j]? = some y) : R O ky x y := by
  obtain ⟨h1, e1⟩ := List.getElem?_eq_some_iff.mp hx
  obtain ⟨h2, e2⟩ := List.getElem?_eq_some_iff.mp hy
  by_cases e : i = j
  · subst e
    rw [hx] at hy
    cases hy
    exact KeyOrd.kle_refl _
  · have := List.pairwise_iff_getElem.mp h i j h1 h2 (by omega)
    rw [e1, e2] at this
    exact this
theorem seg_srt {arr : Array Keyed} {P G T : List Keyed} (h : arr.toList = P ++ (G ++ T)) (hs : Srt O ky G) : ∀ i j, i ≤ j → j < G.length → R O ky (at_ arr (P.length + i)) (at_ arr (P.length + j)) := fun i j hij hj => by
  have e1 : G[i]? = some G[i] := List.getElem?_eq_getElem _
  have e2 : G[j]? = some G[j] := List.getElem?_eq_getElem _
  rw [at_seg h e1, at_seg h e2]
  exact srt_ij hs hij e1 e2
end
theorem write_back (sa : Nat) : ∀ (m : List Keyed) (n : Nat) (arr : Array Keyed), sa + n + m.length ≤ arr.size →
    ((m.zipIdx n).foldl (fun a (x : Keyed × Nat) => match x with | (p, j) => a.setIfInBounds (sa + j) p) arr).toList = arr.toList.take (sa + n) ++ (m ++ arr.toList.drop (sa + n + m.length))
  | [], n, arr, _ => by simp
  | p :: r, n, arr, h => by
    rw [List.length_cons] at h
    rw [List.zipIdx_cons, List.foldl_cons]
    have ih := write_back sa r (n + 1) (arr.setIfInBounds (sa + n) p) (by simp; omega)
    rw [ih]
    have hlt : sa + n < arr.toList.length := by simp; omega
    have el : (arr.setIfInBounds (sa + n) p).toList = arr.toList.set (sa + n) p := by simp
    rw [el, show sa + (n + 1) = sa + n + 1 by omega, List.take_add_one, List.length_cons]
    rw [List.take_set_of_le (by omega), List.getElem?_set_self hlt, List.drop_set_of_lt (by omega)]
    simp [Nat.add_assoc, Nat.add_comm, Nat.add_left_comm]
section
variable {prog : Program} {w : World} {A : Around} {E : Value → Shared → Prop} {s : Shared}
variable {kd : SortKind} {O : KeyOrd} {ky : Keyed → O.α} {S : Keyed → Prop} {a0 : Array Keyed}
theorem pend_split {st : SortSt} {pre post : List (List Keyed)} {F G : List Keyed} (h : (pendingOf st).toList.map two = offs 0 (pre ++ F :: G :: post)) : ∃ p1 w1 w2 p2, (pendingOf st).toList = p1 ++ (pre.flatten.length, F.length, w1) :: (pre.flatten.length + F.length, G.length, w2) :: p2 ∧ p1.length = pre.length ∧ p1.map two = offs 0 pre ∧ p2.map two = offs (pre.flatten.length + F.length + G.length) post := by
  rw [offs_append] at h
  obtain ⟨p1, p2, e, e1, e2⟩ := List.map_eq_append_iff.mp h
  have h2 : p2.map two = (0 + pre.flatten.length, F.length) :: (0 + pre.flatten.length + F.length, G.length) :: offs (0 + pre.flatten.length + F.length + G.length) post := e2
  rw [Nat.zero_add] at h2
  obtain ⟨q1, p3, rfl, f1, f2⟩ := List.map_eq_cons_iff.mp h2
  obtain ⟨q2, p4, rfl, g1, g2⟩ := List.map_eq_cons_iff.mp f2
  obtain ⟨x1, x2, x3⟩ := q1
  obtain ⟨y1, y2, y3⟩ := q2
  obtain ⟨rfl, rfl⟩ := Prod.mk.inj (show (x1, x2) = _ from f1)
  obtain ⟨rfl, rfl⟩ := Prod.mk.inj (show (y1, y2) = _ from g1)
  refine ⟨p1, x3, y3, p4, e, ?_, e1, g2⟩
  have := congrArg List.length e1
  rw [List.length_map, offs_length] at this
  exact this
theorem wpS_mergeAt (C : Cmp prog w A s kd O ky S) {st : SortSt} {pre post : List (List Keyed)} {F G : List Keyed} {rest : List Keyed} {i : Nat} {Q : Bool → SortSt → Prop} (hS : ∀ p ∈ a0.toList, S p) (h : Stk O ky kd a0 st (pre ++ F :: G :: post) rest) (hi : i = pre.length)
    (k : ∀ st' M, Stk O ky kd a0 st' (pre ++ M :: post) rest → M.length = F.length + G.length → Q true st') : wpS (model prog w) A E s (mergeAt' i) Q st := by
  obtain ⟨p1, w1, w2, p2, ep, l1, q1, q2⟩ := pend_split h.pend
  have hSa : ∀ p ∈ (arrOf st).toList, S p := fun p hp => hS p ((Array.perm_iff_toList_perm.mp h.perm).mem_iff.mp hp)
  have hF := h.each F (List.mem_append_right _ List.mem_cons_self)
  have hG := h.each G (List.mem_append_right _ (List.mem_cons_of_mem _ List.mem_cons_self))
  have lF : 1 ≤ F.length := List.length_pos_iff.mpr hF.1
  have lG : 1 ≤ G.length := List.length_pos_iff.mpr hG.1
  have arrF : (arrOf st).toList = pre.flatten ++ (F ++ (G ++ (post.flatten ++ rest))) := by
    rw [h.arr]; simp
  have arrG : (arrOf st).toList = (pre.flatten ++ F) ++ (G ++ (post.flatten ++ rest)) := by
    rw [arrF]; simp
  have lenG : (pre.flatten ++ F).length = pre.flatten.length + F.length := List.length_append
  have hsz : pre.flatten.length + F.length + G.length ≤ (arrOf st).size := by
    have := congrArg List.length arrF
    rw [List.length_append, List.length_append, List.length_append, Array.length_toList] at this
    omega
  have srF := seg_srt arrF hF.2
  have srG := seg_srt arrG hG.2
  rw [lenG] at srG
  have g1 : (pendingOf st)[i]? = some (pre.flatten.length, F.length, w1) := by
    rw [← Array.getElem?_toList, ep, hi, ← l1]; simp
  have g2 : (pendingOf st)[i + 1]? = some (pre.flatten.length + F.length, G.length, w2) := by
    rw [← Array.getElem?_toList, ep, hi, ← l1, List.getElem?_append_right (by omega)]; simp
  unfold mergeAt'
  refine wpS_bind (wpS_get ?_)
  rw [show (pendingOf st)[i]? = _ from g1, show (pendingOf st)[i + 1]? = _ from g2]
  dsimp only
  -- what is told whatever is merged
  have fin : ∀ (st' : SortSt) (M : List Keyed), kindOf st' = kindOf st → failedOf st' = failedOf st → (arrOf st').toList = pre.flatten ++ (M ++ (post.flatten ++ rest)) → M.Perm (F ++ G) → Srt O ky M →
      pendingOf st' = ((pendingOf st).setIfInBounds i (pre.flatten.length, F.length + G.length, w1)).eraseIdxIfInBounds (i + 1) → Q true st' := by
    intro st' M k1 k2 k3 k4 k5 k6
    refine k st' M ⟨k1.trans h.kind, k2.trans h.fail, ?_, ?_, ?_, fun g hg => ?_⟩ (by rw [k4.length_eq, List.length_append])
    · rw [k3]; simp
    · refine Array.Perm.trans (Array.perm_iff_toList_perm.mpr ?_) h.perm
      rw [k3, arrF]
      refine List.Perm.append_left _ ?_
      rw [← List.append_assoc F]
      exact k4.append_right _
    · rw [k6]
      have e : (((pendingOf st).setIfInBounds i (pre.flatten.length, F.length + G.length, w1)).eraseIdxIfInBounds (i + 1)).toList = p1 ++ (pre.flatten.length, F.length + G.length, w1) :: p2 := by
        simp [ep]
        rw [hi, ← l1, List.set_append_right _ _ (Nat.le_refl _), Nat.sub_self, List.set_cons_zero, List.eraseIdx_append_of_length_le (by omega), show p1.length + 1 - p1.length = 1 by omega]
        rfl
      rw [e, List.map_append, q1, List.map_cons, q2, offs_append, Nat.zero_add]
      show _ = offs 0 pre ++ (pre.flatten.length, M.length) :: offs (pre.flatten.length + M.length) post
      rw [k4.length_eq, List.length_append, ← Nat.add_assoc]
      rfl
    · rcases List.mem_append.mp hg with hg | hg
      · exact h.each g (List.mem_append_left _ hg)
      · rcases List.mem_cons.mp hg with hg | hg
        · subst hg
          refine ⟨fun z => ?_, k5⟩
          have := k4.length_eq
          rw [z, List.length_append] at this
          simp at this
          omega
        · exact h.each g (List.mem_append_right _ (List.mem_cons_of_mem _ (List.mem_cons_of_mem _ hg)))
  have fG : ∀ {i : Nat}, i < G.length → ∃ x, G[i]? = some x ∧ at_ (arrOf st) (pre.flatten.length + F.length + i) = x := fun {i} hi => by
    refine ⟨G[i], List.getElem?_eq_getElem _, ?_⟩
    have := at_seg arrG (i := i) (List.getElem?_eq_getElem hi)
    rw [lenG] at this
    exact this
  have fF : ∀ {i : Nat}, i < F.length → ∃ x, F[i]? = some x ∧ at_ (arrOf st) (pre.flatten.length + i) = x := fun {i} hi => ⟨F[i], List.getElem?_eq_getElem _, at_seg arrF (List.getElem?_eq_getElem hi)⟩
  have memF : ∀ {x : Keyed} {i j : Nat}, x ∈ (F.take j).drop i → ∃ n, i ≤ n ∧ n < j ∧ n < F.length ∧ at_ (arrOf st) (pre.flatten.length + n) = x := fun {x i j} hx => by
    obtain ⟨n, hn, e⟩ := List.getElem_of_mem hx
    rw [List.length_drop, List.length_take] at hn
    refine ⟨i + n, by omega, by omega, by omega, at_seg arrF ?_⟩
    have e2 : ((F.take j).drop i)[n]? = some x := by rw [← e]; exact List.getElem?_eq_getElem _
    rw [List.getElem?_drop, List.getElem?_take, if_pos (by omega)] at e2
    exact e2
  have memG : ∀ {x : Keyed} {i j : Nat}, x ∈ (G.take j).drop i → ∃ n, i ≤ n ∧ n < j ∧ n < G.length ∧ at_ (arrOf st) (pre.flatten.length + F.length + n) = x := fun {x i j} hx => by
    obtain ⟨n, hn, e⟩ := List.getElem_of_mem hx
    rw [List.length_drop, List.length_take] at hn
    have e2 : ((G.take j).drop i)[n]? = some x := by rw [← e]; exact List.getElem?_eq_getElem _
    rw [List.getElem?_drop, List.getElem?_take, if_pos (by omega)] at e2
    have := at_seg arrG e2
    rw [lenG] at this
    exact ⟨i + n, by omega, by omega, by omega, this⟩
  have allF : F = (F.take F.length).drop 0 := by simp
  have allG : G = (G.take G.length).drop 0 := by simp
  refine wpS_bind (wpS_modify (f := fun _ => _) ?_)
  refine wpS_bind (wpS_elem (at_eq (show pre.flatten.length + F.length < (arrOf st).size by omega)) ?_)
  refine wpS_bind (wpS_gal C h.kind (hSa _ (at_mem (show pre.flatten.length + F.length < (arrOf st).size by omega))) hSa srF (show pre.flatten.length + F.length ≤ (arrOf st).size by omega) (by omega) fun kk hkk r1 r2 => ?_)
  dsimp only
  simp only [Bool.false_eq_true, if_false] at r1 r2
  have G0 : ∀ y ∈ G, R O ky (at_ (arrOf st) (pre.flatten.length + F.length)) y := fun y hy => by
    rw [allG] at hy
    obtain ⟨n, _, _, n3, rfl⟩ := memG hy
    exact srG 0 n (by omega) n3
  by_cases z1 : (F.length - kk == 0) = true
  · rw [if_pos z1]
    have z1' : F.length - kk = 0 := by simpa using z1
    refine wpS_pure (fin _ (F ++ G) rfl rfl ?_ (List.Perm.refl _) ?_ rfl)
    · show (arrOf st).toList = _
      rw [arrF]; simp
    · unfold Srt
      rw [List.pairwise_append]
      refine ⟨hF.2, hG.2, fun x hx y hy => ?_⟩
      rw [allF] at hx
      obtain ⟨n, _, _, n3, rfl⟩ := memF hx
      exact KeyOrd.kle_trans (r1 n (by omega)) (G0 y hy)
  rw [if_neg z1]
  have z1' : ¬ F.length - kk = 0 := by simpa using z1
  have elast : pre.flatten.length + kk + (F.length - kk) - 1 = pre.flatten.length + (F.length - 1) := by omega
  rw [elast]
  refine wpS_bind (wpS_elem (at_eq (show pre.flatten.length + (F.length - 1) < (arrOf st).size by omega)) ?_)
  refine wpS_bind (wpS_gal C h.kind (hSa _ (at_mem (show pre.flatten.length + (F.length - 1) < (arrOf st).size by omega))) hSa srG (show pre.flatten.length + F.length + G.length ≤ (arrOf st).size by omega) (by omega) fun nn hnn t1 t2 => ?_)
  dsimp only
  simp only [if_true] at t1 t2
  have FL : ∀ x ∈ F, R O ky x (at_ (arrOf st) (pre.flatten.length + (F.length - 1))) := fun x hx => by
    rw [allF] at hx
    obtain ⟨n, _, _, n3, rfl⟩ := memF hx
    exact srF n (F.length - 1) (by omega) (by omega)
  by_cases z2 : (nn == 0) = true
  · rw [if_pos z2]
    have z2' : nn = 0 := by simpa using z2
    refine wpS_pure (fin _ (F ++ G) rfl rfl ?_ (List.Perm.refl _) ?_ rfl)
    · show (arrOf st).toList = _
      rw [arrF]; simp
    · unfold Srt
      rw [List.pairwise_append]
      refine ⟨hF.2, hG.2, fun x hx y hy => ?_⟩
      rw [allG] at hy
      obtain ⟨n, _, _, n3, rfl⟩ := memG hy
      exact KeyOrd.kle_trans (FL x hx) (t2 n (by omega) n3)
  rw [if_neg z2]
  have z2' : ¬ nn = 0 := by simpa using z2
  have hx : ((arrOf st).extract (pre.flatten.length + kk) (pre.flatten.length + F.length)).toList = F.drop kk := by
    rw [ext2, arrG, ← lenG, List.take_append_of_le_length (Nat.le_refl _), List.take_length, ← List.drop_drop]
    simp
  have hy : ((arrOf st).extract (pre.flatten.length + F.length) (pre.flatten.length + F.length + nn)).toList = G.take nn := by
    rw [ext_some, arrG, ← lenG, List.drop_append_of_le_length (Nat.le_refl _), List.drop_length, List.nil_append, List.take_append_of_le_length hnn]
  have szx : ((arrOf st).extract (pre.flatten.length + kk) (pre.flatten.length + F.length)).size = F.length - kk := by
    rw [← Array.length_toList, hx, List.length_drop]
  have szy : ((arrOf st).extract (pre.flatten.length + F.length) (pre.flatten.length + F.length + nn)).size = nn := by
    rw [← Array.length_toList, hy, List.length_take]; omega
  generalize (arrOf st).extract (pre.flatten.length + kk) (pre.flatten.length + F.length) = x at hx szx ⊢
  generalize (arrOf st).extract (pre.flatten.length + F.length) (pre.flatten.length + F.length + nn) = y at hy szy ⊢
  have inF : ∀ p ∈ F, S p := fun p hp => hSa p (by rw [arrF]; exact List.mem_append_right _ (List.mem_append_left _ hp))
  have inG : ∀ p ∈ G, S p := fun p hp => hSa p (by rw [arrF]; exact List.mem_append_right _ (List.mem_append_right _ (List.mem_append_left _ hp)))
  have hSx : ∀ p ∈ x.toList, S p := fun p hp => inF p (by rw [hx] at hp; exact List.mem_of_mem_drop hp)
  have hSy : ∀ p ∈ y.toList, S p := fun p hp => inG p (by rw [hy] at hp; exact List.mem_of_mem_take hp)
  have sx : Srt O ky x.toList := by rw [hx]; exact drop_srt hF.2 _
  have sy : Srt O ky y.toList := by rw [hy]; exact take_srt hG.2 _
  have y0 : at_ y 0 = at_ (arrOf st) (pre.flatten.length + F.length) := by
    obtain ⟨g, hg1, hg2⟩ := fG (i := 0) lG
    have e : y.toList[0]? = some g := by rw [hy, List.getElem?_take, if_pos (by omega)]; exact hg1
    rw [show pre.flatten.length + F.length = pre.flatten.length + F.length + 0 from rfl, hg2]
    unfold at_
    rw [← Array.getElem?_toList, e]; rfl
  have xl : at_ x (x.size - 1) = at_ (arrOf st) (pre.flatten.length + (F.length - 1)) := by
    obtain ⟨g, hg1, hg2⟩ := fF (i := F.length - 1) (by omega)
    have e : x.toList[x.size - 1]? = some g := by rw [hx, szx, List.getElem?_drop, show kk + (F.length - kk - 1) = F.length - 1 by omega]; exact hg1
    rw [hg2]
    unfold at_
    rw [← Array.getElem?_toList, e]; rfl
  have h0 : ∀ p ∈ x.toList, R O ky (at_ y 0) p := fun p hp => by
    rw [hx, show F.drop kk = (F.take F.length).drop kk by rw [List.take_length]] at hp
    obtain ⟨n, n1, _, n3, rfl⟩ := memF hp
    rw [y0]
    exact KeyOrd.kle_of_klt (r2 n n1 n3)
  have hl : ∀ p ∈ y.toList, R O ky p (at_ x (x.size - 1)) := fun p hp => by
    rw [hy, show G.take nn = (G.take nn).drop 0 by rw [List.drop_zero]] at hp
    obtain ⟨n, _, n2, n3, rfl⟩ := memG hp
    rw [xl]
    exact KeyOrd.kle_of_klt (t1 n n2)
  have last : ∀ (o : Array Keyed) (st' : SortSt), Good O ky x y o → SameSt (SortSt.mk' (kindOf st) (arrOf st) (((pendingOf st).setIfInBounds i (pre.flatten.length, F.length + G.length, w1)).eraseIdxIfInBounds (i + 1)) (gallopOf st) (failedOf st)) st' →
      (failedOf st').isNone = true ∧ Q true (SortSt.mk' (kindOf st') (o.toList.zipIdx.foldl (fun a (x : Keyed × Nat) => match x with | (p, j) => a.setIfInBounds (pre.flatten.length + kk + j) p) (arrOf st')) (pendingOf st') (gallopOf st') (failedOf st')) := by
    intro o st' go ss
    obtain ⟨pm, so⟩ := go
    rw [hx, hy] at pm
    have lo : o.toList.length = F.length - kk + nn := by rw [pm.length_eq, List.length_append, List.length_drop, List.length_take]; omega
    refine ⟨by rw [show failedOf st' = failedOf st from ss.fail, h.fail]; rfl, ?_⟩
    refine fin _ (F.take kk ++ (o.toList ++ G.drop nn)) ss.kind ss.fail ?_ ?_ ?_ ss.pend
    · show (o.toList.zipIdx.foldl _ (arrOf st')).toList = _
      rw [show arrOf st' = arrOf st from ss.arr]
      have wb := write_back (pre.flatten.length + kk) o.toList 0 (arrOf st) (by omega)
      rw [Nat.add_zero] at wb
      refine wb.trans ?_
      have d1 : (arrOf st).toList.take (pre.flatten.length + kk) = pre.flatten ++ F.take kk := by
        rw [arrF, List.take_length_add_append, List.take_append_of_le_length (by omega)]
      have d2 : (arrOf st).toList.drop (pre.flatten.length + kk + o.toList.length) = G.drop nn ++ (post.flatten ++ rest) := by
        rw [arrG, lo, show pre.flatten.length + kk + (F.length - kk + nn) = (pre.flatten ++ F).length + nn by rw [lenG]; omega, List.drop_length_add_append, List.drop_append_of_le_length hnn]
      rw [d1, d2]; simp
    · have e1 := List.take_append_drop kk F
      have e2 := List.take_append_drop nn G
      conv => rhs; rw [← e1, ← e2]
      rw [List.append_assoc]
      refine List.Perm.append_left _ ?_
      rw [← List.append_assoc]
      exact pm.append_right _
    · have mo : ∀ p ∈ o.toList, p ∈ F.drop kk ∨ p ∈ G.take nn := fun p hp => List.mem_append.mp (pm.mem_iff.mp hp)
      unfold Srt
      rw [List.pairwise_append, List.pairwise_append]
      refine ⟨take_srt hF.2 _, ⟨so, drop_srt hG.2 _, fun p hp q hq => ?_⟩, fun p hp q hq => ?_⟩
      · rcases mo p hp with hp | hp
        · rw [show G.drop nn = (G.take G.length).drop nn by rw [List.take_length]] at hq
          obtain ⟨n, n1, _, n3, rfl⟩ := memG hq
          exact KeyOrd.kle_trans (FL p (List.mem_of_mem_drop hp)) (t2 n n1 n3)
        · exact split_srt hG.2 nn p hp q hq
      · have ub : R O ky p (at_ (arrOf st) (pre.flatten.length + F.length)) := by
          rw [show F.take kk = (F.take kk).drop 0 by rw [List.drop_zero]] at hp
          obtain ⟨n, _, n2, n3, rfl⟩ := memF hp
          exact r1 n n2
        rcases List.mem_append.mp hq with hq | hq
        · rcases mo q hq with hq | hq
          · exact split_srt hF.2 kk p hp q hq
          · exact KeyOrd.kle_trans ub (G0 q (List.mem_of_mem_take hq))
        · exact KeyOrd.kle_trans ub (G0 q (List.mem_of_mem_drop hq))
  by_cases hle : F.length - kk ≤ nn
  · rw [if_pos hle]
    refine wpS_bind (wpS_mergeLo C h.kind hSx hSy sx sy (by omega) (by omega) h0 hl fun o st' go ss => ?_)
    obtain ⟨l1, l2⟩ := last o st' go ss
    refine wpS_bind (wpS_modify (wpS_bind (wpS_get (wpS_pure ?_))))
    rw [show (failedOf st').isNone = true from l1]
    exact l2
  · rw [if_neg hle]
    refine wpS_bind (wpS_mergeHi C h.kind hSx hSy sx sy (by omega) (by omega) h0 hl fun o st' go ss => ?_)
    obtain ⟨l1, l2⟩ := last o st' go ss
    refine wpS_bind (wpS_modify (wpS_bind (wpS_get (wpS_pure ?_))))
    rw [show (failedOf st').isNone = true from l1]
    exact l2
end
end TS
set_option linter.all false
namespace TS
open PySem PyProof.Rows
section
variable {prog : Program} {w : World} {A : Around} {E : Value → Shared → Prop} {s : Shared}
variable {kd : SortKind} {O : KeyOrd} {ky : Keyed → O.α} {S : Keyed → Prop} {a0 : Array Keyed}
theorem Stk.chg {st st' : SortSt} {segs : List (List Keyed)} {rest : List Keyed} {lo : Nat} (h : Stk O ky kd a0 st segs rest) (c : Chg lo st st') (hl : segs.flatten.length = lo) : Stk O ky kd a0 st' segs ((arrOf st').toList.drop lo) := by
  refine ⟨c.kind.trans h.kind, c.fail.trans h.fail, ?_, c.perm.trans h.perm, by rw [c.pend]; exact h.pend, h.each⟩
  have e : (arrOf st').toList.take lo = segs.flatten := by
    have e0 : (arrOf st).toList.take lo = segs.flatten := by rw [h.arr, ← hl, List.take_append_of_le_length (Nat.le_refl _), List.take_length]
    rw [← e0]
    apply List.ext_getElem?
    intro i
    rw [List.getElem?_take, List.getElem?_take]
    by_cases hi : i < lo
    · rw [if_pos hi, if_pos hi, Array.getElem?_toList, Array.getElem?_toList]; exact c.low i hi
    · rw [if_neg hi, if_neg hi]
  rw [← e, List.take_append_drop]
theorem up_srt {st : SortSt} {lo n : Nat} (hn : lo + n ≤ (arrOf st).size) (h : Up ky st lo n) : Srt O ky (((arrOf st).toList.drop lo).take n) := by
  unfold Srt
  rw [List.pairwise_iff_getElem]
  intro i j hi hj hij
  rw [List.length_take, List.length_drop] at hi hj
  have hat : ∀ k (hk : k < (((arrOf st).toList.drop lo).take n).length), (((arrOf st).toList.drop lo).take n)[k] = at_ (arrOf st) (lo + k) := fun k hk => by
    have hk' := hk
    rw [List.length_take, List.length_drop] at hk'
    have e : (((arrOf st).toList.drop lo).take n)[k]? = some (((arrOf st).toList.drop lo).take n)[k] := List.getElem?_eq_getElem _
    rw [List.getElem?_take, if_pos (by omega), List.getElem?_drop, at_list (by omega)] at e
    exact (Option.some.inj e).symm
  rw [hat, hat]
  exact h i j (by omega) (by omega)
theorem Stk.push {st : SortSt} {segs : List (List Keyed)} {rest : List Keyed} {lo n : Nat} (h : Stk O ky kd a0 st segs rest) (hl : segs.flatten.length = lo) (h1 : 1 ≤ n) (hn : n ≤ rest.length) (hs : Srt O ky (rest.take n)) {st' : SortSt} (k1 : kindOf st' = kindOf st) (k2 : failedOf st' = failedOf st) (k3 : arrOf st' = arrOf st) (k4 : (pendingOf st').toList.map two = (pendingOf st).toList.map two ++ [(lo, n)]) :
    Stk O ky kd a0 st' (segs ++ [rest.take n]) (rest.drop n) := by
  have hln : (rest.take n).length = n := by rw [List.length_take]; omega
  refine ⟨k1.trans h.kind, k2.trans h.fail, ?_, by rw [k3]; exact h.perm, ?_, fun g hg => ?_⟩
  · rw [k3, h.arr]; simp
  · rw [k4, h.pend, offs_append, Nat.zero_add, hl]
    show _ = _ ++ [(lo, (rest.take n).length)]
    rw [hln]
  · rcases List.mem_append.mp hg with hg | hg
    · exact h.each g hg
    · have : g = rest.take n := by simpa using hg
      subst this
      refine ⟨fun z => ?_, hs⟩
      rw [z] at hln
      simp at hln
      omega
theorem pend_size {st : SortSt} {segs : List (List Keyed)} {rest : List Keyed} (h : Stk O ky kd a0 st segs rest) : (pendingOf st).size = segs.length := by
  have := congrArg List.length h.pend
  rw [List.length_map, offs_length, Array.length_toList] at this
  exact this
theorem two_modify (p : Array (Nat × Nat × Nat)) (i v : Nat) : (p.modify i fun x => (x.1, x.2.1, v)).toList.map two = p.toList.map two := by
  apply List.ext_getElem?
  intro j
  rw [List.getElem?_map, List.getElem?_map, Array.getElem?_toList, Array.getElem?_toList, Array.getElem?_modify]
  split
  · cases p[j]? with
    | none => rfl
    | some x => rfl
  · rfl
theorem snoc2 {α : Type} {l : List α} (h : 2 ≤ l.length) {i : Nat} (hi : i + 2 = l.length ∨ i + 3 = l.length) : ∃ pre F G post, l = pre ++ F :: G :: post ∧ pre.length = i := by
  have h1 : i < l.length := by omega
  have h2 : i + 1 < l.length := by omega
  refine ⟨l.take i, l[i], l[i + 1], l.drop (i + 2), ?_, by rw [List.length_take]; omega⟩
  conv => lhs; rw [← List.take_append_drop i l, List.drop_eq_getElem_cons h1, List.drop_eq_getElem_cons h2]
theorem pick {m i : Nat} {o : Option Nat} {f : Nat → Bool} (h2 : 2 ≤ m) (hb : (if Option.any f (if m - 2 > 0 then o else none) = true then m - 2 - 1 else m - 2) = i) : i + 2 = m ∨ i + 3 = m := by
  by_cases c : Option.any f (if m - 2 > 0 then o else none) = true
  · rw [if_pos c] at hb
    by_cases z : m - 2 > 0
    · right; omega
    · rw [if_neg z] at c; simp at c
  · rw [if_neg c] at hb; left; omega
theorem flat_join {pre post : List (List Keyed)} {F G M : List Keyed} (h : M.length = F.length + G.length) : (pre ++ M :: post).flatten.length = (pre ++ F :: G :: post).flatten.length := by
  simp [h, Nat.add_assoc]
theorem wpS_sort (C : Cmp prog w A s kd O ky S) {st0 : SortSt} {Q : Unit → SortSt → Prop} (hS : ∀ p ∈ (arrOf st0).toList, S p) (hk : kindOf st0 = kd) (hf : failedOf st0 = none) (hp : pendingOf st0 = #[])
    (h : ∀ st', (arrOf st').Perm (arrOf st0) → failedOf st' = none → Srt O ky (arrOf st').toList → Q () st') : wpS (model prog w) A E s sortRuns' Q st0 := by
  unfold sortRuns'
  refine wpS_bind (wpS_get ?_)
  dsimp only
  generalize hsz : (arrOf st0).size = size
  generalize (sortPriv% PySem.Builtin.minRun) size size 0 = minrun
  have base : Stk O ky kd (arrOf st0) st0 [] (arrOf st0).toList := ⟨hk, hf, rfl, Array.Perm.refl _, by rw [hp]; rfl, fun _ z => by cases z⟩
  have szof : ∀ {st : SortSt} {segs : List (List Keyed)} {rest : List Keyed}, Stk O ky kd (arrOf st0) st segs rest → (arrOf st).size = size ∧ segs.flatten.length + rest.length = size := fun {st segs rest} k => by
    have e := k.perm.size_eq
    have e2 := congrArg List.length k.arr
    rw [List.length_append, Array.length_toList] at e2
    exact ⟨by omega, by omega⟩
  have allS : ∀ {st : SortSt} {segs : List (List Keyed)} {rest : List Keyed}, Stk O ky kd (arrOf st0) st segs rest → ∀ p ∈ (arrOf st).toList, S p := fun {st segs rest} k p hp => hS p ((Array.perm_iff_toList_perm.mp k.perm).mem_iff.mp hp)
  refine wpS_bind (wpS_mono (wpS_forRange
    (I := fun x c st' => c.1 = none ∧ x ≤ c.2 ∧ ∃ segs rest, Stk O ky kd (arrOf st0) st' segs rest ∧ segs.flatten.length = c.2)
    (Q := fun c st' => c.1 = none ∧ ∃ segs, Stk O ky kd (arrOf st0) st' segs []) ?step ?fin ⟨rfl, Nat.le_refl _, [], _, base, rfl⟩) ?post)
  case fin =>
    rintro c st' ⟨c1, c2, segs, rest, k, kl⟩
    obtain ⟨_, e⟩ := szof k
    have : rest = [] := List.eq_nil_of_length_eq_zero (by omega)
    subst this
    exact ⟨c1, segs, k⟩
  case post =>
    rintro ⟨r, lo⟩ st1 ⟨c1, segs, k⟩
    dsimp only at c1 ⊢
    subst c1
    dsimp only
    obtain ⟨_, esz⟩ := szof k
    have ls : segs.length ≤ size := by
      have : ∀ l : List (List Keyed), (∀ g ∈ l, g ≠ [] ∧ Srt O ky g) → l.length ≤ l.flatten.length := by
        intro l
        induction l with
        | nil => intro _; exact Nat.le_refl _
        | cons g r ih =>
          intro hg
          have a := ih fun x hx => hg x (List.mem_cons_of_mem _ hx)
          have b := List.length_pos_iff.mpr (hg g List.mem_cons_self).1
          rw [List.length_cons, List.flatten_cons, List.length_append]
          omega
      have := this segs k.each
      simp at esz
      simp at this
      omega
    refine wpS_bind (wpS_mono (wpS_forRange
      (I := fun x c st' => c = (none, ()) ∧ ∃ segs, Stk O ky kd (arrOf st0) st' segs [] ∧ (segs.length ≤ 1 ∨ segs.length + x ≤ size))
      (Q := fun c st' => c = (none, ()) ∧ ∃ segs, Stk O ky kd (arrOf st0) st' segs [] ∧ segs.length ≤ 1) ?st2 ?fn2 ⟨rfl, segs, k, .inr (by omega)⟩) ?ps2)
    case fn2 =>
      rintro c st' ⟨c1, segs, k, hor⟩
      exact ⟨c1, segs, k, by rcases hor with q | q <;> omega⟩
    case ps2 =>
      rintro c st' ⟨rfl, segs, k, hle⟩
      refine wpS_pure (h st' k.perm k.fail ?_)
      rw [k.arr, List.append_nil]
      match segs, hle, k.each with
      | [], _, _ => exact List.Pairwise.nil
      | [g], _, he =>
        rw [List.flatten_cons, List.flatten_nil, List.append_nil]
        exact (he g List.mem_cons_self).2
    case st2 =>
      rintro x c st' _ hx ⟨rfl, segs, k, hor⟩
      have ps := pend_size k
      refine wpS_bind (wpS_get ?_)
      by_cases hle : (pendingOf st').size ≤ 1
      · rw [if_pos hle]
        exact wpS_pure ⟨rfl, segs, k, by omega⟩
      · rw [if_neg hle]
        generalize hb : (if Option.any _ _ = true then (pendingOf st').size - 2 - 1 else (pendingOf st').size - 2) = i
        have hi := pick (show 2 ≤ (pendingOf st').size by omega) hb
        rw [ps] at hi
        obtain ⟨pre, F, G, post, rfl, hpl⟩ := snoc2 (by omega) hi
        refine wpS_bind (wpS_mergeAt C hS k hpl.symm fun st2 M k2 ml => ?_)
        rw [if_neg (by decide)]
        refine wpS_pure ⟨rfl, pre ++ M :: post, k2, .inr ?_⟩
        simp only [List.length_append, List.length_cons] at hor hle ps ⊢
        omega
  case step =>
    rintro x ⟨r, lo⟩ st1 _ hx ⟨c1, c2, segs, rest, k, kl⟩
    dsimp only at c1 c2 kl ⊢
    subst c1
    obtain ⟨ea, er⟩ := szof k
    by_cases hge : lo ≥ size
    · rw [if_pos hge]
      have : rest = [] := List.eq_nil_of_length_eq_zero (by omega)
      subst this
      exact wpS_pure ⟨rfl, segs, k⟩
    rw [if_neg hge]
    refine wpS_bind (wpS_run C k.kind (allS k) (by omega) (by omega) fun n st2 ch n1 n2 up => ?_)
    have k2 := k.chg ch kl
    dsimp only
    by_cases hmr : n < minrun
    · rw [if_pos hmr]
      refine wpS_bind (wpS_lift (wpAny_rule ⟨rfl, ?_⟩))
      obtain ⟨ea2, _⟩ := szof k2
      refine wpS_bind (wpS_bin C k2.kind (allS k2) (by omega) (by omega) up fun stB chB upB => ?_)
      rw [if_neg (by decide)]
      have kB := k2.chg chB kl
      generalize hfo : min (size - lo) minrun = force at upB ⊢
      have es := szof kB
      have hrl : ((arrOf stB).toList.drop lo).length = size - lo := by rw [List.length_drop, Array.length_toList]; omega
      have hsr : Srt O ky (((arrOf stB).toList.drop lo).take (force)) := up_srt (by omega) upB
      generalize (arrOf stB).toList.drop lo = rest2 at kB es hrl hsr
      refine wpS_bind (wpS_get ?_)
      cases hb : (pendingOf stB).back? with
      | none =>
        dsimp only
        refine wpS_bind (wpS_modify (wpS_pure ⟨rfl, by dsimp only; omega, _, _, Stk.push kB kl (by omega) (by omega) hsr rfl rfl rfl (by
          show (((pendingOf stB).push (lo, force, 0)).toList.map two) = _
          rw [Array.toList_push, List.map_append]; rfl), ?_⟩))
        dsimp only
        rw [List.flatten_append, List.length_append, kl]
        simp
        omega
      | some q =>
        obtain ⟨s1, n1', w1'⟩ := q
        dsimp only
        refine wpS_bind (wpS_mono (wpS_forRange
          (I := fun x c st' => c = (none, ()) ∧ ∃ segs, Stk O ky kd (arrOf st0) st' segs rest2 ∧ segs.flatten.length = lo)
          (Q := fun c st' => c = (none, ()) ∧ ∃ segs, Stk O ky kd (arrOf st0) st' segs rest2 ∧ segs.flatten.length = lo) ?sA (fun _ _ z => z) ⟨rfl, segs, kB, kl⟩) ?pA)
        case sA =>
          rintro x' c st3 _ hx' ⟨rfl, segs3, k3, kl3⟩
          have ps := pend_size k3
          refine wpS_bind (wpS_get ?_)
          cases ho : (if (pendingOf st3).size > 1 then (pendingOf st3)[(pendingOf st3).size - 2]? else none) with
          | none => exact wpS_pure ⟨rfl, segs3, k3, kl3⟩
          | some q3 =>
            obtain ⟨u1, u2, older⟩ := q3
            dsimp only
            have hp1 : (pendingOf st3).size > 1 := by
              by_cases z : (pendingOf st3).size > 1
              · exact z
              · rw [if_neg z] at ho; cases ho
            split
            · exact wpS_pure ⟨rfl, segs3, k3, kl3⟩
            · obtain ⟨pre, F, G, post, rfl, hpl⟩ := snoc2 (l := segs3) (i := (pendingOf st3).size - 2) (by omega) (.inl (by omega))
              refine wpS_bind (wpS_mergeAt C hS k3 hpl.symm fun st4 M k4 ml => ?_)
              rw [if_neg (by decide)]
              exact wpS_pure ⟨rfl, pre ++ M :: post, k4, by rw [flat_join ml]; exact kl3⟩
        case pA =>
          rintro c st3 ⟨rfl, segs3, k3, kl3⟩
          dsimp only
          refine wpS_bind (wpS_modify ?_)
          refine wpS_bind (wpS_modify (wpS_pure ⟨rfl, by dsimp only; omega, _, _, Stk.push k3 kl3 (by omega) (by omega) hsr rfl rfl rfl (by
            show (((Array.modify (pendingOf st3) ((pendingOf st3).size - 1) _).push (lo, force, 0)).toList.map two) = _
            rw [Array.toList_push, List.map_append, two_modify]; rfl), ?_⟩))
          dsimp only
          rw [List.flatten_append, List.length_append, kl3]
          simp
          omega
    · rw [if_neg hmr]
      have es := szof k2
      have hrl : ((arrOf st2).toList.drop lo).length = size - lo := by rw [List.length_drop, Array.length_toList]; omega
      have hsr : Srt O ky (((arrOf st2).toList.drop lo).take (n)) := up_srt (by omega) up
      generalize (arrOf st2).toList.drop lo = rest2 at k2 es hrl hsr
      refine wpS_bind (wpS_get ?_)
      cases hb : (pendingOf st2).back? with
      | none =>
        dsimp only
        refine wpS_bind (wpS_modify (wpS_pure ⟨rfl, by dsimp only; omega, _, _, Stk.push k2 kl (by omega) (by omega) hsr rfl rfl rfl (by
          show (((pendingOf st2).push (lo, n, 0)).toList.map two) = _
          rw [Array.toList_push, List.map_append]; rfl), ?_⟩))
        dsimp only
        rw [List.flatten_append, List.length_append, kl]
        simp
        omega
      | some q =>
        obtain ⟨s1, n1', w1'⟩ := q
        dsimp only
        refine wpS_bind (wpS_mono (wpS_forRange
          (I := fun x c st' => c = (none, ()) ∧ ∃ segs, Stk O ky kd (arrOf st0) st' segs rest2 ∧ segs.flatten.length = lo)
          (Q := fun c st' => c = (none, ()) ∧ ∃ segs, Stk O ky kd (arrOf st0) st' segs rest2 ∧ segs.flatten.length = lo) ?sA (fun _ _ z => z) ⟨rfl, segs, k2, kl⟩) ?pA)
        case sA =>
          rintro x' c st3 _ hx' ⟨rfl, segs3, k3, kl3⟩
          have ps := pend_size k3
          refine wpS_bind (wpS_get ?_)
          cases ho : (if (pendingOf st3).size > 1 then (pendingOf st3)[(pendingOf st3).size - 2]? else none) with
          | none => exact wpS_pure ⟨rfl, segs3, k3, kl3⟩
          | some q3 =>
            obtain ⟨u1, u2, older⟩ := q3
            dsimp only
            have hp1 : (pendingOf st3).size > 1 := by
              by_cases z : (pendingOf st3).size > 1
              · exact z
              · rw [if_neg z] at ho; cases ho
            split
            · exact wpS_pure ⟨rfl, segs3, k3, kl3⟩
            · obtain ⟨pre, F, G, post, rfl, hpl⟩ := snoc2 (l := segs3) (i := (pendingOf st3).size - 2) (by omega) (.inl (by omega))
              refine wpS_bind (wpS_mergeAt C hS k3 hpl.symm fun st4 M k4 ml => ?_)
              rw [if_neg (by decide)]
              exact wpS_pure ⟨rfl, pre ++ M :: post, k4, by rw [flat_join ml]; exact kl3⟩
        case pA =>
          rintro c st3 ⟨rfl, segs3, k3, kl3⟩
          dsimp only
          refine wpS_bind (wpS_modify ?_)
          refine wpS_bind (wpS_modify (wpS_pure ⟨rfl, by dsimp only; omega, _, _, Stk.push k3 kl3 (by omega) (by omega) hsr rfl rfl rfl (by
            show (((Array.modify (pendingOf st3) ((pendingOf st3).size - 1) _).push (lo, n, 0)).toList.map two) = _
            rw [Array.toList_push, List.map_append, two_modify]; rfl), ?_⟩))
          dsimp only
          rw [List.flatten_append, List.length_append, kl3]
          simp
          omega
end
end TS
set_option linter.all false
set_option maxRecDepth 100000
namespace TS
open PySem PyProof.Rows
section
variable {prog : Program} {w : World} {A : Around} {E : Value → Shared → Prop} {s : Shared}
variable {kd : SortKind} {O : KeyOrd} {ky : Keyed → O.α} {S : Keyed → Prop}
def Rises (O : KeyOrd) (ky : Keyed → O.α) (l : List Value) : Prop := l.Pairwise fun x y => O.kle (ky (x, x)) (ky (y, y))
theorem out_of {vs : List Value} {xs : Array Keyed} (hp : xs.Perm (pairsOf vs)) (hs : Srt O ky xs.toList) : (xs.map (·.2)).toList.Perm vs ∧ Rises O ky (xs.map (·.2)).toList := by
  have hl : xs.toList.Perm (vs.zip vs) := by rw [← pairsOf_toList]; exact Array.perm_iff_toList_perm.mp hp
  have same : ∀ p ∈ xs.toList, p = (p.2, p.2) := fun p hp' => by
    have e := (mem_zip_self (hl.mem_iff.mp hp')).1
    exact Prod.ext e rfl
  rw [Array.toList_map]
  refine ⟨?_, ?_⟩
  · have q := hl.map (·.2)
    rwa [List.map_snd_zip (Nat.le_refl _)] at q
  · unfold Rises
    rw [List.pairwise_map]
    unfold Srt at hs
    refine List.Pairwise.imp_of_mem ?_ hs
    intro p q h1 h2 r
    have e1 := same p h1
    have e2 := same q h2
    unfold R at r
    rw [e1, e2] at r
    exact r
theorem sort_tree {a : Addr} {vs : List Value} {n : Nat} {P : Fin → Shared → Prop} (ho : s.heap.get? a = some (seqObj "list" vs.toArray n)) (hz : vs.length ≤ sizeLine) (hS : ∀ v ∈ vs, S (v, v))
    (hkk : ∀ s' : Shared, 2 ≤ vs.length → (∀ b o, b ≠ a → s.heap.get? b = some o → s'.heap.get? b = some o) → ∀ Q : SortKind → Shared → Prop, Q kd s' → wpAny (model prog w) A (keyKind' vs.toArray) Q E s')
    (hC : ∀ s' : Shared, (∀ b o, b ≠ a → s.heap.get? b = some o → s'.heap.get? b = some o) → Cmp prog w A s' kd O ky S)
    (h : ∀ out : Array Value, out.toList.Perm vs → Rises O ky out.toList → P (.done (.ret .none)) { s with heap := sortedHeap s.heap a vs out }) :
    wpAny (model prog w) A (Builtin.«list.sort» ⟨[.ref a], []⟩) P E s := by
  have ha : a < s.heap.objs.size := Heap.lt_size ho
  have hsz : vs.toArray.size = vs.length := by simp
  rw [list_sort_plain]
  refine wpAny_bind (listItems_at ho rfl (wpAny_bind (listUpdate_at ho rfl ?_ (by rw [hsz]; exact hz) (Nat.zero_le _))))
  have ho1 := get?_update_seq ho (fun _ => #[])
  generalize hh1 : s.heap.update a (Obj.mapSeq fun _ => #[]) = h1 at ho1 ⊢
  have hs1 : h1.objs.size = s.heap.objs.size := by rw [← hh1, Heap.size_update]
  have k1 : ∀ b o, b ≠ a → s.heap.get? b = some o → h1.get? b = some o := fun b o hb e => by rw [← hh1, Heap.get?_update_ne _ _ _ _ hb]; exact e
  refine wpAny_bind (seqEpoch_at ho1 rfl (wpAny_bind (wpAny_newTuple (wpAny_bind (wpAny_newList (wpAny_holding ?_))) (by show vs.toArray.toList.length ≤ _; exact hz))))
  have ho3 : ((h1.push (seqObj "tuple" vs.toArray 0)).push (seqObj "list" #[] 0)).get? a = some (seqObj "list" #[] _) := Heap.get?_push_of_some _ (Heap.get?_push_of_some _ ho1)
  have k3 : ∀ b o, b ≠ a → s.heap.get? b = some o → ((h1.push (seqObj "tuple" vs.toArray 0)).push (seqObj "list" #[] 0)).get? b = some o := fun b o hb e => Heap.get?_push_of_some _ (Heap.get?_push_of_some _ (k1 b o hb e))
  show wpAny (model prog w) A _ P E { s with heap := (h1.push (seqObj "tuple" vs.toArray 0)).push (seqObj "list" #[] 0) }
  dsimp only
  have fin : ∀ out : Array Value, out.toList.Perm vs → Rises O ky out.toList → P (.done (.ret .none)) { s with heap := ((h1.push (seqObj "tuple" vs.toArray 0)).push (seqObj "list" #[] 0)).update a (Obj.mapSeq fun _ => out) } := fun out p r => by
    have := h out p r
    unfold sortedHeap at this
    rw [hh1] at this
    exact this
  have olen : ∀ out : Array Value, out.toList.Perm vs → out.size ≤ sizeLine + 1 := fun out p => by
    have := p.length_eq
    rw [Array.length_toList] at this
    omega
  by_cases h2 : vs.toArray.size < 2
  · rw [if_pos h2, if_pos h2]
    refine wpAny_bind (wpAny_pure ?_)
    rw [StateT.run_pure]
    refine wpAny_bind (wpAny_pure ?_)
    have hp : ((vs.toArray.zip vs.toArray).map (·.2)).toList = vs := by simp [List.map_snd_zip]
    dsimp only
    refine wpAny_bind (seqEpoch_at ho3 rfl (wpAny_bind (listUpdate_at ho3 rfl ?_ (Nat.zero_le _) (olen _ (by rw [hp])))))
    simp only [bne_self_eq_false, Bool.false_eq_true, if_false]
    refine wpAny_pure (fin _ (by rw [hp]) ?_)
    rw [hp]
    match vs, hsz ▸ h2 with
    | [], _ => exact List.Pairwise.nil
    | [v], _ => exact List.pairwise_singleton _ _
    | _ :: _ :: _, z => simp at z; omega
  · rw [if_neg h2, if_neg h2]
    refine wpAny_bind (hkk _ (by omega) k3 _ ?_)
    refine wpAny_bind (wpAny_mono (wpS_sort (hC _ k3) (st0 := SortSt.mk' kd (vs.toArray.zip vs.toArray) #[] 7 none) (Q := fun _ st' => (arrOf st').Perm (pairsOf vs) ∧ failedOf st' = none ∧ Srt O ky (arrOf st').toList) (fun p hp => ?_) rfl rfl rfl fun st' a1 a2 a3 => ⟨a1, a2, a3⟩) ?_ fun _ _ e => e)
    · have hp' : p ∈ vs.zip vs := by
        have : p ∈ (pairsOf vs).toList := hp
        rwa [pairsOf_toList] at this
      have e := mem_zip_self hp'
      have : p = (p.1, p.1) := Prod.ext rfl e.1.symm
      rw [this]; exact hS _ e.2
    · rintro ⟨⟨⟩, st'⟩ s' ⟨rfl, hp, hf, hs⟩
      obtain ⟨o1, o2⟩ := out_of hp hs
      dsimp only
      refine wpAny_bind (seqEpoch_at ho3 rfl (wpAny_bind (listUpdate_at ho3 rfl ?_ (Nat.zero_le _) (olen _ o1))))
      rw [hf]
      simp only [bne_self_eq_false, Bool.false_eq_true, if_false]
      exact wpAny_pure (fin _ o1 o2)
def intOrd : KeyOrd where
  α := Int
  blt := fun a b => decide (a < b)
  irrefl := fun a => by simp
  trans := fun a b c h1 h2 => by simp at *; omega
  negTrans := fun a b c h => by simp at *; omega
  total := fun a b h1 h2 => by simp at *; omega
def intKy (p : Keyed) : Int := numOf p.1
theorem cmp_int : Cmp prog w A s oneType' intOrd intKy (fun p => ∃ n t, p.1 = .int n t) where
  lt := fun p q ⟨n, t, e1⟩ ⟨m, u, e2⟩ E Q h => by
    rw [e1, e2, keyLt'_oneType]
    refine oneLt_int ?_
    have : intOrd.blt (intKy p) (intKy q) = decide (n < m) := by
      show decide (numOf p.1 < numOf q.1) = _
      rw [e1, e2]; rfl
    rw [← this]; exact h
theorem rises_ints {vs out : List Value} {ns : List Int} (hI : IntsAre vs ns) (hp : out.Perm vs) (hr : Rises intOrd intKy out) : ∃ ns', IntsAre out ns' ∧ ns'.Perm ns ∧ ns'.Pairwise (· ≤ ·) := by
  have hall : ∀ v ∈ out, ∃ n t, v = .int n t := fun v hv => hI.all v (hp.mem_iff.mp hv)
  refine ⟨out.map numOf, intsAre_map out hall, ?_, ?_⟩
  · have := hp.map numOf
    rwa [hI.nums] at this
  · rw [List.pairwise_map]
    refine List.Pairwise.imp (fun {x y} r => ?_) hr
    have r' : decide (numOf y < numOf x) = false := r
    have := of_decide_eq_false r'
    omega
theorem sorted_gen {r : Value} {V : List Value → Prop} {Q : Value → Shared → Prop} (hz : ∀ vs, V vs → vs.length ≤ sizeLine) (hS : ∀ vs, V vs → ∀ v ∈ vs, S (v, v))
    (hcol : ∀ {E : Value → Shared → Prop} {R : List Value → Shared → Prop}, (∀ (h' : Heap) (tk : Nat) (vs : List Value), V vs → (∀ b o, s.heap.get? b = some o → h'.get? b = some o) → R vs { s with heap := h', toks := tk }) → wpAny (model prog w) A.in1 (collect r) R E s)
    (hkk : ∀ (vs : List Value) (s' : Shared), V vs → 2 ≤ vs.length → (∀ b o, s.heap.get? b = some o → s'.heap.get? b = some o) → ∀ {A : Around} {E : Value → Shared → Prop} {Q : SortKind → Shared → Prop}, Q kd s' → wpAny (model prog w) A (keyKind' vs.toArray) Q E s')
    (hC : ∀ s' : Shared, (∀ b o, s.heap.get? b = some o → s'.heap.get? b = some o) → Cmp prog w A.in1.in1 s' kd O ky S)
    (h : ∀ (h1 h' : Heap) (tk : Nat) (vs : List Value) (out : Array Value) (n : Nat), V vs → (∀ b o, s.heap.get? b = some o → h1.get? b = some o) → (∀ b o, h1.get? b = some o → h'.get? b = some o) → h'.get? h1.objs.size = some (seqObj "list" out n) → out.toList.Perm vs → Rises O ky out.toList → Q (.ref h1.objs.size) { s with heap := h', toks := tk }) :
    wpAny (model prog w) A (call (.builtin "sorted") [r]) Q E s := by
  refine Calls.call_function_entry kind_sorted plain_sorted entry_sorted (args_sorted1 _) ?_
  unfold Builtin.«sorted»
  refine wpAny_bind (m := checkCount "sorted" 1 1 _) (wpAny_pure ?_)
  refine wpAny_bind (hcol fun h' tk vs hV hk => ?_)
  refine wpAny_bind (wpAny_newList ?_ (hz vs hV))
  have hoL : (h'.push (seqObj "list" vs.toArray 0)).get? h'.objs.size = some (seqObj "list" vs.toArray 0) := Heap.get?_push_size _ rfl
  have keep : ∀ s' : Shared, (∀ b o, b ≠ h'.objs.size → (h'.push (seqObj "list" vs.toArray 0)).get? b = some o → s'.heap.get? b = some o) → ∀ b o, s.heap.get? b = some o → s'.heap.get? b = some o := fun s' k b o e =>
    k b o (Nat.ne_of_lt (Heap.lt_size (hk b o e))) (Heap.get?_push_of_some _ (hk b o e))
  refine wpAny_bind (wpAny_holding (wpAny_call_entry slot_list_sort ⟨_, hoL, rfl⟩ entry_list_sort (sort_tree hoL (hz vs hV) (hS vs hV) (fun s' h2 k Q q => hkk vs s' hV h2 (keep s' k) q) (fun s' k => hC s' (keep s' k)) fun out p r => ⟨_, rfl, ?_⟩) (args_list_sort _)))
  refine wpAny_pure ⟨_, rfl, ?_⟩
  have hu := get?_update_seq hoL (fun _ => (#[] : Array Value))
  have hu2 := get?_update_seq (Heap.get?_push_of_some (seqObj "list" #[] 0) (Heap.get?_push_of_some (seqObj "tuple" vs.toArray 0) hu)) (fun _ => out)
  refine h h' (sortedHeap (h'.push (seqObj "list" vs.toArray 0)) h'.objs.size vs out) tk vs out _ hV hk (fun b o e => ?_) hu2 p r
  have hb : b ≠ h'.objs.size := Nat.ne_of_lt (Heap.lt_size e)
  unfold sortedHeap
  rw [Heap.get?_update_ne _ _ _ _ hb]
  refine Heap.get?_push_of_some _ (Heap.get?_push_of_some _ ?_)
  rw [Heap.get?_update_ne _ _ _ _ hb]
  exact Heap.get?_push_of_some _ e
end
end TS
set_option Elab.async false
set_option linter.all false
set_option maxRecDepth 100000
namespace L2
open PySem PySem.Spec PyProof.Rows PySem.W
theorem vals_intsAre : ∀ {ns : List Int} {us : List Value}, Vals (ns.map V.int) us → IntsAre us ns
  | [], _, r => by
    rw [List.map_nil] at r
    cases r; exact .nil
  | n :: ns, _, r => by
    rw [List.map_cons] at r
    cases r with
    | cons h t =>
      obtain ⟨t', rfl⟩ := (show ∃ t, _ = Value.int n t from h)
      exact .cons n t' (vals_intsAre t)
theorem intsAre_vals : ∀ {us : List Value} {ns : List Int}, IntsAre us ns → Vals (ns.map V.int) us
  | _, _, .nil => .nil
  | _, _, .cons n t h => .cons ⟨t, rfl⟩ (intsAre_vals h)
theorem kk_ints {prog : Program} {w : World} {vs : List Value} {ns : List Int} (hI : IntsAre vs ns) (h2 : 2 ≤ vs.length) {A : Around} {E : Value → Shared → Prop} {Q : SortKind → Shared → Prop} {s' : Shared} (q : Q oneType' s') : wpAny (model prog w) A (keyKind' vs.toArray) Q E s' := by
  obtain ⟨v1, v2, rest, rfl⟩ : ∃ v1 v2 rest, vs = v1 :: v2 :: rest := by
    match vs, h2 with
    | v1 :: v2 :: rest, _ => exact ⟨v1, v2, rest, rfl⟩
  rw [keyKind_ints hI]
  exact wpAny_pure q
section
variable {X : Cx}
def rSortI (ns : List Int) (H : Hp) (Q : VK) : Prop := ∀ (ns' : List Int) (p : Addr), ns'.Perm ns → ns'.Pairwise (· ≤ ·) → H p = none → Q (.ref p) (upd H p (.lst (ns'.map V.int)))
theorem sorted_ints_end {pins : List (Addr × Obj)} {s : Shared} {σ : St} {H : Hp} {Q : VK} {ns : List Int} {r : Value} (I : Inv X pins σ H s) (hz : ns.length ≤ sizeLine)
    (hcol : ∀ {E : Value → Shared → Prop} {R : List Value → Shared → Prop}, (∀ (h' : Heap) (tk : Nat) (vs : List Value), IntsAre vs ns → (∀ b o, s.heap.get? b = some o → h'.get? b = some o) → R vs { s with heap := h', toks := tk }) → wpAny (model X.prog X.w) X.A.in1 (collect r) R E s)
    (q : rSortI ns H Q) : wpAny (model X.prog X.w) X.A (call (.builtin "sorted") [r]) (EP X pins σ Q) X.xe s := by
  have lenOf : ∀ {vs : List Value} {ms : List Int}, IntsAre vs ms → vs.length = ms.length := fun {vs ms} h => by
    have := (intsAre_vals h).length
    rw [List.length_map] at this
    exact this.symm
  refine TS.sorted_gen (kd := oneType') (O := TS.intOrd) (ky := TS.intKy) (S := fun p => ∃ n t, p.1 = .int n t) (V := fun vs => IntsAre vs ns) (fun vs hI => by rw [lenOf hI]; exact hz) (fun vs hI v hv => hI.all v hv) hcol (fun vs s' hI h2 _ {_ _ _} qq => kk_ints hI h2 qq) (fun s' _ => TS.cmp_int) (fun h1 h' tk vs out n hI k1 k2 e p rr => ?_)
  obtain ⟨ns', a1, a2, a3⟩ := TS.rises_ints hI p rr
  have I1 : Inv X pins σ H { s with heap := h1 } := I.kept (t' := s.toks) k1
  refine ⟨.ref h1.objs.size, _, I1.laid (a := h1.objs.size) (o := .lst (ns'.map V.int)) (t' := tk) k2 (Nat.le_refl _) ?_, rfl, q ns' _ a2 a3 (I1.hok.fresh (Nat.le_refl _))⟩
  exact ⟨by rw [List.length_map, a2.length_eq]; exact hz, out.toList, n, intsAre_vals a1, by rw [Array.toArray_toList]; exact e⟩
theorem call_sortedD (hc : X.calm = true) : CallR X (.builtin "sorted") (fun xs H Q => ∃ a kvs ns, xs = [.ref a] ∧ Rd H a (.dK kvs) ∧ kvs.map (·.1) = ns.map Sum.inl ∧ rSortI ns H Q) := by
  intro pins s σ H xs us Q I r h
  obtain ⟨a, kvs, ns, rfl, hd, hk, q⟩ := h
  obtain ⟨u, rfl, rx⟩ := vals1 r
  cases rx
  obtain ⟨z, hs, vs, rel, dd⟩ := dk_rd I.hok hd
  obtain ⟨o, es, ep, dd⟩ := dd
  have dat : s.heap.DictAt (mixKind X.prog X.w) a vs ep := ⟨o, es, dd⟩
  have hh : X.A.in1.handled = none := I.ok.hd hc
  have hn : vs.length ≤ sizeLine := by rw [← rel.length]; exact z
  have hks : vs.map (·.1) = ns.map Sum.inl := by rw [← rel.keys]; exact hk
  have hnl : ns.length = vs.length := by
    have := congrArg List.length hks
    rw [List.length_map, List.length_map] at this
    exact this.symm
  refine sorted_ints_end I (by omega) (fun {E R} k => ?_) q
  refine kdu_collect (kdl_dict hs) hh dat hn fun h' tk acc kp hacc => k h' tk acc.toList ?_ kp
  -- the keys, one by one
  have each : ∀ (j : Nat) (v : Value), acc.toList[j]? = some v → ∃ (n : Int) (t : Tok), ns[j]? = some n ∧ v = .int n t := fun j v e => by
    obtain ⟨k', x, e1, e2⟩ := hacc.2 j v (by rw [← Array.getElem?_toList]; exact e)
    have e3 : (vs.map (·.1))[j]? = some k' := by rw [List.getElem?_map, e1]; rfl
    rw [hks, List.getElem?_map] at e3
    cases e4 : ns[j]? with
    | none => rw [e4] at e3; cases e3
    | some n =>
      rw [e4] at e3
      have e5 : k' = Sum.inl n := (Option.some.inj e3).symm
      subst e5
      obtain ⟨t, e6⟩ := Value.isInt_shape (k := n) (v := v) e2
      exact ⟨n, t, rfl, e6⟩
  have hl : acc.toList.length = ns.length := by rw [Array.length_toList, hacc.1, hnl]
  generalize acc.toList = l at each hl
  clear hacc k q hnl hks hk
  induction l generalizing ns with
  | nil =>
    cases ns with
    | nil => exact .nil
    | cons _ _ => simp at hl
  | cons v l ih =>
    cases ns with
    | nil => simp at hl
    | cons n ns =>
      obtain ⟨n', t, e1, e2⟩ := each 0 v rfl
      have : n = n' := by simpa using e1
      subst this
      rw [e2]
      exact .cons n t (ih ns (fun j v e => by
        obtain ⟨m, t', a1, a2⟩ := each (j + 1) v (by simpa using e)
        exact ⟨m, t', by simpa using a1, a2⟩) (by simpa using hl))
end
end L2
set_option Elab.async false
set_option linter.all false
set_option maxRecDepth 100000
namespace L2
open PySem PySem.Spec PyProof.Rows PySem.W
section
variable {X : Cx} {pins : List (Addr × Obj)} {σ : St} {H : Hp} {s : Shared}
theorem KV.get {κ : Type} [DecidableEq κ] {kvs : List (κ × V)} {vs : List (κ × Value)} (r : KV kvs vs) {i : Nat} {k : κ} {x : V} (h : kvs[i]? = some (k, x)) : ∃ u, vs[i]? = some (k, u) := by
  have e := congrArg (fun l => l[i]?) r.keys
  simp only [List.getElem?_map, h, Option.map_some] at e
  cases q : vs[i]? with
  | none => rw [q] at e; cases e
  | some p =>
    rw [q] at e
    obtain ⟨p1, p2⟩ := p
    have : k = p1 := Option.some.inj e
    subst this
    exact ⟨p2, rfl⟩
def rCount (K : Frag) : V → List V → Hp → VK → Prop := fun x vs H Q => ∃ (p : Addr) (ns : List Int) (k : Int), x = .ref p ∧ vs = [.int k] ∧ SqL K H p (ns.map V.int) ∧ Q (.int (ns.count k : Nat)) H
theorem mt_count : MtR X "list.count" (rCount X.K) := by
  intro pins s σ H x vs v us Q I rx rv h
  obtain ⟨p, ns, k, rfl, rfl, hs, q⟩ := h
  cases rx
  obtain ⟨u, rfl, ru⟩ := rv.one
  obtain ⟨t, rfl⟩ := ru
  obtain ⟨its, r, pl, hz⟩ := I.list hs
  exact count_list_ints pl.isList (vals_intsAre r) ⟨.int _, H, I.tok _, ⟨_, rfl⟩, q⟩
end
end L2
set_option Elab.async false
set_option linter.all false
set_option maxRecDepth 100000
set_option maxHeartbeats 4000000
namespace PH
open PySem L2 PySem.W
theorem boot_sorted' : bootBuiltins "sorted" = some (.builtin "sorted") := by decide +kernel
structure Prs (H : Hp) (p : Addr) (zs : List (Addr × Int × Int)) : Prop where
  at_ : H p = some (.lst (zs.map fun z => V.ref z.1))
  each : ∀ z ∈ zs, H z.1 = some (.tup [.int z.2.1, .int z.2.2])
def pD (c : Int × Int) : DV := .tup [.int c.1, .int c.2]
def prD (cs : List (Int × Int)) : DV := .lst (cs.map pD)
theorem Prs.same {H H' : Hp} {p : Addr} {zs : List (Addr × Int × Int)} (h : Prs H p zs) (s : Same H H') : Prs H' p zs := ⟨s _ _ h.at_, fun z hz => s _ _ (h.each z hz)⟩
theorem deeps_prs {K : Frag} {H : Hp} : ∀ {zs : List (Addr × Int × Int)}, (∀ z ∈ zs, H z.1 = some (.tup [.int z.2.1, .int z.2.2])) → Deeps K H (zs.map fun z => V.ref z.1) ((zs.map (·.2)).map pD)
  | [], _ => .nil
  | z :: r, h => .cons (.tup (SqT.of (h z List.mem_cons_self)) (.cons (.int _) (.cons (.int _) .nil))) (deeps_prs fun y hy => h y (List.mem_cons_of_mem _ hy))
theorem Prs.deep {K : Frag} {H : Hp} {p : Addr} {zs : List (Addr × Int × Int)} (h : Prs H p zs) : Deep K H (.ref p) (prD (zs.map (·.2))) := .lst (SqL.of h.at_) (deeps_prs h.each)
theorem ht_pD (c : Int × Int) : ht (pD c) ≤ 2 := by
  unfold pD
  rw [ht_tup]
  unfold hts hts hts ht
  decide
theorem hts_pD : ∀ cs : List (Int × Int), hts (cs.map pD) ≤ 2
  | [] => by unfold List.map hts; decide
  | c :: r => by
    rw [List.map_cons]
    unfold hts
    have := ht_pD c
    have := hts_pD r
    omega
theorem ht_prD (cs : List (Int × Int)) : ht (prD cs) ≤ 60 := by
  unfold prD
  rw [ht_lst]
  have := hts_pD cs
  omega
theorem ref_at {zs : List (Addr × Int × Int)} {i : Nat} {y : V} (h : (zs.map fun z => V.ref z.1)[i]? = some y) : ∃ z, zs[i]? = some z ∧ y = V.ref z.1 := by
  rw [List.getElem?_map] at h
  cases e : zs[i]? with
  | none => rw [e] at h; cases h
  | some z => rw [e] at h; exact ⟨z, rfl, (Option.some.inj h).symm⟩
end PH
set_option Elab.async false
set_option linter.all false
set_option maxRecDepth 100000
namespace L2
open PySem PySem.Spec PyProof.Rows PySem.W
section
variable {X : Cx}
def lexB (a b : Int × Int) : Bool := decide (a.1 < b.1) || (decide (a.1 = b.1) && decide (a.2 < b.2))
def PairAt (h : Heap) (z : Addr × Int × Int) : Prop := ∃ o n t u, h.get? z.1 = some o ∧ o.cls = .type "tuple" ∧ o.data = .seq #[.int z.2.1 t, .int z.2.2 u] n
theorem PairAt.keeps {h h' : Heap} {z : Addr × Int × Int} (p : PairAt h z) (k : ∀ b o, h.get? b = some o → h'.get? b = some o) : PairAt h' z := by
  obtain ⟨o, n, t, u, e, r⟩ := p
  exact ⟨o, n, t, u, k _ _ e, r⟩
end
end L2
set_option linter.all false
namespace PH
open L2
def srt (T : List (Int × Int)) : List (Int × Int) := T.mergeSort fun a b => !lexB b a
def mx (i j : Int) : Int := if j > i then j else i
def kys (D : List (Int × Int)) : List Int := D.map (·.1)
def wt (D : List (Int × Int)) (i : Int) : Int := ((D.find? fun p => decide (p.1 = i)).map (·.2)).getD 0
def drp (D : List (Int × Int)) (i : Int) : List (Int × Int) := D.filter fun p => decide (p.1 ≠ i)
def ok1 (D : List (Int × Int)) (i j : Int) : Bool := decide (i < j) && decide (i ∈ kys D) && decide (j ∈ kys D) && D.all fun p => decide (p.1 = i) || decide (p.1 = j) || decide (mx (wt D i) (wt D j) ≤ p.2)
def nxt (D : List (Int × Int)) (i j m : Int) : List (Int × Int) := drp (drp D i) j ++ [(m, wt D i + wt D j)]
def vw : List (Int × Int) → Int → List (Int × Int) → Bool
  | _, _, [] => true
  | D, m, (i, j) :: r => ok1 D i j && vw (nxt D i j m) (m + 1) r
def dep : Int → List (Int × Int) → Int → Nat
  | _, [], _ => 0
  | n, (i, j) :: r, x => if x = i ∨ x = j then dep (n + 1) r n + 1 else dep (n + 1) r x
end PH
set_option Elab.async false
set_option linter.all false
set_option maxRecDepth 100000
set_option maxHeartbeats 4000000
namespace PH
open PySem L2 PySem.W
def D0 (cs : List (Int × Int)) : List (Int × Int) := cs.zipIdx.map fun p => (((p.2 : Nat) : Int), p.1.2)
def depL (cs js : List (Int × Int)) : List (Int × Int) := if cs.length = 1 then cs.map fun c => (c.1, 1) else cs.zipIdx.map fun p => (p.1.1, (dep cs.length js ((p.2 : Nat) : Int) : Int))
theorem Prs.len {H : Hp} {p : Addr} {zs : List (Addr × Int × Int)} (h : Prs H p zs) : True := True.intro
theorem Prs.ne {H : Hp} {p : Addr} {zs : List (Addr × Int × Int)} (h : Prs H p zs) {q : Addr} {xs : List V} (hq : H q = some (.lst xs)) : ∀ z ∈ zs, z.1 ≠ q := fun z hz e => by
  have := h.each z hz
  rw [e, hq] at this
  cases this
theorem Prs.app {H : Hp} {p t : Addr} {zs : List (Addr × Int × Int)} {a b : Int} (h : Prs H p zs) (ht : H t = some (.tup [.int a, .int b])) : Prs (upd H p (.lst ((zs.map fun z => V.ref z.1) ++ [V.ref t]))) p (zs ++ [(t, a, b)]) := by
  have n1 := h.ne h.at_
  have n2 : t ≠ p := fun e => by rw [e, h.at_] at ht; cases ht
  refine ⟨by rw [upd_same, List.map_append]; rfl, fun z hz => ?_⟩
  rcases List.mem_append.mp hz with q | q
  · rw [upd_ne (n1 z q)]; exact h.each z q
  · have : z = (t, a, b) := by simpa using q
    subst this
    rw [upd_ne n2]; exact ht
theorem Prs.other {H : Hp} {p q : Addr} {zs : List (Addr × Int × Int)} {xs ys : List V} (h : Prs H p zs) (hq : H q = some (.lst xs)) (hne : p ≠ q) : Prs (upd H q (.lst ys)) p zs := ⟨by rw [upd_ne hne]; exact h.at_, fun z hz => by rw [upd_ne (h.ne hq z hz)]; exact h.each z hz⟩
end PH
set_option Elab.async false
set_option linter.all false
set_option maxRecDepth 100000
set_option maxHeartbeats 4000000
namespace PH
open PySem L2 PySem.W
def ab : Int → List (Int × Int) → Int → Option Int
  | _, [], _ => none
  | n, (i, j) :: r, x => match ab (n + 1) r x with
    | some y => some y
    | none => if x = i ∨ x = j then some n else none
theorem cutv_from (xs : List V) (k : Nat) : cutV xs (some (k : Int)) none = xs.drop k := by
  unfold cutV
  rw [HT.sIx_none, HT.sIx_nat]
  rcases Nat.le_total k xs.length with h | h
  · rw [Nat.min_eq_left h, List.take_of_length_le (by rw [List.length_drop]; exact Nat.le_refl _)]
  · rw [Nat.min_eq_right h, Nat.sub_self, List.take_zero, List.drop_of_length_le h]
theorem cutv_to (xs : List V) (k : Nat) : cutV xs none (some (k : Int)) = xs.take k := by
  unfold cutV
  rw [HT.sIx_none, HT.sIx_nat, List.drop_zero, Nat.sub_zero]
  rcases Nat.le_total k xs.length with h | h
  · rw [Nat.min_eq_left h]
  · rw [Nat.min_eq_right h, List.take_of_length_le (Nat.le_refl _), List.take_of_length_le h]
theorem at_ints {ns : List Int} {i : Nat} {z : Int} (h : ns[i]? = some z) : atI (ns.map V.int) (i : Int) = some (.int z) := atI_nat (by rw [List.getElem?_map, h]; rfl)
def RiseC (cs : List (Int × Int)) : Prop := (cs.map (·.1)).Pairwise (· < ·) ∧ ∀ c ∈ cs, 0 ≤ c.1 ∧ c.1 ≤ 255 ∧ 1 ≤ c.2
end PH
set_option Elab.async false
set_option linter.all false
set_option maxRecDepth 100000
namespace L2
open PySem PySem.Spec PyProof.Rows
theorem ps_setC {X : Cx} {elt tg iter : Expr} {ifs : List Expr} {scope : Scope} {pos : Pos} {N : List Str} {js : List (Option Nat)} {wi : TI} {g : TG} {tc : TT} {te : TE} {y : Str} {iy : Nat} {py spos : Pos} (hN : X.N.Nodup) (hiy : X.N[iy]? = some y) (hy : X.env.scope.names.lookup y = some .local) (hcalm : X.calm = true) (S : CompScope X N js scope)
    (hi : PI X tg iter wi) (hg : ∀ C s H fp, PG (compCx X N scope C s H fp) tg g) (ht : ∀ C s H fp, PIfs (compCx X N scope C s H fp) ifs tc) (he : ∀ C s H fp, PE (compCx X N scope C s H fp) elt te)
    (hs : ∀ x, foldedSetIterable iter X.env x = pure x := by intro _; rfl) (hsw : swapsWith (.ListComp elt [⟨tg, iter, ifs, 0⟩] scope pos) (some (.Name y py)) spos.line X.env = pure true := by rfl) :
    PS X (.Assign [.Name y py] (.ListComp elt [⟨tg, iter, ifs, 0⟩] scope pos) spos) (tAsg (tComp js wi g tc te) (gName iy)) := by
  intro pins s σ H ED I h
  have hc : ∀ x ∈ scope.names, x.2 = .free → ∃ c, X.env.cells.lookup x.1 = some c := fun x hx e => I.ok.has _ (S.free x hx e)
  rw [exec_Assign_Name_used _ _ _ _ hsw]
  refine wpAny_bind (wpAny_standAt (wpAny_bind ?_))
  show wpAny _ X.A (do let _ ← comprehension (.ListComp elt [⟨tg, iter, ifs, 0⟩] scope pos) scope X.env _ (newList []) false (eval iter X.env) (some (assign (.Name y py) X.env))) _ _ s
  refine wpAny_bind (wpAny_mono (Q := fun _ s' => SP X pins ED .next s') ?_ (fun _ s' hq => wpAny_pure (wpAny_pure hq)) fun _ _ e => e)
  refine wpAny_comprehension_free (use := some (assign (.Name y py) X.env)) rfl hs (clos_eq hc) S.kind S.locs (thn (hi pins s σ H _ I h) fun v s1 h1 => thn h1 fun itv s2 h2 => ?_)
  obtain ⟨it, fp, tn, J, H2, e, I2, T, st2, f2, q⟩ := h2
  subst e
  refine wpAny_newObj_type (wpAny_newFunctionEnv S.nocell (by intro y hy; simp at hy) (fun h₁ hns₁ hsb₁ => ?_) S.kind)
  dsimp only at hns₁ hsb₁ ⊢
  generalize hH2 : s2.heap.push { cls := .type "list", dict := none, data := .seq ([] : List Value).toArray } = G2 at hns₁ hsb₁ ⊢
  have hC : G2.objs.size = s2.heap.objs.size + 1 := by rw [← hH2, Heap.size_push]
  have hDC : s2.heap.objs.size ≠ G2.objs.size := by rw [hC]; exact Nat.ne_of_lt (Nat.lt_succ_self _)
  have hC0 : s2.heap.objs.size ≤ G2.objs.size := by rw [hC]; exact Nat.le_succ _
  have below : ∀ b, b < s2.heap.objs.size → b ≠ G2.objs.size := fun b hb => by rw [hC]; exact Nat.ne_of_lt (Nat.lt_succ_of_lt hb)
  have old : ∀ b o, s2.heap.get? b = some o → h₁.get? b = some o := fun b o e => hsb₁.extBut b o (below b (Heap.lt_size e)) (Heap.get?_push_of_some _ (hH2 ▸ Heap.get?_push_of_some _ e))
  have hacc : h₁.get? s2.heap.objs.size = some { cls := .type "list", data := .seq ([] : List Value).toArray } := hsb₁.extBut _ _ hDC (Heap.get?_push_of_some _ (hH2 ▸ Heap.get?_push_size _ rfl))
  have hfp : ∀ b ∈ fp, b < s2.heap.objs.size := fun b hb => by obtain ⟨o, e, _⟩ := T.obj 0 _ st2 b hb; exact Heap.lt_size e
  obtain ⟨W, ⟨m0, w0⟩, turn⟩ := q s2.heap.objs.size (I2.hok.fresh (Nat.le_refl _))
  have stat : ∀ {H' : Hp}, (∀ b ∈ fp, H' b = none) → ∀ b ∈ fp, FpOk (compCx X N scope G2.objs.size s2 H2 fp) [] H' b := fun {H'} hn b hb =>
    ⟨hn b hb, below b (hfp b hb), fun z => by
      rcases List.mem_cons.mp (I2.stkSub b z) with q | q
      · exact (f2 b hb).2.1 q
      · exact (f2 b hb).2.2.1 q, .inl hb, fun x c e => (f2 b hb).2.2.2.2.1 x c (clos_sub _ _ (fun _ _ z => by simp at z) e), fun p hp => absurd hp (by simp [compCx])⟩
  have loop : ∀ s3 : Shared, s3 = { s2 with heap := h₁, toks := s2.toks + ([] : List (Str × Value)).length } →
      codeAny (model X.prog X.w) X.A (.compLoop (.ListComp elt [⟨tg, iter, ifs, 0⟩] scope pos) 0 (.ref it) (.ref s2.heap.objs.size) (compEnvC scope (clos X.env.cells scope.names []) G2.objs.size X.env))
        (compPost (model X.prog X.w) X.A X.xe (some (assign (.Name y py) X.env)) (fun _ s' => SP X pins ED .next s') (.ref s2.heap.objs.size) G2.objs.size) s3 := by
    rintro s3 rfl
    have I3 : Inv (compCx X N scope G2.objs.size s2 H2 fp) [] (innerSt js σ) (upd H2 s2.heap.objs.size (.lst [])) { s2 with heap := h₁, toks := s2.toks + ([] : List (Str × Value)).length } :=
      inv_comp S I2 f2 hfp old (Nat.le_refl _) hC0 hDC ⟨_, hacc⟩ hns₁
    refine compLoop_gen (fun n s' => ∃ i σ' H', Inv (compCx X N scope G2.objs.size s2 H2 fp) [] σ' H' s' ∧ tn i s'.heap ∧ (∀ b ∈ fp, H' b = none) ∧ W i n σ' H') ?_ m0
      ⟨0, _, _, I3, T.keep 0 _ _ st2 fun b _ o e => old b o e, fun b hb => by rw [upd_ne (Nat.ne_of_lt (hfp b hb))]; exact (f2 b hb).1, w0⟩
    rintro n s4 ⟨i, σ4, H4, I4, st4, fr4, w4⟩
    rcases turn i n σ4 H4 w4 with ⟨stop, qn⟩ | ⟨go, step⟩
    · refine thn (T.done (compCx X N scope G2.objs.size s2 H2 fp) rfl rfl rfl hcalm i [] s4 σ4 H4 (fun _ _ => False) I4 (stat fr4) st4 stop) fun r s5 ⟨hr, I5⟩ => ?_
      subst hr
      obtain ⟨m5, n5, _⟩ := I5.loc
      have hos : s5.os = s2.os := I5.os
      obtain ⟨hh, gg, dd, tt, os5⟩ := s5
      obtain rfl : os5 = s2.os := hos
      have sb : Heap.SameBut G2.objs.size hh hh := ⟨rfl, fun _ _ => rfl⟩
      have un : Un (frs X.stack) fp H2 H4 s2.heap hh := by
        have u := I5.base
        have nC : ∀ b o, s2.heap.get? b = some o → b ≠ G2.objs.size := fun b o e => below b (Heap.lt_size e)
        exact ⟨fun b o e n hf hx => sb.extBut b o (nC b o e) (u.keep b o e n hf hx), fun b o e n hf hx => by
            obtain ⟨sl, z⟩ := u.slot b o e n hf hx
            exact ⟨sl, sb.extBut b _ (nC b o e) z⟩, u.free, fun b o e hx => by
            obtain ⟨o', z⟩ := u.there b o e hx
            exact ⟨o', sb.extBut b _ (nC b o e) z⟩, u.tups, u.frzs, u.tbls⟩
      have hok : HOk X.prog X.w H4 hh := fun b ob e => (I5.hok b ob e).stay (fun c v hcv z => sb.extBut c v (fun q => by
        rcases hcv with hcv | hcv
        · rw [← hcv, q] at e
          have := I5.free
          have this' : H4 G2.objs.size = none := this
          rw [e] at this'; cases this'
        · rw [q] at hcv
          have this' : H4 G2.objs.size = none := I5.free
          rw [hcv] at this'; cases this') z) (fun _ z => z) fun _ _ z => z
      have IE := I2.call (h' := hh) (g' := gg) (d' := dd) (t' := tt) (ch := fp) un hok I5.bare fun b hb => ⟨(f2 b hb).2.2.2.1, (f2 b hb).2.1, (f2 b hb).2.2.2.2.1, (f2 b hb).2.2.2.2.2⟩
      have hCf : H4 G2.objs.size = none := I5.free
      have hCL : G2.objs.size ≠ X.env.locals := Ne.symm (below _ I2.lt)
      have hCc : ∀ x c, X.env.cells.lookup x = some c → c ≠ G2.objs.size := fun x c e => by
        obtain ⟨v', o', e', _⟩ := I2.cell x c e
        exact below _ (Heap.lt_size e')
      refine wpAny_assign_Name (store_ok2 IE hN hiy (.inl hy) (show RelV (.ref s2.heap.objs.size) (.ref s2.heap.objs.size) from rfl) (fun s6 I6 ⟨a6, sb6, ha6⟩ => ?_) (.inr hy))
      have nea : G2.objs.size ≠ a6 := by
        rcases ha6 with z | z
        · rw [z]; exact hCL
        · exact Ne.symm (hCc _ _ z)
      refine ⟨m5, n5.sameBut sb6 nea, fun h' sb' => ⟨_, H4, ?_, qn⟩⟩
      have := I6.turned (h' := h') (t' := s6.toks) (it := G2.objs.size) (fun b o ne e => (sb'.2 b ne).trans e) hCf hCL (.inr (Nat.le_trans I2.sz hC0)) hCc (fun p hp => below _ (Heap.lt_size (I2.pin p hp).1))
      exact this
    · refine thn (T.item (compCx X N scope G2.objs.size s2 H2 fp) rfl rfl rfl hcalm i [] s4 σ4 H4 (fun _ _ => False) I4 (stat fr4) st4 go) fun r s5 ⟨u, hr, h5⟩ => ?_
      subst hr
      refine thn h5 fun _ s6 ⟨x, H6, I6, r6, y6, st6, fr6⟩ => ?_
      have I6' := I6.pinned (stat fr6) (T.obj _ _ st6)
      refine thn (hg _ _ _ _ _ s6 σ4 H6 x u _ I6' r6 (step x H6 y6)) fun _ s7 ⟨σ7, H7, I7, q7⟩ => ?_
      refine thn (ht _ _ _ _ _ s7 σ7 H7 _ I7 q7) fun b s8 ⟨H8, I8, q8⟩ => ?_
      have again : ∀ {s9 : Shared} {H9 : Hp}, Inv (compCx X N scope G2.objs.size s2 H2 fp) ([] ++ pinsAt fp s6.heap) σ7 H9 s9 → (∃ m', m' < n ∧ W (i + 1) m' σ7 H9) → ∃ m, m < n ∧ ∃ i σ' H', Inv (compCx X N scope G2.objs.size s2 H2 fp) [] σ' H' s9 ∧ tn i s9.heap ∧ (∀ b ∈ fp, H' b = none) ∧ W i m σ' H' := fun {s9 H9} I9 ⟨m', hm, w9⟩ => by
        refine ⟨m', hm, i + 1, σ7, H9, I9.unpinned, T.keep _ _ _ st6 fun b hb o e => (I9.pin (b, o) (List.mem_append_right _ (List.mem_append_right _ (mem_pinsAt hb e)))).1, fun b hb => ?_, w9⟩
        obtain ⟨o, e, d⟩ := T.obj _ _ st6 b hb
        exact (I9.pin (b, o) (List.mem_append_right _ (List.mem_append_right _ (mem_pinsAt hb e)))).2.1
      cases b with
      | false =>
        rw [if_neg Bool.false_ne_true] at q8 ⊢
        exact again I8 q8
      | true =>
        rw [if_pos rfl] at q8 ⊢
        refine thn (he _ _ _ _ _ s8 σ7 H8 _ I8 q8) fun xv s9 ⟨xx, H9, I9, r9, q9⟩ => ?_
        refine thn (mt_append _ s9 σ7 H9 (.ref s2.heap.objs.size) [xx] (.ref s2.heap.objs.size) [xv] _ I9 rfl (.cons r9 .nil) q9) fun _ s10 ⟨_, H10, I10, _, q10⟩ => ?_
        exact again I10 q10
  exact codeAny_compStart_list (loop _ rfl) (T.self _ _ _ _ _ (T.keep 0 _ _ st2 fun b _ o e => old b o e) (loop _ rfl))
end L2
set_option Elab.async false
set_option linter.all false
set_option maxRecDepth 100000
set_option maxHeartbeats 4000000
namespace PH
open PySem L2 PySem.W
theorem RiseC.app {cs : List (Int × Int)} {s m : Int} (h : RiseC cs) (hs : ∀ c ∈ cs, c.1 < s) (h0 : 0 ≤ s) (h1 : s ≤ 255) (hm : 1 ≤ m) : RiseC (cs ++ [(s, m)]) := by
  refine ⟨?_, fun c hc => ?_⟩
  · rw [List.map_append, List.pairwise_append]
    refine ⟨h.1, List.pairwise_singleton _ _, fun a ha b hb => ?_⟩
    obtain ⟨c, hc, rfl⟩ := List.mem_map.mp ha
    have : b = s := by simpa using hb
    rw [this]; exact hs c hc
  · rcases List.mem_append.mp hc with q | q
    · exact h.2 c q
    · have : c = (s, m) := by simpa using q
      subst this
      exact ⟨h0, h1, hm⟩
theorem Dks.take {ps : List Addr} {D D2 : Addr} {H : Hp} {k : Nat} (h : Dks ps D H) (h2 : H D2 = none) : Dks (ps.take k) D2 (upd H D2 (.lst ((ps.take k).map V.ref))) := ⟨upd_same, fun p hp => by
  obtain ⟨_, a, b, c, e⟩ := h.each p (List.mem_of_mem_take hp)
  have n := ne_of_none e h2
  exact ⟨n, a, b, c, by rw [upd_ne n]; exact e⟩⟩
end PH
set_option Elab.async false
set_option linter.all false
set_option maxRecDepth 100000
namespace L2
open PySem PySem.Spec PyProof.Rows PySem.W
section
variable {X : Cx}
theorem boot_all' : bootBuiltins "all" = some (.builtin "all") := by decide +kernel
def rAll (K : Frag) : List V → Hp → VK → Prop := fun xs H Q => ∃ (p : Addr) (bs : List Bool), xs = [.ref p] ∧ SqL K H p (bs.map V.bl) ∧ Q (.bl (bs.all id)) H
theorem bl_at {bs : List Bool} {us : List Value} (r : Vals (bs.map V.bl) us) : us = bs.map Value.bool := by
  induction bs generalizing us with
  | nil => cases r; rfl
  | cons b t ih =>
    cases r with
    | cons h t' =>
      rw [ih t']
      cases h
      rfl
theorem range_allB : ∀ (bs : List Bool), ((List.range bs.length).all fun i => (bs[i]?).getD true) = bs.all id := fun bs => by
  rw [Bool.eq_iff_iff, List.all_eq_true, List.all_eq_true]
  constructor
  · intro h b hb
    obtain ⟨i, hi, e⟩ := List.mem_iff_getElem.mp hb
    have := h i (List.mem_range.mpr hi)
    rw [List.getElem?_eq_getElem hi, e] at this
    exact this
  · intro h i hi
    have hi := List.mem_range.mp hi
    rw [List.getElem?_eq_getElem hi]
    exact h _ (List.getElem_mem hi)
theorem call_allL (hc : X.calm = true) : CallR X (.builtin "all") (rAll X.K) := by
  intro pins s σ H xs us Q I r h
  obtain ⟨p, bs, rfl, hs, q⟩ := h
  obtain ⟨u, rfl, ru⟩ := r.one
  cases ru
  obtain ⟨its, rv, pl, hz⟩ := I.list hs
  have e := bl_at rv
  subst e
  have hl := pl.isList
  have hlt : p < s.heap.objs.size := by obtain ⟨_, e, _⟩ := hl; exact Heap.lt_size e
  refine call_all_walk (wpAny_pyIter_list hl ?_)
  refine ⟨s.heap.objs.size, [s.heap.objs.size, p], [s.heap.objs.size], (bs.map Value.bool).toArray.size, _, _, fun i => (bs[i]?).getD true, rfl, Walks.list (A := X.A.in1) (I.ok.hd hc) _ p (Nat.ne_of_lt hlt) (bs.map Value.bool).toArray,
    ⟨⟨_, Heap.get?_push_size _ rfl, rfl, rfl⟩, hl.push _⟩, fun i v s' Q' E' hP hQ => ?_, fun h' tk hk => ?_⟩
  · have hP' : (bs.map Value.bool)[i]? = some v := by simpa using hP
    rw [List.getElem?_map] at hP'
    cases eb : bs[i]? with
    | none => rw [eb] at hP'; cases hP'
    | some b =>
      rw [eb] at hP'
      cases hP'
      simp only [eb, Option.getD_some] at hQ
      exact wpAny_truthy_bool hQ
  · have e : ((List.range (bs.map Value.bool).toArray.size).all fun i => (bs[i]?).getD true) = bs.all id := by
      rw [List.size_toArray, List.length_map]; exact range_allB bs
    rw [e]
    exact ⟨.bl _, H, I.kept (h' := h') (t' := tk) (fun b x e => hk b x (fun hm => by rw [List.mem_singleton.mp hm] at e; exact Nat.lt_irrefl _ (Heap.lt_size e)) (Heap.get?_push_of_some _ e)), rfl, q⟩
end
end L2
set_option Elab.async false
set_option linter.all false
set_option maxRecDepth 100000
set_option maxHeartbeats 4000000
namespace PH
open PySem L2 PySem.W
theorem trueT {A B : Hp → Prop} {σ : St} {H : Hp} (h : A H) : tTrue σ H (fun b H4 => if b = true then A H4 else B H4) := by
  show if true = true then A H else B H
  exact iteT h
def riseB : Int → List (Int × Int) → Bool
  | _, [] => true
  | a, c :: r => decide (a < c.1) && decide (c.1 ≤ 255) && riseB c.1 r
theorem riseB_step {cs : List (Int × Int)} {k : Nat} {c : Int × Int} (h : cs[k]? = some c) (a : Int) : riseB a (cs.drop k) = (decide (a < c.1) && decide (c.1 ≤ 255) && riseB c.1 (cs.drop (k + 1))) := by
  obtain ⟨hk, hv⟩ := List.getElem?_eq_some_iff.mp h
  rw [List.drop_eq_getElem_cons hk, hv]
  rfl
theorem riseB_of : ∀ {cs : List (Int × Int)} {a : Int}, RiseC cs → (∀ c ∈ cs, a < c.1) → riseB a cs = true
  | [], _, _, _ => rfl
  | c :: r, a, h, ha => by
    have h1 := ha c List.mem_cons_self
    have h2 := (h.2 c List.mem_cons_self).2.1
    have hp := List.pairwise_cons.mp h.1
    have := riseB_of (cs := r) (a := c.1) ⟨hp.2, fun x hx => h.2 x (List.mem_cons_of_mem _ hx)⟩ (fun x hx => hp.1 x.1 (List.mem_map.mpr ⟨x, hx, rfl⟩))
    unfold riseB
    rw [decide_eq_true h1, decide_eq_true h2, this]; rfl
def areC (cs : List (Int × Int)) : Bool := riseB (-1) cs && cs.all fun c => decide (1 ≤ c.2)
theorem areC_of {cs : List (Int × Int)} (h : RiseC cs) : areC cs = true := by
  unfold areC
  rw [riseB_of h (fun c hc => by have := (h.2 c hc).1; omega), Bool.true_and, List.all_eq_true]
  exact fun c hc => decide_eq_true (h.2 c hc).2.2
def LS (mg : Str → Option Value) : Prop := ∃ u, mg "LAST_SIGN" = some u ∧ RelV (.int 255) u
def spRise : Sp := fun vs H Q _ => ∃ (p : Addr) (zs : List (Addr × Int × Int)), vs = [.ref p] ∧ Prs H p zs ∧ Q (.bl (riseB (-1) (zs.map (·.2)))) H
def spAreC : Sp := fun vs H Q _ => ∃ (p : Addr) (zs : List (Addr × Int × Int)), vs = [.ref p] ∧ Prs H p zs ∧ zs.length ≤ 300 ∧ ∀ H', Same H H' → Q (.bl (areC (zs.map (·.2)))) H'
def b8 (cs js ls : List (Int × Int)) : Bool := areC cs && (decide (js.length = cs.length - 1) && vw (D0 cs) cs.length js) && decide (ls = depL cs js)
end PH
set_option Elab.async false
set_option linter.all false
set_option maxRecDepth 100000
set_option maxHeartbeats 4000000
namespace PH
open PySem L2 PySem.W
def Kb (d : Addr) (H H' : Hp) : Prop := ∀ b u, b ≠ d → H b = some u → H' b = some u
theorem Kb.refl (d : Addr) (H : Hp) : Kb d H H := fun _ _ _ e => e
theorem Kb.of {d : Addr} {H H' : Hp} (s : Same H H') : Kb d H H' := fun b u _ e => s b u e
theorem Kb.trans {d : Addr} {H H1 H2 : Hp} (a : Kb d H H1) (b : Kb d H1 H2) : Kb d H H2 := fun x u n e => b x u n (a x u n e)
theorem Kb.put (d : Addr) (H : Hp) (o : HO) : Kb d H (upd H d o) := fun b u n e => by rw [upd_ne n]; exact e
theorem Kb.new {d q : Addr} {H H' : Hp} (k : Kb d H H') (o : HO) (hq : H q = none) : Kb d H (upd H' q o) := fun b u n e => by rw [upd_ne (ne_of_none e hq)]; exact k b u n e
theorem Kb.free {d q : Addr} {H H' : Hp} {o : HO} (k : Kb d H H') (hd : H' d = some o) (hq : H' q = none) : H q = none := by
  cases e : H q with
  | none => rfl
  | some u =>
    have n : q ≠ d := fun z => by rw [z, hd] at hq; cases hq
    rw [k q u n e] at hq; cases hq
def isD (d : Addr) (H : Hp) : Prop := ∃ a b c, H d = some (deckO a b c)
theorem Prs.neD {H : Hp} {p d : Addr} {zs : List (Addr × Int × Int)} (h : Prs H p zs) (hd : isD d H) : p ≠ d ∧ ∀ z ∈ zs, z.1 ≠ d := by
  obtain ⟨a, b, c, e⟩ := hd
  refine ⟨fun z => ?_, fun y hy z => ?_⟩
  · have := h.at_
    rw [z, e] at this
    have := HO.lst.inj (Option.some.inj this)
    cases zs with
    | nil => cases this
    | cons y r => injection this with t1 t2; cases t1
  · have := h.each y hy
    rw [z, e] at this; cases this
theorem Prs.kb {H H' : Hp} {p d : Addr} {zs : List (Addr × Int × Int)} (h : Prs H p zs) (hd : isD d H) (k : Kb d H H') : Prs H' p zs := ⟨k _ _ (h.neD hd).1 h.at_, fun z hz => k _ _ ((h.neD hd).2 z hz) (h.each z hz)⟩
theorem isD.same {d : Addr} {H H' : Hp} (h : isD d H) (s : Same H H') : isD d H' := by
  obtain ⟨a, b, c, e⟩ := h
  exact ⟨a, b, c, s _ _ e⟩
theorem isD.put (d : Addr) (H : Hp) (a b c : Int) : isD d (upd H d (deckO a b c)) := ⟨a, b, c, upd_same⟩
end PH
set_option Elab.async false
set_option linter.all false
set_option maxRecDepth 100000
set_option maxHeartbeats 4000000
namespace L2
open PySem PySem.Spec PyProof.Rows PySem.W
section
variable {X : Cx}
def rSum (K : Frag) : List V → Hp → VK → Prop := fun xs H Q => ∃ (p : Addr) (ns : List Int), xs = [.ref p] ∧ SqL K H p (ns.map V.int) ∧ Q (.int ns.sum) H
theorem call_sum (hc : X.calm = true) : CallR X (.builtin "sum") (rSum X.K) := by
  intro pins s σ H xs us Q I r h
  obtain ⟨p, ns, rfl, hs, q⟩ := h
  obtain ⟨u, rfl, rx⟩ := vals1 r
  cases rx
  obtain ⟨its, r', pl, hz⟩ := I.list hs
  have hi := vals_intsAre r'
  have hn := hi.numsOf
  obtain ⟨ys, hy⟩ := hi.allInts.items
  refine sum_intListG (I.ok.hd hc) (l := p) (xs := ys) (by rw [← hy]; exact pl.isList) fun h' tk t' hk => ?_
  have e : preSum (numAt ys) ys.size = ns.sum := by
    have e1 := nums_intItems (xs := ys)
    rw [← hy] at e1
    rw [preSum_eq, List.take_of_length_le (by simp)]
    rw [← hn]
    exact congrArg List.sum e1.symm
  rw [e]
  exact ⟨.int ns.sum, H, I.kept hk, ⟨_, rfl⟩, q⟩
def CDivG (i j : Int) : Prop := 0 < j ∧ j < ((2 ^ 3000 : Nat) : Int)
theorem op_fdivG : OpR X (binaryOp .FloorDiv) (rI CDivG fun i j => .int (i / j)) := opI fun i j _ _ _ _ _ hc q => by
  obtain ⟨h0, h1⟩ := hc
  refine floordiv_int (by omega) ?_ (.inl (PyProof.noPylong_of_log2 ?_))
  · rw [Int.fdiv_eq_ediv_of_nonneg _ (by omega)]; exact q
  · have h2 : j.natAbs < 2 ^ 3000 := by
      generalize (2 : Nat) ^ 3000 = M at h1 ⊢
      omega
    have : j.natAbs.log2 < 3000 := (Nat.log2_lt (by omega)).mpr h2
    omega
end
end L2
namespace PH
open PySem L2 PySem.W
theorem boot_sum' : bootBuiltins "sum" = some (.builtin "sum") := by decide +kernel
structure ExK (K : Frag) (cN c1 c2 c3 c4 c5 c6 : Addr) : Prop where
  k1 : kitOne K (.ref cN) (.ref c1) = some false
  k2 : kitOne K (.ref cN) (.ref c2) = some false
  k3 : kitOne K (.ref cN) (.ref c3) = some false
  k4 : kitOne K (.ref cN) (.ref c4) = some false
  k5 : kitOne K (.ref cN) (.ref c5) = some false
  k6 : kitOne K (.ref cN) (.ref c6) = some false
end PH
set_option Elab.async false
set_option linter.all false
namespace PH
def fac : Nat → Nat
  | 0 => 1
  | n + 1 => fac n * (n + 1)
theorem fac_pos : ∀ n, 0 < fac n
  | 0 => Nat.one_pos
  | n + 1 => Nat.mul_pos (fac_pos n) (Nat.succ_pos n)
theorem fac_le {a b : Nat} (h : a ≤ b) : fac a ≤ fac b := by
  induction h with
  | refl => exact Nat.le_refl _
  | step _ ih => exact Nat.le_trans ih (Nat.le_mul_of_pos_right _ (Nat.succ_pos _))
theorem fac400 : fac 400 < 2 ^ 3000 := by decide +kernel
theorem fac_lt {a : Nat} (h : a ≤ 400) : fac a < 2 ^ 3000 := Nat.lt_of_le_of_lt (fac_le h) fac400
def ch : Nat → Nat → Nat
  | _, 0 => 1
  | 0, _ + 1 => 0
  | n + 1, k + 1 => ch n k + ch n (k + 1)
theorem ch_mul : ∀ (n k : Nat), ch (n + 1) (k + 1) * (k + 1) = ch n k * (n + 1)
  | 0, 0 => rfl
  | 0, k + 1 => by
    show (ch 0 (k + 1) + ch 0 (k + 1 + 1)) * (k + 1 + 1) = ch 0 (k + 1) * 1
    show (0 + 0) * (k + 1 + 1) = 0 * 1
    omega
  | n + 1, 0 => by
    have h := ch_mul n 0
    show (ch (n + 1) 0 + ch (n + 1) 1) * 1 = ch (n + 1) 0 * (n + 1 + 1)
    rw [Nat.zero_add, Nat.mul_one] at h
    rw [h]
    show (1 + ch n 0 * (n + 1)) * 1 = 1 * (n + 1 + 1)
    have : ch n 0 = 1 := by cases n <;> rfl
    rw [this]
    omega
  | n + 1, k + 1 => by
    have h1 := ch_mul n k
    have h2 := ch_mul n (k + 1)
    show (ch (n + 1) (k + 1) + ch (n + 1) (k + 1 + 1)) * (k + 1 + 1) = ch (n + 1) (k + 1) * (n + 1 + 1)
    have e : ch (n + 1) (k + 1) = ch n k + ch n (k + 1) := rfl
    rw [Nat.add_mul, h2, Nat.mul_add (ch (n + 1) (k + 1)) (k + 1) 1, h1]
    rw [Nat.mul_add (ch (n + 1) (k + 1)) (n + 1) 1, e]
    have := Nat.add_mul (ch n k) (ch n (k + 1)) (n + 1)
    omega
theorem ch_fac : ∀ (s k : Nat), ch (s + k) k * (fac k * fac s) = fac (s + k)
  | s, 0 => by
    have : ch s 0 = 1 := by cases s <;> rfl
    show ch s 0 * (1 * fac s) = fac s
    rw [this, Nat.one_mul, Nat.one_mul]
  | s, k + 1 => by
    have h := ch_fac s k
    have h1 := ch_mul (s + k) k
    show ch (s + k + 1) (k + 1) * (fac k * (k + 1) * fac s) = fac (s + k) * (s + k + 1)
    rw [show ch (s + k + 1) (k + 1) * (fac k * (k + 1) * fac s) = ch (s + k + 1) (k + 1) * (k + 1) * (fac k * fac s) by
      rw [Nat.mul_right_comm (fac k) (k + 1) (fac s), Nat.mul_comm (fac k * fac s) (k + 1), Nat.mul_assoc], h1, Nat.mul_right_comm, h]
theorem step_ch (o s k : Nat) : ((o * ch (s + k) k : Nat) : Int) * ((s + k + 1 : Nat) : Int) / ((k + 1 : Nat) : Int) = ((o * ch (s + (k + 1)) (k + 1) : Nat) : Int) := by
  have h1 := ch_mul (s + k) k
  have : (o * ch (s + k) k) * (s + k + 1) = o * ch (s + (k + 1)) (k + 1) * (k + 1) := by
    rw [Nat.mul_assoc, ← h1, Nat.mul_assoc]; rfl
  rw [← Int.natCast_mul, this, Int.natCast_mul]
  exact Int.mul_ediv_cancel _ (by omega)
def mlt : Nat → Nat → List Nat → Nat
  | o, _, [] => o
  | o, s, t :: r => mlt (o * ch (s + t) t) (s + t) r
def pfac : List Nat → Nat
  | [] => 1
  | t :: r => fac t * pfac r
theorem mlt_fac : ∀ (ts : List Nat) (o s m : Nat), o * m = fac s → mlt o s ts * (m * pfac ts) = fac (s + ts.sum)
  | [], o, s, m, h => by
    show o * (m * 1) = fac (s + 0)
    rw [Nat.mul_one]; exact h
  | t :: r, o, s, m, h => by
    have := mlt_fac r (o * ch (s + t) t) (s + t) (m * fac t) (by
      rw [← ch_fac s t, ← h, Nat.mul_mul_mul_comm, Nat.mul_comm (o * m), Nat.mul_assoc])
    show mlt (o * ch (s + t) t) (s + t) r * (m * (fac t * pfac r)) = fac (s + (t + r.sum))
    rw [← Nat.mul_assoc m, this, Nat.add_assoc]
theorem mlt_snoc : ∀ (ts : List Nat) (o s t : Nat), mlt o s (ts ++ [t]) = mlt o s ts * ch (s + ts.sum + t) t
  | [], o, s, t => by
    show o * ch (s + t) t = o * ch (s + 0 + t) t
    rfl
  | a :: r, o, s, t => by
    show mlt (o * ch (s + a) a) (s + a) (r ++ [t]) = mlt (o * ch (s + a) a) (s + a) r * ch (s + (a + r.sum) + t) t
    rw [mlt_snoc r, Nat.add_assoc s a]
def dvs : Nat → List Nat → Nat
  | m, [] => m
  | m, t :: r => dvs (m / fac t) r
end PH
set_option Elab.async false
set_option linter.all false
set_option maxRecDepth 100000
set_option maxHeartbeats 4000000
namespace PH
open PySem L2 PySem.W
def PL (n : Int) (p : Addr) (H : Hp) : Prop := ∃ a b c, H p = some (deckO a b c) ∧ 0 ≤ c ∧ c ≤ n
theorem PL.isD {n : Int} {p : Addr} {H : Hp} (h : PL n p H) : isD p H := by
  obtain ⟨a, b, c, e, _⟩ := h
  exact ⟨a, b, c, e⟩
theorem PL.same {n : Int} {p : Addr} {H H' : Hp} (h : PL n p H) (s : Same H H') : PL n p H' := by
  obtain ⟨a, b, c, e, h0, h1⟩ := h
  exact ⟨a, b, c, s _ _ e, h0, h1⟩
theorem PL.up {n : Int} {p q : Addr} {H : Hp} {o : HO} (h : PL n p H) (hq : p ≠ q) : PL n p (upd H q o) := by
  obtain ⟨a, b, c, e, h0, h1⟩ := h
  exact ⟨a, b, c, by rw [upd_ne hq]; exact e, h0, h1⟩
theorem PL.mono {n m : Int} {p : Addr} {H : Hp} (h : PL n p H) (hm : n ≤ m) : PL m p H := by
  obtain ⟨a, b, c, e, h0, h1⟩ := h
  exact ⟨a, b, c, e, h0, by omega⟩
theorem PL.ne {n : Int} {p q : Addr} {H : Hp} (h : PL n p H) (hq : H q = none) : p ≠ q := by
  obtain ⟨a, b, c, e, h0, h1⟩ := h
  exact ne_of_none e hq
theorem Kb.free' {n : Int} {d q : Addr} {H H' : Hp} (k : Kb d H H') (hd : PL n d H') (hq : H' q = none) : H q = none := by
  obtain ⟨a, b, c, e, h0, h1⟩ := hd
  exact k.free e hq
def spPool (K : Frag) : Sp := fun vs H Q _ => ∃ (a : Addr) (ns : List Int) (k : Nat), vs = [.ref a, .int (k : Int)] ∧ SqL K H a (ns.map V.int) ∧ k ≤ 62 ∧
  ∀ (p : Addr) (H' : Hp), H p = none → Same H H' → PL 434 p H' → Q (.ref p) H'
def tms (cs : List (Int × Int)) : List Nat := cs.map fun c => c.2.toNat
def sumT (cs : List (Int × Int)) : Int := (cs.map (·.2)).sum
def spLCnt : Sp := fun vs H Q _ => ∃ (p : Addr) (n most : Int), vs = [.ref p, .int most] ∧ PL n p H ∧ n ≤ 990000 ∧ 0 ≤ most ∧ most ≤ 400 ∧
  ∀ (C : Addr) (zs : List (Addr × Int × Int)) (H' : Hp), Kb p H H' → PL (n + 4000) p H' → H C = none → Prs H' C zs → RiseC (zs.map (·.2)) → sumT (zs.map (·.2)) ≤ most → zs.length ≤ 256 → Q (.ref C) H'
def spWhole : Sp := fun vs H Q _ => ∃ n : Int, vs = [.int n] ∧ Q (.bl true) H
def spPair : Sp := fun vs H Q _ => ∃ (t : Addr) (a b : Int), vs = [.ref t] ∧ H t = some (.tup [.int a, .int b]) ∧ Q (.bl true) H
def haveT (cs : List (Int × Int)) : Bool := areC cs && decide (sumT cs ≤ 400)
def spHave : Sp := fun vs H Q _ => ∃ (p : Addr) (zs : List (Addr × Int × Int)), vs = [.ref p] ∧ Prs H p zs ∧ zs.length ≤ 300 ∧ ∀ H', Same H H' → Q (.bl (haveT (zs.map (·.2)))) H'
def spOrders : Sp := fun vs H Q _ => ∃ (p : Addr) (zs : List (Addr × Int × Int)), vs = [.ref p] ∧ Prs H p zs ∧ zs.length ≤ 300 ∧ (∀ c ∈ zs.map (·.2), 1 ≤ c.2) ∧ sumT (zs.map (·.2)) ≤ 400 ∧ Q (.int (mlt 1 0 (tms (zs.map (·.2))) : Nat)) H
def spTexts (cB : Addr) : Sp := fun vs H Q E => ∃ (p : Addr) (zs : List (Addr × Int × Int)), vs = [.ref p] ∧ Prs H p zs ∧ zs.length ≤ 300 ∧
  (haveT (zs.map (·.2)) = false → ∀ H', Same H H' → E (.ref cB) none H') ∧
  (haveT (zs.map (·.2)) = true → ∀ H', Same H H' → Q (.int (mlt 1 0 (tms (zs.map (·.2))) : Nat)) H')
def MS (mg : Str → Option Value) : Prop := ∃ u, mg "MOST_SIGNS" = some u ∧ RelV (.int 400) u
theorem sumT_nat : ∀ {cs : List (Int × Int)}, (∀ c ∈ cs, 1 ≤ c.2) → sumT cs = ((tms cs).sum : Int)
  | [], _ => rfl
  | c :: r, h => by
    have h1 := h c List.mem_cons_self
    have h2 := sumT_nat (cs := r) fun x hx => h x (List.mem_cons_of_mem _ hx)
    show c.2 + sumT r = ((c.2.toNat + (tms r).sum : Nat) : Int)
    rw [h2]
    omega
theorem sumT_app (a b : List (Int × Int)) : sumT (a ++ b) = sumT a + sumT b := by
  unfold sumT
  rw [List.map_append, List.sum_append]
theorem sumT_one (s t : Int) : sumT [(s, t)] = t := by
  show t + 0 = t
  omega
theorem tms_snoc (cs : List (Int × Int)) (c : Int × Int) : tms (cs ++ [c]) = tms cs ++ [c.2.toNat] := by
  unfold tms
  rw [List.map_append]; rfl
theorem tms_sum_take {cs : List (Int × Int)} {k : Nat} {c : Int × Int} (h : cs[k]? = some c) : (tms (cs.take k)).sum + c.2.toNat ≤ (tms cs).sum := by
  have e : cs = cs.take k ++ c :: cs.drop (k + 1) := by
    obtain ⟨h1, h2⟩ := List.getElem?_eq_some_iff.mp h
    rw [← h2, ← List.drop_eq_getElem_cons h1, List.take_append_drop]
  have : (tms cs).sum = (tms (cs.take k)).sum + (c.2.toNat + (tms (cs.drop (k + 1))).sum) := by
    conv => lhs; rw [e]
    unfold tms
    rw [List.map_append, List.sum_append]
    rfl
  omega
theorem mlt_take {cs : List (Int × Int)} {k : Nat} {c : Int × Int} (h : cs[k]? = some c) : mlt 1 0 (tms (cs.take (k + 1))) = mlt 1 0 (tms (cs.take k)) * ch ((tms (cs.take k)).sum + c.2.toNat) c.2.toNat := by
  rw [take_at h, tms_snoc, mlt_snoc, Nat.zero_add]
theorem sum_take {cs : List (Int × Int)} {k : Nat} {c : Int × Int} (h : cs[k]? = some c) : (tms (cs.take (k + 1))).sum = (tms (cs.take k)).sum + c.2.toNat := by
  rw [take_at h, tms_snoc, List.sum_append]
  rfl
theorem RiseC.ge {cs : List (Int × Int)} (h : RiseC cs) : ∀ c ∈ cs, 1 ≤ c.2 := fun c hc => (h.2 c hc).2.2
def bD (ks : List Int) : List (Key × V) := ks.map fun j => (Sum.inl j, V.bl true)
theorem bD_keys (ks : List Int) : (bD ks).map (·.1) = ks.map Sum.inl := by unfold bD; rw [List.map_map]; rfl
theorem valV_bD {k : Int} : ∀ {ks : List Int}, valV (bD ks) (Sum.inl k) = if k ∈ ks then some (.bl true) else none
  | [] => rfl
  | j :: r => by
    show valV ((Sum.inl j, V.bl true) :: bD r) (Sum.inl k) = _
    by_cases h : j = k
    · rw [valV_pos (by rw [h]), if_pos (by rw [h]; exact List.mem_cons_self)]
    · rw [valV_neg (fun z => h (Sum.inl.inj z)), valV_bD]
      by_cases hm : k ∈ r
      · rw [if_pos hm, if_pos (List.mem_cons_of_mem _ hm)]
      · rw [if_neg hm, if_neg (fun z => by exact (List.mem_cons.mp z).elim (fun e => h e.symm) hm)]
theorem put_bD (ks : List Int) (k : Int) : putK (bD ks) (Sum.inl k) (.bl true) = bD (if k ∈ ks then ks else ks ++ [k]) := by
  by_cases h : k ∈ ks
  · rw [if_pos h]
    unfold putK
    rw [valV_any, valV_bD, if_pos h]
    rw [if_pos (show (some (V.bl true)).isSome = true from rfl)]
    unfold bD
    rw [List.map_map]
    refine List.map_congr_left fun j _ => ?_
    show (if (Sum.inl j : Key) = Sum.inl k then ((Sum.inl j : Key), V.bl true) else (Sum.inl j, V.bl true)) = _
    by_cases e : (Sum.inl j : Key) = Sum.inl k
    · rw [if_pos e]
    · rw [if_neg e]
  · rw [if_neg h, putK_new _ (by rw [valV_bD, if_neg h])]
    unfold bD
    rw [List.map_append]; rfl
theorem bD_len (ks : List Int) : (bD ks).length = ks.length := by unfold bD; rw [List.length_map]
theorem strict {ks : List Int} (h1 : ks.Pairwise (· ≤ ·)) (h2 : ks.Nodup) : ks.Pairwise (· < ·) := by
  refine (h1.and h2).imp fun {a b} h => ?_
  have := h.1
  have := h.2
  omega
theorem mul_bd {u v U V : Int} (h0 : 0 ≤ u) (h1 : u ≤ U) (h2 : 0 ≤ v) (h3 : v ≤ V) : 0 ≤ u * v ∧ u * v ≤ U * V := ⟨Int.mul_nonneg h0 h2, Int.mul_le_mul h1 h3 h2 (by omega)⟩
theorem gNx {i : Nat} {v v' : V} {σ : St} {H : Hp} {Q : St → Hp → Prop} (e : v' = v) (h : gName i v' σ H Q) : gName i v σ H Q := by
  subst e; exact h
theorem before {ks : List Int} (h : ks.Pairwise (· < ·)) {i : Nat} {s x : Int} (hs : ks[i]? = some s) (hx : x ∈ ks.take i) : x < s := by
  obtain ⟨h1, h2⟩ := List.getElem?_eq_some_iff.mp hs
  have e : ks = ks.take i ++ s :: ks.drop (i + 1) := by rw [← h2, ← List.drop_eq_getElem_cons h1, List.take_append_drop]
  rw [e] at h
  exact (List.pairwise_append.mp h).2.2 x hx s List.mem_cons_self
end PH
set_option Elab.async false
set_option linter.all false
namespace PH
def pf : List Int → Nat
  | [] => 1
  | x :: r => (r.count x + 1) * pf r
theorem pf_pos : ∀ l, 0 < pf l
  | [] => Nat.one_pos
  | _ :: r => Nat.mul_pos (Nat.succ_pos _) (pf_pos r)
theorem pf_split (x : Int) : ∀ l, pf l = fac (l.count x) * pf (l.filter fun y => decide (y ≠ x))
  | [] => rfl
  | y :: r => by
    have ih := pf_split x r
    by_cases h : y = x
    · subst h
      rw [List.filter_cons_of_neg (by simp), List.count_cons_self]
      show (r.count y + 1) * pf r = fac (r.count y) * (r.count y + 1) * _
      rw [ih, Nat.mul_comm (fac _) (_ + 1), Nat.mul_assoc]
    · rw [List.filter_cons_of_pos (by simpa using h), List.count_cons_of_ne h]
      show (r.count y + 1) * pf r = fac (r.count x) * ((List.count y (r.filter _) + 1) * pf (r.filter _))
      rw [ih, List.count_filter (by simpa using h), Nat.mul_left_comm]
theorem len_split (x : Int) (l : List Int) : l.length = (l.filter fun y => decide (y ≠ x)).length + l.count x := by
  induction l with
  | nil => rfl
  | cons y r ih =>
    by_cases h : y = x
    · subst h
      rw [List.filter_cons_of_neg (by simp), List.count_cons_self, List.length_cons, ih]; omega
    · rw [List.filter_cons_of_pos (by simpa using h), List.count_cons_of_ne h, List.length_cons, List.length_cons, ih]; omega
theorem pf_dvd : ∀ (n : Nat) (l : List Int), l.length = n → pf l ∣ fac n := by
  intro n
  induction n using Nat.strongRecOn with
  | _ n ih =>
    intro l hl
    cases l with
    | nil => subst hl; exact Nat.dvd_refl _
    | cons x r =>
      have h1 := len_split x (x :: r)
      have hc : 1 ≤ (x :: r).count x := by rw [List.count_cons_self]; omega
      have := ih ((x :: r).filter fun y => decide (y ≠ x)).length (by omega) _ rfl
      rw [pf_split x (x :: r)]
      have h2 := ch_fac ((x :: r).filter fun y => decide (y ≠ x)).length ((x :: r).count x)
      rw [← h1, hl] at h2
      rw [← h2]
      exact Nat.dvd_trans (Nat.mul_dvd_mul_left _ this) (Nat.dvd_mul_left _ _)
def tx (l : List Int) : Nat := fac l.length / pf l
theorem tx_mul (l : List Int) : tx l * pf l = fac l.length := Nat.div_mul_cancel (pf_dvd _ l rfl)
theorem tx_pos (l : List Int) : 0 < tx l := by
  have := tx_mul l
  have h := fac_pos l.length
  rcases Nat.eq_zero_or_pos (tx l) with e | e
  · rw [e, Nat.zero_mul] at this; omega
  · exact e
theorem tx_le (l : List Int) : tx l ≤ fac l.length := Nat.div_le_self _ _
theorem pf_erase (x : Int) : ∀ {l : List Int}, x ∈ l → pf l = l.count x * pf (l.erase x)
  | [], h => by cases h
  | y :: r, h => by
    by_cases e : y = x
    · subst e
      rw [List.erase_cons_head, List.count_cons_self]; rfl
    · have hm : x ∈ r := by
        rcases List.mem_cons.mp h with q | q
        · exact absurd q.symm e
        · exact q
      rw [List.erase_cons_tail (by simpa using e), List.count_cons_of_ne e]
      show (r.count y + 1) * pf r = r.count x * (((r.erase x).count y + 1) * pf (r.erase x))
      rw [pf_erase x hm, List.count_erase_of_ne e, Nat.mul_left_comm]
theorem tx_erase {x : Int} {l : List Int} (h : x ∈ l) : tx l * l.count x = tx (l.erase x) * l.length := by
  have h1 := tx_mul l
  have h2 := tx_mul (l.erase x)
  have hp := pf_pos (l.erase x)
  have hl : 0 < l.length := List.length_pos_of_mem h
  rw [List.length_erase_of_mem h] at h2
  rw [pf_erase x h] at h1
  refine Nat.eq_of_mul_eq_mul_right hp ?_
  have e : fac l.length = fac (l.length - 1) * l.length := by
    obtain ⟨k, hk⟩ : ∃ k, l.length = k + 1 := ⟨l.length - 1, by omega⟩
    rw [hk]; rfl
  rw [Nat.mul_assoc, h1, e, ← h2, Nat.mul_right_comm]
theorem tx_countP : ∀ (k : Nat) (p : Int → Bool) (l : List Int), l.countP p = k → l.length ∣ tx l * l.countP p := by
  intro k
  induction k using Nat.strongRecOn with
  | _ k ih =>
    intro p l hk
    rcases Nat.eq_zero_or_pos k with e | e
    · rw [hk, e]; exact ⟨0, rfl⟩
    · obtain ⟨x, hx, hp⟩ := List.countP_pos_iff.mp (show 0 < l.countP p by omega)
      have hs : l.countP p = l.count x + l.countP (fun y => p y && decide (y ≠ x)) := by
        clear ih hk e
        induction l with
        | nil => rfl
        | cons y r ihr =>
          have ih2 : r.countP p = r.count x + r.countP (fun y => p y && decide (y ≠ x)) := by
            by_cases hm : x ∈ r
            · exact ihr hm
            · have h0 : r.count x = 0 := List.count_eq_zero.mpr hm
              rw [h0, Nat.zero_add]
              refine List.countP_congr fun y hy => ?_
              have : y ≠ x := fun z => hm (z ▸ hy)
              simp [this]
          by_cases hyx : y = x
          · subst hyx
            rw [List.countP_cons_of_pos hp, List.count_cons_self, List.countP_cons_of_neg (by simp), ih2]; omega
          · rw [List.count_cons_of_ne hyx]
            by_cases hpy : p y = true
            · rw [List.countP_cons_of_pos hpy, List.countP_cons_of_pos (by simp [hpy, hyx]), ih2]; omega
            · rw [List.countP_cons_of_neg hpy, List.countP_cons_of_neg (by simp [hpy]), ih2]
      have hc : 0 < l.count x := List.count_pos_iff.mpr hx
      rw [hs, Nat.mul_add]
      exact Nat.dvd_add ⟨_, by rw [tx_erase hx, Nat.mul_comm]⟩ (ih _ (by omega) _ l rfl)
theorem at_sorted {x : Int} : ∀ {l : List Int} {j : Nat}, l.Pairwise (· ≤ ·) → l[j]? = some x → l.idxOf x = l.countP (fun y => decide (y < x)) ∧ l.countP (fun y => decide (y < x)) ≤ j ∧ j < l.countP (fun y => decide (y < x)) + l.count x
  | [], j, _, h => by cases h
  | y :: r, j, hs, h => by
    have hp := List.pairwise_cons.mp hs
    by_cases e : y = x
    · subst e
      have h0 : r.countP (fun z => decide (z < y)) = 0 := List.countP_eq_zero.mpr fun z hz => by have := hp.1 z hz; simp; omega
      rw [List.idxOf_cons_self, List.countP_cons_of_neg (by simp), h0, List.count_cons_self]
      refine ⟨rfl, Nat.zero_le _, ?_⟩
      cases j with
      | zero => omega
      | succ j =>
        have := at_sorted (l := r) (j := j) hp.2 h
        omega
    · cases j with
      | zero => exact absurd (Option.some.inj h) e
      | succ j =>
        have hj : r[j]? = some x := h
        have hle := hp.1 x (List.mem_of_getElem? hj)
        have ih := at_sorted (l := r) (j := j) hp.2 hj
        rw [List.idxOf_cons, beq_false_of_ne e, cond_false, List.countP_cons_of_pos (by simp; omega), List.count_cons_of_ne e]
        omega
theorem share_step {l : List Int} {rest : Nat} (hs : l.Pairwise (· ≤ ·)) (h0 : 0 < l.length) (hr : rest < tx l) :
    rest * l.length / tx l < l.length ∧ ∀ x, l[rest * l.length / tx l]? = some x →
      tx l * l.count x / l.length = tx (l.erase x) ∧ tx l * l.idxOf x / l.length ≤ rest ∧ rest - tx l * l.idxOf x / l.length < tx (l.erase x) := by
  have hT := tx_pos l
  have hj : rest * l.length / tx l < l.length := by
    rw [Nat.div_lt_iff_lt_mul hT, Nat.mul_comm l.length]
    exact Nat.mul_lt_mul_of_pos_right hr h0
  refine ⟨hj, fun x hx => ?_⟩
  obtain ⟨hi, h1, h2⟩ := at_sorted hs hx
  have hm := List.mem_of_getElem? hx
  have e := tx_erase hm
  obtain ⟨u, hu⟩ := tx_countP _ (fun y => decide (y < x)) l rfl
  rw [hi, e, hu, Nat.mul_comm l.length u, Nat.mul_div_cancel _ h0, Nat.mul_div_cancel _ h0]
  have a1 : rest * l.length / tx l * tx l ≤ rest * l.length := Nat.div_mul_le_self _ _
  have a2 : rest * l.length < (rest * l.length / tx l + 1) * tx l := Nat.lt_mul_of_div_lt (Nat.lt_succ_self _) hT
  generalize rest * l.length / tx l = j at *
  generalize hcp : l.countP (fun y => decide (y < x)) = cp at *
  have b1 : u * l.length ≤ rest * l.length := by
    rw [Nat.mul_comm u, ← hu]
    exact Nat.le_trans (by rw [Nat.mul_comm]; exact Nat.mul_le_mul_right _ h1) a1
  have hur : u ≤ rest := Nat.le_of_mul_le_mul_right b1 h0
  refine ⟨rfl, hur, ?_⟩
  have b2 : rest * l.length < (u + tx (l.erase x)) * l.length := by
    have : (j + 1) * tx l ≤ (cp + l.count x) * tx l := Nat.mul_le_mul_right _ (by omega)
    rw [Nat.add_mul, Nat.mul_comm u, ← hu, ← e]
    rw [Nat.add_mul cp, Nat.mul_comm cp, Nat.mul_comm (l.count x)] at this
    exact Nat.lt_of_lt_of_le a2 this
  have := Nat.lt_of_mul_lt_mul_right b2
  omega
end PH
set_option Elab.async false
set_option linter.all false
set_option maxRecDepth 100000
namespace L2
open PySem PySem.Spec PyProof.Rows PySem.W
section
variable {X : Cx} {pins : List (Addr × Obj)} {σ : St} {H : Hp} {s : Shared}
theorem Inv.turned2L {h' : Heap} {t' : Nat} {i1 i2 a : Addr} {o : HO} (I : Inv X pins σ H s) (k : ∀ b o, b ≠ i1 → b ≠ i2 → s.heap.get? b = some o → h'.get? b = some o) (f1 : FpOk X pins H i1) (f2 : FpOk X pins H i2)
    (hp : s.heap.objs.size ≤ a) (new : ObjOk X.prog X.w (upd H a o) h' a o) : Inv X pins σ (upd H a o) { s with heap := h', toks := t' } := by
  obtain ⟨a0, a1, a2, a3, a4, a5⟩ := f1
  obtain ⟨b0, b1, b2, b3, b4, b5⟩ := f2
  have n1 : ∀ b u, H b = some u → b ≠ i1 := fun b u e z => by rw [z, a0] at e; cases e
  have n2 : ∀ b u, H b = some u → b ≠ i2 := fun b u e z => by rw [z, b0] at e; cases e
  have hn : H a = none := I.hok.fresh hp
  refine I.step (g' := s.gens) (d' := s.drawn) (ch := [i1, i2]) (fun b hb => ?_) (fun b o _ _ hc e _ => k b o (fun z => hc (by simp [z])) (fun z => hc (by simp [z])) e) (fun b o _ _ hc e _ => ⟨o.slots, k b o (fun z => hc (by simp [z])) (fun z => hc (by simp [z])) e⟩) (fun b u _ q n => ?_)
    (fun b o hc e => ⟨o, k b o (fun z => hc (by simp [z])) (fun z => hc (by simp [z])) e⟩) (fun b xs q => by rw [upd_ne (ne_of_none q hn)]; exact q) (fun b u xs q => by rw [upd_ne (ne_of_none q hn)]; exact q) (fun b ps q => ⟨#[], by rw [upd_ne (ne_of_none q hn), q]; simp⟩) (fun m hm => ?_) (fun b u e => ?_) I.bare
  · have e : b = i1 ∨ b = i2 := by simpa using hb
    rcases e with e | e
    · subst e
      exact ⟨a3, a1, a4, a5⟩
    · subst e
      exact ⟨b3, b1, b4, b5⟩
  · rw [upd_ne (Nat.ne_of_lt (Nat.lt_of_lt_of_le (Heap.lt_size q) hp))]; exact n
  · obtain ⟨o, es, ep, ho, r⟩ := hm
    exact ⟨o, es, ep, k _ o (Ne.symm a1) (Ne.symm b1) ho, r⟩
  · by_cases hb : b = a
    · subst hb
      rw [upd_same] at e
      cases e
      exact new
    · rw [upd_ne hb] at e
      refine (I.hok b u e).stay (fun c v hc q => k c v ?_ ?_ q) (fun c q => by rw [upd_ne (ne_of_none q hn)]; exact q) fun c xs q => by rw [upd_ne (ne_of_none q hn)]; exact q
      · rcases hc with z | z
        · rw [z]; exact n1 b u e
        · exact n1 c _ z
      · rcases hc with z | z
        · rw [z]; exact n2 b u e
        · exact n2 c _ z
def Ite (K : Frag) (a : Addr) : It :=
  ⟨fun i H => ∃ xs x, SqL K H a xs ∧ xs[i]? = some x, fun i H x H' => ∃ t y, x = .ref t ∧ H t = none ∧ H' = upd H t (.tup [.int (i : Nat), y]) ∧ ∀ xs, SqL K H a xs → xs[i]? = some y, fun i H => ∃ xs, SqL K H a xs ∧ xs.length ≤ i⟩
theorem turn_enum {P : Program} {w : World} {K : Frag} {elts : List Expr} {x1} {pos : Pos} (a e it : Addr) : Turn P w K (.Tuple elts x1 pos) (Ite K a) [e, it] e (fun i h => (∃ old, IsEnum h e it ((i : Nat) : Int) old) ∧ h.IsListIter it a i ∧ e ≠ it) where
  mem := by simp
  obj := fun i h st b hb => by
    obtain ⟨⟨old, he⟩, ⟨o, ho, c, d⟩, _⟩ := st
    have e' : b = e ∨ b = it := by simpa using hb
    rcases e' with rfl | rfl
    · exact ⟨_, he, fun v z => by cases z⟩
    · exact ⟨o, ho, fun v z => by rw [d] at z; cases z⟩
  keep := fun i h h' st k => by
    obtain ⟨⟨old, he⟩, hi, hne⟩ := st
    exact ⟨⟨old, k e (by simp) _ he⟩, hi.at fun o q => k it (by simp) o q, hne⟩
  item := by
    intro X hP hw hK hc i pins s σ H E I hf st hg
    subst hP hw hK
    obtain ⟨xs, x, hq, hx⟩ := hg
    obtain ⟨⟨old, he⟩, hi, hne⟩ := st
    obtain ⟨its, rv, p, hz⟩ := I.list hq
    obtain ⟨u, hu, ru⟩ := rv.get hx
    have fe := hf e (by simp)
    have fi := hf it (by simp)
    have hel : e < s.heap.objs.size := Heap.lt_size he
    have hil : it < s.heap.objs.size := by obtain ⟨_, q, _⟩ := id hi; exact Heap.lt_size q
    refine wpAny_pyNext_enum_item he hi p.isList (x := u) (by simpa using hu) hne fun h' ho hi' hT hsz hk => ?_
    refine ⟨_, rfl, wpAny_letOwnedTupleGo_enum ho fun h2 he2 hs2 => ?_⟩
    have hfr : H s.heap.objs.size = none := I.hok.fresh (Nat.le_refl _)
    have hT2 : h2.get? s.heap.objs.size = some { cls := .type "tuple", data := .seq #[.int i s.toks, u] } := (hs2.2 _ (Nat.ne_of_gt hel)).trans hT
    have k2 : ∀ b o, b ≠ e → b ≠ it → s.heap.get? b = some o → h2.get? b = some o := fun b o n1 n2 q => (hs2.2 b n1).trans (hk b o n1 n2 q)
    have I2 : Inv X pins σ (upd H s.heap.objs.size (.tup [.int (i : Nat), x])) { s with heap := h2, toks := s.toks + 1 } :=
      I.turned2L k2 fe fi (Nat.le_refl _) (show ObjOk X.prog X.w _ h2 _ (.tup [.int (i : Nat), x]) from ⟨by show 2 ≤ sizeLine; decide, [.int i s.toks, u], .cons ⟨_, rfl⟩ (.cons ru .nil), ⟨_, hT2, rfl, _, rfl⟩⟩)
    refine ⟨.ref s.heap.objs.size, _, I2, rfl, ⟨_, x, rfl, hfr, rfl, fun ys hy => by rw [I.list_inj hy hq]; exact hx⟩, ⟨⟨_, by simpa using he2⟩, hi'.at fun o q => (hs2.2 it hne.symm).trans q, hne⟩, fun b hb => ?_⟩
    have e' : b = e ∨ b = it := by simpa using hb
    rcases e' with rfl | rfl
    · rw [upd_ne (Nat.ne_of_lt hel)]; exact fe.1
    · rw [upd_ne (Nat.ne_of_lt hil)]; exact fi.1
  done := by
    intro X hP hw hK hc i pins s σ H E I hf st hg
    subst hP hw hK
    obtain ⟨xs, hq, hx⟩ := hg
    obtain ⟨⟨old, he⟩, hi, hne⟩ := st
    obtain ⟨its, rv, p, hz⟩ := I.list hq
    obtain ⟨f0, f1, f2, f3, f4, f5⟩ := hf it (by simp)
    have hl := rv.length
    exact wpAny_pyNext_enum_end (I.ok.hd hc) he hi p.isList (by simp; omega) fun h' eb => ⟨rfl, I.turned (t' := s.toks) (fun b o hb e => eb b o hb e) f0 f1 f3 f4 f5⟩
  self := fun _ _ _ _ _ st h => by
    obtain ⟨⟨old, he⟩, _⟩ := st
    exact wpAny_pyIter_enum he h
def iEnum (K : Frag) (ta : TA) : TI := fun σ H R => ta σ H fun vs H1 => ∃ a, vs = [.ref a] ∧ (∃ xs, SqL K H1 a xs) ∧ R (Ite K a) H1
theorem pi_enum {elts : List Expr} {x1} {p' : Pos} {a : Expr} {ta : TA} {p pos : Pos} (hg : Gl X "enumerate") (hm : X.mg "enumerate" = none) (ha : PA X [a] ta) (hs : starEach [a] X.env = [(false, eval a X.env)] := by rfl) :
    PI X (.Tuple elts x1 p') (.Call (.Name "enumerate" p) [a] [] pos) (iEnum X.K ta) := by
  intro pins s σ H R I h
  refine Call_ (ld_blt I hg hm boot_enumerate (PyProof.Rows.callWith_type1 (thn (ha pos pins s σ H _ I h) fun us s1 ⟨vs, H1, I1, r1, q1⟩ => ?_) hs rfl))
  obtain ⟨a, e, ⟨xs, hq⟩, q⟩ := q1
  subst e
  cases r1 with
  | cons r rr =>
    cases rr
    cases r
    obtain ⟨its, rv, p, hz⟩ := I1.list hq
    refine call_enumerate_list p.isList fun h' he hit hsz hk => ?_
    refine wpAny_pyIter_enum he ?_
    refine ⟨_, [s1.heap.objs.size + 1, s1.heap.objs.size], _, Ite X.K a, H1, rfl, I1.kept (t' := s1.toks) hk, turn_enum a _ _, ⟨⟨_, he⟩, hit, Nat.succ_ne_self _⟩, fun b hb => ?_, q⟩
    have e : b = s1.heap.objs.size + 1 ∨ b = s1.heap.objs.size := by simpa using hb
    have hle : s1.heap.objs.size ≤ b := by
      rcases e with e | e
      · rw [e]; exact Nat.le_succ _
      · rw [e]; exact Nat.le_refl _
    exact I1.fpOk hle (I1.hok.fresh hle)
theorem for_enum {K : PySem.W.Frag} {a : Addr} {xs : List V} {g : TG} {tb : TS} {D : Ends} {σ : St} {H : Hp} (Pv : Nat → St → Hp → Prop) (h0 : Pv 0 σ H) (hl : ∀ i σ H, i ≤ xs.length → Pv i σ H → SqL K H a xs)
    (hs : ∀ i x t σ H, xs[i]? = some x → Pv i σ H → H t = none → g (.ref t) σ (upd H t (.tup [.int (i : Nat), x])) fun σ2 H2 => tb { D with nx := Pv (i + 1), ct := Pv (i + 1), bk := D.nx } σ2 H2) (hd : ∀ σ H, Pv xs.length σ H → D.nx σ H) :
    ∃ W : Nat → Nat → St → Hp → Prop, (∃ m, W 0 m σ H) ∧ ∀ i m σ H, W i m σ H →
      ((Ite K a).stop i H ∧ D.nx σ H) ∨ ((Ite K a).go i H ∧ ∃ N : St → Hp → Prop, (∀ σ' H', N σ' H' → ∃ m', m' < m ∧ W (i + 1) m' σ' H') ∧ ∀ x H', (Ite K a).yld i H x H' → g x σ H' fun σ2 H2 => tb { D with nx := N, ct := N, bk := D.nx } σ2 H2) := by
  refine ⟨fun i m σ H => m = xs.length - i ∧ i ≤ xs.length ∧ Pv i σ H, ⟨xs.length, by simp, Nat.zero_le _, h0⟩, ?_⟩
  rintro i m σ H ⟨rfl, hi, p⟩
  have q := hl i σ H hi p
  by_cases hlt : i < xs.length
  · refine .inr ⟨⟨xs, xs[i], q, by simp [hlt]⟩, Pv (i + 1), fun σ' H' p' => ⟨xs.length - (i + 1), by omega, rfl, hlt, p'⟩, fun x H' y => ?_⟩
    obtain ⟨t, y', rfl, hn, rfl, y⟩ := y
    exact hs i y' t σ _ (y xs q) p hn
  · have e : i = xs.length := by omega
    subst e
    exact .inl ⟨⟨xs, q, Nat.le_refl _⟩, hd σ H p⟩
def rRemove : V → List V → Hp → VK → Prop := fun x vs H Q => ∃ (p : Addr) (pre : List Int) (k : Int) (post : List Int), x = .ref p ∧ vs = [.int k] ∧ H p = some (.lst ((pre ++ k :: post).map V.int)) ∧ k ∉ pre ∧ Q .non (upd H p (.lst ((pre ++ post).map V.int)))
theorem mt_remove : MtM X "list.remove" rRemove := by
  intro pins s σ H x vs v us Q I rx rv h
  obtain ⟨p, pre, k, post, rfl, rfl, hH, hn, q⟩ := h
  cases rx
  obtain ⟨u, rfl, ru⟩ := rv.one
  obtain ⟨t, rfl⟩ := ru
  obtain ⟨z, its, n, r, hl, e⟩ := I.lstM hH
  have hl' : its.length = pre.length + (post.length + 1) := by
    rw [← hl, List.length_map, List.length_append, List.length_cons]
  have shape : ∀ (j : Nat) (h : j < its.toArray.size), ∃ (w : Int) (tw : Tok), (pre ++ k :: post)[j]? = some w ∧ its.toArray[j] = .int w tw := fun j h => by
    have hj : j < (pre ++ k :: post).length := by
      rw [List.size_toArray] at h
      rw [List.length_append, List.length_cons]; omega
    obtain ⟨u, eu, tw, ru⟩ := r.get (i := j) (x := .int (pre ++ k :: post)[j]) (by rw [List.getElem?_map, List.getElem?_eq_getElem hj]; rfl)
    refine ⟨_, tw, List.getElem?_eq_getElem hj, ?_⟩
    rw [List.getElem_toArray, ← ru]
    exact Option.some.inj ((List.getElem?_eq_getElem (by simpa using h)).symm.trans eu)
  have mem : ∀ y, y ∈ its.toArray → MeetsSeq.EqGives y (.int k t) (eqU (.int k) y) := fun y hy => by
    obtain ⟨j, hj, rfl⟩ := Array.getElem_of_mem hy
    obtain ⟨w, tw, _, e2⟩ := shape j hj
    rw [e2]
    exact MeetsSeq.EqGives.int w k tw t
  refine call_meets F.slot_list_remove ⟨_, e, rfl⟩ F.entry_list_remove (F.args_list_remove_2 _ _) (MeetsSeq.list_remove p its.toArray n (.int k t) (eqU (.int k)) mem pre.length (by rw [List.size_toArray]; omega) ?_ ?_ (by rw [List.size_toArray]; omega)) ⟨e, ?_⟩
  · obtain ⟨w, tw, e1, e2⟩ := shape pre.length (by rw [List.size_toArray]; omega)
    rw [e2]
    have : w = k := by
      rw [List.getElem?_append_right (Nat.le_refl _)] at e1
      simpa using e1.symm
    subst this
    show (w == w) = true
    simp
  · intro m hm hlt
    obtain ⟨w, tw, e1, e2⟩ := shape m hm
    rw [e2]
    have hp : m < pre.length := hlt
    rw [List.getElem?_append_left hp] at e1
    show (w == k) = false
    have : w ≠ k := fun z => hn (z ▸ List.mem_of_getElem? e1)
    simpa using this
  · have hpre : pre.length = (pre.map V.int).length := (List.length_map ..).symm
    refine ⟨.non, _, I.lset (its' := its.eraseIdx pre.length) hH e ?_ (r.eraseIdx pre.length) ?_, rfl, ?_⟩
    · show its.toArray.eraseIdxIfInBounds pre.length = (its.eraseIdx pre.length).toArray
      rw [List.eraseIdxIfInBounds_toArray]
    · have := len_erase ((pre ++ k :: post).map V.int) pre.length
      omega
    · have e1 : ((pre ++ k :: post).map V.int).eraseIdx pre.length = (pre ++ post).map V.int := by
        rw [List.map_append, List.map_cons, List.eraseIdx_append_of_length_le (by rw [List.length_map]; exact Nat.le_refl _), List.length_map, Nat.sub_self, List.eraseIdx_zero, List.map_append]
        rfl
      rw [e1]; exact q
end
end L2
set_option Elab.async false
set_option linter.all false
set_option maxRecDepth 100000
set_option maxHeartbeats 4000000
namespace PH
open PySem L2 PySem.W
def flat (cs : List (Int × Int)) : List Int := cs.flatMap fun c => List.replicate c.2.toNat c.1
theorem flat_snoc (cs : List (Int × Int)) (c : Int × Int) : flat (cs ++ [c]) = flat cs ++ List.replicate c.2.toNat c.1 := by
  unfold flat
  rw [List.flatMap_append]
  show _ ++ (List.replicate c.2.toNat c.1 ++ []) = _
  rw [List.append_nil]
theorem flat_len : ∀ cs : List (Int × Int), (flat cs).length = (tms cs).sum
  | [] => rfl
  | c :: r => by
    show (List.replicate c.2.toNat c.1 ++ flat r).length = c.2.toNat + (tms r).sum
    rw [List.length_append, List.length_replicate, flat_len r]
theorem mem_flat {cs : List (Int × Int)} {x : Int} (h : x ∈ flat cs) : x ∈ cs.map (·.1) := by
  obtain ⟨c, hc, hx⟩ := List.mem_flatMap.mp h
  exact List.mem_map.mpr ⟨c, hc, (List.mem_replicate.mp hx).2.symm⟩
theorem RiseC.tail {c : Int × Int} {r : List (Int × Int)} (h : RiseC (c :: r)) : RiseC r ∧ ∀ x ∈ r.map (·.1), c.1 < x :=
  have hp := List.pairwise_cons.mp h.1
  ⟨⟨hp.2, fun x hx => h.2 x (List.mem_cons_of_mem _ hx)⟩, hp.1⟩
theorem flat_sorted : ∀ {cs : List (Int × Int)}, RiseC cs → (flat cs).Pairwise (· ≤ ·)
  | [], _ => List.Pairwise.nil
  | c :: r, h => by
    obtain ⟨hr, hl⟩ := h.tail
    show (List.replicate c.2.toNat c.1 ++ flat r).Pairwise (· ≤ ·)
    refine List.pairwise_append.mpr ⟨List.pairwise_replicate.mpr (.inr (Int.le_refl _)), flat_sorted hr, fun a ha b hb => ?_⟩
    have h1 := (List.mem_replicate.mp ha).2
    have h2 := hl b (mem_flat hb)
    omega
theorem pf_rep {s : Int} {l : List Int} (h : s ∉ l) : ∀ t : Nat, pf (List.replicate t s ++ l) = fac t * pf l
  | 0 => by show pf l = 1 * pf l; rw [Nat.one_mul]
  | t + 1 => by
    have ih := pf_rep h t
    rw [List.replicate_succ, List.cons_append]
    show ((List.replicate t s ++ l).count s + 1) * pf (List.replicate t s ++ l) = fac t * (t + 1) * pf l
    rw [ih, List.count_append, List.count_replicate_self, List.count_eq_zero.mpr h, Nat.add_zero, Nat.mul_left_comm, Nat.mul_assoc]
theorem pf_flat : ∀ {cs : List (Int × Int)}, RiseC cs → pf (flat cs) = pfac (tms cs)
  | [], _ => rfl
  | c :: r, h => by
    obtain ⟨hr, hl⟩ := h.tail
    show pf (List.replicate c.2.toNat c.1 ++ flat r) = fac c.2.toNat * pfac (tms r)
    rw [pf_rep (fun z => by have := hl _ (mem_flat z); omega), pf_flat hr]
theorem tx_flat {cs : List (Int × Int)} (h : RiseC cs) : tx (flat cs) = mlt 1 0 (tms cs) := by
  have h1 := mlt_fac (tms cs) 1 0 1 rfl
  rw [Nat.one_mul, Nat.zero_add] at h1
  have hp := pf_pos (flat cs)
  unfold tx
  rw [flat_len, ← h1, ← pf_flat h, Nat.mul_div_cancel _ hp]
theorem riseB_rise : ∀ {cs : List (Int × Int)} {a : Int}, riseB a cs = true → (cs.map (·.1)).Pairwise (· < ·) ∧ ∀ c ∈ cs, a < c.1 ∧ c.1 ≤ 255
  | [], _, _ => ⟨List.Pairwise.nil, fun _ z => by cases z⟩
  | c :: r, a, h => by
    unfold riseB at h
    rw [Bool.and_eq_true, Bool.and_eq_true] at h
    have h1 := of_decide_eq_true h.1.1
    have h2 := of_decide_eq_true h.1.2
    obtain ⟨p1, p2⟩ := riseB_rise h.2
    refine ⟨List.pairwise_cons.mpr ⟨fun x hx => ?_, p1⟩, fun x hx => ?_⟩
    · obtain ⟨y, hy, rfl⟩ := List.mem_map.mp hx
      exact (p2 y hy).1
    · rcases List.mem_cons.mp hx with e | e
      · subst e; exact ⟨h1, h2⟩
      · have := p2 x e
        exact ⟨by omega, this.2⟩
theorem rise_of {cs : List (Int × Int)} (h : areC cs = true) : RiseC cs := by
  unfold areC at h
  rw [Bool.and_eq_true] at h
  obtain ⟨p1, p2⟩ := riseB_rise h.1
  refine ⟨p1, fun c hc => ?_⟩
  have h1 := p2 c hc
  have h2 : 1 ≤ c.2 := of_decide_eq_true (List.all_eq_true.mp h.2 c hc)
  exact ⟨by omega, h1.2, h2⟩
theorem have_of {cs : List (Int × Int)} (h : haveT cs = true) : RiseC cs ∧ sumT cs ≤ 400 := by
  unfold haveT at h
  rw [Bool.and_eq_true] at h
  exact ⟨rise_of h.1, of_decide_eq_true h.2⟩
theorem erase_at {x : Int} : ∀ {l : List Int}, x ∈ l → ∃ pre post, l = pre ++ x :: post ∧ x ∉ pre ∧ l.erase x = pre ++ post ∧ l.idxOf x = pre.length
  | [], h => by cases h
  | y :: r, h => by
    by_cases e : y = x
    · subst e
      exact ⟨[], r, rfl, (fun z => by cases z), List.erase_cons_head _ _, List.idxOf_cons_self⟩
    · have hm : x ∈ r := by
        rcases List.mem_cons.mp h with q | q
        · exact absurd q.symm e
        · exact q
      obtain ⟨pre, post, h1, h2, h3, h4⟩ := erase_at hm
      refine ⟨y :: pre, post, by rw [h1]; rfl, fun z => ?_, ?_, ?_⟩
      · rcases List.mem_cons.mp z with q | q
        · exact e q.symm
        · exact h2 q
      · rw [List.erase_cons_tail (by simpa using e), h3]; rfl
      · rw [List.idxOf_cons, beq_false_of_ne e, cond_false, h4]; rfl
def spInOrd : Sp := fun vs H Q _ => ∃ (p : Addr) (zs : List (Addr × Int × Int)), vs = [.ref p] ∧ Prs H p zs ∧ zs.length ≤ 300 ∧ (∀ c ∈ zs.map (·.2), 1 ≤ c.2) ∧ sumT (zs.map (·.2)) ≤ 400 ∧
  ∀ (L : Addr) (H' : Hp), Same H H' → H L = none → H' L = some (lsI (flat (zs.map (·.2)))) → Q (.ref L) H'
def spTbs (cB : Addr) : Sp := fun vs H Q E => ∃ (p : Addr) (zs : List (Addr × Int × Int)) (number : Int), vs = [.ref p, .int number] ∧ Prs H p zs ∧ zs.length ≤ 300 ∧
  ((haveT (zs.map (·.2)) = false ∨ number < 0 ∨ (mlt 1 0 (tms (zs.map (·.2))) : Int) ≤ number) → ∀ H', Same H H' → E (.ref cB) none H') ∧
  (haveT (zs.map (·.2)) = true → 0 ≤ number → number < (mlt 1 0 (tms (zs.map (·.2))) : Int) → ∀ (T : Addr) (ts : List Int) (H' : Hp), Same H H' → H T = none → H' T = some (lsI ts) → ts.length = (tms (zs.map (·.2))).sum → Q (.ref T) H')
def spTakeG : Sp := fun vs H Q _ => ∃ (p : Addr) (n many : Int), vs = [.ref p, .int many] ∧ PL n p H ∧ n ≤ 1000000 ∧ 0 < many ∧ many ≤ 100000000000000000000000000000000000000000000000000 ∧
  ∀ (r : Int) (H' : Hp), 0 ≤ r → r < many → PL (n + 1) p H' → Kb p H H' → Q (.int r) H'
def spFar : Sp := fun vs H Q _ => ∃ (p : Addr) (n : Int), vs = [.ref p] ∧ PL n p H ∧ n ≤ 990000 ∧ ∀ (r : Int) (H' : Hp), 0 ≤ r → PL (n + 2) p H' → Kb p H H' → Q (.int r) H'
def spSpoil51 : Sp := fun vs H Q _ => ∃ (c p : Addr) (n : Int) (zs : List (Addr × Int × Int)), vs = [.ref c, .ref p] ∧ PL n p H ∧ n ≤ 900000 ∧ Prs H c zs ∧ zs.length ≤ 256 ∧
  ∀ (r : Addr) (rs : List (Addr × Int × Int)) (H' : Hp), Kb p H H' → PL (n + 10) p H' → Prs H' r rs → rs.length ≤ 300 → Q (.ref r) H'
def spIs : Sp := fun vs H Q _ => ∃ (p : Addr) (zs : List (Addr × Int × Int)), vs = [.ref p] ∧ Prs H p zs ∧ zs.length ≤ 300 ∧ ∀ H', Same H H' → Q (.bl (haveT (zs.map (·.2)))) H'
def spRef51 : Sp := fun vs H Q _ => ∃ (p : Addr) (zs : List (Addr × Int × Int)) (way number : Int), vs = [.ref p, .int way, .int number] ∧ Prs H p zs ∧ zs.length ≤ 300 ∧
  (haveT (zs.map (·.2)) = false ∨ (way = 1 ∧ (number < 0 ∨ (mlt 1 0 (tms (zs.map (·.2))) : Int) ≤ number))) ∧ ∀ H', Same H H' → Q (.bl true) H'
theorem cdivG_small {i j : Int} (h0 : 0 < j) (h1 : j ≤ 100000000000000000000000000000000000000000000000000) : CDivG i j := by
  refine ⟨h0, ?_⟩
  have : (100000000000000000000000000000000000000000000000000 : Int) < ((2 ^ 3000 : Nat) : Int) := by decide +kernel
  exact Int.lt_of_le_of_lt h1 this
theorem Prs.sl {H : Hp} {p : Addr} {zs : List (Addr × Int × Int)} (h : Prs H p zs) {q : Addr} (hq : H q = none) {ys : List (Addr × Int × Int)} (hs : ∀ y ∈ ys, y ∈ zs) : Prs (upd H q (.lst (ys.map fun z => V.ref z.1))) q ys :=
  ⟨upd_same, fun z hz => (same_new hq _) _ _ (h.each z (hs z hz))⟩
theorem Prs.cat {H : Hp} {p q r : Addr} {zs ys : List (Addr × Int × Int)} (h : Prs H p zs) (h2 : Prs H q ys) (hr : H r = none) : Prs (upd H r (.lst ((zs.map fun z => V.ref z.1) ++ (ys.map fun z => V.ref z.1)))) r (zs ++ ys) :=
  ⟨by rw [upd_same, List.map_append], fun z hz => by
    rcases List.mem_append.mp hz with q | q
    · exact (same_new hr _) _ _ (h.each z q)
    · exact (same_new hr _) _ _ (h2.each z q)⟩
theorem Prs.one {H : Hp} {t l : Addr} {a b : Int} (ht : H t = none) (hl : upd H t (.tup [.int a, .int b]) l = none) : Prs (upd (upd H t (.tup [.int a, .int b])) l (.lst [V.ref t])) l [(t, a, b)] :=
  ⟨upd_same, fun z hz => by
    have : z = (t, a, b) := by simpa using hz
    subst this
    exact (same_new hl _) _ _ upd_same⟩
theorem cutp_to (zs : List (Addr × Int × Int)) (k : Nat) : cutV (zs.map fun z => V.ref z.1) none (some (k : Int)) = (zs.take k).map fun z => V.ref z.1 := by rw [cutv_to, List.map_take]
theorem cutp_from (zs : List (Addr × Int × Int)) (k : Nat) : cutV (zs.map fun z => V.ref z.1) (some (k : Int)) none = (zs.drop k).map fun z => V.ref z.1 := by rw [cutv_from, List.map_drop]
theorem cutp_two (zs : List (Addr × Int × Int)) (i j : Nat) : cutV (zs.map fun z => V.ref z.1) (some (i : Int)) (some (j : Int)) = ((zs.drop i).take (j - i)).map fun z => V.ref z.1 := by
  unfold cutV
  rw [HT.sIx_nat, HT.sIx_nat, List.length_map, ← List.map_drop, ← List.map_take]
  congr 1
  rcases Nat.le_total i zs.length with h | h
  · rw [Nat.min_eq_left h]
    rcases Nat.le_total j zs.length with h2 | h2
    · rw [Nat.min_eq_left h2]
    · rw [Nat.min_eq_right h2, List.take_of_length_le (by rw [List.length_drop]; exact Nat.le_refl _), List.take_of_length_le (by rw [List.length_drop]; omega)]
  · rw [Nat.min_eq_right h, List.drop_of_length_le (Nat.le_refl _), List.drop_of_length_le h, List.take_nil, List.take_nil]
end PH
set_option Elab.async false
set_option linter.all false
set_option maxRecDepth 100000
set_option maxHeartbeats 4000000
namespace K51
open PySem L2 PySem.W PH
def top (i : Nat) : Stmt := PySem.Challenge.pw_packhall_k51_no_counts_or_number.main.body.getD i (.Pass ⟨0, 0, 0, 0⟩)
abbrev s_whole : Stmt := top 12
abbrev s_rise : Stmt := top 14
abbrev s_arec : Stmt := top 15
abbrev s_pair : Stmt := top 17
abbrev s_have : Stmt := top 18
abbrev s_orders : Stmt := top 19
abbrev s_texts : Stmt := top 20
abbrev s_inord : Stmt := top 21
abbrev s_tbs : Stmt := top 22
abbrev s_pool : Stmt := top 24
abbrev s_take : Stmt := top 25
abbrev s_lcnt : Stmt := top 26
abbrev s_far : Stmt := top 27
abbrev s_spoilt : Stmt := top 28
abbrev s_is : Stmt := top 29
abbrev s_ref : Stmt := top 30
abbrev s_law : Stmt := top 31
section
variable {P : Program} {w : World} {K : PySem.W.Frag} {mg : Str → Option Value} {base : Heap}
theorem sc_whole : FnScope ["thing"] ["thing"] (defScope s_whole) := ⟨rfl, rfl, rfl, by decide +kernel, rfl, by decide +kernel, by decide +kernel⟩
theorem ok_whole {f : Addr} {fd : FuncData} (F : Fun K "is_whole" "is_whole" s_whole f fd) (B : Bls mg) : FnOk P w K mg base (CXW P w) 1 f fd ["thing"] (spWhole) := by
  refine F.okN sc_whole (fun vs H Q E h => ?_) (fun cdv A outer s H vs Q E hr h => ?_)
  · obtain ⟨n, rfl, _⟩ := h
    rfl
  · obtain ⟨n, rfl, q⟩ := h
    refine ⟨_, (pss_one (ps_ret (pe_and (pe_callB (r := rIsi K) call_isi rfl B.isi boot_isi (pa_cons (pv 0) (pa_cons (pe_bltn (v := .ty "int") rfl B.int boot_int' rfl) pa_nil))) (pe_one (pe_not (pe_callB (r := rIsi K) call_isi rfl B.isi boot_isi (pa_cons (pv 0) (pa_cons (pe_bltn (v := .ty "bool") rfl B.bool boot_bool' rfl) pa_nil)))))))), ?_⟩
    refine ⟨_, rfl, _, _, _, _, true, rfl, .of (.int n), rfl, kit_refl _ _, _, rfl, ?_⟩
    refine iteT ?_
    refine ⟨_, rfl, _, _, _, _, false, rfl, .of (.int n), rfl, kit_ib _, _, rfl, ?_⟩
    exact q
theorem sc_rise : FnScope ["pairs", "ahead", "sign", "number"] ["pairs"] (defScope s_rise) := ⟨rfl, rfl, rfl, by decide +kernel, rfl, by decide +kernel, by decide +kernel⟩
theorem ok_rise {f : Addr} {fd : FuncData} (F : Fun K "signs_rise" "signs_rise" s_rise f fd) (B : Bls mg) (m_LS : LS mg) : FnOk P w K mg base (CXW P w) 1 f fd ["pairs"] (spRise) := by
  refine F.okN sc_rise (fun vs H Q E h => ?_) (fun cdv A outer s H vs Q E hr h => ?_)
  · obtain ⟨p, zs, rfl, _⟩ := h
    rfl
  · obtain ⟨p, zs, rfl, prZ, q⟩ := h
    obtain ⟨u_LS, m_u, r_u⟩ := m_LS
    refine ⟨_, (pss_cons (ps_set (i := 1) sc_rise.nd rfl (Or.inl rfl) (pe_un un_neg pe_int))
      (pss_cons (ps_for PassesOwn.never rfl (pi_list (pv 0)) (pg_tup rfl (pgs_cons (pg_name (i := 2) sc_rise.nd rfl (Or.inl rfl)) (pgs_cons (pg_name (i := 3) sc_rise.nd rfl (Or.inl rfl)) pgs_nil)))
        (pss_cons (ps_if (PW.pt (pw_or (pt_cmpR op_le (pv 2) (pv 1) (nomark _)) (pw_or1 (pt_cmpR op_gt (pv 2) (pe_glob (v := .int 255) rfl m_u r_u) (nomark _)))))
          (pss_one (ps_ret pe_bl))
          pss_nil)
        (pss_one (ps_set (i := 1) sc_rise.nd rfl (Or.inl rfl) (pv 2)))))
      (pss_one (ps_ret pe_bl)))), ?_⟩
    generalize hcs : zs.map (·.2) = cs at q
    have hF : riseB (-1) cs = false → Q (.bl false) H := fun e => by rwa [e] at q
    refine ⟨1, rfl, ?_⟩
    refine ⟨_, rfl, p, rfl, ⟨_, SqL.of prZ.at_⟩, for_list (K := K) (a := p) (xs := zs.map fun z => V.ref z.1) (fun k σ H2 => ∃ (ah : Int) (v2 v3 : Option V), σ = [some (.ref p), some (.int ah), v2, v3] ∧ H2 = H ∧ riseB (-1) cs = riseB ah (cs.drop k))
      ⟨-1, none, none, rfl, rfl, by rw [List.drop_zero]⟩ (fun k σ H2 _ ⟨_, _, _, _, e, _⟩ => by rw [e]; exact SqL.of prZ.at_) ?_ ?_⟩
    · rintro k y σ H2 hi ⟨ah, v2, v3, rfl, rfl, hr⟩
      obtain ⟨z, hz, rfl⟩ := ref_at hi
      have hck : cs[k]? = some z.2 := by rw [← hcs, List.getElem?_map, hz]; rfl
      rw [riseB_step hck] at hr
      refine ⟨z.1, _, rfl, SqT.of (prZ.each z (List.mem_of_getElem? hz)), rfl, _, _, rfl, _, _, rfl, rfl, ?_⟩
      refine ⟨_, rfl, _, rfl, _, _, rfl, rfl, _, rfl, ?_⟩
      by_cases h1 : z.2.1 ≤ ah
      · rw [decide_eq_true h1]
        refine iteT (iteT ?_)
        exact hF (by rw [hr, decide_eq_false (show ¬ ah < z.2.1 by omega)]; rfl)
      rw [decide_eq_false h1]
      refine iteF ?_
      refine ⟨_, rfl, _, _, rfl, rfl, _, rfl, ?_⟩
      by_cases h2 : 255 < z.2.1
      · rw [decide_eq_true h2]
        refine iteT ?_
        exact hF (by rw [hr, decide_eq_false (show ¬ z.2.1 ≤ 255 by omega), Bool.and_false]; rfl)
      rw [decide_eq_false h2]
      refine iteF ?_
      refine ⟨_, rfl, ?_⟩
      exact ⟨z.2.1, _, _, rfl, rfl, by rw [hr, decide_eq_true (show ah < z.2.1 by omega), decide_eq_true (show z.2.1 ≤ 255 by omega)]; rfl⟩
    · rintro σ H2 ⟨ah, v2, v3, rfl, rfl, hr⟩
      rw [hr, List.drop_of_length_le (by rw [← hcs, List.length_map, List.length_map]; exact Nat.le_refl _)] at q
      exact q
theorem sc_arec : FnScope ["counts"] ["counts"] (defScope s_arec) := ⟨rfl, rfl, rfl, by decide +kernel, rfl, by decide +kernel, by decide +kernel⟩
theorem ok_arec {f f_rise : Addr} {fd d_rise : FuncData} (F : Fun K "are_counts" "are_counts" s_arec f fd) (B : Bls mg) 
    (G_rise : FnOk P w K mg base (CXW P w) 1 f_rise d_rise ["pairs"] (spRise)) (b_rise : Binds K d_rise ["pairs"] []) (k_rise : keepIn K (.ref f_rise) = true) (m_rise : mg "signs_rise" = some (.ref f_rise)) : FnOk P w K mg base (CXW P w) 2 f fd ["counts"] (spAreC) := by
  refine F.okN sc_arec (fun vs H Q E h => ?_) (fun cdv A outer s H vs Q E hr h => ?_)
  · obtain ⟨p, zs, rfl, _⟩ := h
    rfl
  · obtain ⟨p, zs, rfl, prZ, hzl, hQ⟩ := h
    refine ⟨_, (pss_one (ps_ret (pe_and (pe_call G_rise hr rfl m_rise k_rise b_rise .nil passN (pa_cons (pv 0) pa_nil)) (pe_one (pe_callB (call_allL rfl) rfl B.all boot_all' (pa_cons (pe_comp (N := ["sign", "times"]) (js := [none, none]) (g := (gTup K 2 (gCons (gName 0) (gCons (gName 1) gNil)))) (tc := tTrue) (te := (tOp (rI0 fun i j => .bl (decide (j ≤ i))) (tVar 1) (tC (.int 1)))) rfl (comp_scope (osc := defScope s_arec) (XN := ["counts"]) rfl rfl rfl (by decide +kernel)) (pi_list (pv 0)) (fun _ _ _ _ => pg_tup rfl (pgs_cons (pg_name (i := 0) (show (["sign", "times"] : List Str).Nodup by decide +kernel) rfl (Or.inl rfl)) (pgs_cons (pg_name (i := 1) (show (["sign", "times"] : List Str).Nodup by decide +kernel) rfl (Or.inl rfl)) pgs_nil))) (fun _ _ _ _ => pif_nil) (fun _ _ _ _ => (pe_cmpR op_ge (pv 1) pe_int (nomark _)))) pa_nil)))))), ?_⟩
    generalize hcs : zs.map (·.2) = cs at hQ
    refine ⟨_, rfl, p, zs, rfl, prZ, _, rfl, ?_⟩
    rw [hcs]
    cases hb : riseB (-1) cs with
    | false =>
      refine iteF ?_
      have := hQ H (Same.refl _)
      unfold areC at this
      rw [hb] at this
      exact this
    | true =>
      refine iteT ?_
      refine ⟨_, rfl, p, rfl, ⟨_, SqL.of prZ.at_⟩, fun D hD => ?_⟩
      refine comp_lstQ (K := K) (a := p) (xs := zs.map fun z => V.ref z.1) (fun i σ' H' => ∃ (x y : Option V) (bs : List Bool), σ' = [x, y] ∧ H' D = some (.lst (bs.map V.bl)) ∧ bs = (cs.take i).map (fun c => decide (1 ≤ c.2)) ∧ Same H H')
        ⟨none, none, [], rfl, upd_same, by rw [List.take_zero]; rfl, same_new hD _⟩ (fun i σ' H' _ ⟨_, _, _, _, _, _, e⟩ => SqL.of (e _ _ prZ.at_)) ?_ ?_
      · rintro i v σ' H' hi ⟨x, y, bs, rfl, hB, hbs, sm⟩
        obtain ⟨z, hz, rfl⟩ := ref_at hi
        have hlt : i < (zs.map fun z => V.ref z.1).length := (List.getElem?_eq_some_iff.mp hi).1
        have hck : cs[i]? = some z.2 := by rw [← hcs, List.getElem?_map, hz]; rfl
        refine ⟨z.1, _, rfl, SqT.of (sm _ _ (prZ.each z (List.mem_of_getElem? hz))), rfl, _, _, rfl, _, _, rfl, rfl, ?_⟩
        refine trueT ?_
        refine ⟨_, rfl, _, _, rfl, rfl, ?_⟩
        have hbl : bs.length ≤ i := by rw [hbs, List.length_map, List.length_take]; omega
        refine ⟨D, _, _, rfl, rfl, hB, fits_lt (by rw [List.length_map]; rw [List.length_map] at hlt; omega), ?_⟩
        refine CW.next hlt ⟨_, _, bs ++ [decide (1 ≤ z.2.2)], rfl, by rw [upd_same, List.map_append]; rfl, ?_, same_upd sm _ hD⟩
        rw [hbs, take_at hck, List.map_append]
        rfl
      · rintro σ' H' ⟨x, y, bs, rfl, hB, hbs, sm⟩
        refine ⟨D, bs, rfl, SqL.of hB, ?_⟩
        have := hQ H' sm
        unfold areC at this
        rw [hb, Bool.true_and] at this
        rw [hbs, List.take_of_length_le (by rw [← hcs, List.length_map, List.length_map]; exact Nat.le_refl _), List.all_map]
        exact this
theorem sc_pair : FnScope ["thing"] ["thing"] (defScope s_pair) := ⟨rfl, rfl, rfl, by decide +kernel, rfl, by decide +kernel, by decide +kernel⟩
theorem ok_pair {f f_whole : Addr} {fd d_whole : FuncData} (F : Fun K "is_pair" "is_pair" s_pair f fd) (B : Bls mg) 
    (G_whole : FnOk P w K mg base (CXW P w) 1 f_whole d_whole ["thing"] (spWhole)) (b_whole : Binds K d_whole ["thing"] []) (k_whole : keepIn K (.ref f_whole) = true) (m_whole : mg "is_whole" = some (.ref f_whole)) : FnOk P w K mg base (CXW P w) 2 f fd ["thing"] (spPair) := by
  refine F.okN sc_pair (fun vs H Q E h => ?_) (fun cdv A outer s H vs Q E hr h => ?_)
  · obtain ⟨t, a, b, rfl, _⟩ := h
    rfl
  · obtain ⟨t, a, b, rfl, ht, q⟩ := h
    refine ⟨_, (pss_one (ps_ret (pe_and (pe_callB (r := rIsi K) call_isi rfl B.isi boot_isi (pa_cons (pv 0) (pa_cons (pe_bltn (v := .ty "tuple") rfl B.tuple boot_tuple' rfl) pa_nil))) (pe_and (pe_cmpR op_eq (pe_callB call_len_seq rfl B.len PySem.boot_len (pa_cons (pv 0) pa_nil)) pe_int (nomark _)) (pe_and (pe_call G_whole hr rfl m_whole k_whole b_whole .nil passN (pa_cons (pe_ix ix_tup (pv 0) pe_int (fun _ _ => rfl)) pa_nil)) (pe_one (pe_call G_whole hr rfl m_whole k_whole b_whole .nil passN (pa_cons (pe_ix ix_tup (pv 0) pe_int (fun _ _ => rfl)) pa_nil)))))))), ?_⟩
    have hs : SqT K H t [.int a, .int b] := SqT.of ht
    refine ⟨_, rfl, _, _, _, _, true, rfl, .of (.tup ht), rfl, kit_refl _ _, _, rfl, ?_⟩
    refine iteT ?_
    refine ⟨_, rfl, t, _, rfl, .inr hs, rfl, _, rfl, ?_⟩
    refine iteT ?_
    refine ⟨_, rfl, t, _, _, _, rfl, rfl, hs, rfl, a, rfl, _, rfl, ?_⟩
    refine iteT ?_
    refine ⟨_, rfl, t, _, _, _, rfl, rfl, hs, rfl, b, rfl, ?_⟩
    exact q
theorem sc_have : FnScope ["counts"] ["counts"] (defScope s_have) := ⟨rfl, rfl, rfl, by decide +kernel, rfl, by decide +kernel, by decide +kernel⟩
theorem ok_have {f f_arec f_pair : Addr} {fd d_arec d_pair : FuncData} (F : Fun K "have_texts" "have_texts" s_have f fd) (B : Bls mg) (m_MS : MS mg) (n_sum : mg "sum" = none) 
    (G_arec : FnOk P w K mg base (CXW P w) 2 f_arec d_arec ["counts"] (spAreC)) (b_arec : Binds K d_arec ["counts"] []) (k_arec : keepIn K (.ref f_arec) = true) (m_arec : mg "are_counts" = some (.ref f_arec)) 
    (G_pair : FnOk P w K mg base (CXW P w) 2 f_pair d_pair ["thing"] (spPair)) (b_pair : Binds K d_pair ["thing"] []) (k_pair : keepIn K (.ref f_pair) = true) (m_pair : mg "is_pair" = some (.ref f_pair)) : FnOk P w K mg base (CXW P w) 3 f fd ["counts"] (spHave) := by
  refine F.okN sc_have (fun vs H Q E h => ?_) (fun cdv A outer s H vs Q E hr h => ?_)
  · obtain ⟨p, zs, rfl, _⟩ := h
    rfl
  · obtain ⟨p, zs, rfl, prZ, hzl, hQ⟩ := h
    obtain ⟨u_MS, m_v, r_v⟩ := m_MS
    refine ⟨_, (pss_cons (ps_if (PW.pt (pw_or (pt_not (pt_val (pe_callB (r := rIsi K) call_isi rfl B.isi boot_isi (pa_cons (pv 0) (pa_cons (pe_bltn (v := .ty "list") rfl B.list boot_list' rfl) pa_nil))))) (pw_or1 (pt_not (pt_val (pe_callB (call_allL rfl) rfl B.all boot_all' (pa_cons (pe_comp (N := ["thing"]) (js := [none]) (g := (gName 0)) (tc := tTrue) (te := (tCall (spPair) [] E0 (tCons (tVar 0) tNil))) rfl (comp_scope (osc := defScope s_have) (XN := ["counts"]) rfl rfl rfl (by decide +kernel)) (pi_list (pv 0)) (fun _ _ _ _ => pg_name (i := 0) (show (["thing"] : List Str).Nodup by decide +kernel) rfl (Or.inl rfl)) (fun _ _ _ _ => pif_nil) (fun _ _ _ _ => (pe_call G_pair hr rfl m_pair k_pair b_pair .nil passN (pa_cons (pv 0) pa_nil)))) pa_nil)))))))
        (pss_one (ps_ret pe_bl))
        pss_nil)
      (pss_one (ps_ret (pe_and (pe_call G_arec hr rfl m_arec k_arec b_arec .nil passN (pa_cons (pv 0) pa_nil)) (pe_one (pe_cmpR op_le (pe_callB (call_sum rfl) rfl n_sum boot_sum' (pa_cons (pe_comp (N := ["sign", "times"]) (js := [none, none]) (g := (gTup K 2 (gCons (gName 0) (gCons (gName 1) gNil)))) (tc := tTrue) (te := (tVar 1)) rfl (comp_scope (osc := defScope s_have) (XN := ["counts"]) rfl rfl rfl (by decide +kernel)) (pi_list (pv 0)) (fun _ _ _ _ => pg_tup rfl (pgs_cons (pg_name (i := 0) (show (["sign", "times"] : List Str).Nodup by decide +kernel) rfl (Or.inl rfl)) (pgs_cons (pg_name (i := 1) (show (["sign", "times"] : List Str).Nodup by decide +kernel) rfl (Or.inl rfl)) pgs_nil))) (fun _ _ _ _ => pif_nil) (fun _ _ _ _ => (pv 1))) pa_nil)) (pe_glob (v := .int 400) rfl m_v r_v) (nomark _))))))), ?_⟩
    generalize hcs : zs.map (·.2) = cs at hQ
    have hcl : cs.length = zs.length := by rw [← hcs, List.length_map]
    refine ⟨_, rfl, _, _, _, _, true, rfl, .of (.lst prZ.at_), rfl, kit_refl _ _, _, rfl, ?_⟩
    refine iteF ?_
    refine ⟨_, rfl, p, rfl, ⟨_, SqL.of prZ.at_⟩, fun D hD => ?_⟩
    refine comp_lstQ (K := K) (a := p) (xs := zs.map fun z => V.ref z.1) (fun i σ' H' => ∃ (x : Option V) (bs : List Bool), σ' = [x] ∧ H' D = some (.lst (bs.map V.bl)) ∧ bs = List.replicate i true ∧ Same H H')
      ⟨none, [], rfl, upd_same, rfl, same_new hD _⟩ (fun i σ' H' _ ⟨_, _, _, _, _, e⟩ => SqL.of (e _ _ prZ.at_)) ?_ ?_
    · rintro i v σ' H' hi ⟨x, bs, rfl, hB, hbs, sm⟩
      obtain ⟨z, hz, rfl⟩ := ref_at hi
      have hlt : i < (zs.map fun z => V.ref z.1).length := (List.getElem?_eq_some_iff.mp hi).1
      have hbl : bs.length = i := by rw [hbs, List.length_replicate]
      refine nameT ?_
      refine ⟨_, rfl, z.1, z.2.1, z.2.2, rfl, sm _ _ (prZ.each z (List.mem_of_getElem? hz)), ?_⟩
      refine ⟨D, _, _, rfl, rfl, hB, fits_lt (by rw [List.length_map]; rw [List.length_map] at hlt; omega), ?_⟩
      refine CW.next hlt ⟨_, bs ++ [true], rfl, by rw [upd_same, List.map_append]; rfl, ?_, same_upd sm _ hD⟩
      rw [hbs, ← List.replicate_succ']
    rintro σ' H1 ⟨x, bs, rfl, hB, hbs, sm1⟩
    refine ⟨D, bs, rfl, SqL.of hB, _, rfl, ?_⟩
    have hall : bs.all id = true := by rw [hbs]; exact List.all_eq_true.mpr fun b hb => (List.mem_replicate.mp hb).2
    rw [hall]
    refine iteF ?_
    refine ⟨_, rfl, p, zs, rfl, prZ.same sm1, hzl, fun H2 s2 => ?_⟩
    have sm2 := sm1.trans s2
    rw [hcs]
    refine ⟨_, rfl, ?_⟩
    cases hb : areC cs with
    | false =>
      refine iteF ?_
      have := hQ H2 sm2
      unfold haveT at this
      rw [hb] at this
      exact this
    | true =>
      refine iteT ?_
      have prZ2 := prZ.same sm2
      refine ⟨_, rfl, p, rfl, ⟨_, SqL.of prZ2.at_⟩, fun D2 hD2 => ?_⟩
      refine comp_lstQ (K := K) (a := p) (xs := zs.map fun z => V.ref z.1) (fun i σ' H' => ∃ (x y : Option V) (ls : List Int), σ' = [x, y] ∧ H' D2 = some (lsI ls) ∧ ls = (cs.take i).map (·.2) ∧ Same H2 H')
        ⟨none, none, [], rfl, upd_same, by rw [List.take_zero]; rfl, same_new hD2 _⟩ (fun i σ' H' _ ⟨_, _, _, _, _, _, e⟩ => SqL.of (e _ _ prZ2.at_)) ?_ ?_
      · rintro i v σ' H' hi ⟨x, y, ls, rfl, hB, hls, sm⟩
        obtain ⟨z, hz, rfl⟩ := ref_at hi
        have hlt : i < (zs.map fun z => V.ref z.1).length := (List.getElem?_eq_some_iff.mp hi).1
        have hck : cs[i]? = some z.2 := by rw [← hcs, List.getElem?_map, hz]; rfl
        have hbl : ls.length ≤ i := by rw [hls, List.length_map, List.length_take]; omega
        refine ⟨z.1, _, rfl, SqT.of (sm _ _ (prZ2.each z (List.mem_of_getElem? hz))), rfl, _, _, rfl, _, _, rfl, rfl, ?_⟩
        refine trueT ?_
        refine ⟨_, rfl, D2, _, _, rfl, rfl, hB, fits_lt (by rw [List.length_map]; rw [List.length_map] at hlt; omega), ?_⟩
        refine CW.next hlt ⟨_, _, ls ++ [z.2.2], rfl, by rw [upd_same]; unfold lsI; rw [List.map_append]; rfl, ?_, same_upd sm _ hD2⟩
        rw [hls, take_at hck, List.map_append]
        rfl
      rintro σ' H3 ⟨x, y, ls, rfl, hB, hls, sm3⟩
      rw [List.length_map, ← hcl, List.take_length] at hls
      refine ⟨D2, ls, rfl, SqL.of hB, _, _, rfl, rfl, ?_⟩
      have := hQ H3 (sm2.trans sm3)
      unfold haveT sumT at this
      rw [hb, Bool.true_and] at this
      rw [hls]
      exact this
theorem sc_orders : FnScope ["counts", "orders", "placed", "sign", "times", "k"] ["counts"] (defScope s_orders) := ⟨rfl, rfl, rfl, by decide +kernel, rfl, by decide +kernel, by decide +kernel⟩
theorem ok_orders {f : Addr} {fd : FuncData} (F : Fun K "orders_of" "orders_of" s_orders f fd) (B : Bls mg) : FnOk P w K mg base (CXW P w) 1 f fd ["counts"] (spOrders) := by
  refine F.okN sc_orders (fun vs H Q E h => ?_) (fun cdv A outer s H vs Q E hr h => ?_)
  · obtain ⟨p, zs, rfl, _⟩ := h
    rfl
  · obtain ⟨p, zs, rfl, prZ, hzl, hge, hsum, q⟩ := h
    refine ⟨_, (pss_cons (ps_set (i := 1) sc_orders.nd rfl (Or.inl rfl) pe_int)
      (pss_cons (ps_set (i := 2) sc_orders.nd rfl (Or.inl rfl) pe_int)
      (pss_cons (ps_for PassesOwn.never rfl (pi_list (pv 0)) (pg_tup rfl (pgs_cons (pg_name (i := 3) sc_orders.nd rfl (Or.inl rfl)) (pgs_cons (pg_name (i := 4) sc_orders.nd rfl (Or.inl rfl)) pgs_nil)))
        (pss_one (ps_for PassesOwn.never rfl (pi_range2 rfl B.range (pa_cons pe_int (pa_cons (pe_op op_add (pv 4) pe_int) pa_nil))) (pg_name (i := 5) sc_orders.nd rfl (Or.inl rfl))
          (pss_cons (ps_set (i := 2) sc_orders.nd rfl (Or.inl rfl) (pe_op op_add (pv 2) pe_int))
          (pss_one (ps_set (i := 1) sc_orders.nd rfl (Or.inl rfl) (pe_op op_fdiv (pe_op op_mul (pv 1) (pv 2)) (pv 5))))))))
      (pss_one (ps_ret (pv 1)))))), ?_⟩
    generalize hcs : zs.map (·.2) = cs at hge hsum q
    have hcl : cs.length = zs.length := by rw [← hcs, List.length_map]
    have hS := sumT_nat hge
    refine ⟨_, rfl, p, rfl, ⟨_, SqL.of prZ.at_⟩, for_list (K := K) (a := p) (xs := zs.map fun z => V.ref z.1) (fun i σ H2 => ∃ (v3 v4 v5 : Option V), σ = [some (.ref p), some (.int (mlt 1 0 (tms (cs.take i)) : Nat)), some (.int ((tms (cs.take i)).sum : Nat)), v3, v4, v5] ∧ H2 = H)
      ⟨none, none, none, rfl, rfl⟩ (fun i σ H2 _ ⟨_, _, _, _, e⟩ => by rw [e]; exact SqL.of prZ.at_) ?_ ?_⟩
    · rintro i y σ H2 hi ⟨v3, v4, v5, rfl, rfl⟩
      obtain ⟨z, hz, rfl⟩ := ref_at hi
      have hck : cs[i]? = some z.2 := by rw [← hcs, List.getElem?_map, hz]; rfl
      have hz1 := hge _ (List.mem_of_getElem? hck)
      have hst := tms_sum_take hck
      obtain ⟨t, ht⟩ : ∃ t : Nat, z.2.2 = (t : Int) := ⟨z.2.2.toNat, by omega⟩
      have htn : z.2.2.toNat = t := by omega
      rw [htn] at hst
      refine ⟨z.1, _, rfl, SqT.of (prZ.each z (List.mem_of_getElem? hz)), rfl, _, _, rfl, _, _, rfl, rfl, ?_⟩
      rw [ht]
      refine ⟨_, rfl, _, _, rfl, rfl, _, _, rfl, ⟨by omega, by omega, by omega, by omega⟩, ?_⟩
      rw [show ((t : Int) + 1 - 1).toNat = t by omega]
      generalize hM : mlt 1 0 (tms (cs.take i)) = M
      generalize hs : (tms (cs.take i)).sum = s at hst
      refine for_range (n := t) (fun k σ H3 => ∃ (v5 : Option V), σ = [some (.ref p), some (.int (M * ch (s + k) k : Nat)), some (.int ((s + k : Nat) : Int)), some (.int z.2.1), some (.int (t : Int)), v5] ∧ H3 = H2)
        ⟨v5, by rw [show ch (s + 0) 0 = 1 by cases s <;> rfl, Nat.mul_one]; rfl, rfl⟩ ?_ ?_
      · rintro k σ H3 hk ⟨w5, rfl, rfl⟩
        refine ⟨_, rfl, _, _, rfl, rfl, ?_⟩
        refine gNx (v' := V.int ((s + k + 1 : Nat) : Int)) (by show V.int ((s + k + 1 : Nat) : Int) = V.int (((s + k : Nat) : Int) + 1); rfl) ?_
        refine ⟨_, rfl, _, rfl, _, _, rfl, rfl, .inr ⟨by omega, by omega⟩, _, rfl, _, _, rfl, rfl, ⟨by omega, by omega⟩, ?_⟩
        rw [show (1 : Int) + (k : Int) = ((k + 1 : Nat) : Int) by omega]
        refine gNx (v' := V.int (M * ch (s + (k + 1)) (k + 1) : Nat)) (by rw [← step_ch]) ?_
        exact ⟨_, rfl, rfl⟩
      · rintro σ H3 ⟨w5, rfl, rfl⟩
        rw [mlt_take hck, sum_take hck, htn, hM, hs]
        exact ⟨_, _, _, rfl, rfl⟩
    · rintro σ H2 ⟨v3, v4, v5, rfl, rfl⟩
      rw [List.length_map, ← hcl, List.take_length]
      refine ⟨_, rfl, ?_⟩
      exact q
theorem sc_texts : FnScope ["counts"] ["counts"] (defScope s_texts) := ⟨rfl, rfl, rfl, by decide +kernel, rfl, by decide +kernel, by decide +kernel⟩
theorem ok_texts {f c_Broken f_have f_orders : Addr} {fd d_have d_orders : FuncData} (F : Fun K "texts_with" "texts_with" s_texts f fd) (B : Bls mg) (X_Broken : Ex K mg "Broken" c_Broken) (m_Broken : mg "Broken" = some (.ref c_Broken)) 
    (G_have : FnOk P w K mg base (CXW P w) 3 f_have d_have ["counts"] (spHave)) (b_have : Binds K d_have ["counts"] []) (k_have : keepIn K (.ref f_have) = true) (m_have : mg "have_texts" = some (.ref f_have)) 
    (G_orders : FnOk P w K mg base (CXW P w) 1 f_orders d_orders ["counts"] (spOrders)) (b_orders : Binds K d_orders ["counts"] []) (k_orders : keepIn K (.ref f_orders) = true) (m_orders : mg "orders_of" = some (.ref f_orders)) : FnOk P w K mg base (CXW P w) 4 f fd ["counts"] (spTexts c_Broken) := by
  refine F.okX sc_texts (fun vs H Q E h => ?_) (fun cdv A outer s H vs Q E hr h => ?_)
  · obtain ⟨p, zs, rfl, _⟩ := h
    rfl
  · obtain ⟨p, zs, rfl, prZ, hzl, hE, hQ⟩ := h
    refine ⟨_, (pss_cons (ps_if (pt_not (pt_val (pe_call G_have hr rfl m_have k_have b_have .nil passW (pa_cons (pv 0) pa_nil))))
        (pss_one (ps_raise PySem.F.excBase_ValueError X_Broken.ex X_Broken.mg rfl))
        pss_nil)
      (pss_one (ps_ret (pe_call G_orders (hr.mono (show 1 ≤ 3 by decide)) rfl m_orders k_orders b_orders .nil passW (pa_cons (pv 0) pa_nil))))), ?_⟩
    refine ⟨_, rfl, p, zs, rfl, prZ, hzl, fun H1 s1 => ⟨_, rfl, ?_⟩⟩
    cases hb : haveT (zs.map (·.2)) with
    | false =>
      refine iteT ?_
      exact hE hb H1 s1
    | true =>
      refine iteF ?_
      have hb' := hb
      unfold haveT at hb'
      rw [Bool.and_eq_true] at hb'
      have hge : ∀ c ∈ zs.map (·.2), 1 ≤ c.2 := fun c hc => by
        have := hb'.1
        unfold areC at this
        rw [Bool.and_eq_true] at this
        exact of_decide_eq_true (List.all_eq_true.mp this.2 c hc)
      refine ⟨_, rfl, p, zs, rfl, prZ.same s1, hzl, hge, of_decide_eq_true hb'.2, ?_⟩
      exact hQ hb H1 s1
end
end K51
set_option Elab.async false
set_option linter.all false
set_option maxRecDepth 100000
set_option maxHeartbeats 4000000
namespace K51
open PySem L2 PySem.W PH
section
variable {P : Program} {w : World} {K : PySem.W.Frag} {mg : Str → Option Value} {base : Heap}
theorem sc_inord : FnScope ["counts", "signs", "sign", "times"] ["counts"] (defScope s_inord) := ⟨rfl, rfl, rfl, by decide +kernel, rfl, by decide +kernel, by decide +kernel⟩
theorem ok_inord {f : Addr} {fd : FuncData} (F : Fun K "signs_in_order" "signs_in_order" s_inord f fd) (B : Bls mg) : FnOk P w K mg base (CXW P w) 1 f fd ["counts"] (spInOrd) := by
  refine F.okN sc_inord (fun vs H Q E h => ?_) (fun cdv A outer s H vs Q E hr h => ?_)
  · obtain ⟨p, zs, rfl, _⟩ := h
    rfl
  · obtain ⟨p, zs, rfl, prZ, hzl, hge, hsum, hQ⟩ := h
    refine ⟨_, (pss_cons (ps_set (i := 1) sc_inord.nd rfl (Or.inl rfl) (pe_lst pa_nil))
      (pss_cons (ps_for PassesOwn.never rfl (pi_list (pv 0)) (pg_tup rfl (pgs_cons (pg_name (i := 2) sc_inord.nd rfl (Or.inl rfl)) (pgs_cons (pg_name (i := 3) sc_inord.nd rfl (Or.inl rfl)) pgs_nil)))
        (pss_one (ps_expr (pe_bm PySem.F.plainAttrs_list PySem.F.slot_list_extend PySem.F.type_list_extend mt_extend (pv 1) (pa_cons (pe_op op_rep (pe_lst (pa_cons (pv 2) pa_nil)) (pv 3)) pa_nil)))))
      (pss_one (ps_ret (pv 1))))), ?_⟩
    generalize hcs : zs.map (·.2) = cs at hge hsum hQ
    have hcl : cs.length = zs.length := by rw [← hcs, List.length_map]
    have hSn := sumT_nat hge
    refine ⟨(by show 0 ≤ sizeLine; decide), fun L hL => ?_⟩
    have s0 := same_new hL (.lst [])
    refine ⟨_, rfl, p, rfl, ⟨_, SqL.of (s0 _ _ prZ.at_)⟩, for_list (K := K) (a := p) (xs := zs.map fun z => V.ref z.1) (fun i σ H2 => ∃ (v2 v3 : Option V), σ = [some (.ref p), some (.ref L), v2, v3] ∧ H2 L = some (lsI (flat (cs.take i))) ∧ Same H H2)
      ⟨none, none, rfl, upd_same, s0⟩ (fun i σ H2 _ ⟨_, _, _, _, e⟩ => SqL.of (e _ _ prZ.at_)) ?_ ?_⟩
    · rintro i y σ H2 hi ⟨v2, v3, rfl, hL2, sm⟩
      obtain ⟨z, hz, rfl⟩ := ref_at hi
      have hck : cs[i]? = some z.2 := by rw [← hcs, List.getElem?_map, hz]; rfl
      have hz1 := hge _ (List.mem_of_getElem? hck)
      have hst := tms_sum_take hck
      refine ⟨z.1, _, rfl, SqT.of (sm _ _ (prZ.each z (List.mem_of_getElem? hz))), rfl, _, _, rfl, _, _, rfl, rfl, ?_⟩
      refine ⟨_, rfl, .inl ⟨rfl, _, SqL.of hL2⟩, _, rfl, (by show 1 ≤ sizeLine; decide), fun l1 hl1 => ?_⟩
      have s1 := same_new hl1 (.lst [V.int z.2.1])
      refine ⟨_, rfl, l1, _, _, rfl, rfl, upd_same, by omega, by omega, ?_, fun l2 hl2 => ?_⟩
      · have : 1 * z.2.2.toNat ≤ 400 := by omega
        exact Nat.le_trans this (by decide)
      rw [rep_ints]
      have s2 := s1.trans (same_new hl2 (.lst ((List.replicate z.2.2.toNat z.2.1).map V.int)))
      refine ⟨L, l2, _, _, rfl, rfl, s2 _ _ hL2, upd_same, fits (by rw [List.length_map, List.length_map, List.length_replicate, flat_len]; omega), ?_⟩
      refine ⟨_, _, rfl, ?_, same_upd (sm.trans s2) _ hL⟩
      rw [upd_same, take_at hck, flat_snoc]
      unfold lsI
      rw [List.map_append]
    · rintro σ H2 ⟨v2, v3, rfl, hL2, sm⟩
      rw [List.length_map, ← hcl, List.take_length] at hL2
      refine ⟨_, rfl, ?_⟩
      exact hQ L H2 sm hL hL2
theorem sc_tbs : FnScope ["counts", "number", "texts", "left", "text", "rest", "many", "sign"] ["counts", "number"] (defScope s_tbs) := ⟨rfl, rfl, rfl, by decide +kernel, rfl, by decide +kernel, by decide +kernel⟩
theorem ok_tbs {f c_Broken f_whole f_texts f_inord : Addr} {fd d_whole d_texts d_inord : FuncData} (F : Fun K "text_by_share" "text_by_share" s_tbs f fd) (B : Bls mg) (X_Broken : Ex K mg "Broken" c_Broken) (m_Broken : mg "Broken" = some (.ref c_Broken)) 
    (G_whole : FnOk P w K mg base (CXW P w) 1 f_whole d_whole ["thing"] (spWhole)) (b_whole : Binds K d_whole ["thing"] []) (k_whole : keepIn K (.ref f_whole) = true) (m_whole : mg "is_whole" = some (.ref f_whole)) 
    (G_texts : FnOk P w K mg base (CXW P w) 4 f_texts d_texts ["counts"] (spTexts c_Broken)) (b_texts : Binds K d_texts ["counts"] []) (k_texts : keepIn K (.ref f_texts) = true) (m_texts : mg "texts_with" = some (.ref f_texts)) 
    (G_inord : FnOk P w K mg base (CXW P w) 1 f_inord d_inord ["counts"] (spInOrd)) (b_inord : Binds K d_inord ["counts"] []) (k_inord : keepIn K (.ref f_inord) = true) (m_inord : mg "signs_in_order" = some (.ref f_inord)) : FnOk P w K mg base (CXW P w) 5 f fd ["counts", "number"] (spTbs c_Broken) := by
  refine F.okX sc_tbs (fun vs H Q E h => ?_) (fun cdv A outer s H vs Q E hr h => ?_)
  · obtain ⟨p, zs, number, rfl, _⟩ := h
    rfl
  · obtain ⟨p, zs, number, rfl, prZ, hzl, hE, hQ⟩ := h
    refine ⟨_, (pss_cons (ps_set (i := 2) sc_tbs.nd rfl (Or.inl rfl) (pe_call G_texts hr rfl m_texts k_texts b_texts .nil passW (pa_cons (pv 0) pa_nil)))
      (pss_cons (ps_if (PW.pt (pw_or (pt_not (pt_val (pe_call G_whole (hr.mono (show 1 ≤ 4 by decide)) rfl m_whole k_whole b_whole .nil passW (pa_cons (pv 1) pa_nil)))) (pw_or (pt_cmpR op_lt (pv 1) pe_int (nomark _)) (pw_or1 (pt_cmpR op_ge (pv 1) (pv 2) (nomark _))))))
        (pss_one (ps_raise PySem.F.excBase_ValueError X_Broken.ex X_Broken.mg rfl))
        pss_nil)
      (pss_cons (ps_set (i := 3) sc_tbs.nd rfl (Or.inl rfl) (pe_call G_inord (hr.mono (show 1 ≤ 4 by decide)) rfl m_inord k_inord b_inord .nil passW (pa_cons (pv 0) pa_nil)))
      (pss_cons (ps_set (i := 4) sc_tbs.nd rfl (Or.inl rfl) (pe_lst pa_nil))
      (pss_cons (ps_set (i := 5) sc_tbs.nd rfl (Or.inl rfl) (pv 1))
      (pss_cons (ps_while pown (pt_cmpR op_gt (pe_callB call_len_seq rfl B.len PySem.boot_len (pa_cons (pv 3) pa_nil)) pe_int (nomark _))
        (pss_cons (ps_set (i := 6) sc_tbs.nd rfl (Or.inl rfl) (pe_callB call_len_seq rfl B.len PySem.boot_len (pa_cons (pv 3) pa_nil)))
        (pss_cons (ps_set (i := 7) sc_tbs.nd rfl (Or.inl rfl) (pe_ix ix_list (pv 3) (pe_op op_fdivG (pe_op op_mul (pv 5) (pv 6)) (pv 2)) (fun _ _ => rfl)))
        (pss_cons (ps_set (i := 5) sc_tbs.nd rfl (Or.inl rfl) (pe_op op_sub (pv 5) (pe_op op_fdiv (pe_op op_mul (pv 2) (pe_bm PySem.F.plainAttrs_list PySem.F.slot_list_index PySem.F.type_list_index mt_index (pv 3) (pa_cons (pv 7) pa_nil))) (pv 6))))
        (pss_cons (ps_set (i := 2) sc_tbs.nd rfl (Or.inl rfl) (pe_op op_fdiv (pe_op op_mul (pv 2) (pe_bm PySem.F.plainAttrs_list PySem.F.slot_list_count PySem.F.type_list_count mt_count (pv 3) (pa_cons (pv 7) pa_nil))) (pv 6)))
        (pss_cons (ps_expr (pe_bm PySem.F.plainAttrs_list PySem.F.slot_list_remove PySem.F.type_list_remove mt_remove (pv 3) (pa_cons (pv 7) pa_nil)))
        (pss_one (ps_expr (pe_bm PySem.F.plainAttrs_list PySem.F.slot_list_append PySem.F.type_list_append mt_append (pv 4) (pa_cons (pv 7) pa_nil))))))))))
      (pss_one (ps_ret (pv 4))))))))), ?_⟩
    generalize hcs : zs.map (·.2) = cs at hE hQ
    refine ⟨_, rfl, p, zs, rfl, prZ, hzl, (fun hf H1 s1 => hE (.inl (by rw [← hcs]; exact hf)) H1 s1), fun hb H1 s1 => ?_⟩
    rw [hcs] at hb ⊢
    obtain ⟨hri, hsu⟩ := have_of hb
    have hSn := sumT_nat hri.ge
    refine ⟨_, rfl, number, rfl, _, rfl, ?_⟩
    refine iteF ?_
    refine ⟨_, rfl, _, _, rfl, rfl, _, rfl, ?_⟩
    by_cases h0 : number < 0
    · rw [decide_eq_true h0]
      refine iteT (iteT ?_)
      exact hE (.inr (.inl h0)) H1 s1
    rw [decide_eq_false h0]
    refine iteF ?_
    refine ⟨_, rfl, _, rfl, _, _, rfl, rfl, _, rfl, ?_⟩
    by_cases h1 : (mlt 1 0 (tms cs) : Int) ≤ number
    · rw [decide_eq_true h1]
      refine iteT ?_
      exact hE (.inr (.inr h1)) H1 s1
    rw [decide_eq_false h1]
    refine iteF ?_
    have prZ1 := prZ.same s1
    refine ⟨_, rfl, p, zs, rfl, prZ1, hzl, by rw [hcs]; exact hri.ge, by rw [hcs]; exact hsu, fun L H2 s2 hL hL2 => ?_⟩
    rw [hcs] at hL2
    refine ⟨(by show 0 ≤ sizeLine; decide), fun T hT => ?_⟩
    have s3 := same_new hT (.lst [])
    have nLT : L ≠ T := ne_of_none hL2 hT
    refine ⟨_, rfl, ?_⟩
    have sH : Same H (upd H2 T (.lst [])) := s1.trans (s2.trans s3)
    have hLH : H L = none := s1.free hL
    have hTH : H T = none := (s1.trans s2).free hT
    have fin := hQ hb (by omega) (by omega) T
    clear hE hQ
    refine ⟨fun m σ H' => ∃ (l ts : List Int) (rest : Nat) (v6 v7 : Option V), m = l.length ∧ σ = [some (.ref p), some (.int number), some (.int (tx l : Nat)), some (.ref L), some (.ref T), some (.int (rest : Nat)), v6, v7] ∧ l.Pairwise (· ≤ ·) ∧ rest < tx l ∧ l.length + ts.length = (tms cs).sum ∧ H' L = some (lsI l) ∧ H' T = some (lsI ts) ∧ Same H H',
      ⟨_, flat cs, [], number.toNat, none, none, rfl, ?_, flat_sorted hri, ?_, by rw [flat_len]; rfl, s3 _ _ hL2, upd_same, sH⟩, ?_⟩
    · rw [tx_flat hri, show ((number.toNat : Nat) : Int) = number by omega]; rfl
    · rw [tx_flat hri]; omega
    rintro m σ H4 ⟨l, ts, rest, v6, v7, rfl, rfl, hsl, hrs, hlen, hL4, hT4, sm⟩
    refine ⟨_, rfl, L, _, rfl, .inl (SqL.of hL4), _, _, rfl, rfl, _, rfl, ?_⟩
    rw [List.length_map]
    cases l with
    | nil =>
      refine iteF ?_
      refine ⟨_, rfl, ?_⟩
      exact fin ts H4 sm hTH hT4 (by rw [← hlen]; show ts.length = 0 + ts.length; omega)
    | cons l0 lr =>
      rw [decide_eq_true (show (0 : Int) < (((l0 :: lr).length : Nat) : Int) by rw [List.length_cons]; omega)]
      refine iteT ?_
      have hl0 : 0 < (l0 :: lr).length := by rw [List.length_cons]; omega
      have hl4 : (l0 :: lr).length ≤ 400 := by omega
      generalize l0 :: lr = l at *
      obtain ⟨hj, hstep⟩ := share_step hsl hl0 hrs
      obtain ⟨x, hx⟩ : ∃ x, l[rest * l.length / tx l]? = some x := ⟨_, List.getElem?_eq_getElem hj⟩
      obtain ⟨e1, e2, e3⟩ := hstep x hx
      have hxm := List.mem_of_getElem? hx
      obtain ⟨pre, post, hl, hpre, her, hix⟩ := erase_at hxm
      have hTp := tx_pos l
      have hTl : tx l < 2 ^ 3000 := Nat.lt_of_le_of_lt (tx_le l) (fac_lt hl4)
      refine ⟨fun σ' H'' => ∃ m', m' < l.length ∧ ∃ (l ts : List Int) (rest : Nat) (v6 v7 : Option V), m' = l.length ∧ σ' = [some (.ref p), some (.int number), some (.int (tx l : Nat)), some (.ref L), some (.ref T), some (.int (rest : Nat)), v6, v7] ∧ l.Pairwise (· ≤ ·) ∧ rest < tx l ∧ l.length + ts.length = (tms cs).sum ∧ H'' L = some (lsI l) ∧ H'' T = some (lsI ts) ∧ Same H H'', fun σ' H'' z => z, ?_⟩
      refine ⟨_, rfl, L, _, rfl, .inl (SqL.of hL4), ?_⟩
      refine gNx (v' := V.int (l.length : Nat)) (by rw [List.length_map]) ?_
      refine ⟨_, rfl, _, rfl, _, rfl, _, _, rfl, rfl, .inr ⟨by omega, by omega⟩, _, rfl, _, _, rfl, rfl, ⟨?_, ?_⟩, ?_⟩
      · show (0 : Int) < (tx l : Nat)
        omega
      · show ((tx l : Nat) : Int) < ((2 ^ 3000 : Nat) : Int)
        exact Int.ofNat_lt.mpr hTl
      refine ⟨L, _, ((rest * l.length / tx l : Nat) : Int), _, rfl, ?_, SqL.of hL4, at_ints hx, ?_⟩
      · show V.int ((rest : Int) * (l.length : Int) / (tx l : Int)) = V.int ((rest * l.length / tx l : Nat) : Int)
        rw [Int.natCast_ediv, Int.natCast_mul]
      have hS4 : SqL K H4 L ((pre ++ x :: post).map V.int) := by rw [← hl]; exact SqL.of hL4
      refine ⟨_, rfl, _, rfl, _, rfl, .inl ⟨rfl, _, SqL.of hL4⟩, _, rfl, L, pre, x, post, rfl, rfl, hS4, hpre, _, _, rfl, rfl, .inr ⟨?_, ?_⟩, _, rfl, _, _, rfl, rfl, ⟨by omega, by omega⟩, _, _, rfl, rfl, ?_⟩
      · show -(2 ^ 64) < ((pre.length : Nat) : Int)
        omega
      · show ((pre.length : Nat) : Int) < 2 ^ 64
        have : pre.length ≤ l.length := by rw [hl, List.length_append]; omega
        omega
      have er : (rest : Int) - (tx l : Int) * (pre.length : Int) / (l.length : Int) = ((rest - tx l * l.idxOf x / l.length : Nat) : Int) := by
        rw [Int.ofNat_sub e2, Int.natCast_ediv, Int.natCast_mul, hix]
      refine gNx (v' := V.int ((rest - tx l * l.idxOf x / l.length : Nat) : Int)) (by rw [← er]) ?_
      refine ⟨_, rfl, _, rfl, .inl ⟨rfl, _, SqL.of hL4⟩, _, rfl, L, l, x, rfl, rfl, SqL.of hL4, _, _, rfl, rfl, .inr ⟨?_, ?_⟩, _, rfl, _, _, rfl, rfl, ⟨by omega, by omega⟩, ?_⟩
      · show -(2 ^ 64) < ((l.count x : Nat) : Int)
        omega
      · show ((l.count x : Nat) : Int) < 2 ^ 64
        have := List.count_le_length (a := x) (l := l)
        omega
      have et : (tx l : Int) * (l.count x : Int) / (l.length : Int) = ((tx (l.erase x) : Nat) : Int) := by
        rw [← e1, Int.natCast_ediv, Int.natCast_mul]
      refine gNx (v' := V.int ((tx (l.erase x) : Nat) : Int)) (by rw [← et]) ?_
      refine ⟨_, rfl, .inl ⟨rfl, _, SqL.of hL4⟩, _, rfl, L, pre, x, post, rfl, rfl, by rw [← hl]; exact hL4, hpre, ?_⟩
      rw [← her]
      have hT5 : upd H4 L (.lst ((l.erase x).map V.int)) T = some (lsI ts) := by rw [upd_ne nLT.symm]; exact hT4
      refine ⟨_, rfl, .inl ⟨rfl, _, SqL.of hT5⟩, _, rfl, T, _, _, rfl, rfl, hT5, fits_lt (by rw [List.length_map]; omega), ?_⟩
      have hle := List.length_erase_of_mem hxm
      refine ⟨_, ?_, l.erase x, ts ++ [x], rest - tx l * l.idxOf x / l.length, _, _, rfl, rfl, hsl.sublist List.erase_sublist, e3, by rw [List.length_append, List.length_singleton]; omega, by rw [upd_ne nLT, upd_same]; rfl, by rw [upd_same, lsI_app1], same_upd (same_upd sm _ hLH) _ hTH⟩
      omega
end
end K51
set_option Elab.async false
set_option linter.all false
set_option maxRecDepth 100000
set_option maxHeartbeats 4000000
namespace K51
open PySem L2 PySem.W PH
section
variable {P : Program} {w : World} {K : PySem.W.Frag} {mg : Str → Option Value} {base : Heap}
theorem sc_pool : FnScope ["script", "k", "cell"] ["script", "k"] (defScope s_pool) := ⟨rfl, rfl, rfl, by decide +kernel, rfl, by decide +kernel, by decide +kernel⟩
theorem ok_pool {f : Addr} {fd : FuncData} (F : Fun K "_law_pool" "_law_pool" s_pool f fd) (B : Bls mg) : FnOk P w K mg base (CXW P w) 1 f fd ["script", "k"] (spPool K) := by
  refine F.okN sc_pool (fun vs H Q E h => ?_) (fun cdv A outer s H vs Q E hr h => ?_)
  · obtain ⟨a, ns, k, rfl, _⟩ := h
    rfl
  · obtain ⟨a, ns, k, rfl, hS, hk, hQ⟩ := h
    refine ⟨_, (pss_cons (ps_set (i := 2) sc_pool.nd rfl (Or.inl rfl) pe_int)
      (pss_cons (ps_if (pt_cmpR op_lt (pv 1) (pe_callB call_len_seq rfl B.len PySem.boot_len (pa_cons (pv 0) pa_nil)) (nomark _))
        (pss_one (ps_set (i := 2) sc_pool.nd rfl (Or.inl rfl) (pe_ix ix_list (pv 0) (pv 1) (fun _ _ => rfl))))
        pss_nil)
      (pss_one (ps_ret (pe_lst (pa_cons (pe_op op_fdiv (pv 2) pe_int) (pa_cons (pe_op op_mod (pv 2) pe_int) (pa_cons (pe_op op_mul pe_int (pv 1)) pa_nil)))))))), ?_⟩
    refine ⟨_, rfl, _, rfl, a, _, rfl, .inl hS, _, _, rfl, rfl, _, rfl, ?_⟩
    refine ite2 (fun c => ?_) (fun c => ?_)
    · have hlt : k < ns.length := by
        have := of_decide_eq_true c
        rw [List.length_map] at this
        omega
      obtain ⟨x, hx⟩ : ∃ x, ns[k]? = some x := ⟨_, List.getElem?_eq_getElem hlt⟩
      refine ⟨_, rfl, _, rfl, a, _, _, .int x, rfl, rfl, hS, at_ints hx, ?_⟩
      refine ⟨_, rfl, _, _, rfl, rfl, ⟨by decide, by decide⟩, _, rfl, _, _, rfl, rfl, (by show (0 : Int) < 2; decide), _, rfl, _, _, rfl, rfl, .inl ⟨by decide, by decide⟩, (by show 3 ≤ sizeLine; decide), fun l hl => ?_⟩
      exact hQ l _ hl (same_new hl _) ⟨_, _, 7 * (k : Int), upd_same, by omega, by omega⟩
    · refine ⟨_, rfl, _, _, rfl, rfl, ⟨by decide, by decide⟩, _, rfl, _, _, rfl, rfl, (by show (0 : Int) < 2; decide), _, rfl, _, _, rfl, rfl, .inl ⟨by decide, by decide⟩, (by show 3 ≤ sizeLine; decide), fun l hl => ?_⟩
      exact hQ l _ hl (same_new hl _) ⟨_, _, 7 * (k : Int), upd_same, by omega, by omega⟩
theorem sc_take : FnScope ["pool", "many", "found", "step", "mark"] ["pool", "many"] (defScope s_take) := ⟨rfl, rfl, rfl, by decide +kernel, rfl, by decide +kernel, by decide +kernel⟩
theorem ok_take {f : Addr} {fd : FuncData} (F : Fun K "_law_take" "_law_take" s_take f fd) (B : Bls mg) : FnOk P w K mg base (CXW P w) 1 f fd ["pool", "many"] (spTakeG) := by
  refine F.okN sc_take (fun vs H Q E h => ?_) (fun cdv A outer s H vs Q E hr h => ?_)
  · obtain ⟨p, n, many, rfl, _⟩ := h
    rfl
  · obtain ⟨p, n, many, rfl, pl, hn, h0, h1, k⟩ := h
    refine ⟨_, (pss_cons (ps_if (pt_cmpR op_eq (pe_ix ix_list (pv 0) pe_int (fun _ _ => rfl)) pe_int (nomark _))
        (pss_cons (ps_set (i := 2) sc_take.nd rfl (Or.inl rfl) (pe_op op_mod (pe_ix ix_list (pv 0) pe_int (fun _ _ => rfl)) (pv 1)))
        (pss_cons (ps_asg (pe_op op_fdivG (pe_ix ix_list (pv 0) pe_int (fun _ _ => rfl)) (pv 1)) (pg_sub (pv 0) pe_int set_list))
        (pss_one (ps_ret (pv 2)))))
        pss_nil)
      (pss_cons (ps_asg (pe_op op_add (pe_ix ix_list (pv 0) pe_int (fun _ _ => rfl)) pe_int) (pg_sub (pv 0) pe_int set_list))
      (pss_cons (ps_set (i := 3) sc_take.nd rfl (Or.inl rfl) (pe_ix ix_list (pv 0) pe_int (fun _ _ => rfl)))
      (pss_cons (ps_set (i := 4) sc_take.nd rfl (Or.inl rfl) (pe_op op_mul (pe_op op_add (pe_op op_mod (pe_ix ix_list (pv 0) pe_int (fun _ _ => rfl)) pe_int) pe_int) (pe_op op_add (pe_op op_mul pe_int (pv 3)) pe_int)))
      (pss_cons (ps_set (i := 4) sc_take.nd rfl (Or.inl rfl) (pe_op op_add (pv 4) (pe_op op_mul (pe_op op_mul pe_int (pv 3)) (pv 3))))
      (pss_cons (ps_set (i := 4) sc_take.nd rfl (Or.inl rfl) (pe_op op_mod (pe_op op_mul (pv 4) (pv 4)) pe_int))
      (pss_one (ps_ret (pe_op op_mod (pe_op op_fdiv (pe_op op_mod (pe_op op_mul (pv 4) (pe_op op_add (pv 4) pe_int)) pe_int) pe_int) (pv 1)))))))))), ?_⟩
    obtain ⟨a, b, c, hp, hc0, hc1⟩ := pl
    refine ⟨_, rfl, p, _, _, _, rfl, rfl, SqL.of hp, rfl, rfl, _, rfl, ?_⟩
    refine ite2 (fun _ => ?_) (fun _ => ?_)
    · refine ⟨_, rfl, p, _, _, _, rfl, rfl, SqL.of hp, rfl, _, rfl, _, _, rfl, rfl, h0, ?_⟩
      refine ⟨_, rfl, p, _, _, _, rfl, rfl, SqL.of hp, rfl, _, rfl, _, _, rfl, rfl, cdivG_small h0 h1, _, rfl, p, _, _, _, rfl, rfl, hp, rfl, ?_⟩
      refine ⟨_, rfl, ?_⟩
      exact k _ _ (Int.emod_nonneg _ (by omega)) (Int.emod_lt_of_pos _ h0) ⟨_, _, c, upd_same, hc0, by omega⟩ (Kb.put _ _ _)
    · have hp2 : upd H p (deckO a b (c + 1)) p = some (deckO a b (c + 1)) := upd_same
      refine ⟨_, rfl, p, _, _, _, rfl, rfl, SqL.of hp, rfl, _, _, rfl, rfl, _, rfl, p, _, _, _, rfl, rfl, hp, rfl, ?_⟩
      refine ⟨_, rfl, p, _, _, _, rfl, rfl, SqL.of hp2, rfl, ?_⟩
      have u0 : 0 ≤ a % 9999999833 + 401 := by have := Int.emod_nonneg a (show (9999999833 : Int) ≠ 0 by decide); omega
      have u1 : a % 9999999833 + 401 ≤ 10000001000 := by have := Int.emod_lt_of_pos a (show (0 : Int) < 9999999833 by decide); omega
      refine ⟨_, rfl, p, _, _, _, rfl, rfl, SqL.of hp2, rfl, _, _, rfl, rfl, (by show (0 : Int) < 9999999833; decide), _, _, rfl, rfl, _, rfl, _, _, rfl, rfl, .inl ⟨by decide, by decide⟩, _, _, rfl, rfl, _, _, rfl, rfl, .inl ⟨?_, ?_⟩, ?_⟩
      · show -(2 ^ 64) < a % 9999999833 + 401
        omega
      · show a % 9999999833 + 401 < 2 ^ 64
        omega
      obtain ⟨m1, e1, b10, b11⟩ : ∃ m1 : Int, m1 = (a % 9999999833 + 401) * (7 * (c + 1) + 19) ∧ 0 ≤ m1 ∧ m1 ≤ 10000001000 * 8000000 := by
        have := mul_bd u0 u1 (show 0 ≤ 7 * (c + 1) + 19 by omega) (show 7 * (c + 1) + 19 ≤ 8000000 by omega)
        exact ⟨_, rfl, this.1, this.2⟩
      refine gNx (v' := V.int m1) (by rw [e1]) ?_
      refine ⟨_, rfl, _, rfl, _, _, rfl, rfl, .inl ⟨by decide, by decide⟩, _, rfl, _, _, rfl, rfl, .inr ⟨?_, ?_⟩, _, _, rfl, rfl, ?_⟩
      · show -(2 ^ 64) < c + 1
        omega
      · show c + 1 < 2 ^ 64
        omega
      obtain ⟨m2, e2, b20, b21⟩ : ∃ m2 : Int, m2 = m1 + 3001 * (c + 1) * (c + 1) ∧ 0 ≤ m2 ∧ m2 ≤ 10000001000 * 8000000 + 3001000000 * 2000000 * 2 := by
        have := mul_bd (u := 3001 * (c + 1)) (U := 3001000000 * 2) (v := c + 1) (V := 2000000) (by omega) (by omega) (by omega) (by omega)
        exact ⟨_, rfl, by omega, by omega⟩
      refine gNx (v' := V.int m2) (by rw [e2]) ?_
      refine ⟨_, rfl, _, rfl, _, _, rfl, rfl, .inl ⟨?_, ?_⟩, _, _, rfl, rfl, (by show (0 : Int) < 99999999829; decide), ?_⟩
      · show -(2 ^ 64) < m2
        omega
      · show m2 < 2 ^ 64
        omega
      obtain ⟨m3, e3, b30, b31⟩ : ∃ m3 : Int, m3 = m2 * m2 % 99999999829 ∧ 0 ≤ m3 ∧ m3 < 99999999829 := ⟨_, rfl, Int.emod_nonneg _ (by decide), Int.emod_lt_of_pos _ (by decide)⟩
      refine gNx (v' := V.int m3) (by rw [e3]) ?_
      refine ⟨_, rfl, _, rfl, _, _, rfl, rfl, _, _, rfl, rfl, .inl ⟨?_, ?_⟩, _, _, rfl, rfl, (by show (0 : Int) < 99999999821; decide), _, _, rfl, rfl, ⟨by decide, by decide⟩, _, rfl, _, _, rfl, rfl, h0, ?_⟩
      · show -(2 ^ 64) < m3
        omega
      · show m3 < 2 ^ 64
        omega
      exact k _ _ (Int.emod_nonneg _ (by omega)) (Int.emod_lt_of_pos _ h0) ⟨_, _, _, hp2, by omega, by omega⟩ (Kb.put _ _ _)
end
end K51
set_option Elab.async false
set_option linter.all false
set_option maxRecDepth 100000
set_option maxHeartbeats 4000000
namespace K51
open PySem L2 PySem.W PH
section
variable {P : Program} {w : World} {K : PySem.W.Frag} {mg : Str → Option Value} {base : Heap}
theorem sc_lcnt : FnScope ["pool", "most", "signs", "j", "kind", "counts", "total", "sign", "times"] ["pool", "most"] (defScope s_lcnt) := ⟨rfl, rfl, rfl, by decide +kernel, rfl, by decide +kernel, by decide +kernel⟩
theorem ok_lcnt {f f_take : Addr} {fd d_take : FuncData} (F : Fun K "_law_counts" "_law_counts" s_lcnt f fd) (B : Bls mg) 
    (G_take : FnOk P w K mg base (CXW P w) 1 f_take d_take ["pool", "many"] (spTakeG)) (b_take : Binds K d_take ["pool", "many"] []) (k_take : keepIn K (.ref f_take) = true) (m_take : mg "_law_take" = some (.ref f_take)) : FnOk P w K mg base (CXW P w) 2 f fd ["pool", "most"] (spLCnt) := by
  refine F.okN sc_lcnt (fun vs H Q E h => ?_) (fun cdv A outer s H vs Q E hr h => ?_)
  · obtain ⟨p, n, most, rfl, _⟩ := h
    rfl
  · obtain ⟨p, n, most, rfl, pl, hn, hm0, hm4, hQ⟩ := h
    refine ⟨_, (pss_cons (ps_set (i := 2) sc_lcnt.nd rfl (Or.inl rfl) pe_dnewK)
      (pss_cons (ps_for PassesOwn.never rfl (pi_range1 rfl B.range (pa_cons (pe_ix ix_list (pe_lst (pa_cons (pe_call G_take hr rfl m_take k_take b_take .nil passN (pa_cons (pv 0) (pa_cons pe_int pa_nil))) (pa_cons (pe_call G_take hr rfl m_take k_take b_take .nil passN (pa_cons (pv 0) (pa_cons pe_int pa_nil))) (pa_cons (pe_call G_take hr rfl m_take k_take b_take .nil passN (pa_cons (pv 0) (pa_cons pe_int pa_nil))) pa_nil)))) (pe_call G_take hr rfl m_take k_take b_take .nil passN (pa_cons (pv 0) (pa_cons pe_int pa_nil))) (fun _ _ => rfl)) pa_nil)) (pg_name (i := 3) sc_lcnt.nd rfl (Or.inl rfl))
        (pss_cons (ps_set (i := 4) sc_lcnt.nd rfl (Or.inl rfl) (pe_call G_take hr rfl m_take k_take b_take .nil passN (pa_cons (pv 0) (pa_cons pe_int pa_nil))))
        (pss_one (ps_dput (hu_of hr) (pv 2) (pe_ix ix_list (pe_lst (pa_cons (pe_call G_take hr rfl m_take k_take b_take .nil passN (pa_cons (pv 0) (pa_cons pe_int pa_nil))) (pa_cons (pe_op op_sub pe_int (pe_call G_take hr rfl m_take k_take b_take .nil passN (pa_cons (pv 0) (pa_cons pe_int pa_nil)))) (pa_cons (pe_call G_take hr rfl m_take k_take b_take .nil passN (pa_cons (pv 0) (pa_cons pe_int pa_nil))) pa_nil)))) (pv 4) (fun _ _ => rfl)) pe_bl rfl))))
      (pss_cons (ps_set (i := 5) sc_lcnt.nd rfl (Or.inl rfl) (pe_lst pa_nil))
      (pss_cons (ps_set (i := 6) sc_lcnt.nd rfl (Or.inl rfl) pe_int)
      (pss_cons (ps_for PassesOwn.never rfl (pi_list (pe_callB (call_sortedD rfl) rfl B.sorted boot_sorted' (pa_cons (pv 2) pa_nil))) (pg_name (i := 7) sc_lcnt.nd rfl (Or.inl rfl))
        (pss_cons (ps_set (i := 4) sc_lcnt.nd rfl (Or.inl rfl) (pe_call G_take hr rfl m_take k_take b_take .nil passN (pa_cons (pv 0) (pa_cons pe_int pa_nil))))
        (pss_cons (ps_set (i := 8) sc_lcnt.nd rfl (Or.inl rfl) (pe_callB (call_min2 rfl) rfl B.min boot_min' (pa_cons (pe_op op_sub (pv 1) (pv 6)) (pa_cons (pe_op op_add pe_int (pe_ix ix_list (pe_lst (pa_cons pe_int (pa_cons (pe_call G_take hr rfl m_take k_take b_take .nil passN (pa_cons (pv 0) (pa_cons pe_int pa_nil))) (pa_cons (pe_call G_take hr rfl m_take k_take b_take .nil passN (pa_cons (pv 0) (pa_cons pe_int pa_nil))) (pa_cons (pe_call G_take hr rfl m_take k_take b_take .nil passN (pa_cons (pv 0) (pa_cons pe_int pa_nil))) pa_nil))))) (pv 4) (fun _ _ => rfl))) pa_nil))))
        (pss_one (ps_if (pt_cmpR op_gt (pv 8) pe_int (nomark _))
          (pss_cons (ps_expr (pe_bm PySem.F.plainAttrs_list PySem.F.slot_list_append PySem.F.type_list_append mt_append (pv 5) (pa_cons (pe_tup (pa_cons (pv 7) (pa_cons (pv 8) pa_nil))) pa_nil)))
          (pss_one (ps_set (i := 6) sc_lcnt.nd rfl (Or.inl rfl) (pe_op op_add (pv 6) (pv 8)))))
          pss_nil)))))
      (pss_one (ps_ret (pv 5)))))))), ?_⟩
    refine fun dt hdt => ?_
    have ndt : p ≠ dt := pl.ne hdt
    have pl1 := pl.same (same_new hdt (.dK []))
    have kb1 : Kb p H (upd H dt (.dK [])) := Kb.of (same_new hdt _)
    have hd1 : upd H dt (.dK []) dt = some (.dK (bD [])) := upd_same
    generalize upd H dt (.dK []) = H1 at pl1 kb1 hd1 ⊢
    refine ⟨_, rfl, p, n, 6, rfl, pl1, (by omega), (by decide), (by decide), fun r H2 r0 r1 pl2 kb2 => ?_⟩
    refine ⟨_, rfl, p, n + 1, 6, rfl, pl2, (by omega), (by decide), (by decide), fun s H3 s0 s1 pl3 kb3 => ?_⟩
    refine ⟨_, rfl, p, n + 1 + 1, 257, rfl, pl3, (by omega), (by decide), (by decide), fun t H4 t0 t1 pl4 kb4 => ?_⟩
    refine ⟨(by show 3 ≤ sizeLine; decide), fun l1 hl1 => ?_⟩
    have nl1 : l1 ≠ p := (pl4.ne hl1).symm
    have e1 : upd H4 l1 (.lst [.int r, .int s, .int t]) l1 = some (.lst [.int r, .int s, .int t]) := upd_same
    have pl5 := pl4.same (same_new hl1 (.lst [.int r, .int s, .int t]))
    have hd5 := (same_new hl1 (.lst [.int r, .int s, .int t])) _ _ (kb4 _ _ ndt.symm (kb3 _ _ ndt.symm (kb2 _ _ ndt.symm hd1)))
    have kb5 : Kb p H (upd H4 l1 (.lst [.int r, .int s, .int t])) := (((kb1.trans kb2).trans kb3).trans kb4).trans (Kb.of (same_new hl1 _))
    generalize upd H4 l1 (.lst [.int r, .int s, .int t]) = H5 at e1 pl5 hd5 kb5 ⊢
    refine ⟨_, rfl, p, n + 1 + 1 + 1, 3, rfl, pl5, (by omega), (by decide), (by decide), fun ix H6 ix0 ix1 pl6 kb6 => ?_⟩
    obtain ⟨m, hm, hm2⟩ : ∃ m : Nat, atI [V.int r, V.int s, V.int t] ix = some (.int (m : Int)) ∧ m ≤ 256 := by
      have hr : ix = 0 ∨ ix = 1 ∨ ix = 2 := by omega
      rcases hr with rfl | rfl | rfl
      · exact ⟨r.toNat, by rw [show ((r.toNat : Nat) : Int) = r by omega]; rfl, by omega⟩
      · exact ⟨s.toNat, by rw [show ((s.toNat : Nat) : Int) = s by omega]; rfl, by omega⟩
      · exact ⟨t.toNat, by rw [show ((t.toNat : Nat) : Int) = t by omega]; rfl, by omega⟩
    refine ⟨l1, _, _, _, rfl, rfl, SqL.of (kb6 _ _ nl1 e1), hm, (m : Int), rfl, by omega, by omega, ?_⟩
    rw [Int.toNat_natCast]
    have hd6 := kb6 _ _ ndt.symm hd5
    have kb7 := kb5.trans kb6
    refine for_range (n := m) (fun i σ H' => ∃ (v3 v4 : Option V) (ks : List Int), σ = [some (.ref p), some (.int most), some (.ref dt), v3, v4, none, none, none, none] ∧ H' dt = some (.dK (bD ks)) ∧ ks.Nodup ∧ (∀ x ∈ ks, 0 ≤ x ∧ x ≤ 255) ∧ ks.length ≤ i ∧ PL (n + 4 + 4 * (i : Int)) p H' ∧ Kb p H H')
      ⟨none, none, [], rfl, hd6, List.nodup_nil, (fun _ z => by cases z), Nat.le_refl _, pl6.mono (by omega), kb7⟩ ?_ ?_
    · rintro i σ H7 hi ⟨v3, v4, ks, rfl, hd7, nd, hks, hkl, pl7, kb7⟩
      refine ⟨_, rfl, p, n + 4 + 4 * (i : Int), 3, rfl, pl7, (by omega), (by decide), (by decide), fun kd H8 kd0 kd1 pl8 kb8 => ?_⟩
      refine ⟨_, rfl, ?_⟩
      refine ⟨_, rfl, p, n + 4 + 4 * (i : Int) + 1, 256, rfl, pl8, (by omega), (by decide), (by decide), fun r H9 r0 r1 pl9 kb9 => ?_⟩
      refine ⟨_, rfl, p, n + 4 + 4 * (i : Int) + 1 + 1, 4, rfl, pl9, (by omega), (by decide), (by decide), fun s Ha s0 s1 pla kba => ⟨_, _, rfl, rfl, ?_⟩⟩
      refine ⟨_, rfl, p, n + 4 + 4 * (i : Int) + 1 + 1 + 1, 4, rfl, pla, (by omega), (by decide), (by decide), fun t Hb t0 t1 plb kbb => ?_⟩
      refine ⟨(by show 3 ≤ sizeLine; decide), fun l2 hl2 => ?_⟩
      obtain ⟨x, hx, x0, x1⟩ : ∃ x : Int, atI [V.int r, V.int (255 - s), V.int t] kd = some (.int x) ∧ 0 ≤ x ∧ x ≤ 255 := by
        have hr : kd = 0 ∨ kd = 1 ∨ kd = 2 := by omega
        rcases hr with rfl | rfl | rfl
        · exact ⟨_, rfl, by omega, by omega⟩
        · exact ⟨_, rfl, by omega, by omega⟩
        · exact ⟨_, rfl, by omega, by omega⟩
      have sl := same_new hl2 (.lst [V.int r, V.int (255 - s), V.int t])
      have hdc := sl _ _ (kbb _ _ ndt.symm (kba _ _ ndt.symm (kb9 _ _ ndt.symm (kb8 _ _ ndt.symm hd7))))
      have plc := plb.same sl
      have kbc : Kb p H (upd Hb l2 (.lst [V.int r, V.int (255 - s), V.int t])) := ((((kb7.trans kb8).trans kb9).trans kba).trans kbb).trans (Kb.of sl)
      refine ⟨_, rfl, l2, _, _, _, rfl, rfl, SqL.of upd_same, hx, dt, _, rfl, DPut.k (k := Sum.inl x) hdc (fits_lt (by rw [bD_len]; omega)), ?_⟩
      rw [put_bD]
      refine ⟨_, _, if x ∈ ks then ks else ks ++ [x], rfl, upd_same, ?_, ?_, ?_, (plc.up ndt).mono (by omega), kbc.new _ hdt⟩
      · by_cases h : x ∈ ks
        · rw [if_pos h]; exact nd
        · rw [if_neg h]; exact nd_snoc nd h
      · intro y hy
        by_cases h : x ∈ ks
        · rw [if_pos h] at hy; exact hks y hy
        · rw [if_neg h] at hy
          rcases List.mem_append.mp hy with q | q
          · exact hks y q
          · have : y = x := by simpa using q
            omega
      · by_cases h : x ∈ ks
        · rw [if_pos h]; omega
        · rw [if_neg h, List.length_append, List.length_singleton]; omega
    · rintro σ H7 ⟨v3, v4, ks, rfl, hd7, nd, hks, hkl, pl7, kb7⟩
      refine ⟨(by show 0 ≤ sizeLine; decide), fun C hC => ?_⟩
      have nCp : C ≠ p := (pl7.ne hC).symm
      have hCH : H C = none := kb7.free' pl7 hC
      have sC := same_new hC (.lst [])
      have pl8 := pl7.same sC
      have kb8 := kb7.trans (Kb.of sC)
      have hC8 : upd H7 C (.lst []) C = some (.lst []) := upd_same
      have hd8 := sC _ _ hd7
      generalize upd H7 C (.lst []) = H8 at pl8 kb8 hC8 hd8 ⊢
      refine ⟨_, rfl, dt, _, ks, rfl, .inl hd8, bD_keys ks, fun ks' ps hp hsr hps => ?_⟩
      have sp := same_new hps (.lst (ks'.map V.int))
      have nps : ps ≠ p := (pl8.ne hps).symm
      have npC : C ≠ ps := ne_of_none hC8 hps
      have hst := strict hsr (hp.nodup_iff.mpr nd)
      have hks' : ∀ x ∈ ks', 0 ≤ x ∧ x ≤ 255 := fun x hx => hks x (hp.mem_iff.mp hx)
      have hkl' : ks'.length ≤ 256 := by rw [hp.length_eq]; omega
      have pl9 := pl8.same sp
      have kb9 := kb8.trans (Kb.of sp)
      have hC9 := sp _ _ hC8
      have hps9 : upd H8 ps (.lst (ks'.map V.int)) ps = some (lsI ks') := upd_same
      generalize upd H8 ps (.lst (ks'.map V.int)) = H9 at pl9 kb9 hC9 hps9 ⊢
      refine ⟨ps, rfl, ⟨_, SqL.of hps9⟩, for_list (K := K) (a := ps) (xs := ks'.map V.int) (fun i σ H' => ∃ (zs : List (Addr × Int × Int)) (v4 v7 v8 : Option V), σ = [some (.ref p), some (.int most), some (.ref dt), v3, v4, some (.ref C), some (.int (sumT (zs.map (·.2)))), v7, v8] ∧ Prs H' C zs ∧ RiseC (zs.map (·.2)) ∧ (∀ c ∈ zs.map (·.2), c.1 ∈ ks'.take i) ∧ sumT (zs.map (·.2)) ≤ most ∧ zs.length ≤ i ∧ H' ps = some (lsI ks') ∧ PL (n + 1028 + 4 * (i : Int)) p H' ∧ Kb p H H')
        ⟨[], v4, none, none, rfl, ⟨hC9, (fun _ z => by cases z)⟩, ⟨List.Pairwise.nil, (fun _ z => by cases z)⟩, (fun _ z => by cases z), hm0, Nat.le_refl _, hps9, pl9.mono (by omega), kb9⟩ (fun i σ H' _ ⟨_, _, _, _, _, _, _, _, _, _, e, _⟩ => SqL.of e) ?_ ?_⟩
      · rintro i y σ Ha hi ⟨zs, v4, v7, v8, rfl, prC, hri, hmem, hsm, hzl, hpsa, pla, kba⟩
        obtain ⟨sg, rfl, hsg⟩ := int_at hi
        have hil : i < ks'.length := (List.getElem?_eq_some_iff.mp hsg).1
        have hsb := hks' sg (List.mem_of_getElem? hsg)
        have hlow : ∀ c ∈ zs.map (·.2), c.1 < sg := fun c hc => before hst hsg (hmem c hc)
        refine ⟨_, rfl, p, n + 1028 + 4 * (i : Int), 4, rfl, pla, (by omega), (by decide), (by decide), fun kd Hb kd0 kd1 plb kbb => ?_⟩
        refine ⟨_, rfl, _, rfl, _, _, rfl, rfl, ?_⟩
        refine ⟨_, rfl, p, n + 1028 + 4 * (i : Int) + 1, 4, rfl, plb, (by omega), (by decide), (by decide), fun r Hc r0 r1 plc kbc => ?_⟩
        refine ⟨_, rfl, p, n + 1028 + 4 * (i : Int) + 1 + 1, 4, rfl, plc, (by omega), (by decide), (by decide), fun s Hd s0 s1 pld kbd => ?_⟩
        refine ⟨_, rfl, p, n + 1028 + 4 * (i : Int) + 1 + 1 + 1, 400, rfl, pld, (by omega), (by decide), (by decide), fun t He t0 t1 ple kbe => ?_⟩
        refine ⟨(by show 4 ≤ sizeLine; decide), fun l2 hl2 => ?_⟩
        obtain ⟨x, hx, x0⟩ : ∃ x : Int, atI [V.int 0, V.int r, V.int s, V.int t] kd = some (.int x) ∧ 0 ≤ x := by
          have hr : kd = 0 ∨ kd = 1 ∨ kd = 2 ∨ kd = 3 := by omega
          rcases hr with rfl | rfl | rfl | rfl
          · exact ⟨0, rfl, by omega⟩
          · exact ⟨_, rfl, by omega⟩
          · exact ⟨_, rfl, by omega⟩
          · exact ⟨_, rfl, by omega⟩
        have sl := same_new hl2 (.lst [V.int 0, V.int r, V.int s, V.int t])
        have kbx : Kb p Ha (upd He l2 (.lst [V.int 0, V.int r, V.int s, V.int t])) := (((kbb.trans kbc).trans kbd).trans kbe).trans (Kb.of sl)
        have plf := ple.same sl
        have prf := prC.kb pla.isD kbx
        have hpsf := kbx _ _ nps hpsa
        have kbf := kba.trans kbx
        refine ⟨_, rfl, l2, _, _, _, rfl, rfl, SqL.of upd_same, hx, _, _, rfl, rfl, _, _, rfl, ?_⟩
        generalize upd He l2 (.lst [V.int 0, V.int r, V.int s, V.int t]) = Hf at plf prf hpsf kbf ⊢
        obtain ⟨tm, etm, htm, htm1⟩ : ∃ tm : Int, tm = (if 1 + x < most - sumT (zs.map (·.2)) then 1 + x else most - sumT (zs.map (·.2))) ∧ tm ≤ most - sumT (zs.map (·.2)) ∧ (0 < tm → 1 ≤ tm) := ⟨_, rfl, by split <;> omega, fun h => by omega⟩
        refine gNx (v' := V.int tm) (by rw [etm]) ?_
        refine ⟨_, rfl, _, _, rfl, rfl, _, rfl, ?_⟩
        refine ite2 (fun c => ?_) (fun c => ?_)
        · have c' : 0 < tm := of_decide_eq_true c
          refine ⟨_, rfl, .inl ⟨rfl, _, SqL.of prf.at_⟩, _, rfl, _, rfl, (by show 2 ≤ sizeLine; decide), fun tt ht => ?_⟩
          have st := same_new ht (.tup [.int sg, .int tm])
          refine ⟨C, _, _, rfl, rfl, st _ _ prf.at_, fits_lt (by rw [List.length_map]; omega), ?_⟩
          refine ⟨_, rfl, _, rfl, _, _, rfl, rfl, ?_⟩
          have esum : sumT ((zs ++ [(tt, sg, tm)]).map (·.2)) = sumT (zs.map (·.2)) + tm := by
            rw [List.map_append, sumT_app]
            show _ + sumT [(sg, tm)] = _
            rw [sumT_one]
          refine gNx (v' := V.int (sumT ((zs ++ [(tt, sg, tm)]).map (·.2)))) (by rw [esum]) ?_
          refine ⟨zs ++ [(tt, sg, tm)], _, _, _, rfl, (prf.same st).app upd_same, ?_, ?_, by rw [esum]; omega, by rw [List.length_append, List.length_singleton]; omega, by rw [upd_ne npC.symm]; exact st _ _ hpsf, ((plf.same st).up nCp.symm).mono (by omega), (kbf.trans (Kb.of st)).new _ hCH⟩
          · rw [List.map_append]
            exact hri.app hlow (by omega) (by omega) (htm1 c')
          · intro c hc
            rw [List.map_append] at hc
            rw [take_at hsg]
            rcases List.mem_append.mp hc with q | q
            · exact List.mem_append_left _ (hmem c q)
            · have : c = (sg, tm) := by simpa using q
              subst this
              exact List.mem_append_right _ List.mem_cons_self
        · refine ⟨zs, _, _, _, rfl, prf, hri, (fun c hc => by rw [take_at hsg]; exact List.mem_append_left _ (hmem c hc)), hsm, by omega, hpsf, plf.mono (by omega), kbf⟩
      · rintro σ Ha ⟨zs, v4, v7, v8, rfl, prC, hri, hmem, hsm, hzl, hpsa, pla, kba⟩
        rw [List.length_map] at hzl pla
        refine ⟨_, rfl, ?_⟩
        exact hQ C zs Ha kba (pla.mono (by omega)) hCH prC hri hsm (by omega)
end
end K51
set_option Elab.async false
set_option linter.all false
set_option maxRecDepth 100000
set_option maxHeartbeats 4000000
namespace K51
open PySem L2 PySem.W PH
section
variable {P : Program} {w : World} {K : PySem.W.Frag} {mg : Str → Option Value} {base : Heap}
theorem sc_far : FnScope ["pool"] ["pool"] (defScope s_far) := ⟨rfl, rfl, rfl, by decide +kernel, rfl, by decide +kernel, by decide +kernel⟩
theorem ok_far {f f_take : Addr} {fd d_take : FuncData} (F : Fun K "_law_far" "_law_far" s_far f fd) (B : Bls mg) 
    (G_take : FnOk P w K mg base (CXW P w) 1 f_take d_take ["pool", "many"] (spTakeG)) (b_take : Binds K d_take ["pool", "many"] []) (k_take : keepIn K (.ref f_take) = true) (m_take : mg "_law_take" = some (.ref f_take)) : FnOk P w K mg base (CXW P w) 2 f fd ["pool"] (spFar) := by
  refine F.okN sc_far (fun vs H Q E h => ?_) (fun cdv A outer s H vs Q E hr h => ?_)
  · obtain ⟨p, n, rfl, _⟩ := h
    rfl
  · obtain ⟨p, n, rfl, pl, hn, hQ⟩ := h
    refine ⟨_, (pss_one (ps_ret (pe_ix ix_list (pe_lst (pa_cons pe_int (pa_cons pe_int (pa_cons (pe_call G_take hr rfl m_take k_take b_take .nil passN (pa_cons (pv 0) (pa_cons (pe_op op_pow pe_int pe_int) pa_nil))) pa_nil)))) (pe_call G_take hr rfl m_take k_take b_take .nil passN (pa_cons (pv 0) (pa_cons pe_int pa_nil))) (fun _ _ => rfl)))), ?_⟩
    refine ⟨_, rfl, _, _, rfl, rfl, ⟨by decide, by decide, by decide⟩, p, n, _, rfl, pl, by omega, by decide, by decide, fun r H1 r0 r1 pl1 kb1 => ?_⟩
    refine ⟨(by show 3 ≤ sizeLine; decide), fun l1 hl1 => ?_⟩
    have nl1 : l1 ≠ p := (pl1.ne hl1).symm
    have sl := same_new hl1 (.lst [.int 0, .int 0, .int r])
    refine ⟨_, rfl, p, n + 1, 3, rfl, pl1.same sl, by omega, by decide, by decide, fun ix H2 i0 i1 pl2 kb2 => ?_⟩
    obtain ⟨x, hx, x0⟩ : ∃ x : Int, atI [V.int 0, V.int 0, V.int r] ix = some (.int x) ∧ 0 ≤ x := by
      have hr : ix = 0 ∨ ix = 1 ∨ ix = 2 := by omega
      rcases hr with rfl | rfl | rfl
      · exact ⟨0, rfl, by omega⟩
      · exact ⟨0, rfl, by omega⟩
      · exact ⟨_, rfl, r0⟩
    refine ⟨l1, _, _, _, rfl, rfl, SqL.of (kb2 _ _ nl1 upd_same), hx, ?_⟩
    exact hQ x H2 x0 (pl2.mono (by omega)) ((kb1.trans (Kb.of sl)).trans kb2)
theorem sc_is : FnScope ["counts", "k", "sign", "times"] ["counts"] (defScope s_is) := ⟨rfl, rfl, rfl, by decide +kernel, rfl, by decide +kernel, by decide +kernel⟩
theorem ok_is {f : Addr} {fd : FuncData} (F : Fun K "_law_is" "_law_is" s_is f fd) (B : Bls mg) (n_enumerate : mg "enumerate" = none) (n_sum : mg "sum" = none) : FnOk P w K mg base (CXW P w) 1 f fd ["counts"] (spIs) := by
  refine F.okN sc_is (fun vs H Q E h => ?_) (fun cdv A outer s H vs Q E hr h => ?_)
  · obtain ⟨p, zs, rfl, _⟩ := h
    rfl
  · obtain ⟨p, zs, rfl, prZ, hzl, hQ⟩ := h
    refine ⟨_, (pss_cons (ps_for PassesOwn.never rfl (pi_enum rfl n_enumerate (pa_cons (pv 0) pa_nil)) (pg_tup rfl (pgs_cons (pg_name (i := 1) sc_is.nd rfl (Or.inl rfl)) (pgs_cons (pg_tup rfl (pgs_cons (pg_name (i := 2) sc_is.nd rfl (Or.inl rfl)) (pgs_cons (pg_name (i := 3) sc_is.nd rfl (Or.inl rfl)) pgs_nil))) pgs_nil)))
        (pss_one (ps_if (PW.pt (pw_or (pt_cmpR op_lt (pv 2) pe_int (nomark _)) (pw_or (pt_cmpR op_gt (pv 2) pe_int (nomark _)) (pw_or (pt_cmpR op_lt (pv 3) pe_int (nomark _)) (pw_or1 (PW.pt (pw_and (pt_cmpR op_gt (pv 1) pe_int (nomark _)) (pw_and1 (pt_cmpR op_ge (pe_ix ix_tup (pe_ix ix_list (pv 0) (pe_op op_sub (pv 1) pe_int) (fun _ _ => rfl)) pe_int (fun _ _ => rfl)) (pv 2) (nomark _))))))))))
          (pss_one (ps_ret pe_bl))
          pss_nil)))
      (pss_one (ps_ret (pe_cmpR op_le (pe_callB (call_sum rfl) rfl n_sum boot_sum' (pa_cons (pe_comp (N := ["sign", "times"]) (js := [none, none]) (g := (gTup K 2 (gCons (gName 0) (gCons (gName 1) gNil)))) (tc := tTrue) (te := (tVar 1)) rfl (comp_scope (osc := defScope s_is) (XN := ["counts", "k", "sign", "times"]) rfl rfl rfl (by decide +kernel)) (pi_list (pv 0)) (fun _ _ _ _ => pg_tup rfl (pgs_cons (pg_name (i := 0) (show (["sign", "times"] : List Str).Nodup by decide +kernel) rfl (Or.inl rfl)) (pgs_cons (pg_name (i := 1) (show (["sign", "times"] : List Str).Nodup by decide +kernel) rfl (Or.inl rfl)) pgs_nil))) (fun _ _ _ _ => pif_nil) (fun _ _ _ _ => (pv 1))) pa_nil)) pe_int (nomark _))))), ?_⟩
    generalize hcs : zs.map (·.2) = cs at hQ
    have hcl : cs.length = zs.length := by rw [← hcs, List.length_map]
    refine ⟨_, rfl, p, rfl, ⟨_, SqL.of prZ.at_⟩, for_enum (K := K) (a := p) (xs := zs.map fun z => V.ref z.1) (fun i σ H2 => ∃ (ah : Int) (v1 v2 v3 : Option V), σ = [some (.ref p), v1, v2, v3] ∧ (i = 0 ∧ ah = -1 ∨ ∃ j z, i = j + 1 ∧ zs[j]? = some z ∧ ah = z.2.1) ∧ -1 ≤ ah ∧ haveT cs = (riseB ah (cs.drop i) && (cs.drop i).all (fun c => decide (1 ≤ c.2)) && decide (sumT cs ≤ 400)) ∧ Same H H2)
      ⟨-1, none, none, none, rfl, .inl ⟨rfl, rfl⟩, by omega, by rw [List.drop_zero]; rfl, Same.refl _⟩ (fun i σ H2 _ ⟨_, _, _, _, _, _, _, _, e⟩ => SqL.of (e _ _ prZ.at_)) ?_ ?_⟩
    · rintro i y t σ H2 hi ⟨ah, v1, v2, v3, rfl, hah, hm1, hhv, sm⟩ ht
      obtain ⟨z, hz, rfl⟩ := ref_at hi
      have hck : cs[i]? = some z.2 := by rw [← hcs, List.getElem?_map, hz]; rfl
      have st := same_new ht (.tup [.int (i : Nat), V.ref z.1])
      have prZ2 := prZ.same (sm.trans st)
      have hal : (cs.drop i).all (fun c => decide (1 ≤ c.2)) = (decide (1 ≤ z.2.2) && (cs.drop (i + 1)).all (fun c => decide (1 ≤ c.2))) := by
        obtain ⟨h1, h2⟩ := List.getElem?_eq_some_iff.mp hck
        rw [List.drop_eq_getElem_cons h1, h2]; rfl
      rw [riseB_step hck, hal] at hhv
      have hF : (decide (ah < z.2.1) && decide (z.2.1 ≤ 255) && decide (1 ≤ z.2.2)) = false → Q (.bl false) (upd H2 t (.tup [.int (i : Nat), V.ref z.1])) := fun e => by
        have := hQ _ (sm.trans st)
        rw [hhv] at this
        have e2 : ((decide (ah < z.2.1) && decide (z.2.1 ≤ 255) && riseB z.2.1 (cs.drop (i + 1))) && (decide (1 ≤ z.2.2) && (cs.drop (i + 1)).all (fun c => decide (1 ≤ c.2))) && decide (sumT cs ≤ 400)) = false := by
          revert e
          generalize decide (ah < z.2.1) = b1
          generalize decide (z.2.1 ≤ 255) = b2
          generalize decide (1 ≤ z.2.2) = b3
          cases b1 <;> cases b2 <;> cases b3 <;> simp
        rwa [e2] at this
      refine ⟨t, _, rfl, SqT.of upd_same, rfl, _, _, rfl, _, _, rfl, z.1, _, rfl, SqT.of (prZ2.each z (List.mem_of_getElem? hz)), rfl, _, _, rfl, _, _, rfl, rfl, rfl, ?_⟩
      refine ⟨_, rfl, _, _, rfl, rfl, _, rfl, ?_⟩
      by_cases h1 : z.2.1 < 0
      · rw [decide_eq_true h1]
        refine iteT (iteT ?_)
        exact hF (by rw [decide_eq_false (show ¬ ah < z.2.1 by omega)]; rfl)
      rw [decide_eq_false h1]
      refine iteF ?_
      refine ⟨_, rfl, _, _, rfl, rfl, _, rfl, ?_⟩
      by_cases h2 : 255 < z.2.1
      · rw [decide_eq_true h2]
        refine iteT (iteT ?_)
        exact hF (by rw [decide_eq_false (show ¬ z.2.1 ≤ 255 by omega), Bool.and_false]; rfl)
      rw [decide_eq_false h2]
      refine iteF ?_
      refine ⟨_, rfl, _, _, rfl, rfl, _, rfl, ?_⟩
      by_cases h3 : z.2.2 < 1
      · rw [decide_eq_true h3]
        refine iteT (iteT ?_)
        exact hF (by rw [decide_eq_false (show ¬ 1 ≤ z.2.2 by omega), Bool.and_false])
      rw [decide_eq_false h3]
      refine iteF ?_
      refine ⟨_, rfl, _, _, rfl, rfl, _, rfl, ?_⟩
      have fin : ah < z.2.1 → ∃ (ah : Int) (w1 w2 w3 : Option V), ([some (.ref p), some (.int (i : Nat)), some (.int z.2.1), some (.int z.2.2)] : St) = [some (.ref p), w1, w2, w3] ∧ (i + 1 = 0 ∧ ah = -1 ∨ ∃ j z, i + 1 = j + 1 ∧ zs[j]? = some z ∧ ah = z.2.1) ∧ -1 ≤ ah ∧ haveT cs = (riseB ah (cs.drop (i + 1)) && (cs.drop (i + 1)).all (fun c => decide (1 ≤ c.2)) && decide (sumT cs ≤ 400)) ∧ Same H (upd H2 t (.tup [.int (i : Nat), V.ref z.1])) := fun h => by
        refine ⟨z.2.1, _, _, _, rfl, .inr ⟨i, z, rfl, hz, rfl⟩, by omega, ?_, sm.trans st⟩
        rw [hhv, decide_eq_true h, decide_eq_true (show z.2.1 ≤ 255 by omega), decide_eq_true (show 1 ≤ z.2.2 by omega)]; rfl
      rcases hah with ⟨rfl, rfl⟩ | ⟨j, z', rfl, hz', rfl⟩
      · refine iteF (iteF ?_)
        exact fin (by omega)
      · rw [decide_eq_true (show (0 : Int) < ((j + 1 : Nat) : Int) by omega)]
        refine iteT ?_
        refine ⟨_, rfl, _, rfl, _, _, rfl, rfl, p, _, (j : Int), V.ref z'.1, rfl, ?_, SqL.of prZ2.at_, atI_nat (by rw [List.getElem?_map, hz']; rfl), z'.1, _, _, _, rfl, rfl, SqT.of (prZ2.each z' (List.mem_of_getElem? hz')), rfl, _, rfl, _, _, rfl, rfl, _, rfl, ?_⟩
        · show V.int (((j + 1 : Nat) : Int) - 1) = V.int (j : Int)
          congr 1
          omega
        by_cases h4 : z.2.1 ≤ z'.2.1
        · rw [decide_eq_true h4]
          refine iteT ?_
          exact hF (by rw [decide_eq_false (show ¬ z'.2.1 < z.2.1 by omega)]; rfl)
        · rw [decide_eq_false h4]
          refine iteF ?_
          exact fin (by omega)
    · rintro σ H2 ⟨ah, v1, v2, v3, rfl, hah, hm1, hhv, sm⟩
      rw [List.length_map, ← hcl, List.drop_length] at hhv
      have prZ2 := prZ.same sm
      refine ⟨_, rfl, p, rfl, ⟨_, SqL.of prZ2.at_⟩, fun D2 hD2 => ?_⟩
      refine comp_lstQ (K := K) (a := p) (xs := zs.map fun z => V.ref z.1) (fun i σ' H' => ∃ (x y : Option V) (ls : List Int), σ' = [x, y] ∧ H' D2 = some (lsI ls) ∧ ls = (cs.take i).map (·.2) ∧ Same H2 H')
        ⟨none, none, [], rfl, upd_same, by rw [List.take_zero]; rfl, same_new hD2 _⟩ (fun i σ' H' _ ⟨_, _, _, _, _, _, e⟩ => SqL.of (e _ _ prZ2.at_)) ?_ ?_
      · rintro i v σ' H' hi ⟨x, y, ls, rfl, hB, hls, sm⟩
        obtain ⟨z, hz, rfl⟩ := ref_at hi
        have hlt : i < (zs.map fun z => V.ref z.1).length := (List.getElem?_eq_some_iff.mp hi).1
        have hck : cs[i]? = some z.2 := by rw [← hcs, List.getElem?_map, hz]; rfl
        have hbl : ls.length ≤ i := by rw [hls, List.length_map, List.length_take]; omega
        refine ⟨z.1, _, rfl, SqT.of (sm _ _ (prZ2.each z (List.mem_of_getElem? hz))), rfl, _, _, rfl, _, _, rfl, rfl, ?_⟩
        refine trueT ?_
        refine ⟨_, rfl, D2, _, _, rfl, rfl, hB, fits_lt (by rw [List.length_map]; rw [List.length_map] at hlt; omega), ?_⟩
        refine CW.next hlt ⟨_, _, ls ++ [z.2.2], rfl, by rw [upd_same]; unfold lsI; rw [List.map_append]; rfl, ?_, same_upd sm _ hD2⟩
        rw [hls, take_at hck, List.map_append]
        rfl
      rintro σ' H3 ⟨x, y, ls, rfl, hB, hls, sm3⟩
      rw [List.length_map, ← hcl, List.take_length] at hls
      refine ⟨D2, ls, rfl, SqL.of hB, _, _, rfl, rfl, ?_⟩
      have := hQ H3 (sm.trans sm3)
      rw [hhv] at this
      rw [hls]
      exact this
end
end K51
set_option Elab.async false
set_option linter.all false
set_option maxRecDepth 100000
set_option maxHeartbeats 4000000
namespace K51
open PySem L2 PySem.W PH
section
variable {P : Program} {w : World} {K : PySem.W.Frag} {mg : Str → Option Value} {base : Heap}
theorem sc_ref : FnScope ["counts", "way", "number", "caught", "handed", "e", "kinds"] ["counts", "way", "number"] (defScope s_ref) := ⟨rfl, rfl, rfl, by decide +kernel, rfl, by decide +kernel, by decide +kernel⟩
theorem ok_ref {f c_Broken c_NoCode c_NoName c_NoNumber c_NoPlace c_NoRow c_NoText c_PackError f_texts f_tbs : Addr} {fd d_texts d_tbs : FuncData} (F : Fun K "_law_refused" "_law_refused" s_ref f fd) (B : Bls mg) (X_Broken : Ex K mg "Broken" c_Broken) (X_PackError : Ex K mg "PackError" c_PackError) (m_Broken : mg "Broken" = some (.ref c_Broken)) (m_NoCode : mg "NoCode" = some (.ref c_NoCode)) (m_NoName : mg "NoName" = some (.ref c_NoName)) (m_NoNumber : mg "NoNumber" = some (.ref c_NoNumber)) (m_NoPlace : mg "NoPlace" = some (.ref c_NoPlace)) (m_NoRow : mg "NoRow" = some (.ref c_NoRow)) (m_NoText : mg "NoText" = some (.ref c_NoText)) (m_PackError : mg "PackError" = some (.ref c_PackError)) (r_Broken : ExR K c_PackError c_Broken c_NoCode c_NoName c_NoNumber c_NoPlace c_NoRow c_NoText) (k_Broken : ExK K c_Broken c_NoNumber c_NoPlace c_NoCode c_NoName c_NoRow c_NoText) 
    (G_texts : FnOk P w K mg base (CXW P w) 4 f_texts d_texts ["counts"] (spTexts c_Broken)) (b_texts : Binds K d_texts ["counts"] []) (k_texts : keepIn K (.ref f_texts) = true) (m_texts : mg "texts_with" = some (.ref f_texts)) 
    (G_tbs : FnOk P w K mg base (CXW P w) 5 f_tbs d_tbs ["counts", "number"] (spTbs c_Broken)) (b_tbs : Binds K d_tbs ["counts", "number"] []) (k_tbs : keepIn K (.ref f_tbs) = true) (m_tbs : mg "text_by_share" = some (.ref f_tbs)) : FnOk P w K mg base (CXW P w) 6 f fd ["counts", "way", "number"] (spRef51) := by
  refine F.okN sc_ref (fun vs H Q E h => ?_) (fun cdv A outer s H vs Q E hr h => ?_)
  · obtain ⟨p, zs, way, number, rfl, _⟩ := h
    rfl
  · obtain ⟨p, zs, way, number, rfl, prZ, hzl, hbad, hQ⟩ := h
    refine ⟨_, (pss_cons (ps_set (i := 3) sc_ref.nd rfl (Or.inl rfl) pe_non)
      (pss_cons (ps_set (i := 4) sc_ref.nd rfl (Or.inl rfl) (pe_callTy call_list_of rfl B.list boot_list' (pa_cons (pv 0) pa_nil)))
      (pss_cons (ps_try (i := 5) (tb := fun E' => tIfS (tTest (tOp rEq (tVar 1) (tC (.int 0)))) (tDrop (tCall (spTexts c_Broken) [] E' (tCons (tVar 4) tNil))) (tDrop (tCall (spTbs c_Broken) [] E' (tCons (tVar 4) (tCons (tVar 2) tNil))))) rfl rfl sc_ref.nd rfl rfl rfl X_PackError.mg X_PackError.cl
        (fun pins σ xe' E' hp => psa_if (pt_cmpR op_eq (pv 1) pe_int (nomark _)) (psa_expr (pea_call G_texts (hr.mono (show 4 ≤ 5 by decide)) rfl m_texts k_texts b_texts .nil hp (pa_cons (pv 4) pa_nil))) (psa_expr (pea_call G_tbs hr rfl m_tbs k_tbs b_tbs .nil hp (pa_cons (pv 4) (pa_cons (pv 2) pa_nil)))))
        (fun a => (pss_one (ps_set (i := 3) sc_ref.nd rfl (Or.inl rfl) (pv 5)))))
      (pss_cons (ps_if (pt_cmpR (op_neD (units_of hr)) (pv 4) (pv 0) (nomark _))
        (pss_one (ps_ret pe_bl))
        pss_nil)
      (pss_cons (ps_set (i := 6) sc_ref.nd rfl (Or.inl rfl) (pe_lst (pa_cons (pe_callB (r := rIsi K) call_isi rfl B.isi boot_isi (pa_cons (pv 3) (pa_cons (pe_glob (v := .ref c_NoCode) rfl m_NoCode rfl) pa_nil))) (pa_cons (pe_callB (r := rIsi K) call_isi rfl B.isi boot_isi (pa_cons (pv 3) (pa_cons (pe_glob (v := .ref c_NoName) rfl m_NoName rfl) pa_nil))) (pa_cons (pe_callB (r := rIsi K) call_isi rfl B.isi boot_isi (pa_cons (pv 3) (pa_cons (pe_glob (v := .ref c_NoNumber) rfl m_NoNumber rfl) pa_nil))) pa_nil)))))
      (pss_cons (ps_set (i := 6) sc_ref.nd rfl (Or.inl rfl) (pe_op op_cat (pv 6) (pe_lst (pa_cons (pe_callB (r := rIsi K) call_isi rfl B.isi boot_isi (pa_cons (pv 3) (pa_cons (pe_glob (v := .ref c_NoPlace) rfl m_NoPlace rfl) pa_nil))) (pa_cons (pe_callB (r := rIsi K) call_isi rfl B.isi boot_isi (pa_cons (pv 3) (pa_cons (pe_glob (v := .ref c_NoRow) rfl m_NoRow rfl) pa_nil))) (pa_cons (pe_callB (r := rIsi K) call_isi rfl B.isi boot_isi (pa_cons (pv 3) (pa_cons (pe_glob (v := .ref c_NoText) rfl m_NoText rfl) pa_nil))) pa_nil))))))
      (pss_one (ps_ret (pe_and (pe_callB (r := rIsi K) call_isi rfl B.isi boot_isi (pa_cons (pv 3) (pa_cons (pe_glob (v := .ref c_Broken) rfl m_Broken rfl) pa_nil))) (pe_and (pe_callB (r := rIsi K) call_isi rfl B.isi boot_isi (pa_cons (pv 3) (pa_cons (pe_bltn (v := .ty "ValueError") rfl B.ve boot_VE rfl) pa_nil))) (pe_one (pe_cmpR op_notIn_seq pe_bl (pv 6) (by with_unfolding_all rfl))))))))))))), ?_⟩
    refine ⟨_, rfl, p, _, rfl, .inl (SqL.of prZ.at_), fun hd hhd => ?_⟩
    have s1 := same_new hhd (.lst (zs.map fun z => V.ref z.1))
    have prh : Prs (upd H hd (.lst (zs.map fun z => V.ref z.1))) hd zs := ⟨upd_same, fun z hz => s1 _ _ (prZ.each z hz)⟩
    have prZ1 := prZ.same s1
    generalize upd H hd (.lst (zs.map fun z => V.ref z.1)) = H1 at s1 prh prZ1 ⊢
    refine ⟨_, rfl, rfl, _, rfl, ?_⟩
    refine ite2 (fun c => ?_) (fun c => ?_)
    · have hw : way = 0 := V.int.inj (of_decide_eq_true c)
      have hb : haveT (zs.map (·.2)) = false := by
        rcases hbad with h | ⟨h, _⟩
        · exact h
        · omega
      refine ⟨_, rfl, hd, zs, rfl, prh, hzl, (fun _ H2 s2 => ?_), fun hc => by rw [hb] at hc; cases hc⟩
      refine ⟨c_Broken, rfl, X_Broken.cl, r_Broken.m, fun x hx => ?_⟩
      have s3 := s2.trans (same_new hx (excO x c_Broken))
      have hxx : upd H2 x (excO x c_Broken) x = some (excO x c_Broken) := upd_same
      generalize upd H2 x (excO x c_Broken) = H3 at s3 hxx ⊢
      refine ⟨_, rfl, ?_⟩
      refine ⟨_, rfl, _, rfl, _, _, (prh.same s3).deep, (prZ1.same s3).deep, ht_prD _, _, rfl, ?_⟩
      rw [eqD_refl]
      refine iteF ?_
      refine ⟨_, rfl, _, _, _, _, false, rfl, .exc X_Broken.cl hxx, rfl, k_Broken.k3, _, rfl, _, _, _, _, false, rfl, .exc X_Broken.cl hxx, rfl, k_Broken.k4, _, rfl, _, _, _, _, false, rfl, .exc X_Broken.cl hxx, rfl, k_Broken.k1, (by show 3 ≤ sizeLine; decide), fun l1 hl1 => ?_⟩
      have s4 := same_new hl1 (.lst [V.bl false, .bl false, .bl false])
      have e1 : upd H3 l1 (.lst [V.bl false, .bl false, .bl false]) l1 = some (.lst [V.bl false, .bl false, .bl false]) := upd_same
      have hx4 := s4 _ _ hxx
      generalize upd H3 l1 (.lst [V.bl false, .bl false, .bl false]) = H4 at s4 e1 hx4 ⊢
      refine ⟨_, rfl, _, rfl, _, _, _, _, false, rfl, .exc X_Broken.cl hx4, rfl, k_Broken.k2, _, rfl, _, _, _, _, false, rfl, .exc X_Broken.cl hx4, rfl, k_Broken.k5, _, rfl, _, _, _, _, false, rfl, .exc X_Broken.cl hx4, rfl, k_Broken.k6, (by show 3 ≤ sizeLine; decide), fun l2 hl2 => ?_⟩
      have s5 := same_new hl2 (.lst [V.bl false, .bl false, .bl false])
      have e2 : upd H4 l2 (.lst [V.bl false, .bl false, .bl false]) l2 = some (.lst [V.bl false, .bl false, .bl false]) := upd_same
      have hx5 := s5 _ _ hx4
      generalize upd H4 l2 (.lst [V.bl false, .bl false, .bl false]) = H5 at s5 e2 hx5 ⊢
      refine ⟨l1, l2, _, _, rfl, rfl, s5 _ _ e1, e2, (by show 6 ≤ sizeLine; decide), fun D hD => ?_⟩
      have s6 := same_new hD (.lst ([V.bl false, .bl false, .bl false] ++ [V.bl false, .bl false, .bl false]))
      have e3 : upd H5 D (.lst ([V.bl false, .bl false, .bl false] ++ [V.bl false, .bl false, .bl false])) D = some (.lst [V.bl false, .bl false, .bl false, .bl false, .bl false, .bl false]) := upd_same
      have hx6 := s6 _ _ hx5
      generalize upd H5 D (.lst ([V.bl false, .bl false, .bl false] ++ [V.bl false, .bl false, .bl false])) = H6 at s6 e3 hx6 ⊢
      refine ⟨_, rfl, _, _, _, _, true, rfl, .exc X_Broken.cl hx6, rfl, kit_refl _ _, _, rfl, ?_⟩
      refine iteT ?_
      refine ⟨_, rfl, _, _, _, _, true, rfl, .exc X_Broken.cl hx6, rfl, r_Broken.v, _, rfl, ?_⟩
      refine iteT ?_
      refine ⟨_, rfl, D, _, rfl, .inl (SqL.of e3), rfl, rfl, ?_⟩
      exact hQ _ (s1.trans (s3.trans (s4.trans (s5.trans s6))))
    · refine ⟨_, rfl, _, rfl, hd, zs, number, rfl, prh, hzl, (fun _ H2 s2 => ?_), fun hc h0 h1 => by
        rcases hbad with h | ⟨_, h | h⟩
        · rw [h] at hc; cases hc
        · omega
        · omega⟩
      refine ⟨c_Broken, rfl, X_Broken.cl, r_Broken.m, fun x hx => ?_⟩
      have s3 := s2.trans (same_new hx (excO x c_Broken))
      have hxx : upd H2 x (excO x c_Broken) x = some (excO x c_Broken) := upd_same
      generalize upd H2 x (excO x c_Broken) = H3 at s3 hxx ⊢
      refine ⟨_, rfl, ?_⟩
      refine ⟨_, rfl, _, rfl, _, _, (prh.same s3).deep, (prZ1.same s3).deep, ht_prD _, _, rfl, ?_⟩
      rw [eqD_refl]
      refine iteF ?_
      refine ⟨_, rfl, _, _, _, _, false, rfl, .exc X_Broken.cl hxx, rfl, k_Broken.k3, _, rfl, _, _, _, _, false, rfl, .exc X_Broken.cl hxx, rfl, k_Broken.k4, _, rfl, _, _, _, _, false, rfl, .exc X_Broken.cl hxx, rfl, k_Broken.k1, (by show 3 ≤ sizeLine; decide), fun l1 hl1 => ?_⟩
      have s4 := same_new hl1 (.lst [V.bl false, .bl false, .bl false])
      have e1 : upd H3 l1 (.lst [V.bl false, .bl false, .bl false]) l1 = some (.lst [V.bl false, .bl false, .bl false]) := upd_same
      have hx4 := s4 _ _ hxx
      generalize upd H3 l1 (.lst [V.bl false, .bl false, .bl false]) = H4 at s4 e1 hx4 ⊢
      refine ⟨_, rfl, _, rfl, _, _, _, _, false, rfl, .exc X_Broken.cl hx4, rfl, k_Broken.k2, _, rfl, _, _, _, _, false, rfl, .exc X_Broken.cl hx4, rfl, k_Broken.k5, _, rfl, _, _, _, _, false, rfl, .exc X_Broken.cl hx4, rfl, k_Broken.k6, (by show 3 ≤ sizeLine; decide), fun l2 hl2 => ?_⟩
      have s5 := same_new hl2 (.lst [V.bl false, .bl false, .bl false])
      have e2 : upd H4 l2 (.lst [V.bl false, .bl false, .bl false]) l2 = some (.lst [V.bl false, .bl false, .bl false]) := upd_same
      have hx5 := s5 _ _ hx4
      generalize upd H4 l2 (.lst [V.bl false, .bl false, .bl false]) = H5 at s5 e2 hx5 ⊢
      refine ⟨l1, l2, _, _, rfl, rfl, s5 _ _ e1, e2, (by show 6 ≤ sizeLine; decide), fun D hD => ?_⟩
      have s6 := same_new hD (.lst ([V.bl false, .bl false, .bl false] ++ [V.bl false, .bl false, .bl false]))
      have e3 : upd H5 D (.lst ([V.bl false, .bl false, .bl false] ++ [V.bl false, .bl false, .bl false])) D = some (.lst [V.bl false, .bl false, .bl false, .bl false, .bl false, .bl false]) := upd_same
      have hx6 := s6 _ _ hx5
      generalize upd H5 D (.lst ([V.bl false, .bl false, .bl false] ++ [V.bl false, .bl false, .bl false])) = H6 at s6 e3 hx6 ⊢
      refine ⟨_, rfl, _, _, _, _, true, rfl, .exc X_Broken.cl hx6, rfl, kit_refl _ _, _, rfl, ?_⟩
      refine iteT ?_
      refine ⟨_, rfl, _, _, _, _, true, rfl, .exc X_Broken.cl hx6, rfl, r_Broken.v, _, rfl, ?_⟩
      refine iteT ?_
      refine ⟨_, rfl, D, _, rfl, .inl (SqL.of e3), rfl, rfl, ?_⟩
      exact hQ _ (s1.trans (s3.trans (s4.trans (s5.trans s6))))
end
end K51
set_option Elab.async false
set_option linter.all false
set_option maxRecDepth 100000
set_option maxHeartbeats 4000000
namespace K51
open PySem L2 PySem.W PH
section
variable {P : Program} {w : World} {K : PySem.W.Frag} {mg : Str → Option Value} {base : Heap}
theorem sc_spoilt : FnScope ["counts", "pool", "far", "at", "sign", "times", "way", "turned", "none", "more", "great"] ["counts", "pool"] (defScope s_spoilt) := ⟨rfl, rfl, rfl, by decide +kernel, rfl, by decide +kernel, by decide +kernel⟩
theorem ok_spoilt {f f_take f_far : Addr} {fd d_take d_far : FuncData} (F : Fun K "_law_spoilt" "_law_spoilt" s_spoilt f fd) (B : Bls mg) (n_sum : mg "sum" = none) 
    (G_take : FnOk P w K mg base (CXW P w) 1 f_take d_take ["pool", "many"] (spTakeG)) (b_take : Binds K d_take ["pool", "many"] []) (k_take : keepIn K (.ref f_take) = true) (m_take : mg "_law_take" = some (.ref f_take)) 
    (G_far : FnOk P w K mg base (CXW P w) 2 f_far d_far ["pool"] (spFar)) (b_far : Binds K d_far ["pool"] []) (k_far : keepIn K (.ref f_far) = true) (m_far : mg "_law_far" = some (.ref f_far)) : FnOk P w K mg base (CXW P w) 3 f fd ["counts", "pool"] (spSpoil51) := by
  refine F.okN sc_spoilt (fun vs H Q E h => ?_) (fun cdv A outer s H vs Q E hr h => ?_)
  · obtain ⟨c, p, n, zs, rfl, _⟩ := h
    rfl
  · obtain ⟨c, p, n, zs, rfl, pl, hn, prC, hzl, hQ⟩ := h
    refine ⟨_, (pss_cons (ps_set (i := 2) sc_spoilt.nd rfl (Or.inr rfl) (pe_call G_far hr rfl m_far k_far b_far .nil passN (pa_cons (pv 1) pa_nil)))
      (pss_cons (ps_set (i := 3) sc_spoilt.nd rfl (Or.inl rfl) (pe_call G_take (hr.mono (show 1 ≤ 2 by decide)) rfl m_take k_take b_take .nil passN (pa_cons (pv 1) (pa_cons (pe_op op_add (pe_callB call_len_seq rfl B.len PySem.boot_len (pa_cons (pv 0) pa_nil)) pe_int) pa_nil))))
      (pss_cons (ps_set (i := 4) sc_spoilt.nd rfl (Or.inl rfl) (pe_call G_take (hr.mono (show 1 ≤ 2 by decide)) rfl m_take k_take b_take .nil passN (pa_cons (pv 1) (pa_cons pe_int pa_nil))))
      (pss_cons (ps_set (i := 5) sc_spoilt.nd rfl (Or.inl rfl) (pe_op op_add pe_int (pe_call G_take (hr.mono (show 1 ≤ 2 by decide)) rfl m_take k_take b_take .nil passN (pa_cons (pv 1) (pa_cons pe_int pa_nil)))))
      (pss_cons (ps_set (i := 6) sc_spoilt.nd rfl (Or.inl rfl) (pe_call G_take (hr.mono (show 1 ≤ 2 by decide)) rfl m_take k_take b_take .nil passN (pa_cons (pv 1) (pa_cons pe_int pa_nil))))
      (pss_cons (ps_if (pt_cmpR op_eq (pv 6) pe_int (nomark _))
        (pss_one (ps_ret (pe_op op_cat (pe_lst (pa_cons (pe_tup (pa_cons (pe_op op_sub (pe_un un_neg pe_int) (pv 2)) (pa_cons (pv 5) pa_nil))) pa_nil)) (pv 0))))
        pss_nil)
      (pss_cons (ps_if (pt_cmpR op_eq (pv 6) pe_int (nomark _))
        (pss_one (ps_ret (pe_op op_cat (pv 0) (pe_lst (pa_cons (pe_tup (pa_cons (pe_op op_add pe_int (pv 2)) (pa_cons (pv 5) pa_nil))) pa_nil)))))
        pss_nil)
      (pss_cons (ps_if (pt_cmpR op_eq (pv 6) pe_int (nomark _))
        (pss_one (ps_ret (pe_op op_cat (pe_op op_cat (pe_slice sl_list (pv 0) po_none (po_some (pv 3))) (pe_lst (pa_cons (pe_tup (pa_cons (pv 4) (pa_cons (pe_op op_sub pe_int (pv 2)) pa_nil))) pa_nil))) (pe_slice sl_list (pv 0) (po_some (pv 3)) po_none))))
        pss_nil)
      (pss_cons (ps_if (pt_cmpR op_eq (pv 6) pe_int (nomark _))
        (pss_one (ps_ret (pe_op op_cat (pe_op op_cat (pe_slice sl_list (pv 0) po_none (po_some (pv 3))) (pe_lst (pa_cons (pe_tup (pa_cons (pv 4) (pa_cons (pe_op op_add pe_int (pv 2)) pa_nil))) pa_nil))) (pe_slice sl_list (pv 0) (po_some (pv 3)) po_none))))
        pss_nil)
      (pss_cons (ps_if (pt_cmpR op_eq (pv 6) pe_int (nomark _))
        (pss_one (ps_ret (pe_op op_cat (pe_op op_cat (pe_slice sl_list (pv 0) po_none (po_some (pv 3))) (pe_slice sl_list (pv 0) (po_some (pv 3)) (po_some (pe_op op_add (pv 3) pe_int)))) (pe_slice sl_list (pv 0) (po_some (pv 3)) po_none))))
        pss_nil)
      (pss_cons (ps_if (pt_cmpR op_eq (pv 6) pe_int (nomark _))
        (pss_cons (ps_set (i := 7) sc_spoilt.nd rfl (Or.inl rfl) (pe_op op_cat (pe_slice sl_list (pv 0) (po_some (pe_op op_add (pv 3) pe_int)) (po_some (pe_op op_add (pv 3) pe_int))) (pe_slice sl_list (pv 0) (po_some (pv 3)) (po_some (pe_op op_add (pv 3) pe_int)))))
        (pss_one (ps_ret (pe_op op_cat (pe_op op_cat (pe_slice sl_list (pv 0) po_none (po_some (pv 3))) (pv 7)) (pe_slice sl_list (pv 0) (po_some (pe_op op_add (pv 3) pe_int)) po_none)))))
        pss_nil)
      (pss_cons (ps_if (pt_cmpR op_eq (pv 6) pe_int (nomark _))
        (pss_cons (ps_setC (iy := 8) (N := ["one", "many", "far"]) (js := [none, none, some 2]) (g := (gTup K 2 (gCons (gName 0) (gCons (gName 1) gNil)))) (tc := tTrue) (te := (tTup (tCons (tVar 0) (tCons (tOp (rI0 fun i j => .int (i - j)) (tC (.int 0)) (tVar 2)) tNil)))) sc_spoilt.nd rfl rfl rfl (comp_scope (osc := defScope s_spoilt) (XN := ["counts", "pool", "far", "at", "sign", "times", "way", "turned", "none", "more", "great"]) rfl rfl rfl (by decide +kernel)) (pi_list (pe_slice sl_list (pv 0) (po_some (pv 3)) (po_some (pe_op op_add (pv 3) pe_int)))) (fun _ _ _ _ => pg_tup rfl (pgs_cons (pg_name (i := 0) (show (["one", "many", "far"] : List Str).Nodup by decide +kernel) rfl (Or.inl rfl)) (pgs_cons (pg_name (i := 1) (show (["one", "many", "far"] : List Str).Nodup by decide +kernel) rfl (Or.inl rfl)) pgs_nil))) (fun _ _ _ _ => pif_nil) (fun _ _ _ _ => (pe_tup (pa_cons (pv 0) (pa_cons (pe_op op_sub pe_int (pv 2)) pa_nil)))))
        (pss_one (ps_ret (pe_op op_cat (pe_op op_cat (pe_slice sl_list (pv 0) po_none (po_some (pv 3))) (pv 8)) (pe_slice sl_list (pv 0) (po_some (pe_op op_add (pv 3) pe_int)) po_none)))))
        pss_nil)
      (pss_cons (ps_if (pt_cmpR op_eq (pv 6) pe_int (nomark _))
        (pss_one (ps_ret (pe_op op_cat (pe_op op_cat (pe_slice sl_list (pv 0) po_none (po_some (pv 3))) (pe_lst (pa_cons (pe_tup (pa_cons (pv 4) (pa_cons (pv 5) pa_nil))) pa_nil))) (pe_slice sl_list (pv 0) (po_some (pv 3)) po_none))))
        pss_nil)
      (pss_cons (ps_set (i := 9) sc_spoilt.nd rfl (Or.inr rfl) (pe_op op_sub (pe_op op_add pe_int (pv 2)) (pe_callB (call_sum rfl) rfl n_sum boot_sum' (pa_cons (pe_comp (N := ["one", "many"]) (js := [none, none]) (g := (gTup K 2 (gCons (gName 0) (gCons (gName 1) gNil)))) (tc := tTrue) (te := (tVar 1)) rfl (comp_scope (osc := defScope s_spoilt) (XN := ["counts", "pool", "far", "at", "sign", "times", "way", "turned", "none", "more", "great"]) rfl rfl rfl (by decide +kernel)) (pi_list (pv 0)) (fun _ _ _ _ => pg_tup rfl (pgs_cons (pg_name (i := 0) (show (["one", "many"] : List Str).Nodup by decide +kernel) rfl (Or.inl rfl)) (pgs_cons (pg_name (i := 1) (show (["one", "many"] : List Str).Nodup by decide +kernel) rfl (Or.inl rfl)) pgs_nil))) (fun _ _ _ _ => pif_nil) (fun _ _ _ _ => (pv 1))) pa_nil))))
      (pss_cons (ps_setC (iy := 10) (N := ["one", "many", "more"]) (js := [none, none, some 9]) (g := (gTup K 2 (gCons (gName 0) (gCons (gName 1) gNil)))) (tc := tTrue) (te := (tTup (tCons (tVar 0) (tCons (tOp (rI0 fun i j => .int (i + j)) (tVar 1) (tVar 2)) tNil)))) sc_spoilt.nd rfl rfl rfl (comp_scope (osc := defScope s_spoilt) (XN := ["counts", "pool", "far", "at", "sign", "times", "way", "turned", "none", "more", "great"]) rfl rfl rfl (by decide +kernel)) (pi_list (pe_slice sl_list (pv 0) (po_some (pv 3)) (po_some (pe_op op_add (pv 3) pe_int)))) (fun _ _ _ _ => pg_tup rfl (pgs_cons (pg_name (i := 0) (show (["one", "many", "more"] : List Str).Nodup by decide +kernel) rfl (Or.inl rfl)) (pgs_cons (pg_name (i := 1) (show (["one", "many", "more"] : List Str).Nodup by decide +kernel) rfl (Or.inl rfl)) pgs_nil))) (fun _ _ _ _ => pif_nil) (fun _ _ _ _ => (pe_tup (pa_cons (pv 0) (pa_cons (pe_op op_add (pv 1) (pv 2)) pa_nil)))))
      (pss_one (ps_ret (pe_op op_cat (pe_op op_cat (pe_slice sl_list (pv 0) po_none (po_some (pv 3))) (pv 10)) (pe_slice sl_list (pv 0) (po_some (pe_op op_add (pv 3) pe_int)) po_none))))))))))))))))))), ?_⟩
    refine ⟨_, rfl, p, n, rfl, pl, by omega, fun fr H1 f0 pl1 kb1 => ?_⟩
    have pr1 := prC.kb pl.isD kb1
    refine ⟨_, rfl, _, rfl, c, _, rfl, .inl (SqL.of pr1.at_), _, _, rfl, rfl, p, n + 2, _, rfl, pl1, by omega, ?_, ?_, fun at0 H2 a0 a1 pl2 kb2 => ?_⟩
    · show (0 : Int) < ((zs.map fun z => V.ref z.1).length : Int) + 1
      omega
    · show ((zs.map fun z => V.ref z.1).length : Int) + 1 ≤ _
      rw [List.length_map]
      omega
    have a1' : at0 < (zs.length : Int) + 1 := by
      have := a1
      rw [List.length_map] at this
      exact this
    obtain ⟨k, rfl⟩ : ∃ k : Nat, at0 = (k : Int) := ⟨at0.toNat, by omega⟩
    have pr2 := pr1.kb pl1.isD kb2
    refine ⟨_, rfl, p, n + 2 + 1, 256, rfl, pl2, by omega, by decide, by decide, fun sg H3 g0 g1 pl3 kb3 => ?_⟩
    have pr3 := pr2.kb pl2.isD kb3
    refine ⟨_, rfl, p, n + 2 + 1 + 1, 5, rfl, pl3, by omega, by decide, by decide, fun tm H4 t0 t1 pl4 kb4 => ⟨_, _, rfl, rfl, ?_⟩⟩
    have pr4 := pr3.kb pl3.isD kb4
    refine ⟨_, rfl, p, n + 2 + 1 + 1 + 1, 9, rfl, pl4, by omega, by decide, by decide, fun wy H5 w0 w1 pl5 kb5 => ?_⟩
    have pr5 := pr4.kb pl4.isD kb5
    have kbA := (((kb1.trans kb2).trans kb3).trans kb4).trans kb5
    have fin : ∀ (r : Addr) (rs : List (Addr × Int × Int)) (H' : Hp), Same H5 H' → Prs H' r rs → rs.length ≤ 300 → Q (.ref r) H' := fun r rs H' s pr hl => hQ r rs H' (kbA.trans (Kb.of s)) ((pl5.same s).mono (by omega)) pr hl
    clear hQ pr1 pr2 pr3 pr4 pl1 pl2 pl3 pl4 kb1 kb2 kb3 kb4 kb5 kbA prC pl
    have hkl : k ≤ zs.length := by omega
    refine ⟨_, rfl, rfl, _, rfl, ?_⟩
    refine ite2 (fun _ => ?_) (fun _ => ?_)
    · refine ⟨1, rfl, _, rfl, _, _, rfl, rfl, _, rfl, (by show 2 ≤ sizeLine; decide), fun t ht => ⟨(by show 1 ≤ sizeLine; decide), fun l hl => ?_⟩⟩
      have s1 := (same_new ht _).trans (same_new hl (.lst [V.ref t]))
      have po := Prs.one ht hl
      refine ⟨_, rfl, l, c, _, _, rfl, rfl, upd_same, s1 _ _ pr5.at_, fits (by rw [List.length_map, List.length_singleton]; omega), fun r hr => ?_⟩
      exact fin r _ _ (s1.trans (same_new hr _)) (po.cat (pr5.same s1) hr) (by rw [List.length_append, List.length_singleton]; omega)
    refine ⟨_, rfl, rfl, _, rfl, ?_⟩
    refine ite2 (fun _ => ?_) (fun _ => ?_)
    · refine ⟨_, rfl, _, rfl, _, _, rfl, rfl, _, rfl, (by show 2 ≤ sizeLine; decide), fun t ht => ⟨(by show 1 ≤ sizeLine; decide), fun l hl => ?_⟩⟩
      have s1 := (same_new ht _).trans (same_new hl (.lst [V.ref t]))
      have po := Prs.one ht hl
      refine ⟨c, l, _, _, rfl, rfl, s1 _ _ pr5.at_, upd_same, fits (by rw [List.length_map, List.length_singleton]; omega), fun r hr => ?_⟩
      exact fin r _ _ (s1.trans (same_new hr _)) ((pr5.same s1).cat po hr) (by rw [List.length_append, List.length_singleton]; omega)
    refine ⟨_, rfl, rfl, _, rfl, ?_⟩
    refine ite2 (fun _ => ?_) (fun _ => ?_)
    · refine ⟨_, rfl, _, rfl, _, rfl, c, _, rfl, SqL.of pr5.at_, fun q1 hq1 => ?_⟩
      rw [cutp_to]
      have s1 := same_new hq1 (.lst ((zs.take k).map fun z => V.ref z.1))
      have p1 := pr5.sl hq1 (ys := zs.take k) (fun y hy => List.mem_of_mem_take hy)
      refine ⟨_, rfl, _, rfl, _, _, rfl, rfl, (by show 2 ≤ sizeLine; decide), fun t ht => ⟨(by show 1 ≤ sizeLine; decide), fun l hl => ?_⟩⟩
      have s2 := (same_new ht _).trans (same_new hl (.lst [V.ref t]))
      have po := Prs.one ht hl
      refine ⟨q1, l, _, _, rfl, rfl, s2 _ _ p1.at_, upd_same, fits (by rw [List.length_map, List.length_singleton, List.length_take]; omega), fun q3 hq3 => ?_⟩
      have s3 := s1.trans (s2.trans (same_new hq3 (.lst (((zs.take k).map fun z => V.ref z.1) ++ [V.ref t]))))
      have p3 := (p1.same s2).cat po hq3
      refine ⟨_, rfl, _, rfl, _, rfl, c, _, rfl, SqL.of (s3 _ _ pr5.at_), fun q4 hq4 => ?_⟩
      rw [cutp_from]
      have s4 := s3.trans (same_new hq4 (.lst ((zs.drop k).map fun z => V.ref z.1)))
      have p4 := (pr5.same s3).sl hq4 (ys := zs.drop k) (fun y hy => List.mem_of_mem_drop hy)
      have p3' := p3.same (same_new hq4 (.lst ((zs.drop k).map fun z => V.ref z.1)))
      refine ⟨q3, q4, _, _, rfl, rfl, p3'.at_, p4.at_, fits (by rw [List.length_map, List.length_map, List.length_append, List.length_take, List.length_singleton, List.length_drop]; omega), fun r hr => ?_⟩
      exact fin r _ _ (s4.trans (same_new hr _)) (p3'.cat p4 hr) (by rw [List.length_append, List.length_append, List.length_take, List.length_singleton, List.length_drop]; omega)
    refine ⟨_, rfl, rfl, _, rfl, ?_⟩
    refine ite2 (fun _ => ?_) (fun _ => ?_)
    · refine ⟨_, rfl, _, rfl, _, rfl, c, _, rfl, SqL.of pr5.at_, fun q1 hq1 => ?_⟩
      rw [cutp_to]
      have s1 := same_new hq1 (.lst ((zs.take k).map fun z => V.ref z.1))
      have p1 := pr5.sl hq1 (ys := zs.take k) (fun y hy => List.mem_of_mem_take hy)
      refine ⟨_, rfl, _, rfl, _, _, rfl, rfl, (by show 2 ≤ sizeLine; decide), fun t ht => ⟨(by show 1 ≤ sizeLine; decide), fun l hl => ?_⟩⟩
      have s2 := (same_new ht _).trans (same_new hl (.lst [V.ref t]))
      have po := Prs.one ht hl
      refine ⟨q1, l, _, _, rfl, rfl, s2 _ _ p1.at_, upd_same, fits (by rw [List.length_map, List.length_singleton, List.length_take]; omega), fun q3 hq3 => ?_⟩
      have s3 := s1.trans (s2.trans (same_new hq3 (.lst (((zs.take k).map fun z => V.ref z.1) ++ [V.ref t]))))
      have p3 := (p1.same s2).cat po hq3
      refine ⟨_, rfl, _, rfl, _, rfl, c, _, rfl, SqL.of (s3 _ _ pr5.at_), fun q4 hq4 => ?_⟩
      rw [cutp_from]
      have s4 := s3.trans (same_new hq4 (.lst ((zs.drop k).map fun z => V.ref z.1)))
      have p4 := (pr5.same s3).sl hq4 (ys := zs.drop k) (fun y hy => List.mem_of_mem_drop hy)
      have p3' := p3.same (same_new hq4 (.lst ((zs.drop k).map fun z => V.ref z.1)))
      refine ⟨q3, q4, _, _, rfl, rfl, p3'.at_, p4.at_, fits (by rw [List.length_map, List.length_map, List.length_append, List.length_take, List.length_singleton, List.length_drop]; omega), fun r hr => ?_⟩
      exact fin r _ _ (s4.trans (same_new hr _)) (p3'.cat p4 hr) (by rw [List.length_append, List.length_append, List.length_take, List.length_singleton, List.length_drop]; omega)
    refine ⟨_, rfl, rfl, _, rfl, ?_⟩
    refine ite2 (fun _ => ?_) (fun _ => ?_)
    · -- one twice
      refine ⟨_, rfl, _, rfl, _, rfl, c, _, rfl, SqL.of pr5.at_, fun q1 hq1 => ?_⟩
      rw [cutp_to]
      have s1 := same_new hq1 (.lst ((zs.take k).map fun z => V.ref z.1))
      have p1 := pr5.sl hq1 (ys := zs.take k) (fun y hy => List.mem_of_mem_take hy)
      refine ⟨_, rfl, _, rfl, _, rfl, _, rfl, _, _, rfl, rfl, _, rfl, c, _, rfl, SqL.of (s1 _ _ pr5.at_), fun q2 hq2 => ?_⟩
      rw [show (k : Int) + 1 = ((k + 1 : Nat) : Int) by omega, cutp_two]
      have s2 := s1.trans (same_new hq2 (.lst (((zs.drop k).take (k + 1 - k)).map fun z => V.ref z.1)))
      have p2 := (pr5.same s1).sl hq2 (ys := (zs.drop k).take (k + 1 - k)) (fun y hy => List.mem_of_mem_drop (List.mem_of_mem_take hy))
      have p1' := p1.same (same_new hq2 (.lst (((zs.drop k).take (k + 1 - k)).map fun z => V.ref z.1)))
      refine ⟨q1, q2, _, _, rfl, rfl, p1'.at_, p2.at_, fits (by rw [List.length_map, List.length_map, List.length_take, List.length_take]; omega), fun q3 hq3 => ?_⟩
      have s3 := s2.trans (same_new hq3 (.lst (((zs.take k).map fun z => V.ref z.1) ++ (((zs.drop k).take (k + 1 - k)).map fun z => V.ref z.1))))
      have p3 := p1'.cat p2 hq3
      refine ⟨_, rfl, _, rfl, _, rfl, c, _, rfl, SqL.of (s3 _ _ pr5.at_), fun q4 hq4 => ?_⟩
      rw [cutp_from]
      have s4 := s3.trans (same_new hq4 (.lst ((zs.drop k).map fun z => V.ref z.1)))
      have p4 := (pr5.same s3).sl hq4 (ys := zs.drop k) (fun y hy => List.mem_of_mem_drop hy)
      have p3' := p3.same (same_new hq4 (.lst ((zs.drop k).map fun z => V.ref z.1)))
      refine ⟨q3, q4, _, _, rfl, rfl, p3'.at_, p4.at_, fits (by rw [List.length_map, List.length_map, List.length_append, List.length_take, List.length_take, List.length_drop]; omega), fun r hr => ?_⟩
      exact fin r _ _ (s4.trans (same_new hr _)) (p3'.cat p4 hr) (by rw [List.length_append, List.length_append, List.length_take, List.length_take, List.length_drop]; omega)
    refine ⟨_, rfl, rfl, _, rfl, ?_⟩
    refine ite2 (fun _ => ?_) (fun _ => ?_)
    · -- two exchanged
      refine ⟨_, rfl, _, rfl, _, _, rfl, rfl, _, rfl, _, rfl, _, _, rfl, rfl, _, rfl, c, _, rfl, SqL.of pr5.at_, fun q1 hq1 => ?_⟩
      rw [show (k : Int) + 1 = ((k + 1 : Nat) : Int) by omega, show (k : Int) + 2 = ((k + 2 : Nat) : Int) by omega, cutp_two]
      have s1 := same_new hq1 (.lst (((zs.drop (k + 1)).take (k + 2 - (k + 1))).map fun z => V.ref z.1))
      have p1 := pr5.sl hq1 (ys := (zs.drop (k + 1)).take (k + 2 - (k + 1))) (fun y hy => List.mem_of_mem_drop (List.mem_of_mem_take hy))
      refine ⟨_, rfl, _, rfl, _, rfl, _, rfl, _, _, rfl, rfl, _, rfl, c, _, rfl, SqL.of (s1 _ _ pr5.at_), fun q2 hq2 => ?_⟩
      rw [show (k : Int) + 1 = ((k + 1 : Nat) : Int) by omega, cutp_two]
      have s2 := s1.trans (same_new hq2 (.lst (((zs.drop k).take (k + 1 - k)).map fun z => V.ref z.1)))
      have p2 := (pr5.same s1).sl hq2 (ys := (zs.drop k).take (k + 1 - k)) (fun y hy => List.mem_of_mem_drop (List.mem_of_mem_take hy))
      have p1' := p1.same (same_new hq2 (.lst (((zs.drop k).take (k + 1 - k)).map fun z => V.ref z.1)))
      refine ⟨q1, q2, _, _, rfl, rfl, p1'.at_, p2.at_, fits (by rw [List.length_map, List.length_map, List.length_take, List.length_take]; omega), fun x hx => ?_⟩
      have sx := s2.trans (same_new hx (.lst ((((zs.drop (k + 1)).take (k + 2 - (k + 1))).map fun z => V.ref z.1) ++ (((zs.drop k).take (k + 1 - k)).map fun z => V.ref z.1))))
      have px := p1'.cat p2 hx
      have hel : ((zs.drop (k + 1)).take (k + 2 - (k + 1)) ++ (zs.drop k).take (k + 1 - k)).length ≤ 2 := by rw [List.length_append, List.length_take, List.length_take]; omega
      generalize (zs.drop (k + 1)).take (k + 2 - (k + 1)) ++ (zs.drop k).take (k + 1 - k) = es at px hel
      refine ⟨_, rfl, _, rfl, _, rfl, c, _, rfl, SqL.of (sx _ _ pr5.at_), fun q1 hq1 => ?_⟩
      rw [cutp_to]
      have s1 := sx.trans (same_new hq1 (.lst ((zs.take k).map fun z => V.ref z.1)))
      have p1 := (pr5.same sx).sl hq1 (ys := zs.take k) (fun y hy => List.mem_of_mem_take hy)
      have px1 := px.same (same_new hq1 (.lst ((zs.take k).map fun z => V.ref z.1)))
      refine ⟨_, rfl, q1, x, _, _, rfl, rfl, p1.at_, px1.at_, fits (by rw [List.length_map, List.length_map, List.length_take]; omega), fun q3 hq3 => ?_⟩
      have s3 := s1.trans (same_new hq3 (.lst (((zs.take k).map fun z => V.ref z.1) ++ (es.map fun z => V.ref z.1))))
      have p3 := p1.cat px1 hq3
      refine ⟨_, rfl, _, rfl, _, _, rfl, rfl, _, rfl, c, _, rfl, SqL.of (s3 _ _ pr5.at_), fun q4 hq4 => ?_⟩
      rw [show (k : Int) + 2 = ((k + 2 : Nat) : Int) by omega, cutp_from]
      have s4 := s3.trans (same_new hq4 (.lst ((zs.drop (k + 2)).map fun z => V.ref z.1)))
      have p4 := (pr5.same s3).sl hq4 (ys := zs.drop (k + 2)) (fun y hy => List.mem_of_mem_drop hy)
      have p3' := p3.same (same_new hq4 (.lst ((zs.drop (k + 2)).map fun z => V.ref z.1)))
      refine ⟨q3, q4, _, _, rfl, rfl, p3'.at_, p4.at_, fits (by rw [List.length_map, List.length_map, List.length_append, List.length_take, List.length_drop]; omega), fun r hr => ?_⟩
      exact fin r _ _ (s4.trans (same_new hr _)) (p3'.cat p4 hr) (by rw [List.length_append, List.length_append, List.length_take, List.length_drop]; omega)
    refine ⟨_, rfl, rfl, _, rfl, ?_⟩
    refine ite2 (fun _ => ?_) (fun _ => ?_)
    · -- times of one
      refine ⟨_, rfl, _, rfl, _, rfl, _, rfl, _, _, rfl, rfl, _, rfl, c, _, rfl, SqL.of (pr5).at_, fun q1 hq1 => ?_⟩
      rw [show (k : Int) + 1 = ((k + 1 : Nat) : Int) by omega, cutp_two]
      have t1 := (Same.refl H5).trans (same_new hq1 (.lst (((zs.drop k).take (k + 1 - k)).map fun z => V.ref z.1)))
      have p1 := (pr5).sl hq1 (ys := (zs.drop k).take (k + 1 - k)) (fun y hy => List.mem_of_mem_drop (List.mem_of_mem_take hy))
      have hyl : ((zs.drop k).take (k + 1 - k)).length ≤ 1 := by rw [List.length_take]; omega
      generalize (zs.drop k).take (k + 1 - k) = ys at t1 p1 hyl ⊢
      generalize upd H5 q1 (.lst (ys.map fun z => V.ref z.1)) = H6 at t1 p1 ⊢
      refine ⟨q1, rfl, ⟨_, SqL.of p1.at_⟩, fun x hx => ?_⟩
      refine comp_lstQ (K := K) (a := q1) (xs := ys.map fun z => V.ref z.1) (fun i σ' H' => ∃ (u w : Option V) (es : List (Addr × Int × Int)), σ' = [u, w, some (.int (fr))] ∧ Prs H' x es ∧ es.length = i ∧ Same H6 H')
        ⟨none, none, [], rfl, ⟨upd_same, (fun _ z => by cases z)⟩, rfl, same_new hx _⟩ (fun i σ' H' _ ⟨_, _, _, _, _, _, e⟩ => SqL.of (e _ _ p1.at_)) ?_ ?_
      · rintro i v σ' H' hi ⟨u, w, es, rfl, pre, hel, sm⟩
        obtain ⟨z, hz, rfl⟩ := ref_at hi
        have hlt : i < (ys.map fun z => V.ref z.1).length := (List.getElem?_eq_some_iff.mp hi).1
        have hlt' := hlt
        rw [List.length_map] at hlt'
        refine ⟨z.1, _, rfl, SqT.of (sm _ _ (p1.each z (List.mem_of_getElem? hz))), rfl, _, _, rfl, _, _, rfl, rfl, ?_⟩
        refine trueT ?_
        refine ⟨_, rfl, _, rfl, _, _, rfl, rfl, (by show 2 ≤ sizeLine; decide), fun t ht => ?_⟩
        have st := same_new ht (.tup [.int z.2.1, .int (0 - fr)])
        refine ⟨x, _, _, rfl, rfl, st _ _ pre.at_, fits_lt (by rw [List.length_map]; omega), ?_⟩
        refine CW.next hlt ⟨_, _, es ++ [(t, z.2.1, 0 - fr)], rfl, (pre.same st).app upd_same, by rw [List.length_append, hel]; rfl, same_upd (sm.trans st) _ hx⟩
      rintro σ' H7 ⟨u, w, es, rfl, px, hel, sm⟩
      rw [List.length_map] at hel
      have sx := t1.trans sm
      refine ⟨_, rfl, _, rfl, _, rfl, c, _, rfl, SqL.of (sx _ _ pr5.at_), fun q1 hq1 => ?_⟩
      rw [cutp_to]
      have s1 := sx.trans (same_new hq1 (.lst ((zs.take k).map fun z => V.ref z.1)))
      have p1 := (pr5.same sx).sl hq1 (ys := zs.take k) (fun y hy => List.mem_of_mem_take hy)
      have px1 := px.same (same_new hq1 (.lst ((zs.take k).map fun z => V.ref z.1)))
      refine ⟨_, rfl, q1, x, _, _, rfl, rfl, p1.at_, px1.at_, fits (by rw [List.length_map, List.length_map, List.length_take]; omega), fun q3 hq3 => ?_⟩
      have s3 := s1.trans (same_new hq3 (.lst (((zs.take k).map fun z => V.ref z.1) ++ (es.map fun z => V.ref z.1))))
      have p3 := p1.cat px1 hq3
      refine ⟨_, rfl, _, rfl, _, _, rfl, rfl, _, rfl, c, _, rfl, SqL.of (s3 _ _ pr5.at_), fun q4 hq4 => ?_⟩
      rw [show (k : Int) + 1 = ((k + 1 : Nat) : Int) by omega, cutp_from]
      have s4 := s3.trans (same_new hq4 (.lst ((zs.drop (k + 1)).map fun z => V.ref z.1)))
      have p4 := (pr5.same s3).sl hq4 (ys := zs.drop (k + 1)) (fun y hy => List.mem_of_mem_drop hy)
      have p3' := p3.same (same_new hq4 (.lst ((zs.drop (k + 1)).map fun z => V.ref z.1)))
      refine ⟨q3, q4, _, _, rfl, rfl, p3'.at_, p4.at_, fits (by rw [List.length_map, List.length_map, List.length_append, List.length_take, List.length_drop]; omega), fun r hr => ?_⟩
      exact fin r _ _ (s4.trans (same_new hr _)) (p3'.cat p4 hr) (by rw [List.length_append, List.length_append, List.length_take, List.length_drop]; omega)
    refine ⟨_, rfl, rfl, _, rfl, ?_⟩
    refine ite2 (fun _ => ?_) (fun _ => ?_)
    · refine ⟨_, rfl, _, rfl, _, rfl, c, _, rfl, SqL.of pr5.at_, fun q1 hq1 => ?_⟩
      rw [cutp_to]
      have s1 := same_new hq1 (.lst ((zs.take k).map fun z => V.ref z.1))
      have p1 := pr5.sl hq1 (ys := zs.take k) (fun y hy => List.mem_of_mem_take hy)
      refine ⟨_, rfl, _, rfl, (by show 2 ≤ sizeLine; decide), fun t ht => ⟨(by show 1 ≤ sizeLine; decide), fun l hl => ?_⟩⟩
      have s2 := (same_new ht _).trans (same_new hl (.lst [V.ref t]))
      have po := Prs.one ht hl
      refine ⟨q1, l, _, _, rfl, rfl, s2 _ _ p1.at_, upd_same, fits (by rw [List.length_map, List.length_singleton, List.length_take]; omega), fun q3 hq3 => ?_⟩
      have s3 := s1.trans (s2.trans (same_new hq3 (.lst (((zs.take k).map fun z => V.ref z.1) ++ [V.ref t]))))
      have p3 := (p1.same s2).cat po hq3
      refine ⟨_, rfl, _, rfl, _, rfl, c, _, rfl, SqL.of (s3 _ _ pr5.at_), fun q4 hq4 => ?_⟩
      rw [cutp_from]
      have s4 := s3.trans (same_new hq4 (.lst ((zs.drop k).map fun z => V.ref z.1)))
      have p4 := (pr5.same s3).sl hq4 (ys := zs.drop k) (fun y hy => List.mem_of_mem_drop hy)
      have p3' := p3.same (same_new hq4 (.lst ((zs.drop k).map fun z => V.ref z.1)))
      refine ⟨q3, q4, _, _, rfl, rfl, p3'.at_, p4.at_, fits (by rw [List.length_map, List.length_map, List.length_append, List.length_take, List.length_singleton, List.length_drop]; omega), fun r hr => ?_⟩
      exact fin r _ _ (s4.trans (same_new hr _)) (p3'.cat p4 hr) (by rw [List.length_append, List.length_append, List.length_take, List.length_singleton, List.length_drop]; omega)
    refine ⟨_, rfl, _, _, rfl, rfl, _, rfl, c, rfl, ⟨_, SqL.of pr5.at_⟩, fun D2 hD2 => ?_⟩
    refine comp_lstQ (K := K) (a := c) (xs := zs.map fun z => V.ref z.1) (fun i σ' H' => ∃ (x y : Option V) (ls : List Int), σ' = [x, y] ∧ H' D2 = some (lsI ls) ∧ ls.length = i ∧ Same H5 H')
      ⟨none, none, [], rfl, upd_same, rfl, same_new hD2 _⟩ (fun i σ' H' _ ⟨_, _, _, _, _, _, e⟩ => SqL.of (e _ _ pr5.at_)) ?_ ?_
    · rintro i v σ' H' hi ⟨x, y, ls, rfl, hB, hls, sm⟩
      obtain ⟨z, hz, rfl⟩ := ref_at hi
      have hlt : i < (zs.map fun z => V.ref z.1).length := (List.getElem?_eq_some_iff.mp hi).1
      have hlt' := hlt
      rw [List.length_map] at hlt'
      refine ⟨z.1, _, rfl, SqT.of (sm _ _ (pr5.each z (List.mem_of_getElem? hz))), rfl, _, _, rfl, _, _, rfl, rfl, ?_⟩
      refine trueT ?_
      refine ⟨_, rfl, D2, _, _, rfl, rfl, hB, fits_lt (by rw [List.length_map]; omega), ?_⟩
      exact CW.next hlt ⟨_, _, ls ++ [z.2.2], rfl, by rw [upd_same]; unfold lsI; rw [List.map_append]; rfl, by rw [List.length_append, hls]; rfl, same_upd sm _ hD2⟩
    rintro σ' H5' ⟨x, y, ls, rfl, hB, hls, sb⟩
    refine ⟨D2, ls, rfl, SqL.of hB, _, _, rfl, rfl, ?_⟩
    obtain ⟨mo, emo⟩ : ∃ mo : Int, mo = 401 + fr - ls.sum := ⟨_, rfl⟩
    refine gNx (v' := V.int mo) (by rw [emo]) ?_
    refine ⟨_, rfl, _, rfl, _, rfl, _, rfl, _, _, rfl, rfl, _, rfl, c, _, rfl, SqL.of (pr5.same sb).at_, fun q1 hq1 => ?_⟩
    rw [show (k : Int) + 1 = ((k + 1 : Nat) : Int) by omega, cutp_two]
    have t1 := (sb).trans (same_new hq1 (.lst (((zs.drop k).take (k + 1 - k)).map fun z => V.ref z.1)))
    have p1 := (pr5.same sb).sl hq1 (ys := (zs.drop k).take (k + 1 - k)) (fun y hy => List.mem_of_mem_drop (List.mem_of_mem_take hy))
    have hyl : ((zs.drop k).take (k + 1 - k)).length ≤ 1 := by rw [List.length_take]; omega
    generalize (zs.drop k).take (k + 1 - k) = ys at t1 p1 hyl ⊢
    generalize upd H5' q1 (.lst (ys.map fun z => V.ref z.1)) = H6 at t1 p1 ⊢
    refine ⟨q1, rfl, ⟨_, SqL.of p1.at_⟩, fun x hx => ?_⟩
    refine comp_lstQ (K := K) (a := q1) (xs := ys.map fun z => V.ref z.1) (fun i σ' H' => ∃ (u w : Option V) (es : List (Addr × Int × Int)), σ' = [u, w, some (.int (mo))] ∧ Prs H' x es ∧ es.length = i ∧ Same H6 H')
      ⟨none, none, [], rfl, ⟨upd_same, (fun _ z => by cases z)⟩, rfl, same_new hx _⟩ (fun i σ' H' _ ⟨_, _, _, _, _, _, e⟩ => SqL.of (e _ _ p1.at_)) ?_ ?_
    · rintro i v σ' H' hi ⟨u, w, es, rfl, pre, hel, sm⟩
      obtain ⟨z, hz, rfl⟩ := ref_at hi
      have hlt : i < (ys.map fun z => V.ref z.1).length := (List.getElem?_eq_some_iff.mp hi).1
      have hlt' := hlt
      rw [List.length_map] at hlt'
      refine ⟨z.1, _, rfl, SqT.of (sm _ _ (p1.each z (List.mem_of_getElem? hz))), rfl, _, _, rfl, _, _, rfl, rfl, ?_⟩
      refine trueT ?_
      refine ⟨_, rfl, _, rfl, _, rfl, _, _, rfl, rfl, (by show 2 ≤ sizeLine; decide), fun t ht => ?_⟩
      have st := same_new ht (.tup [.int z.2.1, .int (z.2.2 + mo)])
      refine ⟨x, _, _, rfl, rfl, st _ _ pre.at_, fits_lt (by rw [List.length_map]; omega), ?_⟩
      refine CW.next hlt ⟨_, _, es ++ [(t, z.2.1, z.2.2 + mo)], rfl, (pre.same st).app upd_same, by rw [List.length_append, hel]; rfl, same_upd (sm.trans st) _ hx⟩
    rintro σ' H7 ⟨u, w, es, rfl, px, hel, sm⟩
    rw [List.length_map] at hel
    have sx := t1.trans sm
    refine ⟨_, rfl, _, rfl, _, rfl, c, _, rfl, SqL.of (sx _ _ pr5.at_), fun q1 hq1 => ?_⟩
    rw [cutp_to]
    have s1 := sx.trans (same_new hq1 (.lst ((zs.take k).map fun z => V.ref z.1)))
    have p1 := (pr5.same sx).sl hq1 (ys := zs.take k) (fun y hy => List.mem_of_mem_take hy)
    have px1 := px.same (same_new hq1 (.lst ((zs.take k).map fun z => V.ref z.1)))
    refine ⟨_, rfl, q1, x, _, _, rfl, rfl, p1.at_, px1.at_, fits (by rw [List.length_map, List.length_map, List.length_take]; omega), fun q3 hq3 => ?_⟩
    have s3 := s1.trans (same_new hq3 (.lst (((zs.take k).map fun z => V.ref z.1) ++ (es.map fun z => V.ref z.1))))
    have p3 := p1.cat px1 hq3
    refine ⟨_, rfl, _, rfl, _, _, rfl, rfl, _, rfl, c, _, rfl, SqL.of (s3 _ _ pr5.at_), fun q4 hq4 => ?_⟩
    rw [show (k : Int) + 1 = ((k + 1 : Nat) : Int) by omega, cutp_from]
    have s4 := s3.trans (same_new hq4 (.lst ((zs.drop (k + 1)).map fun z => V.ref z.1)))
    have p4 := (pr5.same s3).sl hq4 (ys := zs.drop (k + 1)) (fun y hy => List.mem_of_mem_drop hy)
    have p3' := p3.same (same_new hq4 (.lst ((zs.drop (k + 1)).map fun z => V.ref z.1)))
    refine ⟨q3, q4, _, _, rfl, rfl, p3'.at_, p4.at_, fits (by rw [List.length_map, List.length_map, List.length_append, List.length_take, List.length_drop]; omega), fun r hr => ?_⟩
    exact fin r _ _ (s4.trans (same_new hr _)) (p3'.cat p4 hr) (by rw [List.length_append, List.length_append, List.length_take, List.length_drop]; omega)
end
end K51
set_option Elab.async false
set_option linter.all false
set_option maxRecDepth 100000
set_option maxHeartbeats 4000000
namespace K51
open PySem L2 PySem.W PH
section
variable {P : Program} {w : World} {K : PySem.W.Frag} {mg : Str → Option Value} {base : Heap}
theorem sc_law : FnScope ["script", "some", "k", "pool", "counts", "one", "number", "many", "far"] ["script"] (defScope s_law) := ⟨rfl, rfl, rfl, by decide +kernel, rfl, by decide +kernel, by decide +kernel⟩
theorem ok_law {f c_Broken f_texts f_tbs f_pool f_take f_lcnt f_far f_spoilt f_is f_ref : Addr} {fd d_texts d_tbs d_pool d_take d_lcnt d_far d_spoilt d_is d_ref : FuncData} (F : Fun K "law" "law" s_law f fd) (B : Bls mg) (n_sum : mg "sum" = none) 
    (G_texts : FnOk P w K mg base (CXW P w) 4 f_texts d_texts ["counts"] (spTexts c_Broken)) (b_texts : Binds K d_texts ["counts"] []) (k_texts : keepIn K (.ref f_texts) = true) (m_texts : mg "texts_with" = some (.ref f_texts)) 
    (G_tbs : FnOk P w K mg base (CXW P w) 5 f_tbs d_tbs ["counts", "number"] (spTbs c_Broken)) (b_tbs : Binds K d_tbs ["counts", "number"] []) (k_tbs : keepIn K (.ref f_tbs) = true) (m_tbs : mg "text_by_share" = some (.ref f_tbs)) 
    (G_pool : FnOk P w K mg base (CXW P w) 1 f_pool d_pool ["script", "k"] (spPool K)) (b_pool : Binds K d_pool ["script", "k"] []) (k_pool : keepIn K (.ref f_pool) = true) (m_pool : mg "_law_pool" = some (.ref f_pool)) 
    (G_take : FnOk P w K mg base (CXW P w) 1 f_take d_take ["pool", "many"] (spTakeG)) (b_take : Binds K d_take ["pool", "many"] []) (k_take : keepIn K (.ref f_take) = true) (m_take : mg "_law_take" = some (.ref f_take)) 
    (G_lcnt : FnOk P w K mg base (CXW P w) 2 f_lcnt d_lcnt ["pool", "most"] (spLCnt)) (b_lcnt : Binds K d_lcnt ["pool", "most"] []) (k_lcnt : keepIn K (.ref f_lcnt) = true) (m_lcnt : mg "_law_counts" = some (.ref f_lcnt)) 
    (G_far : FnOk P w K mg base (CXW P w) 2 f_far d_far ["pool"] (spFar)) (b_far : Binds K d_far ["pool"] []) (k_far : keepIn K (.ref f_far) = true) (m_far : mg "_law_far" = some (.ref f_far)) 
    (G_spoilt : FnOk P w K mg base (CXW P w) 3 f_spoilt d_spoilt ["counts", "pool"] (spSpoil51)) (b_spoilt : Binds K d_spoilt ["counts", "pool"] []) (k_spoilt : keepIn K (.ref f_spoilt) = true) (m_spoilt : mg "_law_spoilt" = some (.ref f_spoilt)) 
    (G_is : FnOk P w K mg base (CXW P w) 1 f_is d_is ["counts"] (spIs)) (b_is : Binds K d_is ["counts"] []) (k_is : keepIn K (.ref f_is) = true) (m_is : mg "_law_is" = some (.ref f_is)) 
    (G_ref : FnOk P w K mg base (CXW P w) 6 f_ref d_ref ["counts", "way", "number"] (spRef51)) (b_ref : Binds K d_ref ["counts", "way", "number"] []) (k_ref : keepIn K (.ref f_ref) = true) (m_ref : mg "_law_refused" = some (.ref f_ref)) : FnOk P w K mg base (CXW P w) 7 f fd ["script"] (spLaw K) := by
  refine F.okN sc_law (fun vs H Q E h => ?_) (fun cdv A outer s H vs Q E hr h => ?_)
  · obtain ⟨a, ns, rfl, _⟩ := h
    rfl
  · obtain ⟨a, ns, rfl, hS, h63, q⟩ := h
    refine ⟨_, (pss_cons (ps_for PassesOwn.never rfl (pi_list (pe_lst (pa_cons (pe_lst (pa_cons (pe_tup (pa_cons pe_int (pa_cons pe_int pa_nil))) (pa_cons (pe_tup (pa_cons pe_int (pa_cons pe_int pa_nil))) (pa_cons (pe_tup (pa_cons pe_int (pa_cons pe_int pa_nil))) pa_nil)))) (pa_cons (pe_comp (N := ["sign"]) (js := [none]) (g := (gName 0)) (tc := tTrue) (te := (tTup (tCons (tVar 0) (tCons (tC (.int 2)) tNil)))) rfl (comp_scope (osc := defScope s_law) (XN := ["script", "some", "k", "pool", "counts", "one", "number", "many", "far"]) rfl rfl rfl (by decide +kernel)) (pi_range1 rfl B.range (pa_cons pe_int pa_nil)) (fun _ _ _ _ => pg_name (i := 0) (show (["sign"] : List Str).Nodup by decide +kernel) rfl (Or.inl rfl)) (fun _ _ _ _ => pif_nil) (fun _ _ _ _ => (pe_tup (pa_cons (pv 0) (pa_cons pe_int pa_nil))))) pa_nil)))) (pg_name (i := 1) sc_law.nd rfl (Or.inl rfl))
        (pss_one (ps_if (PW.pt (pw_or (pt_not (pt_val (pe_call G_ref hr rfl m_ref k_ref b_ref .nil passN (pa_cons (pv 1) (pa_cons pe_int (pa_cons pe_int pa_nil)))))) (pw_or1 (pt_not (pt_val (pe_call G_ref hr rfl m_ref k_ref b_ref .nil passN (pa_cons (pv 1) (pa_cons pe_int (pa_cons pe_int pa_nil)))))))))
          (pss_one (ps_ret pe_bl))
          pss_nil)))
      (pss_cons (ps_for PassesOwn.never rfl (pi_range1 rfl B.range (pa_cons (pe_callB (call_max2 rfl) rfl B.max boot_max' (pa_cons pe_int (pa_cons (pe_callB (call_min2 rfl) rfl B.min boot_min' (pa_cons pe_int (pa_cons (pe_callB call_len_seq rfl B.len PySem.boot_len (pa_cons (pv 0) pa_nil)) pa_nil))) pa_nil))) pa_nil)) (pg_name (i := 2) sc_law.nd rfl (Or.inl rfl))
        (pss_cons (ps_set (i := 3) sc_law.nd rfl (Or.inl rfl) (pe_call G_pool (hr.mono (show 1 ≤ 6 by decide)) rfl m_pool k_pool b_pool .nil passN (pa_cons (pv 0) (pa_cons (pv 2) pa_nil))))
        (pss_cons (ps_set (i := 4) sc_law.nd rfl (Or.inl rfl) (pe_call G_lcnt (hr.mono (show 2 ≤ 6 by decide)) rfl m_lcnt k_lcnt b_lcnt .nil passN (pa_cons (pv 3) (pa_cons (pe_ix ix_list (pe_lst (pa_cons pe_int (pa_cons pe_int pa_nil))) (pe_callTy call_int1 rfl B.int boot_int' (pa_cons (pe_cmpR op_eq (pe_call G_take (hr.mono (show 1 ≤ 6 by decide)) rfl m_take k_take b_take .nil passN (pa_cons (pv 3) (pa_cons pe_int pa_nil))) pe_int (nomark _)) pa_nil)) (fun _ _ => rfl)) pa_nil))))
        (pss_cons (ps_set (i := 1) sc_law.nd rfl (Or.inl rfl) (pe_call G_spoilt (hr.mono (show 3 ≤ 6 by decide)) rfl m_spoilt k_spoilt b_spoilt .nil passN (pa_cons (pv 4) (pa_cons (pv 3) pa_nil))))
        (pss_cons (ps_set (i := 5) sc_law.nd rfl (Or.inl rfl) (pe_ix ix_list (pe_lst (pa_cons pe_int (pa_cons pe_int (pa_cons (pe_un un_neg pe_int) (pa_cons (pe_call G_take (hr.mono (show 1 ≤ 6 by decide)) rfl m_take k_take b_take .nil passN (pa_cons (pv 3) (pa_cons pe_int pa_nil))) (pa_cons (pe_call G_take (hr.mono (show 1 ≤ 6 by decide)) rfl m_take k_take b_take .nil passN (pa_cons (pv 3) (pa_cons (pe_op op_pow pe_int pe_int) pa_nil))) pa_nil)))))) (pe_call G_take (hr.mono (show 1 ≤ 6 by decide)) rfl m_take k_take b_take .nil passN (pa_cons (pv 3) (pa_cons pe_int pa_nil))) (fun _ _ => rfl)))
        (pss_cons (ps_for PassesOwn.never rfl (pi_list (pe_lst (pa_cons pe_int (pa_cons pe_int (pa_cons (pv 5) pa_nil))))) (pg_name (i := 6) sc_law.nd rfl (Or.inl rfl))
          (pss_one (ps_if (PW.pt (pw_and (pt_not (pt_val (pe_call G_is (hr.mono (show 1 ≤ 6 by decide)) rfl m_is k_is b_is .nil passN (pa_cons (pv 1) pa_nil)))) (pw_and1 (pt_not (PW.pt (pw_and (pt_val (pe_call G_ref hr rfl m_ref k_ref b_ref .nil passN (pa_cons (pv 1) (pa_cons pe_int (pa_cons pe_int pa_nil))))) (pw_and1 (pt_val (pe_call G_ref hr rfl m_ref k_ref b_ref .nil passN (pa_cons (pv 1) (pa_cons pe_int (pa_cons (pv 6) pa_nil))))))))))))
            (pss_one (ps_ret pe_bl))
            pss_nil)))
        (pss_cons (ps_set (i := 7) sc_law.nd rfl (Or.inl rfl) (pe_call G_texts (hr.mono (show 4 ≤ 6 by decide)) rfl m_texts k_texts b_texts .nil passN (pa_cons (pv 4) pa_nil)))
        (pss_cons (ps_set (i := 8) sc_law.nd rfl (Or.inl rfl) (pe_call G_far (hr.mono (show 2 ≤ 6 by decide)) rfl m_far k_far b_far .nil passN (pa_cons (pv 3) pa_nil)))
        (pss_cons (ps_if (PW.pt (pw_or (pt_not (pt_val (pe_call G_ref hr rfl m_ref k_ref b_ref .nil passN (pa_cons (pv 4) (pa_cons pe_int (pa_cons (pe_op op_sub (pe_un un_neg pe_int) (pv 8)) pa_nil)))))) (pw_or1 (pt_not (pt_val (pe_call G_ref hr rfl m_ref k_ref b_ref .nil passN (pa_cons (pv 4) (pa_cons pe_int (pa_cons (pe_op op_add (pv 7) (pv 8)) pa_nil)))))))))
          (pss_one (ps_ret pe_bl))
          pss_nil)
        (pss_one (ps_if (pt_cmpR op_ne (pe_callB call_len_seq rfl B.len PySem.boot_len (pa_cons (pe_call G_tbs (hr.mono (show 5 ≤ 6 by decide)) rfl m_tbs k_tbs b_tbs .nil passN (pa_cons (pv 4) (pa_cons (pe_op op_sub (pv 7) pe_int) pa_nil))) pa_nil)) (pe_callB (call_sum rfl) rfl n_sum boot_sum' (pa_cons (pe_comp (N := ["sign", "times"]) (js := [none, none]) (g := (gTup K 2 (gCons (gName 0) (gCons (gName 1) gNil)))) (tc := tTrue) (te := (tVar 1)) rfl (comp_scope (osc := defScope s_law) (XN := ["script", "some", "k", "pool", "counts", "one", "number", "many", "far"]) rfl rfl rfl (by decide +kernel)) (pi_list (pv 4)) (fun _ _ _ _ => pg_tup rfl (pgs_cons (pg_name (i := 0) (show (["sign", "times"] : List Str).Nodup by decide +kernel) rfl (Or.inl rfl)) (pgs_cons (pg_name (i := 1) (show (["sign", "times"] : List Str).Nodup by decide +kernel) rfl (Or.inl rfl)) pgs_nil))) (fun _ _ _ _ => pif_nil) (fun _ _ _ _ => (pv 1))) pa_nil)) (nomark _))
          (pss_one (ps_ret pe_bl))
          pss_nil)))))))))))
      (pss_one (ps_ret pe_bl)))), ?_⟩
    -- two that are too many
    refine ⟨(by show 2 ≤ sizeLine; decide), fun t1 h1 => ⟨(by show 2 ≤ sizeLine; decide), fun t2 h2 => ⟨(by show 2 ≤ sizeLine; decide), fun t3 h3 => ⟨(by show 3 ≤ sizeLine; decide), fun l1 hl1 => ?_⟩⟩⟩⟩
    have sa := (same_new h1 (.tup [.int 0, .int 399])).trans ((same_new h2 (.tup [.int 1, .int 399])).trans ((same_new h3 (.tup [.int 2, .int 399])).trans (same_new hl1 (.lst [V.ref t1, V.ref t2, V.ref t3]))))
    have pa : Prs (upd (upd (upd (upd H t1 (.tup [.int 0, .int 399])) t2 (.tup [.int 1, .int 399])) t3 (.tup [.int 2, .int 399])) l1 (.lst [V.ref t1, V.ref t2, V.ref t3])) l1 [(t1, 0, 399), (t2, 1, 399), (t3, 2, 399)] := by
      refine ⟨upd_same, fun z hz => ?_⟩
      rcases List.mem_cons.mp hz with e | hz
      · subst e
        exact ((same_new h2 _).trans ((same_new h3 _).trans (same_new hl1 _))) _ _ upd_same
      rcases List.mem_cons.mp hz with e | hz
      · subst e
        exact ((same_new h3 _).trans (same_new hl1 _)) _ _ upd_same
      have : z = (t3, 2, 399) := by simpa using hz
      subst this
      exact (same_new hl1 _) _ _ upd_same
    generalize upd (upd (upd (upd H t1 (.tup [.int 0, .int 399])) t2 (.tup [.int 1, .int 399])) t3 (.tup [.int 2, .int 399])) l1 (.lst [V.ref t1, V.ref t2, V.ref t3]) = Ha at sa pa ⊢
    refine ⟨256, rfl, by decide, by decide, fun D hD => ?_⟩
    refine comp_rngQ (fun j σ' H' => ∃ (x : Option V) (es : List (Addr × Int × Int)), σ' = [x] ∧ Prs H' D es ∧ es.length = j ∧ sumT (es.map (·.2)) = 2 * (j : Int) ∧ Same Ha H')
      ⟨none, [], rfl, ⟨upd_same, (fun _ z => by cases z)⟩, rfl, rfl, same_new hD _⟩ ?_ ?_
    · rintro j σ' H' hj ⟨x, es, rfl, pre, hel, hsum, sm⟩
      refine nameT ?_
      refine ⟨_, rfl, (by show 2 ≤ sizeLine; decide), fun t ht => ?_⟩
      have hj' : j < 256 := hj
      have st := same_new ht (.tup [.int (0 + (j : Int)), .int 2])
      refine ⟨D, _, _, rfl, rfl, st _ _ pre.at_, fits_lt (by rw [List.length_map]; omega), ?_⟩
      refine CW.next hj ⟨_, es ++ [(t, 0 + (j : Int), 2)], rfl, (pre.same st).app upd_same, by rw [List.length_append, hel]; rfl, ?_, same_upd (sm.trans st) _ hD⟩
      rw [List.map_append, sumT_app, hsum]
      show 2 * (j : Int) + sumT [(0 + (j : Int), 2)] = _
      rw [sumT_one]
      omega
    rintro σ' Hb ⟨x, es, rfl, pb, hel, hsum, sb⟩
    have hel' : es.length = 256 := hel
    have hsum' : sumT (es.map (·.2)) = 512 := hsum
    refine ⟨(by show 2 ≤ sizeLine; decide), fun L0 hL0 => ?_⟩
    have sc := same_new hL0 (.lst [V.ref l1, V.ref D])
    have pa2 := (pa.same sb).same sc
    have pb2 := pb.same sc
    have hL1 : upd Hb L0 (.lst [V.ref l1, V.ref D]) L0 = some (.lst [V.ref l1, V.ref D]) := upd_same
    have sA := sa.trans (sb.trans sc)
    generalize upd Hb L0 (.lst [V.ref l1, V.ref D]) = Hc at pa2 pb2 hL1 sA ⊢
    refine ⟨L0, rfl, ⟨_, SqL.of hL1⟩, for_list (K := K) (a := L0) (xs := [V.ref l1, V.ref D]) (fun i σ H' => ∃ (v1 : Option V), σ = [some (.ref a), v1, none, none, none, none, none, none, none] ∧ Same Hc H')
      ⟨none, rfl, Same.refl _⟩ (fun i σ H' _ ⟨_, _, e⟩ => SqL.of (e _ _ hL1)) ?_ ?_⟩
    · rintro i y σ H1 hi ⟨v1, rfl, sm⟩
      obtain ⟨q, qs, rfl, prq, hql, hqf⟩ : ∃ (q : Addr) (qs : List (Addr × Int × Int)), y = V.ref q ∧ Prs Hc q qs ∧ qs.length ≤ 300 ∧ haveT (qs.map (·.2)) = false := by
        have hm := List.mem_of_getElem? hi
        rcases List.mem_cons.mp hm with e | e
        · exact ⟨l1, _, e, pa2, (by show 3 ≤ 300; decide), (by show haveT [(0, 399), (1, 399), (2, 399)] = false; decide)⟩
        · have e' : y = V.ref D := by simpa using e
          refine ⟨D, es, e', pb2, by omega, ?_⟩
          unfold haveT
          rw [decide_eq_false (by omega), Bool.and_false]
      refine ⟨_, rfl, q, qs, 0, 0, rfl, prq.same sm, hql, .inl hqf, fun H2 s2 => ⟨_, rfl, ?_⟩⟩
      refine iteF ?_
      refine ⟨_, rfl, q, qs, 1, 1, rfl, prq.same (sm.trans s2), hql, .inl hqf, fun H3 s3 => ⟨_, rfl, ?_⟩⟩
      refine iteF ?_
      exact ⟨_, rfl, sm.trans (s2.trans s3)⟩
    rintro σ H1 ⟨v1, rfl, s1⟩
    have hS1 := (sA.trans s1).seq hS
    obtain ⟨N, hN1, hN2, hNe⟩ : ∃ N : Nat, 1 ≤ N ∧ N ≤ 63 ∧ ((if (if ((ns.map V.int).length : Int) < 63 then ((ns.map V.int).length : Int) else 63) > 1 then (if ((ns.map V.int).length : Int) < 63 then ((ns.map V.int).length : Int) else 63) else 1) : Int) = (N : Int) := by
      rw [List.length_map]
      refine ⟨(if (if (ns.length : Int) < 63 then (ns.length : Int) else 63) > 1 then (if (ns.length : Int) < 63 then (ns.length : Int) else 63) else 1 : Int).toNat, ?_, ?_, ?_⟩
      all_goals (split <;> (try split) <;> omega)
    refine ⟨_, rfl, a, _, rfl, .inl hS1, _, _, rfl, _, _, rfl, (N : Int), congrArg (fun x => [V.int x]) hNe, by omega, by omega, ?_⟩
    rw [Int.toNat_natCast]
    refine for_range (n := N) (fun i σ H' => ∃ (v1 v2 v3 v4 v5 v6 v7 v8 : Option V), σ = [some (.ref a), v1, v2, v3, v4, v5, v6, v7, v8] ∧ Same H1 H')
      ⟨_, none, none, none, none, none, none, none, rfl, Same.refl _⟩ ?_ ?_
    · rintro i σ H2 hi ⟨v1, v2, v3, v4, v5, v6, v7, v8, rfl, sm⟩
      rw [Int.zero_add]
      have hS2 := sm.seq hS1
      refine ⟨_, rfl, _, rfl, a, ns, i, rfl, hS2, by omega, fun p H3 hp s3 pl => ?_⟩
      have fresh : ∀ {H' : Hp}, Kb p H3 H' → Same H2 H' := fun {H'} k b u e => k b u (fun z => by rw [z, hp] at e; cases e) (s3 b u e)
      refine ⟨_, rfl, (by show 2 ≤ sizeLine; decide), fun l2 hl2 => ?_⟩
      have sl := same_new hl2 (.lst [V.int 30, V.int 400])
      have nl2 : l2 ≠ p := (pl.ne hl2).symm
      refine ⟨_, rfl, p, 434, 32, rfl, pl.same sl, by decide, by decide, by decide, fun r H4 r0 r1 pl4 kb4 => ⟨rfl, .inr ⟨_, rfl, ?_⟩⟩⟩
      obtain ⟨mo, hmo, m0, m4⟩ : ∃ mo : Int, atI [V.int 30, V.int 400] (if decide (V.int r = V.int 0) = true then (1 : Int) else 0) = some (.int mo) ∧ 0 ≤ mo ∧ mo ≤ 400 := by
        cases decide (V.int r = V.int 0)
        · exact ⟨30, rfl, by decide, by decide⟩
        · exact ⟨400, rfl, by decide, by decide⟩
      refine ⟨l2, _, _, _, rfl, rfl, SqL.of (kb4 _ _ nl2 upd_same), hmo, ?_⟩
      refine ⟨p, 434 + 1, mo, rfl, pl4, by decide, m0, m4, fun C zs H5 kb5 pl5 hC prC hri hsu hzl => ?_⟩
      have kb35 := ((Kb.of sl : Kb p H3 _).trans kb4).trans kb5
      refine ⟨_, rfl, _, rfl, C, p, 434 + 1 + 4000, zs, rfl, pl5, by decide, prC, hzl, fun R rs H6 kb6 pl6 prR hrl => ?_⟩
      have prC6 := prC.kb pl5.isD kb6
      have kb36 := kb35.trans kb6
      refine ⟨1, rfl, _, rfl, p, 434 + 1 + 4000 + 10, 9, rfl, pl6, by decide, by decide, by decide, fun x1 H7 x10 x11 pl7 kb7 => ?_⟩
      refine ⟨_, rfl, _, _, rfl, rfl, ⟨by decide, by decide, by decide⟩, p, 434 + 1 + 4000 + 10 + 1, _, rfl, pl7, by decide, by decide, by decide, fun x2 H8 x20 x21 pl8 kb8 => ?_⟩
      refine ⟨(by show 5 ≤ sizeLine; decide), fun l3 hl3 => ?_⟩
      have sl3 := same_new hl3 (.lst [V.int 0, V.int 1, V.int (-1), V.int x1, V.int x2])
      have nl3 : l3 ≠ p := (pl8.ne hl3).symm
      refine ⟨_, rfl, p, 434 + 1 + 4000 + 10 + 1 + 1, 5, rfl, pl8.same sl3, by decide, by decide, by decide, fun ix H9 i0 i1 pl9 kb9 => ?_⟩
      obtain ⟨on, hon⟩ : ∃ on : Int, atI [V.int 0, V.int 1, V.int (-1), V.int x1, V.int x2] ix = some (.int on) := by
        have hr : ix = 0 ∨ ix = 1 ∨ ix = 2 ∨ ix = 3 ∨ ix = 4 := by omega
        rcases hr with rfl | rfl | rfl | rfl | rfl
        · exact ⟨_, rfl⟩
        · exact ⟨_, rfl⟩
        · exact ⟨_, rfl⟩
        · exact ⟨_, rfl⟩
        · exact ⟨_, rfl⟩
      refine ⟨l3, _, _, _, rfl, rfl, SqL.of (kb9 _ _ nl3 upd_same), hon, ?_⟩
      have kb69 := ((kb7.trans kb8).trans (Kb.of sl3)).trans kb9
      have prR9 := prR.kb pl6.isD kb69
      have prC9 := prC6.kb pl6.isD kb69
      have s29 := fresh (kb36.trans kb69)
      refine ⟨_, rfl, (by show 3 ≤ sizeLine; decide), fun L2 hL2 => ?_⟩
      have sL := same_new hL2 (.lst [V.int 0, V.int 1, V.int on])
      have hL3 : upd H9 L2 (.lst [V.int 0, V.int 1, V.int on]) L2 = some (lsI [0, 1, on]) := upd_same
      have pl10 := pl9.same sL
      have prR10 := prR9.same sL
      have prC10 := prC9.same sL
      have s210 := s29.trans sL
      generalize upd H9 L2 (.lst [V.int 0, V.int 1, V.int on]) = H10 at hL3 pl10 prR10 prC10 s210 ⊢
      refine ⟨L2, rfl, ⟨_, SqL.of hL3⟩, for_list (K := K) (a := L2) (xs := [0, 1, on].map V.int) (fun j σ H' => ∃ (v6 : Option V), σ = [some (.ref a), some (.ref R), some (.int (i : Int)), some (.ref p), some (.ref C), some (.int on), v6, v7, v8] ∧ Same H10 H')
        ⟨_, rfl, Same.refl _⟩ (fun j σ H' _ ⟨_, _, e⟩ => SqL.of (e _ _ hL3)) ?_ ?_⟩
      · rintro j y σ H11 hj ⟨v6, rfl, sm11⟩
        obtain ⟨nu, rfl, hnu⟩ := int_at hj
        refine ⟨_, rfl, R, rs, rfl, prR10.same sm11, hrl, fun H12 s12 => ⟨_, rfl, ?_⟩⟩
        have sm12 := sm11.trans s12
        cases hv : haveT (rs.map (·.2)) with
        | true =>
          refine iteF (iteF ?_)
          exact ⟨_, rfl, sm12⟩
        | false =>
          refine iteT ?_
          refine ⟨_, rfl, R, rs, 0, 0, rfl, prR10.same sm12, hrl, .inl hv, fun H13 s13 => ⟨_, rfl, ?_⟩⟩
          refine iteT ?_
          refine ⟨_, rfl, _, rfl, R, rs, 1, nu, rfl, prR10.same (sm12.trans s13), hrl, .inl hv, fun H14 s14 => ⟨_, rfl, ?_⟩⟩
          refine iteF ?_
          exact ⟨_, rfl, sm12.trans (s13.trans s14)⟩
      rintro σ H11 ⟨v6, rfl, sm11⟩
      have hhave : haveT (zs.map (·.2)) = true := by
        unfold haveT
        rw [areC_of hri, decide_eq_true (by omega)]; rfl
      have hzl3 : zs.length ≤ 300 := by omega
      refine ⟨_, rfl, C, zs, rfl, prC10.same sm11, hzl3, (fun z => by rw [hhave] at z; cases z), fun _ H12 s12 => ?_⟩
      have sm12 := sm11.trans s12
      have hMp : 1 ≤ mlt 1 0 (tms (zs.map (·.2))) := by rw [← tx_flat hri]; exact tx_pos _
      generalize hM : mlt 1 0 (tms (zs.map (·.2))) = M at hMp
      refine ⟨_, rfl, p, 434 + 1 + 4000 + 10 + 1 + 1 + 1, rfl, pl10.same sm12, by decide, fun fr H13 f0 pl13 kb13 => ?_⟩
      have prC13 := (prC10.same sm12).kb (pl10.same sm12).isD kb13
      have s13 : Same H2 H13 := fun b u e => kb13 b u (fun z => by rw [z, hp] at e; cases e) (sm12 _ _ (s210 b u e))
      refine ⟨_, rfl, 1, rfl, _, rfl, _, _, rfl, rfl, C, zs, 1, -1 - fr, rfl, prC13, hzl3, .inr ⟨rfl, .inl (by omega)⟩, fun H14 s14 => ⟨_, rfl, ?_⟩⟩
      refine iteF ?_
      refine ⟨_, rfl, _, rfl, _, rfl, _, _, rfl, rfl, C, zs, 1, (M : Int) + fr, rfl, prC13.same s14, hzl3, .inr ⟨rfl, .inr (by rw [hM]; omega)⟩, fun H15 s15 => ⟨_, rfl, ?_⟩⟩
      refine iteF ?_
      have prC15 := prC13.same (s14.trans s15)
      refine ⟨_, rfl, _, rfl, _, _, rfl, rfl, C, zs, (M : Int) - 1, rfl, prC15, hzl3, ?_, fun _ _ _ T ts H16 s16 hT hT6 htl => ?_⟩
      · rintro (h | h | h)
        · rw [hhave] at h; cases h
        · omega
        · rw [hM] at h; omega
      have prC16 := prC15.same s16
      have hSn := sumT_nat hri.ge
      generalize hcs : zs.map (·.2) = cs at hSn htl
      have hcl : cs.length = zs.length := by rw [← hcs, List.length_map]
      refine ⟨T, _, rfl, .inl (SqL.of hT6), _, rfl, C, rfl, ⟨_, SqL.of prC16.at_⟩, fun D2 hD2 => ?_⟩
      refine comp_lstQ (K := K) (a := C) (xs := zs.map fun z => V.ref z.1) (fun i σ' H' => ∃ (x y : Option V) (ls : List Int), σ' = [x, y] ∧ H' D2 = some (lsI ls) ∧ ls = (cs.take i).map (·.2) ∧ Same H16 H')
        ⟨none, none, [], rfl, upd_same, by rw [List.take_zero]; rfl, same_new hD2 _⟩ (fun i σ' H' _ ⟨_, _, _, _, _, _, e⟩ => SqL.of (e _ _ prC16.at_)) ?_ ?_
      · rintro i v σ' H' hi ⟨x, y, ls, rfl, hB, hls, sm⟩
        obtain ⟨z, hz, rfl⟩ := ref_at hi
        have hlt : i < (zs.map fun z => V.ref z.1).length := (List.getElem?_eq_some_iff.mp hi).1
        have hck : cs[i]? = some z.2 := by rw [← hcs, List.getElem?_map, hz]; rfl
        have hbl : ls.length ≤ i := by rw [hls, List.length_map, List.length_take]; omega
        refine ⟨z.1, _, rfl, SqT.of (sm _ _ (prC16.each z (List.mem_of_getElem? hz))), rfl, _, _, rfl, _, _, rfl, rfl, ?_⟩
        refine trueT ?_
        refine ⟨_, rfl, D2, _, _, rfl, rfl, hB, fits_lt (by rw [List.length_map]; rw [List.length_map] at hlt; omega), ?_⟩
        refine CW.next hlt ⟨_, _, ls ++ [z.2.2], rfl, by rw [upd_same]; unfold lsI; rw [List.map_append]; rfl, ?_, same_upd sm _ hD2⟩
        rw [hls, take_at hck, List.map_append]
        rfl
      rintro σ' H17 ⟨x, y, ls, rfl, hB, hls, s17⟩
      rw [List.length_map, ← hcl, List.take_length] at hls
      refine ⟨D2, ls, rfl, SqL.of hB, rfl, _, rfl, ?_⟩
      refine iteNS ?_ ?_
      · show V.int (((ts.map V.int).length : Nat) : Int) = V.int ls.sum
        rw [List.length_map, htl, hls]
        exact congrArg V.int hSn.symm
      · exact ⟨_, _, _, _, _, _, _, _, rfl, sm.trans (s13.trans (s14.trans (s15.trans (s16.trans s17))))⟩
    · rintro σ H2 ⟨v1, v2, v3, v4, v5, v6, v7, v8, rfl, sm⟩
      exact q _
end
end K51
set_option Elab.async false
set_option linter.all false
set_option maxRecDepth 100000
set_option maxHeartbeats 4000000
namespace K51
open PySem L2 PySem.W PH
section
theorem all_mk {l : PySem.W.OpenLaw} {w : World} {K : PySem.W.Frag} {h : Heap} {mg : Str → Option Value} {fa f1 f2 f3 f4 f5 f6 f7 f8 f9 f10 f11 f12 f13 f14 f15 f16 f17 c_PackError c_Broken c_NoCode c_NoName c_NoNumber c_NoPlace c_NoRow c_NoText : Addr} (X : K.In h) (G : h.Ns mainGlobals mg) (hfa : mg "law" = some (.ref fa))
    {od1 an1 od2 an2 od3 an3 od4 an4 od5 an5 od6 an6 od7 an7 od8 an8 od9 an9 od10 an10 od11 an11 od12 an12 od13 an13 od14 an14 od15 an15 od16 an16 od17 an17 : Option Addr} {sl1 sl2 sl3 sl4 sl5 sl6 sl7 sl8 sl9 sl10 sl11 sl12 sl13 sl14 sl15 sl16 sl17 : Array (Option Value)} {oc1 kV1 dc1 pm1 cd1 ct1 oc2 kV2 dc2 pm2 cd2 ct2 oc3 kV3 dc3 pm3 cd3 ct3 oc4 kV4 dc4 pm4 cd4 ct4 oc5 kV5 dc5 pm5 cd5 ct5 oc6 kV6 dc6 pm6 cd6 ct6 oc7 kV7 dc7 pm7 cd7 ct7 oc8 kV8 dc8 pm8 cd8 ct8 oc9 kV9 dc9 pm9 cd9 ct9 oc10 kV10 dc10 pm10 cd10 ct10 oc11 kV11 dc11 pm11 cd11 ct11 oc12 kV12 dc12 pm12 cd12 ct12 oc13 kV13 dc13 pm13 cd13 ct13 oc14 kV14 dc14 pm14 cd14 ct14 oc15 kV15 dc15 pm15 cd15 ct15 oc16 kV16 dc16 pm16 cd16 ct16 oc17 kV17 dc17 pm17 cd17 ct17 : Value}
    {tk_LAST_SIGN tk_MOST_SIGNS : Tok}
    (a1 : PySem.W.nsIn K mainGlobals "is_whole" = some (some (.ref f1))) (l1 : K.lookup f1 = some ⟨oc1, od1, .func (PySem.W.fnOf "is_whole" "is_whole" (defArgs s_whole) (defBody s_whole) (defScope s_whole) .none kV1 dc1 pm1 an1 cd1 ct1), sl1⟩) (cc1 : PySem.W.codeIn K cd1 "is_whole" = true) (k1 : PySem.W.keepIn K (.ref f1) = true)
    (a2 : PySem.W.nsIn K mainGlobals "signs_rise" = some (some (.ref f2))) (l2 : K.lookup f2 = some ⟨oc2, od2, .func (PySem.W.fnOf "signs_rise" "signs_rise" (defArgs s_rise) (defBody s_rise) (defScope s_rise) .none kV2 dc2 pm2 an2 cd2 ct2), sl2⟩) (cc2 : PySem.W.codeIn K cd2 "signs_rise" = true) (k2 : PySem.W.keepIn K (.ref f2) = true)
    (a3 : PySem.W.nsIn K mainGlobals "are_counts" = some (some (.ref f3))) (l3 : K.lookup f3 = some ⟨oc3, od3, .func (PySem.W.fnOf "are_counts" "are_counts" (defArgs s_arec) (defBody s_arec) (defScope s_arec) .none kV3 dc3 pm3 an3 cd3 ct3), sl3⟩) (cc3 : PySem.W.codeIn K cd3 "are_counts" = true) (k3 : PySem.W.keepIn K (.ref f3) = true)
    (a4 : PySem.W.nsIn K mainGlobals "is_pair" = some (some (.ref f4))) (l4 : K.lookup f4 = some ⟨oc4, od4, .func (PySem.W.fnOf "is_pair" "is_pair" (defArgs s_pair) (defBody s_pair) (defScope s_pair) .none kV4 dc4 pm4 an4 cd4 ct4), sl4⟩) (cc4 : PySem.W.codeIn K cd4 "is_pair" = true) (k4 : PySem.W.keepIn K (.ref f4) = true)
    (a5 : PySem.W.nsIn K mainGlobals "have_texts" = some (some (.ref f5))) (l5 : K.lookup f5 = some ⟨oc5, od5, .func (PySem.W.fnOf "have_texts" "have_texts" (defArgs s_have) (defBody s_have) (defScope s_have) .none kV5 dc5 pm5 an5 cd5 ct5), sl5⟩) (cc5 : PySem.W.codeIn K cd5 "have_texts" = true) (k5 : PySem.W.keepIn K (.ref f5) = true)
    (a6 : PySem.W.nsIn K mainGlobals "orders_of" = some (some (.ref f6))) (l6 : K.lookup f6 = some ⟨oc6, od6, .func (PySem.W.fnOf "orders_of" "orders_of" (defArgs s_orders) (defBody s_orders) (defScope s_orders) .none kV6 dc6 pm6 an6 cd6 ct6), sl6⟩) (cc6 : PySem.W.codeIn K cd6 "orders_of" = true) (k6 : PySem.W.keepIn K (.ref f6) = true)
    (a7 : PySem.W.nsIn K mainGlobals "texts_with" = some (some (.ref f7))) (l7 : K.lookup f7 = some ⟨oc7, od7, .func (PySem.W.fnOf "texts_with" "texts_with" (defArgs s_texts) (defBody s_texts) (defScope s_texts) .none kV7 dc7 pm7 an7 cd7 ct7), sl7⟩) (cc7 : PySem.W.codeIn K cd7 "texts_with" = true) (k7 : PySem.W.keepIn K (.ref f7) = true)
    (a8 : PySem.W.nsIn K mainGlobals "signs_in_order" = some (some (.ref f8))) (l8 : K.lookup f8 = some ⟨oc8, od8, .func (PySem.W.fnOf "signs_in_order" "signs_in_order" (defArgs s_inord) (defBody s_inord) (defScope s_inord) .none kV8 dc8 pm8 an8 cd8 ct8), sl8⟩) (cc8 : PySem.W.codeIn K cd8 "signs_in_order" = true) (k8 : PySem.W.keepIn K (.ref f8) = true)
    (a9 : PySem.W.nsIn K mainGlobals "text_by_share" = some (some (.ref f9))) (l9 : K.lookup f9 = some ⟨oc9, od9, .func (PySem.W.fnOf "text_by_share" "text_by_share" (defArgs s_tbs) (defBody s_tbs) (defScope s_tbs) .none kV9 dc9 pm9 an9 cd9 ct9), sl9⟩) (cc9 : PySem.W.codeIn K cd9 "text_by_share" = true) (k9 : PySem.W.keepIn K (.ref f9) = true)
    (a10 : PySem.W.nsIn K mainGlobals "_law_pool" = some (some (.ref f10))) (l10 : K.lookup f10 = some ⟨oc10, od10, .func (PySem.W.fnOf "_law_pool" "_law_pool" (defArgs s_pool) (defBody s_pool) (defScope s_pool) .none kV10 dc10 pm10 an10 cd10 ct10), sl10⟩) (cc10 : PySem.W.codeIn K cd10 "_law_pool" = true) (k10 : PySem.W.keepIn K (.ref f10) = true)
    (a11 : PySem.W.nsIn K mainGlobals "_law_take" = some (some (.ref f11))) (l11 : K.lookup f11 = some ⟨oc11, od11, .func (PySem.W.fnOf "_law_take" "_law_take" (defArgs s_take) (defBody s_take) (defScope s_take) .none kV11 dc11 pm11 an11 cd11 ct11), sl11⟩) (cc11 : PySem.W.codeIn K cd11 "_law_take" = true) (k11 : PySem.W.keepIn K (.ref f11) = true)
    (a12 : PySem.W.nsIn K mainGlobals "_law_counts" = some (some (.ref f12))) (l12 : K.lookup f12 = some ⟨oc12, od12, .func (PySem.W.fnOf "_law_counts" "_law_counts" (defArgs s_lcnt) (defBody s_lcnt) (defScope s_lcnt) .none kV12 dc12 pm12 an12 cd12 ct12), sl12⟩) (cc12 : PySem.W.codeIn K cd12 "_law_counts" = true) (k12 : PySem.W.keepIn K (.ref f12) = true)
    (a13 : PySem.W.nsIn K mainGlobals "_law_far" = some (some (.ref f13))) (l13 : K.lookup f13 = some ⟨oc13, od13, .func (PySem.W.fnOf "_law_far" "_law_far" (defArgs s_far) (defBody s_far) (defScope s_far) .none kV13 dc13 pm13 an13 cd13 ct13), sl13⟩) (cc13 : PySem.W.codeIn K cd13 "_law_far" = true) (k13 : PySem.W.keepIn K (.ref f13) = true)
    (a14 : PySem.W.nsIn K mainGlobals "_law_spoilt" = some (some (.ref f14))) (l14 : K.lookup f14 = some ⟨oc14, od14, .func (PySem.W.fnOf "_law_spoilt" "_law_spoilt" (defArgs s_spoilt) (defBody s_spoilt) (defScope s_spoilt) .none kV14 dc14 pm14 an14 cd14 ct14), sl14⟩) (cc14 : PySem.W.codeIn K cd14 "_law_spoilt" = true) (k14 : PySem.W.keepIn K (.ref f14) = true)
    (a15 : PySem.W.nsIn K mainGlobals "_law_is" = some (some (.ref f15))) (l15 : K.lookup f15 = some ⟨oc15, od15, .func (PySem.W.fnOf "_law_is" "_law_is" (defArgs s_is) (defBody s_is) (defScope s_is) .none kV15 dc15 pm15 an15 cd15 ct15), sl15⟩) (cc15 : PySem.W.codeIn K cd15 "_law_is" = true) (k15 : PySem.W.keepIn K (.ref f15) = true)
    (a16 : PySem.W.nsIn K mainGlobals "_law_refused" = some (some (.ref f16))) (l16 : K.lookup f16 = some ⟨oc16, od16, .func (PySem.W.fnOf "_law_refused" "_law_refused" (defArgs s_ref) (defBody s_ref) (defScope s_ref) .none kV16 dc16 pm16 an16 cd16 ct16), sl16⟩) (cc16 : PySem.W.codeIn K cd16 "_law_refused" = true) (k16 : PySem.W.keepIn K (.ref f16) = true)
    (a17 : PySem.W.nsIn K mainGlobals "law" = some (some (.ref f17))) (l17 : K.lookup f17 = some ⟨oc17, od17, .func (PySem.W.fnOf "law" "law" (defArgs s_law) (defBody s_law) (defScope s_law) .none kV17 dc17 pm17 an17 cd17 ct17), sl17⟩) (cc17 : PySem.W.codeIn K cd17 "law" = true) (k17 : PySem.W.keepIn K (.ref f17) = true)
    (z_isinstance : PySem.W.nsIn K mainGlobals "isinstance" = some none)
    (z_list : PySem.W.nsIn K mainGlobals "list" = some none)
    (z_int : PySem.W.nsIn K mainGlobals "int" = some none)
    (z_bool : PySem.W.nsIn K mainGlobals "bool" = some none)
    (z_len : PySem.W.nsIn K mainGlobals "len" = some none)
    (z_range : PySem.W.nsIn K mainGlobals "range" = some none)
    (z_max : PySem.W.nsIn K mainGlobals "max" = some none)
    (z_ValueError : PySem.W.nsIn K mainGlobals "ValueError" = some none)
    (z_tuple : PySem.W.nsIn K mainGlobals "tuple" = some none)
    (z_min : PySem.W.nsIn K mainGlobals "min" = some none)
    (z_sorted : PySem.W.nsIn K mainGlobals "sorted" = some none)
    (z_all : PySem.W.nsIn K mainGlobals "all" = some none)
    (z_dict : PySem.W.nsIn K mainGlobals "dict" = some none)
    (z_sum : PySem.W.nsIn K mainGlobals "sum" = some none)
    (z_enumerate : PySem.W.nsIn K mainGlobals "enumerate" = some none)
    (e_PackError : PySem.W.nsIn K mainGlobals "PackError" = some (some (.ref c_PackError)))
    (x0_PackError : PySem.W.excIn K c_PackError bmV "ValueError.__new__" = true) (x1_PackError : PySem.W.findIn K (.ref c_PackError) "__getattribute__" = some (some (.builtin "BaseException.__getattribute__"))) (x2_PackError : PySem.W.findIn K (.ref c_PackError) "__getattr__" = some none) (x3_PackError : PySem.W.findIn K (.ref c_PackError) "__class__" = some (some (.builtin "object.__class__"))) (x4_PackError : PySem.W.mroIn K c_PackError (.type "object") = some true) (x5_PackError : PySem.W.mroIn K c_PackError (.type "BaseException") = some true) (x6_PackError : PySem.W.typeIn K (.ref c_PackError) = some (.type "type"))
    (e_Broken : PySem.W.nsIn K mainGlobals "Broken" = some (some (.ref c_Broken)))
    (x0_Broken : PySem.W.excIn K c_Broken bmV "ValueError.__new__" = true) (x1_Broken : PySem.W.findIn K (.ref c_Broken) "__getattribute__" = some (some (.builtin "BaseException.__getattribute__"))) (x2_Broken : PySem.W.findIn K (.ref c_Broken) "__getattr__" = some none) (x3_Broken : PySem.W.findIn K (.ref c_Broken) "__class__" = some (some (.builtin "object.__class__"))) (x4_Broken : PySem.W.mroIn K c_Broken (.type "object") = some true) (x5_Broken : PySem.W.mroIn K c_Broken (.type "BaseException") = some true) (x6_Broken : PySem.W.typeIn K (.ref c_Broken) = some (.type "type"))
    (e_NoCode : PySem.W.nsIn K mainGlobals "NoCode" = some (some (.ref c_NoCode)))
    (e_NoName : PySem.W.nsIn K mainGlobals "NoName" = some (some (.ref c_NoName)))
    (e_NoNumber : PySem.W.nsIn K mainGlobals "NoNumber" = some (some (.ref c_NoNumber)))
    (e_NoPlace : PySem.W.nsIn K mainGlobals "NoPlace" = some (some (.ref c_NoPlace)))
    (e_NoRow : PySem.W.nsIn K mainGlobals "NoRow" = some (some (.ref c_NoRow)))
    (e_NoText : PySem.W.nsIn K mainGlobals "NoText" = some (some (.ref c_NoText)))
    (xm_Broken : PySem.W.mroIn K c_Broken (.ref c_PackError) = some true)
    (xv_Broken : PySem.W.kitOne K (.ref c_Broken) (.type "ValueError") = some true)
    (xo_Broken : PySem.W.kitAny K (.ref c_Broken) [.ref c_NoCode, .ref c_NoName, .ref c_NoNumber, .ref c_NoPlace, .ref c_NoRow, .ref c_NoText] = some false)
    (xk_Broken_NoNumber : PySem.W.kitOne K (.ref c_Broken) (.ref c_NoNumber) = some false)
    (xk_Broken_NoPlace : PySem.W.kitOne K (.ref c_Broken) (.ref c_NoPlace) = some false)
    (xk_Broken_NoCode : PySem.W.kitOne K (.ref c_Broken) (.ref c_NoCode) = some false)
    (xk_Broken_NoName : PySem.W.kitOne K (.ref c_Broken) (.ref c_NoName) = some false)
    (xk_Broken_NoRow : PySem.W.kitOne K (.ref c_Broken) (.ref c_NoRow) = some false)
    (xk_Broken_NoText : PySem.W.kitOne K (.ref c_Broken) (.ref c_NoText) = some false)
    (g_LAST_SIGN : PySem.W.nsIn K mainGlobals "LAST_SIGN" = some (some (.int 255 tk_LAST_SIGN)))
    (g_MOST_SIGNS : PySem.W.nsIn K mainGlobals "MOST_SIGNS" = some (some (.int 400 tk_MOST_SIGNS)))
    : ∃ fd : FuncData, (∀ (s : Shared) (v : Value), BindsTo s fd ⟨[v], []⟩ [("script", v)]) ∧ ∀ base : Heap, K.In base → base.Ns mainGlobals mg → FnOk l.prog w K mg base (CXW l.prog w) 7 fa fd ["script"] (spLaw K) := by
  have e := hfa.symm.trans (PySem.W.mg_of X G a17)
  cases e
  have F1 := fun_mk (st := s_whole) l1 cc1 k1
  have b1 := F1.binds (ps := ["thing"]) fun _ _ _ _ _ _ us hl => match us, hl with | [_], _ => rfl
  have m1 := PySem.W.mg_of X G a1
  have F2 := fun_mk (st := s_rise) l2 cc2 k2
  have b2 := F2.binds (ps := ["pairs"]) fun _ _ _ _ _ _ us hl => match us, hl with | [_], _ => rfl
  have m2 := PySem.W.mg_of X G a2
  have F3 := fun_mk (st := s_arec) l3 cc3 k3
  have b3 := F3.binds (ps := ["counts"]) fun _ _ _ _ _ _ us hl => match us, hl with | [_], _ => rfl
  have m3 := PySem.W.mg_of X G a3
  have F4 := fun_mk (st := s_pair) l4 cc4 k4
  have b4 := F4.binds (ps := ["thing"]) fun _ _ _ _ _ _ us hl => match us, hl with | [_], _ => rfl
  have m4 := PySem.W.mg_of X G a4
  have F5 := fun_mk (st := s_have) l5 cc5 k5
  have b5 := F5.binds (ps := ["counts"]) fun _ _ _ _ _ _ us hl => match us, hl with | [_], _ => rfl
  have m5 := PySem.W.mg_of X G a5
  have F6 := fun_mk (st := s_orders) l6 cc6 k6
  have b6 := F6.binds (ps := ["counts"]) fun _ _ _ _ _ _ us hl => match us, hl with | [_], _ => rfl
  have m6 := PySem.W.mg_of X G a6
  have F7 := fun_mk (st := s_texts) l7 cc7 k7
  have b7 := F7.binds (ps := ["counts"]) fun _ _ _ _ _ _ us hl => match us, hl with | [_], _ => rfl
  have m7 := PySem.W.mg_of X G a7
  have F8 := fun_mk (st := s_inord) l8 cc8 k8
  have b8 := F8.binds (ps := ["counts"]) fun _ _ _ _ _ _ us hl => match us, hl with | [_], _ => rfl
  have m8 := PySem.W.mg_of X G a8
  have F9 := fun_mk (st := s_tbs) l9 cc9 k9
  have b9 := F9.binds (ps := ["counts", "number"]) fun _ _ _ _ _ _ us hl => match us, hl with | [_, _], _ => rfl
  have m9 := PySem.W.mg_of X G a9
  have F10 := fun_mk (st := s_pool) l10 cc10 k10
  have b10 := F10.binds (ps := ["script", "k"]) fun _ _ _ _ _ _ us hl => match us, hl with | [_, _], _ => rfl
  have m10 := PySem.W.mg_of X G a10
  have F11 := fun_mk (st := s_take) l11 cc11 k11
  have b11 := F11.binds (ps := ["pool", "many"]) fun _ _ _ _ _ _ us hl => match us, hl with | [_, _], _ => rfl
  have m11 := PySem.W.mg_of X G a11
  have F12 := fun_mk (st := s_lcnt) l12 cc12 k12
  have b12 := F12.binds (ps := ["pool", "most"]) fun _ _ _ _ _ _ us hl => match us, hl with | [_, _], _ => rfl
  have m12 := PySem.W.mg_of X G a12
  have F13 := fun_mk (st := s_far) l13 cc13 k13
  have b13 := F13.binds (ps := ["pool"]) fun _ _ _ _ _ _ us hl => match us, hl with | [_], _ => rfl
  have m13 := PySem.W.mg_of X G a13
  have F14 := fun_mk (st := s_spoilt) l14 cc14 k14
  have b14 := F14.binds (ps := ["counts", "pool"]) fun _ _ _ _ _ _ us hl => match us, hl with | [_, _], _ => rfl
  have m14 := PySem.W.mg_of X G a14
  have F15 := fun_mk (st := s_is) l15 cc15 k15
  have b15 := F15.binds (ps := ["counts"]) fun _ _ _ _ _ _ us hl => match us, hl with | [_], _ => rfl
  have m15 := PySem.W.mg_of X G a15
  have F16 := fun_mk (st := s_ref) l16 cc16 k16
  have b16 := F16.binds (ps := ["counts", "way", "number"]) fun _ _ _ _ _ _ us hl => match us, hl with | [_, _, _], _ => rfl
  have m16 := PySem.W.mg_of X G a16
  have F17 := fun_mk (st := s_law) l17 cc17 k17
  have n_isinstance := PySem.W.mg_none_of X G z_isinstance
  have n_list := PySem.W.mg_none_of X G z_list
  have n_int := PySem.W.mg_none_of X G z_int
  have n_bool := PySem.W.mg_none_of X G z_bool
  have n_len := PySem.W.mg_none_of X G z_len
  have n_range := PySem.W.mg_none_of X G z_range
  have n_max := PySem.W.mg_none_of X G z_max
  have n_ValueError := PySem.W.mg_none_of X G z_ValueError
  have n_tuple := PySem.W.mg_none_of X G z_tuple
  have n_min := PySem.W.mg_none_of X G z_min
  have n_sorted := PySem.W.mg_none_of X G z_sorted
  have n_all := PySem.W.mg_none_of X G z_all
  have n_dict := PySem.W.mg_none_of X G z_dict
  have n_sum := PySem.W.mg_none_of X G z_sum
  have n_enumerate := PySem.W.mg_none_of X G z_enumerate
  have m_PackError := PySem.W.mg_of X G e_PackError
  have X_PackError : Ex K mg "PackError" c_PackError := ⟨m_PackError, x0_PackError, ⟨x1_PackError, x2_PackError, x3_PackError, x4_PackError, x5_PackError, x6_PackError⟩⟩
  have m_Broken := PySem.W.mg_of X G e_Broken
  have X_Broken : Ex K mg "Broken" c_Broken := ⟨m_Broken, x0_Broken, ⟨x1_Broken, x2_Broken, x3_Broken, x4_Broken, x5_Broken, x6_Broken⟩⟩
  have m_NoCode := PySem.W.mg_of X G e_NoCode
  have m_NoName := PySem.W.mg_of X G e_NoName
  have m_NoNumber := PySem.W.mg_of X G e_NoNumber
  have m_NoPlace := PySem.W.mg_of X G e_NoPlace
  have m_NoRow := PySem.W.mg_of X G e_NoRow
  have m_NoText := PySem.W.mg_of X G e_NoText
  refine ⟨PySem.W.fnOf "law" "law" (defArgs s_law) (defBody s_law) (defScope s_law) .none kV17 dc17 pm17 an17 cd17 ct17, fun s v => .of_eq rfl, fun base _ _ => ?_⟩
  have m_MS : MS mg := ⟨_, PySem.W.mg_of X G g_MOST_SIGNS, ⟨_, rfl⟩⟩
  have m_LS : LS mg := ⟨_, PySem.W.mg_of X G g_LAST_SIGN, ⟨_, rfl⟩⟩
  have B : Bls mg := ⟨n_isinstance, n_list, n_int, n_bool, n_len, n_range, n_max, n_ValueError, n_tuple, n_min, n_sorted, n_all, n_dict⟩
  have r_Broken : ExR K c_PackError c_Broken c_NoCode c_NoName c_NoNumber c_NoPlace c_NoRow c_NoText := ⟨xm_Broken, xv_Broken, xo_Broken⟩
  have k_Broken : ExK K c_Broken c_NoNumber c_NoPlace c_NoCode c_NoName c_NoRow c_NoText := ⟨xk_Broken_NoNumber, xk_Broken_NoPlace, xk_Broken_NoCode, xk_Broken_NoName, xk_Broken_NoRow, xk_Broken_NoText⟩
  have G_whole := ok_whole (P := l.prog) (w := w) (mg := mg) (base := base) F1 B
  have G_rise := ok_rise (P := l.prog) (w := w) (mg := mg) (base := base) F2 B m_LS
  have G_arec := ok_arec (P := l.prog) (w := w) (mg := mg) (base := base) F3 B G_rise b2 k2 m2
  have G_pair := ok_pair (P := l.prog) (w := w) (mg := mg) (base := base) F4 B G_whole b1 k1 m1
  have G_have := ok_have (P := l.prog) (w := w) (mg := mg) (base := base) F5 B m_MS n_sum G_arec b3 k3 m3 G_pair b4 k4 m4
  have G_orders := ok_orders (P := l.prog) (w := w) (mg := mg) (base := base) F6 B
  have G_texts := ok_texts (P := l.prog) (w := w) (mg := mg) (base := base) F7 B X_Broken m_Broken G_have b5 k5 m5 G_orders b6 k6 m6
  have G_inord := ok_inord (P := l.prog) (w := w) (mg := mg) (base := base) F8 B
  have G_tbs := ok_tbs (P := l.prog) (w := w) (mg := mg) (base := base) F9 B X_Broken m_Broken G_whole b1 k1 m1 G_texts b7 k7 m7 G_inord b8 k8 m8
  have G_pool := ok_pool (P := l.prog) (w := w) (mg := mg) (base := base) F10 B
  have G_take := ok_take (P := l.prog) (w := w) (mg := mg) (base := base) F11 B
  have G_lcnt := ok_lcnt (P := l.prog) (w := w) (mg := mg) (base := base) F12 B G_take b11 k11 m11
  have G_far := ok_far (P := l.prog) (w := w) (mg := mg) (base := base) F13 B G_take b11 k11 m11
  have G_spoilt := ok_spoilt (P := l.prog) (w := w) (mg := mg) (base := base) F14 B n_sum G_take b11 k11 m11 G_far b13 k13 m13
  have G_is := ok_is (P := l.prog) (w := w) (mg := mg) (base := base) F15 B n_enumerate n_sum
  have G_ref := ok_ref (P := l.prog) (w := w) (mg := mg) (base := base) F16 B X_Broken X_PackError m_Broken m_NoCode m_NoName m_NoNumber m_NoPlace m_NoRow m_NoText m_PackError r_Broken k_Broken G_texts b7 k7 m7 G_tbs b9 k9 m9
  exact ok_law (P := l.prog) (w := w) (mg := mg) (base := base) F17 B n_sum G_texts b7 k7 m7 G_tbs b9 k9 m9 G_pool b10 k10 m10 G_take b11 k11 m11 G_lcnt b12 k12 m12 G_far b13 k13 m13 G_spoilt b14 k14 m14 G_is b15 k15 m15 G_ref b16 k16 m16
theorem walk {l : PySem.W.OpenLaw} {q : Program} {loose : List Str} {XP : (Str → Option Value) → Heap → Prop} {YP : World → Heap → Prop} {d : DefRec} {K : Params → PySem.W.Frag} (hn : l.most = some 63) (hdf : d.params.defaults = [])
    (hY : ∀ (w : World) (h : Heap), YP w h → (K w.params).In h)
    (F : ∀ (w : World) (mg : Str → Option Value) (fa : Addr) (h : Heap), (K w.params).In h → h.Ns mainGlobals mg → mg d.name = some (.ref fa) →
      ∃ fd : FuncData, (∀ (s : Shared) (u : Value), BindsTo s fd ⟨[u], []⟩ [("script", u)]) ∧ ∀ base : Heap, (K w.params).In base → base.Ns mainGlobals mg → FnOk l.prog w (K w.params) mg base (CXW l.prog w) 7 fa fd ["script"] (spLaw (K w.params))) :
    PySem.W.WalkO q loose XP YP l.row.toRowW d [] (fun f vs => PySem.call f vs) :=
  L2.walk_of (n := 63) (k := 7) (x := "script") (CX := fun w => CXW l.prog w) (sp := fun w => spLaw (K w.params)) hn (by decide) hdf ⟨rfl, by decide, by decide⟩ hY F (fun _ _ a ns hl _ hS => ⟨a, ns, rfl, hS, hl, fun _ => rfl⟩) fun _ _ _ _ _ z => by
    obtain ⟨_, _, _, _, _, _, _, _, _, _, _, _, _, hE⟩ := z
    exact hE
end
end K51
open PySem PySem.W PyProof.Rows
set_option maxRecDepth 100000 in
set_option maxHeartbeats 0 in
theorem PySem.Challenge.cw_packhall_k51_no_counts_or_number_holds : PySem.Challenge.rw_packhall_k51_no_counts_or_number.Holds := by
  w_on; o_law; k_head; (case hw => w_witness2)
  k_fill
  refine K51.walk (l := PySem.Challenge.rw_packhall_k51_no_counts_or_number) rfl rfl (fun w h Y => PySem.W.kIn_of Y) ?F
  case F =>
    intro w mg fa h KX G hmg
    refine' K51.all_mk KX G hmg ?a1 ?l1 ?cc1 ?k1 ?a2 ?l2 ?cc2 ?k2 ?a3 ?l3 ?cc3 ?k3 ?a4 ?l4 ?cc4 ?k4 ?a5 ?l5 ?cc5 ?k5 ?a6 ?l6 ?cc6 ?k6 ?a7 ?l7 ?cc7 ?k7 ?a8 ?l8 ?cc8 ?k8 ?a9 ?l9 ?cc9 ?k9 ?a10 ?l10 ?cc10 ?k10 ?a11 ?l11 ?cc11 ?k11 ?a12 ?l12 ?cc12 ?k12 ?a13 ?l13 ?cc13 ?k13 ?a14 ?l14 ?cc14 ?k14 ?a15 ?l15 ?cc15 ?k15 ?a16 ?l16 ?cc16 ?k16 ?a17 ?l17 ?cc17 ?k17 ?z_isinstance ?z_list ?z_int ?z_bool ?z_len ?z_range ?z_max ?z_ValueError ?z_tuple ?z_min ?z_sorted ?z_all ?z_dict ?z_sum ?z_enumerate ?e_PackError ?x0_PackError ?x1_PackError ?x2_PackError ?x3_PackError ?x4_PackError ?x5_PackError ?x6_PackError ?e_Broken ?x0_Broken ?x1_Broken ?x2_Broken ?x3_Broken ?x4_Broken ?x5_Broken ?x6_Broken ?e_NoCode ?e_NoName ?e_NoNumber ?e_NoPlace ?e_NoRow ?e_NoText ?xm_Broken ?xv_Broken ?xo_Broken ?xk_Broken_NoNumber ?xk_Broken_NoPlace ?xk_Broken_NoCode ?xk_Broken_NoName ?xk_Broken_NoRow ?xk_Broken_NoText ?g_LAST_SIGN ?g_MOST_SIGNS
    (case a1 => k_is)
    (case l1 => k_is)
    (case cc1 => k_is)
    (case k1 => k_is)
    (case a2 => k_is)
    (case l2 => k_is)
    (case cc2 => k_is)
    (case k2 => k_is)
    (case a3 => k_is)
    (case l3 => k_is)
    (case cc3 => k_is)
    (case k3 => k_is)
    (case a4 => k_is)
    (case l4 => k_is)
    (case cc4 => k_is)
    (case k4 => k_is)
    (case a5 => k_is)
    (case l5 => k_is)
    (case cc5 => k_is)
    (case k5 => k_is)
    (case a6 => k_is)
    (case l6 => k_is)
    (case cc6 => k_is)
    (case k6 => k_is)
    (case a7 => k_is)
    (case l7 => k_is)
    (case cc7 => k_is)
    (case k7 => k_is)
    (case a8 => k_is)
    (case l8 => k_is)
    (case cc8 => k_is)
    (case k8 => k_is)
    (case a9 => k_is)
    (case l9 => k_is)
    (case cc9 => k_is)
    (case k9 => k_is)
    (case a10 => k_is)
    (case l10 => k_is)
    (case cc10 => k_is)
    (case k10 => k_is)
    (case a11 => k_is)
    (case l11 => k_is)
    (case cc11 => k_is)
    (case k11 => k_is)
    (case a12 => k_is)
    (case l12 => k_is)
    (case cc12 => k_is)
    (case k12 => k_is)
    (case a13 => k_is)
    (case l13 => k_is)
    (case cc13 => k_is)
    (case k13 => k_is)
    (case a14 => k_is)
    (case l14 => k_is)
    (case cc14 => k_is)
    (case k14 => k_is)
    (case a15 => k_is)
    (case l15 => k_is)
    (case cc15 => k_is)
    (case k15 => k_is)
    (case a16 => k_is)
    (case l16 => k_is)
    (case cc16 => k_is)
    (case k16 => k_is)
    (case a17 => k_is)
    (case l17 => k_is)
    (case cc17 => k_is)
    (case k17 => k_is)
    (case z_isinstance => k_is)
    (case z_list => k_is)
    (case z_int => k_is)
    (case z_bool => k_is)
    (case z_len => k_is)
    (case z_range => k_is)
    (case z_max => k_is)
    (case z_ValueError => k_is)
    (case z_tuple => k_is)
    (case z_min => k_is)
    (case z_sorted => k_is)
    (case z_all => k_is)
    (case z_dict => k_is)
    (case z_sum => k_is)
    (case z_enumerate => k_is)
    (case e_PackError => k_is)
    (case x0_PackError => k_exc)
    (case x1_PackError => k_is)
    (case x2_PackError => k_is)
    (case x3_PackError => k_is)
    (case x4_PackError => k_is)
    (case x5_PackError => k_is)
    (case x6_PackError => k_is)
    (case e_Broken => k_is)
    (case x0_Broken => k_exc)
    (case x1_Broken => k_is)
    (case x2_Broken => k_is)
    (case x3_Broken => k_is)
    (case x4_Broken => k_is)
    (case x5_Broken => k_is)
    (case x6_Broken => k_is)
    (case e_NoCode => k_is)
    (case e_NoName => k_is)
    (case e_NoNumber => k_is)
    (case e_NoPlace => k_is)
    (case e_NoRow => k_is)
    (case e_NoText => k_is)
    (case xm_Broken => k_is)
    (case xv_Broken => kit_is)
    (case xo_Broken => kit_is)
    (case xk_Broken_NoNumber => kit_is)
    (case xk_Broken_NoPlace => kit_is)
    (case xk_Broken_NoCode => kit_is)
    (case xk_Broken_NoName => kit_is)
    (case xk_Broken_NoRow => kit_is)
    (case xk_Broken_NoText => kit_is)
    (case g_LAST_SIGN => k_is)
    (case g_MOST_SIGNS => k_is)

