import PyProof.Rows.All
import Wide.All
import OpenK.AllK
import Wide.FinOn
import Lean
import PyProof.EqAt
import PyProof.EqKinds
import PyProof.TupleCall
import PyProof.NsDelKeeps
import PyProof.NeKinds
import PySem.Challenge.RW_packhall_k42_whole_texts_and_grammars
set_option Elab.async false
set_option linter.all false
set_option maxRecDepth 100000
namespace L2
open PySem PySem.Spec PyProof.Rows
abbrev Key := Sum Int Str
def keyIs : Key → Value → Bool
  | .inl k, v => Value.isInt k v
  | .inr x, v => Value.isStrOf x v
def keyH (w : World) : Key → Int
  | .inl k => hashInt k
  | .inr x => hashStr w x
theorem keyIs_shape : ∀ {k : Key} {v : Value}, keyIs k v = true → (∃ i t, k = Sum.inl i ∧ v = Value.int i t) ∨ (∃ x t, k = Sum.inr x ∧ v = Value.str x t)
  | .inl i, v, h => by
    obtain ⟨t, e⟩ := Value.isInt_shape (k := i) (v := v) h
    exact .inl ⟨i, t, rfl, e⟩
  | .inr x, v, h => by
    obtain ⟨t, e⟩ := Value.isStrOf_shape (x := x) (v := v) h
    exact .inr ⟨x, t, rfl, e⟩
theorem keyIs_int (i : Int) (t : Tok) : keyIs (.inl i) (.int i t) = true := by simp [keyIs, Value.isInt]
theorem keyIs_str (x : Str) (t : Tok) : keyIs (.inr x) (.str x t) = true := by simp [keyIs, Value.isStrOf]
theorem key_ll (a b : Int) : decide ((Sum.inl a : Key) = Sum.inl b) = (a == b) := by
  by_cases e : a = b
  · subst e; simp
  · have h : ¬ (Sum.inl a : Key) = Sum.inl b := fun q => e (Sum.inl.inj q)
    rw [decide_eq_false h]
    exact (beq_eq_false_iff_ne.mpr e).symm
theorem key_rr (a b : Str) : decide ((Sum.inr a : Key) = Sum.inr b) = decide (a = b) := by
  by_cases e : a = b
  · subst e; simp
  · have h : ¬ (Sum.inr a : Key) = Sum.inr b := fun q => e (Sum.inr.inj q)
    rw [decide_eq_false h, decide_eq_false e]
theorem key_lr (a : Int) (b : Str) : decide ((Sum.inl a : Key) = Sum.inr b) = false := decide_eq_false (fun q => nomatch q)
theorem key_rl (a : Str) (b : Int) : decide ((Sum.inr a : Key) = Sum.inl b) = false := decide_eq_false (fun q => nomatch q)
def mixKind (prog : Program) (w : World) : PySem.KeyKind prog w Key where
  is := keyIs
  hash := keyH w
  inj := fun v a b ha hb => by
    rcases keyIs_shape ha with ⟨i, t, rfl, rfl⟩ | ⟨x, t, rfl, rfl⟩
    · rcases keyIs_shape hb with ⟨j, u, rfl, e⟩ | ⟨y, u, rfl, e⟩
      · injection e with e1 _; rw [e1]
      · exact nomatch e
    · rcases keyIs_shape hb with ⟨j, u, rfl, e⟩ | ⟨y, u, rfl, e⟩
      · exact nomatch e
      · injection e with e1 _; rw [e1]
  byValue := fun k v h => by
    rcases keyIs_shape h with ⟨i, t, rfl, rfl⟩ | ⟨x, t, rfl, rfl⟩ <;> rfl
  pyHash := fun hv h => by
    rcases keyIs_shape hv with ⟨i, t, rfl, rfl⟩ | ⟨x, t, rfl, rfl⟩
    · exact wpAny_pyHash_int h
    · exact wpAny_pyHash_str h
  eqBool := fun hu hv h => by
    rcases keyIs_shape hu with ⟨i, t, rfl, rfl⟩ | ⟨x, t, rfl, rfl⟩
    · rcases keyIs_shape hv with ⟨j, u, rfl, rfl⟩ | ⟨y, u, rfl, rfl⟩
      · rw [key_ll] at h; exact wpAny_eqBool_int h
      · rw [key_lr] at h; exact SeqAt.EqAt.int_str i t y u _ _ _ _ h
    · rcases keyIs_shape hv with ⟨j, u, rfl, rfl⟩ | ⟨y, u, rfl, rfl⟩
      · rw [key_rl] at h; exact SeqAt.EqAt.str_int x t j u _ _ _ _ h
      · rw [key_rr] at h; exact wpAny_eqBool_str h
  «strs» := fun k x t v h => by
    rcases keyIs_shape h with ⟨i, u, rfl, e⟩ | ⟨y, u, rfl, e⟩
    · exact nomatch e
    · injection e with e1 _
      subst e1
      cases v <;> rfl
theorem mixKind_int (prog : Program) (w : World) (i : Int) (t : Tok) : (mixKind prog w).is (.inl i) (.int i t) = true := keyIs_int i t
theorem mixKind_str (prog : Program) (w : World) (x : Str) (t : Tok) : (mixKind prog w).is (.inr x) (.str x t) = true := keyIs_str x t
end L2
namespace L2
open PySem PySem.Spec PyProof.Rows
inductive V where
  | non | bl (b : Bool) | int (i : Int) | str (x : Str) | byt (b : Array UInt8) | flt (b : UInt64) | ref (a : Addr) | ty (n : String)
  deriving DecidableEq
def RelV : V → Value → Prop
  | .non, u => u = Value.none
  | .bl b, u => u = Value.bool b
  | .int i, u => ∃ t, u = Value.int i t
  | .str x, u => ∃ t, u = Value.str x t
  | .byt b, u => ∃ t, u = Value.bytes b t
  | .flt b, u => ∃ t, u = Value.float b t
  | .ref a, u => u = Value.ref a
  | .ty n, u => u = Value.type n
abbrev Vals : List V → List Value → Prop := Paired RelV
theorem Vals.length {xs : List V} {us : List Value} (r : Vals xs us) : xs.length = us.length := Paired.length r
theorem Vals.get : ∀ {xs : List V} {us : List Value} {i : Nat} {x : V}, Vals xs us → xs[i]? = some x → ∃ u, us[i]? = some u ∧ RelV x u
  | _, _, _, _, .nil, e => by simp at e
  | _, _, 0, _, .cons r _, e => by simp at e; subst e; exact ⟨_, rfl, r⟩
  | _, _, i + 1, x, .cons _ t, e => by
    obtain ⟨u, h1, h2⟩ := Vals.get (i := i) (x := x) t (by simpa using e)
    exact ⟨u, by simpa using h1, h2⟩
theorem Vals.set {x : V} {u : Value} (r : RelV x u) : ∀ {xs : List V} {us : List Value} (i : Nat), Vals xs us → Vals (xs.set i x) (us.set i u)
  | _, _, _, .nil => .nil
  | _, _, 0, .cons _ t => .cons r t
  | _, _, i + 1, .cons q t => .cons q (Vals.set r i t)
theorem Vals.append : ∀ {xs ys : List V} {us ws : List Value}, Vals xs us → Vals ys ws → Vals (xs ++ ys) (us ++ ws)
  | _, _, _, _, .nil, s => s
  | _, _, _, _, .cons r t, s => .cons r (Vals.append t s)
theorem Vals.take : ∀ {xs : List V} {us : List Value} (n : Nat), Vals xs us → Vals (xs.take n) (us.take n)
  | _, _, 0, _ => .nil
  | _, _, _ + 1, .nil => .nil
  | _, _, n + 1, .cons r t => .cons r (Vals.take n t)
theorem Vals.drop : ∀ {xs : List V} {us : List Value} (n : Nat), Vals xs us → Vals (xs.drop n) (us.drop n)
  | _, _, 0, r => r
  | _, _, _ + 1, .nil => .nil
  | _, _, n + 1, .cons _ t => Vals.drop n t
def RelO : Option V → Option Value → Prop
  | some v, some u => RelV v u
  | none, none => True
  | _, _ => False
def KV {κ : Type} : List (κ × V) → List (κ × Value) → Prop := Paired fun (p : κ × V) (q : κ × Value) => p.1 = q.1 ∧ RelV p.2 q.2
def kV : Key → V
  | .inl i => .int i
  | .inr x => .str x
inductive HO where
  /-- a list -/
  | lst (xs : List V)
  /-- a tuple (never changes) -/
  | tup (xs : List V)
  /-- a dict whose keys are ints and texts; one whose keys are tuples of ints and texts (the empty one is both) -/
  | dK (kvs : List (Key × V)) | dT (kvs : List (List Key × V))
  /-- a set of ints: its members, its size -/
  | set (S : Int → Bool) (n : Nat)
  /-- an instance of the class at C, its dict at dx, its attributes -/
  | ins (C dx : Addr) (fs : List (Str × V))
  /-- the dict of the instance at x -/
  | own (x : Addr)
  /-- the dict of an exception -/
  | xd (fs : List (Str × V))
  /-- a bound method, f of x -/
  | met (f x : Addr)
  /-- a range object lo, lo + 1, .. below hi -/
  | rng (lo hi : Int)
  /-- a thing that is known to the object (the script; a dict while a loop walks it): read, never written while it is so -/
  | frz (o : Obj) (u : HO)
  /-- a code object's table -/
  | tbl (ps : Array Value)
  /-- any other thing, by what is true of its one object (a def of one's own: SetO a S n := HO.ext fun h => ..) -/
  | ext (φ : Heap → Prop)
abbrev Hp := Addr → Option HO
def upd (H : Hp) (a : Addr) (o : HO) : Hp := fun b => if b = a then some o else H b
theorem upd_same {H : Hp} {a : Addr} {o : HO} : upd H a o a = some o := by unfold upd; rw [if_pos rfl]
theorem upd_ne {H : Hp} {a b : Addr} {o : HO} (h : b ≠ a) : upd H a o b = H b := by unfold upd; rw [if_neg h]
theorem ne_of {H : Hp} {a b : Addr} {o u : HO} (h : H a = some o) (h' : H b = some u) (d : o ≠ u) : a ≠ b := by
  intro e; subst e; rw [h] at h'; exact d (Option.some.inj h')
theorem ne_of_none {H : Hp} {a b : Addr} {o : HO} (h : H a = some o) (h' : H b = none) : a ≠ b := by
  intro e; subst e; rw [h] at h'; cases h'
section
variable (P : Program) (w : World)
def ObjOk (H : Hp) (h : Heap) (a : Addr) : HO → Prop
  | .lst xs => xs.length ≤ sizeLine ∧ ∃ (its : List Value) (n : Nat), Vals xs its ∧ h.get? a = some { cls := .type "list", data := .seq its.toArray n }
  | .tup xs => xs.length ≤ sizeLine ∧ ∃ its : List Value, Vals xs its ∧ IsTup h a its.toArray
  | .dK kvs => kvs.length ≤ sizeLine ∧ (a == sysModules) = false ∧ ∃ vs, KV kvs vs ∧ h.DictOf (mixKind P w) a vs
  | .dT kvs => kvs.length ≤ sizeLine ∧ (a == sysModules) = false ∧ ∃ xs : List (List Key × Addr × Value),
      Paired (fun (p : List Key × V) (q : List Key × Addr × Value) => p.1 = q.1 ∧ H q.2.1 = some (.tup (p.1.map kV)) ∧ RelV p.2 q.2.2) kvs xs ∧
      ∃ o es ep, h.get? a = some o ∧ o.ExactDict ∧ o.data = .dict es ep ∧ es.toList = xs.map (entryOfKey (tupleKind (mixKind P w))) ∧ (xs.map (·.1)).Nodup
  | .set S n => h.SetOf (intKind P w) a S n
  | .ins C dx fs => H dx = some (.own a) ∧ fs.length ≤ 1000 ∧ dx ≠ a ∧ h.get? a = some (PySem.W.instObj C dx) ∧
      ∃ mA, h.Ns1 dx mA ∧ (∀ f, RelO (fs.lookup f) (mA f)) ∧ PySem.Within mA (fs.map (·.1))
  | .own _ => ∃ o, h.get? a = some o
  | .xd fs => ∃ mA, h.Ns1 a mA ∧ ∀ f, RelO (fs.lookup f) (mA f)
  | .rng lo hi => ∃ t u v, h.get? a = some { cls := .type "range", data := .fields #[.int lo t, .int hi u, .int 1 v] }
  | .frz o u => h.get? a = some o ∧ ObjOk H h a u
  | .tbl ps => h.get? a = some { cls := .none, data := .fields ps }
  | .met f x => h.get? a = some (PySem.W.methodObj (.ref f) (.ref x))
  | .ext φ => φ h ∧ (∃ o, h.get? a = some o) ∧ ∀ h1 h2 : Heap, φ h1 → (∀ o, h1.get? a = some o → h2.get? a = some o) → φ h2
def HOk (H : Hp) (h : Heap) : Prop := ∀ a o, H a = some o → ObjOk P w H h a o
end
section
variable {P : Program} {w : World} {H H' : Hp} {h h' : Heap} {a : Addr} {o : HO}
theorem ObjOk.lt (x : ObjOk P w H h a o) : a < h.objs.size := by
  cases o with
  | lst xs => obtain ⟨_, _, _, _, e⟩ := x; exact Heap.lt_size e
  | tup xs => obtain ⟨_, _, _, p⟩ := x; exact p.lt
  | dK kvs => obtain ⟨_, _, _, _, o, _, _, e, _⟩ := x; exact Heap.lt_size e
  | dT kvs => obtain ⟨_, _, _, _, o, _, _, e, _⟩ := x; exact Heap.lt_size e
  | set S n => obtain ⟨o, _, _, _, e, _⟩ := x; exact Heap.lt_size e
  | ins C dx fs => obtain ⟨_, _, _, e, _⟩ := x; exact Heap.lt_size e
  | own y => obtain ⟨_, e⟩ := x; exact Heap.lt_size e
  | xd fs => obtain ⟨_, ⟨_, _, _, e, _⟩, _⟩ := x; exact Heap.lt_size e
  | rng lo hi => obtain ⟨_, _, _, e⟩ := x; exact Heap.lt_size e
  | frz ob u => obtain ⟨e, _⟩ := x; exact Heap.lt_size e
  | tbl ps => exact Heap.lt_size (show h.get? a = some _ from x)
  | met f y => exact Heap.lt_size (show h.get? a = some _ from x)
  | ext φ => obtain ⟨_, ⟨_, e⟩, _⟩ := x; exact Heap.lt_size e
theorem Paired.mapP {α β : Type} {F G : α → β → Prop} : ∀ {l₁ : List α} {l₂ : List β}, Paired F l₁ l₂ → (∀ a b, F a b → G a b) → Paired G l₁ l₂
  | _, _, .nil, _ => .nil
  | _, _, .cons r t, f => .cons (f _ _ r) (Paired.mapP t f)
theorem ObjOk.stay (x : ObjOk P w H h a o) (k : ∀ b u, (b = a ∨ H b = some (.own a)) → h.get? b = some u → h'.get? b = some u)
    (ho : ∀ b, H b = some (.own a) → H' b = some (.own a)) (ht : ∀ b xs, H b = some (.tup xs) → H' b = some (.tup xs)) : ObjOk P w H' h' a o := by
  induction o with
  | lst xs => obtain ⟨z, its, n, r, e⟩ := x; exact ⟨z, its, n, r, k _ _ (.inl rfl) e⟩
  | tup xs => obtain ⟨z, its, r, ob, e, c⟩ := x; exact ⟨z, its, r, ob, k _ _ (.inl rfl) e, c⟩
  | dK kvs => obtain ⟨z, y, vs, r, ob, es, ep, e, c⟩ := x; exact ⟨z, y, vs, r, ob, es, ep, k _ _ (.inl rfl) e, c⟩
  | dT kvs =>
    obtain ⟨z, y, xs, r, ob, es, ep, e, c⟩ := x
    exact ⟨z, y, xs, Paired.mapP r fun p q z => ⟨z.1, ht _ _ z.2.1, z.2.2⟩, ob, es, ep, k _ _ (.inl rfl) e, c⟩
  | set S n => obtain ⟨ob, es, ep, t, e, c⟩ := x; exact ⟨ob, es, ep, t, k _ _ (.inl rfl) e, c⟩
  | ins C dx fs =>
    obtain ⟨d, z, ne, e, mA, ⟨od, es, ep, e2, c⟩, r⟩ := x
    exact ⟨ho _ d, z, ne, k _ _ (.inl rfl) e, mA, ⟨od, es, ep, k _ _ (.inr d) e2, c⟩, r⟩
  | own y => obtain ⟨ob, e⟩ := x; exact ⟨ob, k _ _ (.inl rfl) e⟩
  | xd fs => obtain ⟨mA, ⟨od, es, ep, e, c⟩, r⟩ := x; exact ⟨mA, ⟨od, es, ep, k _ _ (.inl rfl) e, c⟩, r⟩
  | rng lo hi => obtain ⟨t, u, v, e⟩ := x; exact ⟨t, u, v, k _ _ (.inl rfl) e⟩
  | frz ob u ih => obtain ⟨e, q⟩ := x; exact ⟨k _ _ (.inl rfl) e, ih q⟩
  | tbl ps =>
    have e : h.get? a = some { cls := .none, data := .fields ps } := x
    show h'.get? a = some { cls := .none, data := .fields ps }
    exact k a _ (.inl rfl) e
  | met f y =>
    have e : h.get? a = some (PySem.W.methodObj (.ref f) (.ref y)) := x
    show h'.get? a = some (PySem.W.methodObj (.ref f) (.ref y))
    exact k a _ (.inl rfl) e
  | ext φ => obtain ⟨p, ⟨o, e⟩, st⟩ := x; exact ⟨st _ _ p fun o q => k _ _ (.inl rfl) q, ⟨o, k _ _ (.inl rfl) e⟩, st⟩
theorem HOk.lt (x : HOk P w H h) (e : H a = some o) : a < h.objs.size := (x a o e).lt
theorem HOk.fresh (x : HOk P w H h) (e : h.objs.size ≤ a) : H a = none := by
  cases q : H a with
  | none => rfl
  | some u => exact absurd (Nat.lt_of_lt_of_le (x.lt q) e) (Nat.lt_irrefl _)
theorem HOk.kept (x : HOk P w H h) (k : ∀ b u, h.get? b = some u → h'.get? b = some u) : HOk P w H h' := fun a o e =>
  (x a o e).stay (fun b u _ q => k b u q) (fun _ q => q) fun _ _ q => q
theorem HOk.laid (x : HOk P w H h) (k : ∀ b u, h.get? b = some u → h'.get? b = some u) (hp : h.objs.size ≤ a) (new : ObjOk P w (upd H a o) h' a o) : HOk P w (upd H a o) h' := fun b u e => by
  have hn := x.fresh hp
  by_cases hb : b = a
  · subst hb; rw [upd_same] at e; cases e; exact new
  · rw [upd_ne hb] at e
    exact (x b u e).stay (fun c v _ q => k c v q) (fun c q => by rw [upd_ne (ne_of_none q hn)]; exact q) fun c xs q => by rw [upd_ne (ne_of_none q hn)]; exact q
end
def Rd (H : Hp) (a : Addr) (u : HO) : Prop := H a = some u ∨ ∃ o, H a = some (.frz o u)
theorem Rd.of {H : Hp} {a : Addr} {u : HO} (h : H a = some u) : Rd H a u := .inl h
theorem Rd.ok {P : Program} {w : World} {H : Hp} {h : Heap} {a : Addr} {u : HO} (r : Rd H a u) (x : HOk P w H h) : ObjOk P w H h a u := by
  rcases r with r | ⟨o, r⟩
  · exact x a u r
  · obtain ⟨_, q⟩ := x a _ r
    exact q
def Mut : Option HO → Prop
  | some (.lst _) => True
  | some (.dK _) => True
  | some (.dT _) => True
  | some (.set _ _) => True
  | some (.ins _ _ _) => True
  | some (.ext _) => True
  | _ => False
section
variable {P : Program} {w : World} {H : Hp} {h h' : Heap} {x e : Addr} {o' : HO}
theorem HOk.write (ok : HOk P w H h) (mu : Mut (H x)) (he : e = x ∨ H e = some (.own x)) (k : ∀ b u, b ≠ e → h.get? b = some u → h'.get? b = some u) (heo : ∃ u, h'.get? e = some u)
    (new : ObjOk P w (upd H x o') h' x o') : HOk P w (upd H x o') h' := fun b u q => by
  have nown : ∀ c y, H c = some (.own y) → c ≠ x := fun c y r z => by subst z; rw [r] at mu; exact mu
  have ntup : ∀ c xs, H c = some (.tup xs) → c ≠ x := fun c xs r z => by subst z; rw [r] at mu; exact mu
  by_cases hb : b = x
  · subst hb; rw [upd_same] at q; cases q; exact new
  · rw [upd_ne hb] at q
    by_cases hbe : b = e
    · have q' : H b = some (.own x) := by
        rcases he with z | z
        · exact absurd (hbe.trans z) hb
        · rw [hbe]; exact z
      rw [q] at q'; cases q'
      obtain ⟨v, hv⟩ := heo
      exact ⟨v, by rw [hbe]; exact hv⟩
    · refine (ok b u q).stay (fun c v hc r => k c v ?_ r) (fun c r => by rw [upd_ne (nown c b r)]; exact r) fun c xs r => by rw [upd_ne (ntup c xs r)]; exact r
      rcases hc with rfl | hc
      · exact hbe
      · rintro rfl
        rcases he with z | z
        · exact nown c b hc z
        · rw [hc] at z; cases z; exact hb rfl
end
structure Un (fs ex : List Addr) (H H' : Hp) (h h' : Heap) : Prop where
  keep : ∀ b o, h.get? b = some o → H b = none → b ∉ fs → b ∉ ex → h'.get? b = some o
  slot : ∀ b o, h.get? b = some o → H b = none → b ∈ fs → b ∉ ex → ∃ sl, h'.get? b = some { o with slots := sl }
  free : ∀ b o, h.get? b = some o → H b = none → b ∉ ex → H' b = none
  there : ∀ b o, h.get? b = some o → b ∉ ex → ∃ o', h'.get? b = some o'
  tups : ∀ b xs, H b = some (.tup xs) → H' b = some (.tup xs)
  frzs : ∀ b o u, H b = some (.frz o u) → H' b = some (.frz o u)
  tbls : ∀ b ps, H b = some (.tbl ps) → ∃ more, H' b = some (.tbl (ps ++ more))
section
variable {fs fs' ex ex' : List Addr} {H H1 H2 : Hp} {h h1 h2 h' : Heap} {a x e : Addr} {o : HO}
theorem Un.any (u : Un fs ex H H1 h h1) {b : Addr} {ob : Obj} (q : h.get? b = some ob) (n : H b = none) (hx : b ∉ ex) : ∃ sl, h1.get? b = some { ob with slots := sl } := by
  by_cases hb : b ∈ fs
  · exact u.slot b ob q n hb hx
  · exact ⟨ob.slots, u.keep b ob q n hb hx⟩
theorem Un.trans (a : Un fs ex H H1 h h1) (b : Un fs ex H1 H2 h1 h2) : Un fs ex H H2 h h2 where
  keep := fun c ob q n hc hx => b.keep c ob (a.keep c ob q n hc hx) (a.free c ob q n hx) hc hx
  slot := fun c ob q n hc hx => by
    obtain ⟨sl, e1⟩ := a.slot c ob q n hc hx
    obtain ⟨sl', e2⟩ := b.slot c _ e1 (a.free c ob q n hx) hc hx
    exact ⟨sl', e2⟩
  free := fun c ob q n hx => by
    obtain ⟨o', e1⟩ := a.there c ob q hx
    exact b.free c o' e1 (a.free c ob q n hx) hx
  there := fun c ob q hx => by
    obtain ⟨o', e1⟩ := a.there c ob q hx
    exact b.there c o' e1 hx
  tups := fun c xs q => b.tups c xs (a.tups c xs q)
  frzs := fun c ob xs q => b.frzs c ob xs (a.frzs c ob xs q)
  tbls := fun c ps q => by
    obtain ⟨m1, e1⟩ := a.tbls c ps q
    obtain ⟨m2, e2⟩ := b.tbls c _ e1
    exact ⟨m1 ++ m2, by rw [e2, Array.append_assoc]⟩
theorem Un.kept (k : ∀ b u, h.get? b = some u → h'.get? b = some u) : Un fs ex H H h h' :=
  ⟨fun b ob q _ _ _ => k b ob q, fun b ob q _ _ _ => ⟨ob.slots, k b ob q⟩, fun _ _ _ n _ => n, fun b ob q _ => ⟨ob, k b ob q⟩, fun _ _ q => q, fun _ _ _ q => q, fun _ ps q => ⟨#[], by rw [q]; simp⟩⟩
theorem Un.refl : Un fs ex H H h h := Un.kept fun _ _ q => q
theorem Un.laid (k : ∀ b u, h.get? b = some u → h'.get? b = some u) (hp : h.objs.size ≤ a) (hn : H a = none) : Un fs ex H (upd H a o) h h' where
  keep := fun b u q _ _ _ => k b u q
  slot := fun b u q _ _ _ => ⟨u.slots, k b u q⟩
  free := fun b u q n _ => by rw [upd_ne (Nat.ne_of_lt (Nat.lt_of_lt_of_le (Heap.lt_size q) hp))]; exact n
  there := fun b u q _ => ⟨u, k b u q⟩
  tups := fun b xs q => by rw [upd_ne (ne_of_none q hn)]; exact q
  frzs := fun b u xs q => by rw [upd_ne (ne_of_none q hn)]; exact q
  tbls := fun b ps q => ⟨#[], by rw [upd_ne (ne_of_none q hn), q]; simp⟩
theorem Un.write (mu : Mut (H x)) (he : e = x ∨ H e = some (.own x)) (k : ∀ b u, b ≠ e → h.get? b = some u → h'.get? b = some u) (heo : ∃ u, h'.get? e = some u) : Un fs ex H (upd H x o) h h' := by
  have hx : ∀ b, H b = none → b ≠ x := fun b n z => by subst z; rw [n] at mu; exact mu
  have hb : ∀ b, H b = none → b ≠ e := fun b n z => by
    subst z
    rcases he with r | r
    · exact hx b n r
    · rw [n] at r; cases r
  have hm : ∀ b u, H b = some u → ¬ Mut (some u) → b ≠ x := fun b u q nm z => by subst z; rw [q] at mu; exact nm mu
  refine ⟨fun b u q n _ _ => k b u (hb b n) q, fun b u q n _ _ => ⟨u.slots, k b u (hb b n) q⟩, fun b u q n _ => by rw [upd_ne (hx b n)]; exact n, fun b u q _ => ?_,
    fun b xs q => by rw [upd_ne (hm b _ q fun z => z)]; exact q, fun b u xs q => by rw [upd_ne (hm b _ q fun z => z)]; exact q, fun b ps q => ⟨#[], by rw [upd_ne (hm b _ q fun z => z), q]; simp⟩⟩
  by_cases hbe : b = e
  · subst hbe; exact heo
  · exact ⟨u, k b u hbe q⟩
theorem Un.mono (u : Un fs ex H H1 h h1) (hs : ∀ b ∈ fs, b ∈ fs') (hx : ∀ b ∈ ex, b ∈ ex') : Un fs' ex' H H1 h h1 :=
  ⟨fun b ob q n hb he => u.keep b ob q n (fun z => hb (hs b z)) fun z => he (hx b z), fun _ _ q n _ he => u.any q n fun z => he (hx _ z), fun b ob q n he => u.free b ob q n fun z => he (hx b z), fun b ob q he => u.there b ob q fun z => he (hx b z), u.tups, u.frzs, u.tbls⟩
end
def trk (h : Heap) (H : Hp) : List Addr := (List.range h.objs.size).filter fun a => (H a).isSome
def hidT (h : Heap) (H : Hp) : Heap := PySem.W.hideAll h (trk h H)
theorem hidT_size (h : Heap) (H : Hp) : (hidT h H).objs.size = h.objs.size := PySem.W.hideAll_size _ _
theorem hidT_get {h : Heap} {H : Hp} {b : Addr} {o : Obj} (e : h.get? b = some o) (n : H b = none) : (hidT h H).get? b = some o :=
  PySem.W.hideAll_get _ e fun hm => by
    have q : (H b).isSome = true := (List.mem_filter.mp hm).2
    rw [n] at q; simp at q
theorem of_hidT {h : Heap} {H : Hp} {b : Addr} {o : Obj} (e : (hidT h H).get? b = some o) : h.get? b = some o ∧ H b = none := by
  have e' : h.get? b = some o := PySem.W.of_hideAll (trk h H) e
  refine ⟨e', ?_⟩
  cases q : H b with
  | none => rfl
  | some x =>
    have hm : b ∈ trk h H := List.mem_filter.mpr ⟨List.mem_range.mpr (Heap.lt_size e'), by simp [q]⟩
    have z : (hidT h H).get? b = none := PySem.W.hideAll_none (trk h H) hm
    rw [z] at e; cases e
def allNews (g h : Heap) (L : Addr) : List (Addr × Obj) := (List.range h.objs.size).filterMap fun a => if a = L ∨ (g.get? a).isSome = true then none else (h.get? a).map fun o => (a, o)
def rest (g h : Heap) (L d : Addr) : List (Addr × Obj) := (allNews g h L).filter fun p => decide (p.1 ≠ d)
end L2
namespace L2
open PySem PySem.Spec PyProof.Rows
structure Mod (K : PySem.W.Frag) (mg : Str → Option Value) (base : Heap) : Prop where
  kin : K.In base
  glob : base.Ns mainGlobals mg
  blt : ∃ mb, base.Ns builtinsNs mb ∧ ∀ x : Str, x ≠ "__name__" → mb x = bootBuiltins x
  nolimit : base.NoLimit
structure Cx where
  prog : Program
  w : World
  K : PySem.W.Frag
  mg : Str → Option Value
  base : Heap
  A : Around
  N : List Str
  s₀ : Shared
  H₀ : Hp
  env : Env
  outer : List Env
  stack : List Env
  ex : List Addr
  fn : Str → Bool
  calm : Bool
  pn : List (Addr × Obj)
  xe : Value → Shared → Prop
def frs (l : List Env) : List Addr := l.filterMap (·.frame)
abbrev Cx.fs (X : Cx) : List Addr := frs X.outer
def Vis (sc : Scope) (x : Str) : Prop := sc.names.lookup x = some .local ∨ sc.names.lookup x = some .cell ∨ sc.names.lookup x = some .free
def Loc (sc : Scope) (x : Str) : Prop := sc.names.lookup x = some .local ∨ sc.names.lookup x = some .cell
def Look (env : Env) (h : Heap) (m : Str → Option Value) (x : Str) (u : Value) : Prop :=
  (env.kindOf x = some .local ∧ m x = some u) ∨ ((env.kindOf x = some .cell ∨ env.kindOf x = some .free) ∧ ∃ c, env.cells.lookup x = some c ∧ h.IsCell c (some u))
structure Cx.Ok (X : Cx) : Prop where
  mod : Mod X.K X.mg X.base
  kind : X.env.scope.kind = .function
  glob : X.env.globals = mainGlobals
  blt : X.env.builtins = builtinsNs
  above : X.s₀.heap.objs.size ≤ X.env.locals
  inj : ∀ x y c, X.env.cells.lookup x = some c → X.env.cells.lookup y = some c → x = y
  has : ∀ x, (X.env.kindOf x = some .cell ∨ X.env.kindOf x = some .free) → ∃ c, X.env.cells.lookup x = some c
  cab : ∀ x c, X.fn x = true → X.env.cells.lookup x = some c → X.s₀.heap.objs.size ≤ c
  hd : X.calm = true → X.A.handled = none
  frames : X.A.frames = some X.stack
  stk : X.stack = X.outer ∨ (X.stack = X.env :: X.outer ∧ X.env.frame = some X.env.locals)
  exf : ∀ b ∈ X.ex, b ≠ X.env.locals ∧ ∀ x c, X.env.cells.lookup x = some c → c ≠ b
  bs : ∀ b o, X.base.get? b = some o → X.s₀.heap.get? b = some o ∧ X.H₀ b = none
  bsz : X.base.objs.size ≤ X.s₀.heap.objs.size
  noex : ∀ b o, X.base.get? b = some o → b ∉ X.ex
  exfs : ∀ b ∈ X.ex, b ∉ X.fs
  funs : X.s₀.heap.FunFrames X.base X.outer
  frf : ∀ b ∈ X.fs, X.H₀ b = none
structure Inv (X : Cx) (pins : List (Addr × Obj)) (σ : List (Option V)) (H : Hp) (s : Shared) : Prop where
  ok : X.Ok
  os : s.os = X.s₀.os
  bare : AllBare s.gens
  base : Un X.fs X.ex X.H₀ H X.s₀.heap s.heap
  loc : ∃ m, s.heap.Ns X.env.locals m ∧ ∀ (i : Nat) (x : Str) (v : V), X.N[i]? = some x → σ[i]? = some (some v) → Vis X.env.scope x → ∃ u, RelV v u ∧ Look X.env s.heap m x u
  cell : ∀ x c, X.env.cells.lookup x = some c → ∃ v, s.heap.IsCell c v
  free : H X.env.locals = none
  freeC : ∀ x c, X.env.cells.lookup x = some c → H c = none
  pin : ∀ p ∈ X.pn ++ pins, s.heap.get? p.1 = some p.2 ∧ H p.1 = none ∧ p.1 ≠ X.env.locals ∧ p.1 ∉ X.fs ∧ ∀ v, p.2.data ≠ .cell v
  hok : HOk X.prog X.w H s.heap
  len : σ.length = X.N.length
section
variable {X : Cx} {pins : List (Addr × Obj)} {σ : List (Option V)} {H H' : Hp} {s : Shared} {h' : Heap}
theorem Cx.Ok.nofr (ok : X.Ok) {b : Addr} {o : Obj} (e : X.base.get? b = some o) : b ∉ X.fs := fun hb => by
  have := (ok.funs.mem hb).1
  rw [e] at this; cases this
theorem Inv.bs (I : Inv X pins σ H s) : ∀ b o, X.base.get? b = some o → s.heap.get? b = some o ∧ H b = none := fun b o e =>
  ⟨I.base.keep b o (I.ok.bs b o e).1 (I.ok.bs b o e).2 (I.ok.nofr e) (I.ok.noex b o e), I.base.free b o (I.ok.bs b o e).1 (I.ok.bs b o e).2 (I.ok.noex b o e)⟩
theorem Inv.bk (I : Inv X pins σ H s) : ∀ b o, X.base.get? b = some o → s.heap.get? b = some o := fun b o e => (I.bs b o e).1
theorem Inv.mod (I : Inv X pins σ H s) : Mod X.K X.mg X.base := I.ok.mod
theorem Inv.kIn (I : Inv X pins σ H s) : X.K.In s.heap := I.ok.mod.kin.keeps I.bk
theorem Inv.nolimit (I : Inv X pins σ H s) : s.heap.NoLimit := I.ok.mod.nolimit.keeps I.bk
theorem Inv.lt (I : Inv X pins σ H s) : X.env.locals < s.heap.objs.size := let ⟨_, hn, _⟩ := I.loc; hn.lt
theorem Inv.sz (I : Inv X pins σ H s) : X.s₀.heap.objs.size ≤ s.heap.objs.size := Nat.le_trans I.ok.above (Nat.le_of_lt I.lt)
theorem Inv.nofs (I : Inv X pins σ H s) {a : Addr} (h : s.heap.objs.size ≤ a) : a ∉ X.fs := fun hb => by
  obtain ⟨_, o, ho, _⟩ := I.ok.funs.mem hb
  exact absurd (Nat.lt_of_lt_of_le (Heap.lt_size ho) (Nat.le_trans I.sz h)) (Nat.lt_irrefl _)
theorem Inv.cne (I : Inv X pins σ H s) : ∀ x c, X.env.cells.lookup x = some c → c ≠ X.env.locals := fun x c e z => by
  obtain ⟨v, o, ho, hd⟩ := I.cell x c e
  obtain ⟨m, ⟨o', es, ep, ho', hd', _⟩, _⟩ := I.loc
  rw [z, ho'] at ho; cases ho; rw [hd'] at hd; cases hd
theorem Inv.funs (I : Inv X pins σ H s) : s.heap.FunFrames X.base X.outer := by
  have all : ∀ (l : List Env), (∀ b ∈ frs l, b ∈ X.fs) → X.s₀.heap.FunFrames X.base l → s.heap.FunFrames X.base l := by
    intro l
    induction l with
    | nil => intro _ _; trivial
    | cons env r ih =>
      intro hs hl
      obtain ⟨hk, ⟨L, o, hf, hn, ho, hd⟩, hr⟩ := hl
      have hL : L ∈ X.fs := hs L (by unfold frs; rw [List.filterMap_cons, hf]; exact List.mem_cons_self)
      obtain ⟨sl, e⟩ := I.base.slot L o ho (I.ok.frf L hL) hL fun z => I.ok.exfs L z hL
      exact ⟨hk, ⟨L, _, hf, hn, e, hd⟩, ih (fun b hb => hs b (by unfold frs; rw [List.filterMap_cons, hf]; exact List.mem_cons_of_mem _ hb)) hr⟩
  exact all X.outer (fun _ hb => hb) I.ok.funs
theorem Inv.stack (I : Inv X pins σ H s) : s.heap.FunFrames X.base X.stack := by
  rcases I.ok.stk with e | ⟨e, hf⟩
  · rw [e]; exact I.funs
  · rw [e]
    obtain ⟨m, hn, _⟩ := I.loc
    refine .cons (by rw [I.ok.kind]; decide) hf hn ?_ I.funs
    exact Heap.get?_none_of_le (Nat.le_trans I.ok.bsz I.ok.above)
theorem Inv.stkSub (I : Inv X pins σ H s) : ∀ b ∈ frs X.stack, b ∈ X.env.locals :: X.fs := fun b hb => by
  rcases I.ok.stk with e | ⟨e, hf⟩
  · rw [e] at hb; exact List.mem_cons_of_mem _ hb
  · rw [e] at hb
    unfold frs at hb
    rw [List.filterMap_cons, hf] at hb
    exact hb
theorem Inv.stkFree (I : Inv X pins σ H s) : ∀ b ∈ frs X.stack, H b = none := fun b hb => by
  rcases List.mem_cons.mp (I.stkSub b hb) with e | hb
  · rw [e]; exact I.free
  · obtain ⟨_, o, ho, _⟩ := I.ok.funs.mem hb
    exact I.base.free b o ho (I.ok.frf b hb) fun z => I.ok.exfs b z hb
theorem Inv.step {g' : Array GenState} {t' : Nat} {d' : Drawn} {ch : List Addr} (I : Inv X pins σ H s)
    (hch : ∀ b ∈ ch, (b ∈ X.ex ∨ X.s₀.heap.objs.size ≤ b) ∧ b ≠ X.env.locals ∧ (∀ x c, X.env.cells.lookup x = some c → c ≠ b) ∧ ∀ p ∈ X.pn ++ pins, p.1 ≠ b)
    (keep : ∀ b o, b ≠ X.env.locals → b ∉ X.fs → b ∉ ch → s.heap.get? b = some o → H b = none → h'.get? b = some o)
    (slot : ∀ b o, b ≠ X.env.locals → b ∈ X.fs → b ∉ ch → s.heap.get? b = some o → H b = none → ∃ sl, h'.get? b = some { o with slots := sl }) (free : ∀ b o, b ∉ ch → s.heap.get? b = some o → H b = none → H' b = none)
    (there : ∀ b o, b ∉ ch → s.heap.get? b = some o → ∃ o', h'.get? b = some o')
    (tups : ∀ b xs, H b = some (.tup xs) → H' b = some (.tup xs)) (frzs : ∀ b o u, H b = some (.frz o u) → H' b = some (.frz o u)) (tbls : ∀ b ps, H b = some (.tbl ps) → ∃ more, H' b = some (.tbl (ps ++ more)))
    (ns : ∀ m, s.heap.Ns X.env.locals m → h'.Ns X.env.locals m) (hok : HOk X.prog X.w H' h') (hg : AllBare g') :
    Inv X pins σ H' { s with heap := h', gens := g', drawn := d', toks := t' } := by
  have neL : ∀ b o, X.s₀.heap.get? b = some o → b ≠ X.env.locals := fun b o e => Nat.ne_of_lt (Nat.lt_of_lt_of_le (Heap.lt_size e) I.ok.above)
  have neC : ∀ b o, X.s₀.heap.get? b = some o → b ∉ X.ex → b ∉ ch := fun b o e hx hb => by
    rcases (hch b hb).1 with z | z
    · exact hx z
    · exact absurd (Nat.lt_of_lt_of_le (Heap.lt_size e) z) (Nat.lt_irrefl _)
  have cellK : ∀ x c, X.env.cells.lookup x = some c → ∀ v, s.heap.IsCell c v → h'.IsCell c v := fun x c e v ⟨o, ho, hd⟩ => by
    have nch : c ∉ ch := fun z => (hch c z).2.2.1 x c e rfl
    by_cases hc : c ∈ X.fs
    · obtain ⟨sl, q⟩ := slot c o (I.cne x c e) hc nch ho (I.freeC x c e)
      exact ⟨_, q, hd⟩
    · exact ⟨o, keep c o (I.cne x c e) hc nch ho (I.freeC x c e), hd⟩
  refine ⟨I.ok, I.os, hg, ⟨fun b o e n hb hx => ?_, fun b o e n hb hx => ?_, fun b o e n hx => ?_, fun b o e hx => ?_, fun b xs e => tups b xs (I.base.tups b xs e), fun b o xs e => frzs b o xs (I.base.frzs b o xs e), fun b ps e => ?_⟩, ?_, fun x c e => ?_, ?_, fun x c e => ?_, fun p hp => ?_, hok, I.len⟩
  · exact keep b o (neL b o e) hb (neC b o e hx) (I.base.keep b o e n hb hx) (I.base.free b o e n hx)
  · obtain ⟨sl, e1⟩ := I.base.slot b o e n hb hx
    obtain ⟨sl', e2⟩ := slot b _ (neL b o e) hb (neC b o e hx) e1 (I.base.free b o e n hx)
    exact ⟨sl', e2⟩
  · obtain ⟨o', e1⟩ := I.base.there b o e hx
    exact free b o' (neC b o e hx) e1 (I.base.free b o e n hx)
  · obtain ⟨o', e1⟩ := I.base.there b o e hx
    exact there b o' (neC b o e hx) e1
  · obtain ⟨m1, e1⟩ := I.base.tbls b ps e
    obtain ⟨m2, e2⟩ := tbls b _ e1
    exact ⟨m1 ++ m2, by rw [e2, Array.append_assoc]⟩
  · obtain ⟨m, hn, hl⟩ := I.loc
    refine ⟨m, ns m hn, fun i x v e1 e2 e3 => ?_⟩
    obtain ⟨u, r, l⟩ := hl i x v e1 e2 e3
    refine ⟨u, r, ?_⟩
    rcases l with l | ⟨k, c, e, z⟩
    · exact .inl l
    · exact .inr ⟨k, c, e, cellK x c e _ z⟩
  · obtain ⟨v, z⟩ := I.cell x c e
    exact ⟨v, cellK x c e v z⟩
  · obtain ⟨m, ⟨o, _, _, ho, _⟩, _⟩ := I.loc
    exact free _ o (fun z => (hch _ z).2.1 rfl) ho I.free
  · obtain ⟨v, o, ho, hd⟩ := I.cell x c e
    exact free c o (fun z => (hch c z).2.2.1 x c e rfl) ho (I.freeC x c e)
  · obtain ⟨e, n, ne, nf, d⟩ := I.pin p hp
    have nch : p.1 ∉ ch := fun z => (hch p.1 z).2.2.2 p hp rfl
    exact ⟨keep p.1 p.2 ne nf nch e n, free p.1 p.2 nch e n, ne, nf, d⟩
theorem Inv.un {t' : Nat} (I : Inv X pins σ H s) (u : Un X.fs [] H H' s.heap h') (hok : HOk X.prog X.w H' h') : Inv X pins σ H' { s with heap := h', toks := t' } := by
  obtain ⟨m, ⟨o, es, ep, ho, r⟩, _⟩ := id I.loc
  obtain ⟨sl, hL⟩ := u.any ho I.free (by simp)
  exact I.step (g' := s.gens) (d' := s.drawn) (ch := []) (fun _ z => nomatch z) (fun b o _ hb _ e n => u.keep b o e n hb (by simp)) (fun b o _ hb _ e n => u.slot b o e n hb (by simp)) (fun b o _ e n => u.free b o e n (by simp)) (fun b o _ e => u.there b o e (by simp)) u.tups u.frzs u.tbls (fun m' hm => by
    obtain ⟨o', es', ep', ho', r'⟩ := hm
    rw [ho] at ho'; cases ho'
    exact ⟨_, es', ep', hL, r'⟩) hok I.bare
theorem Inv.call {g' : Array GenState} {t' : Nat} {d' : Drawn} {ch : List Addr} (I : Inv X pins σ H s) (u : Un (frs X.stack) ch H H' s.heap h') (hok : HOk X.prog X.w H' h') (hg : AllBare g')
    (hch : ∀ b ∈ ch, (b ∈ X.ex ∨ X.s₀.heap.objs.size ≤ b) ∧ b ≠ X.env.locals ∧ (∀ x c, X.env.cells.lookup x = some c → c ≠ b) ∧ ∀ p ∈ X.pn ++ pins, p.1 ≠ b) :
    Inv X pins σ H' { s with heap := h', gens := g', drawn := d', toks := t' } := by
  obtain ⟨m, ⟨o, es, ep, ho, r⟩, _⟩ := id I.loc
  obtain ⟨sl, hL⟩ := u.any ho I.free fun z => (hch _ z).2.1 rfl
  exact I.step (ch := ch) hch (fun b o hL hb hc e n => u.keep b o e n (fun z => (List.mem_cons.mp (I.stkSub b z)).elim hL hb) hc) (fun b o _ _ hc e n => u.any e n hc) (fun b o hc e n => u.free b o e n hc) (fun b o hc e => u.there b o e hc) u.tups u.frzs u.tbls (fun m' hm => by
    obtain ⟨o', es', ep', ho', r'⟩ := hm
    rw [ho] at ho'; cases ho'
    exact ⟨_, es', ep', hL, r'⟩) hok hg
theorem Inv.turned {t' : Nat} {it : Addr} (I : Inv X pins σ H s) (k : ∀ b o, b ≠ it → s.heap.get? b = some o → h'.get? b = some o) (hn : H it = none) (hL : it ≠ X.env.locals)
    (h1 : it ∈ X.ex ∨ X.s₀.heap.objs.size ≤ it) (h2 : ∀ x c, X.env.cells.lookup x = some c → c ≠ it) (h3 : ∀ p ∈ X.pn ++ pins, p.1 ≠ it) : Inv X pins σ H { s with heap := h', toks := t' } := by
  have nit : ∀ b u, H b = some u → b ≠ it := fun b u e z => by rw [z, hn] at e; cases e
  refine I.step (g' := s.gens) (d' := s.drawn) (ch := [it]) (fun b hb => ?_) (fun b o _ _ hc e _ => k b o (fun z => hc (by simp [z])) e) (fun b o _ _ hc e _ => ⟨o.slots, k b o (fun z => hc (by simp [z])) e⟩) (fun _ _ _ _ n => n)
    (fun b o hc e => ⟨o, k b o (fun z => hc (by simp [z])) e⟩) (fun _ _ e => e) (fun _ _ _ e => e) (fun b ps e => ⟨#[], by rw [e]; simp⟩) (fun m hm => ?_) (fun b u e => ?_) I.bare
  · have e : b = it := by simpa using hb
    subst e
    exact ⟨h1, hL, h2, h3⟩
  · obtain ⟨o, es, ep, ho, r⟩ := hm
    exact ⟨o, es, ep, k _ o (Ne.symm hL) ho, r⟩
  · refine (I.hok b u e).stay (fun c v hc q => k c v ?_ q) (fun _ q => q) fun _ _ q => q
    rcases hc with z | z
    · rw [z]; exact nit b u e
    · exact nit c _ z
theorem Inv.tok (I : Inv X pins σ H s) (t : Nat) : Inv X pins σ H { s with toks := t } := I.un (h' := s.heap) (t' := t) Un.refl I.hok
theorem Inv.kept {t' : Nat} (I : Inv X pins σ H s) (k : ∀ b u, s.heap.get? b = some u → h'.get? b = some u) : Inv X pins σ H { s with heap := h', toks := t' } := I.un (Un.kept k) (I.hok.kept k)
theorem Inv.laid {a : Addr} {o : HO} {t' : Nat} (I : Inv X pins σ H s) (k : ∀ b u, s.heap.get? b = some u → h'.get? b = some u) (hp : s.heap.objs.size ≤ a) (new : ObjOk X.prog X.w (upd H a o) h' a o) :
    Inv X pins σ (upd H a o) { s with heap := h', toks := t' } := I.un (Un.laid k hp (I.hok.fresh hp)) (I.hok.laid k hp new)
theorem Inv.write {x e : Addr} {o : HO} {t' : Nat} (I : Inv X pins σ H s) (mu : Mut (H x)) (he : e = x ∨ H e = some (.own x)) (k : ∀ b u, b ≠ e → s.heap.get? b = some u → h'.get? b = some u) (heo : ∃ u, h'.get? e = some u)
    (new : ObjOk X.prog X.w (upd H x o) h' x o) : Inv X pins σ (upd H x o) { s with heap := h', toks := t' } := I.un (Un.write mu he k heo) (I.hok.write mu he k heo new)
theorem Inv.pins_of {pins' : List (Addr × Obj)} (I : Inv X pins σ H s) (h : ∀ p ∈ pins', s.heap.get? p.1 = some p.2 ∧ H p.1 = none ∧ p.1 ≠ X.env.locals ∧ p.1 ∉ X.fs ∧ ∀ v, p.2.data ≠ .cell v) : Inv X pins' σ H s :=
  ⟨I.ok, I.os, I.bare, I.base, I.loc, I.cell, I.free, I.freeC, fun p hp => (List.mem_append.mp hp).elim (fun z => I.pin p (List.mem_append_left _ z)) (h p), I.hok, I.len⟩
theorem nodup_ix {N : List Str} (hN : N.Nodup) {i j : Nat} {x : Str} (a : N[i]? = some x) (b : N[j]? = some x) : i = j := by
  obtain ⟨h1, e1⟩ := List.getElem?_eq_some_iff.mp a
  obtain ⟨h2, e2⟩ := List.getElem?_eq_some_iff.mp b
  exact (List.getElem_inj hN).mp (e1.trans e2.symm)
theorem store_ok2 {M : Model} {A : Around} {E : Value → Shared → Prop} {i : Nat} {x : Str} {v : V} {u : Value} {Q : Unit → Shared → Prop} (I : Inv X pins σ H s) (hN : X.N.Nodup) (hi : X.N[i]? = some x) (hx : Loc X.env.scope x) (r : RelV v u)
    (h : ∀ s', Inv X pins (σ.set i (some v)) H s' → (∃ a, Heap.SameBut a s.heap s'.heap ∧ (a = X.env.locals ∨ X.env.cells.lookup x = some a)) → Q () s') (hf : X.fn x = true ∨ X.env.scope.names.lookup x = some .local := by first | exact .inl rfl | exact .inr rfl | assumption) : wpAny M A (storeName X.env x u) Q E s := by
  obtain ⟨m, hn, hl⟩ := id I.loc
  have hcls : (X.env.scope.kind == .class || (X.env.scope.kind == .module && X.env.locals != X.env.globals)) = false := by rw [I.ok.kind]; rfl
  have hiσ : i < σ.length := by rw [I.len]; exact (List.getElem?_eq_some_iff.mp hi).1
  have cne := I.cne
  have tracked : ∀ {a : Addr} {h' : Heap}, (∃ o, s.heap.get? a = some o ∧ H a = none) → Heap.SameBut a s.heap h' → HOk X.prog X.w H h' := fun {a h'} ha hs b ob e => by
    obtain ⟨_, _, hfree⟩ := ha
    refine (I.hok b ob e).stay (fun c w' hc q => (hs.2 c ?_).trans q) (fun _ q => q) fun _ _ q => q
    rintro rfl
    rcases hc with rfl | hc
    · rw [hfree] at e; cases e
    · rw [hfree] at hc; cases hc
  rcases hx with hk | hk
  · refine wpAny_storeName_local hk hn (fun h' hn' hs => ?_) hcls
    obtain ⟨oL, _, _, hoL, _⟩ := id hn
    refine h _ ⟨I.ok, I.os, I.bare, ⟨fun b o e n hb hx => ?_, fun b o e n hb hx => ?_, I.base.free, fun b o e hx => ?_, I.base.tups, I.base.frzs, I.base.tbls⟩, ⟨_, hn', fun j y v' e1 e2 e3 => ?_⟩, fun y c e => ?_, I.free, I.freeC, fun p hp => ?_, tracked ⟨oL, hoL, I.free⟩ hs, by simpa using I.len⟩ ⟨_, hs, .inl rfl⟩
    · exact (hs.2 b (Nat.ne_of_lt (Nat.lt_of_lt_of_le (Heap.lt_size e) I.ok.above))).trans (I.base.keep b o e n hb hx)
    · obtain ⟨sl, e1⟩ := I.base.slot b o e n hb hx
      exact ⟨sl, (hs.2 b (Nat.ne_of_lt (Nat.lt_of_lt_of_le (Heap.lt_size e) I.ok.above))).trans e1⟩
    · obtain ⟨o', e1⟩ := I.base.there b o e hx
      exact ⟨o', (hs.2 b (Nat.ne_of_lt (Nat.lt_of_lt_of_le (Heap.lt_size e) I.ok.above))).trans e1⟩
    · by_cases hj : j = i
      · subst hj
        rw [hi] at e1; cases e1
        rw [List.getElem?_set_self hiσ] at e2
        cases e2
        exact ⟨u, r, .inl ⟨hk, by simp⟩⟩
      · rw [List.getElem?_set_ne (Ne.symm hj)] at e2
        obtain ⟨u', r', q⟩ := hl j y v' e1 e2 e3
        refine ⟨u', r', ?_⟩
        rcases q with ⟨k, e⟩ | ⟨k, c, e, z⟩
        · refine .inl ⟨k, ?_⟩
          have : y ≠ x := fun e => hj (nodup_ix hN e1 (e ▸ hi))
          simp [this, e]
        · exact .inr ⟨k, c, e, z.sameBut hs (cne y c e)⟩
    · obtain ⟨w', z⟩ := I.cell y c e
      exact ⟨w', z.sameBut hs (cne y c e)⟩
    · obtain ⟨e, n, ne, nf, d⟩ := I.pin p hp
      exact ⟨(hs.2 p.1 ne).trans e, n, ne, nf, d⟩
  · have hfn : X.fn x = true := by
      rcases hf with z | z
      · exact z
      · rw [z] at hk; cases hk
    obtain ⟨c, hc⟩ := I.ok.has x (.inl hk)
    obtain ⟨w', z⟩ := I.cell x c hc
    refine wpAny_storeName_cell I.ok.kind hk hc z (fun h' hc' hs => ?_)
    obtain ⟨oc, hoc, hocd⟩ := id z
    refine h { s with heap := h' } ⟨I.ok, I.os, I.bare, ⟨fun b o e n hb hx => ?_, fun b o e n hb hx => ?_, I.base.free, fun b o e hx => ?_, I.base.tups, I.base.frzs, I.base.tbls⟩, ⟨m, hn.sameBut hs (Ne.symm (cne x c hc)), fun j y v' e1 e2 e3 => ?_⟩, fun y c' e => ?_, I.free, I.freeC, fun p hp => ?_, tracked ⟨oc, hoc, I.freeC x c hc⟩ hs, by simpa using I.len⟩ ⟨c, hs, .inr hc⟩
    · exact (hs.2 b (Nat.ne_of_lt (Nat.lt_of_lt_of_le (Heap.lt_size e) (I.ok.cab x c hfn hc)))).trans (I.base.keep b o e n hb hx)
    · obtain ⟨sl, e1⟩ := I.base.slot b o e n hb hx
      exact ⟨sl, (hs.2 b (Nat.ne_of_lt (Nat.lt_of_lt_of_le (Heap.lt_size e) (I.ok.cab x c hfn hc)))).trans e1⟩
    · obtain ⟨o', e1⟩ := I.base.there b o e hx
      exact ⟨o', (hs.2 b (Nat.ne_of_lt (Nat.lt_of_lt_of_le (Heap.lt_size e) (I.ok.cab x c hfn hc)))).trans e1⟩
    · by_cases hj : j = i
      · subst hj
        rw [hi] at e1; cases e1
        rw [List.getElem?_set_self hiσ] at e2
        cases e2
        exact ⟨u, r, .inr ⟨.inl hk, c, hc, hc'⟩⟩
      · rw [List.getElem?_set_ne (Ne.symm hj)] at e2
        obtain ⟨u', r', q⟩ := hl j y v' e1 e2 e3
        refine ⟨u', r', ?_⟩
        rcases q with q | ⟨k, c', e, z'⟩
        · exact .inl q
        · refine .inr ⟨k, c', e, z'.sameBut hs ?_⟩
          rintro rfl
          exact hj (nodup_ix hN e1 (I.ok.inj _ _ _ e hc ▸ hi))
    · by_cases hcc : c' = c
      · subst hcc; exact ⟨_, hc'⟩
      · obtain ⟨w2, z2⟩ := I.cell y c' e
        exact ⟨w2, z2.sameBut hs hcc⟩
    · obtain ⟨e, n, ne, nf, d⟩ := I.pin p hp
      refine ⟨(hs.2 p.1 ?_).trans e, n, ne, nf, d⟩
      intro q
      rw [q, hoc] at e
      have q' : oc = p.2 := Option.some.inj e
      exact d w' (by rw [← q']; exact hocd)
theorem store_ok {M : Model} {A : Around} {E : Value → Shared → Prop} {i : Nat} {x : Str} {v : V} {u : Value} {Q : Unit → Shared → Prop} (I : Inv X pins σ H s) (hN : X.N.Nodup) (hi : X.N[i]? = some x) (hx : Loc X.env.scope x) (r : RelV v u)
    (h : ∀ s', Inv X pins (σ.set i (some v)) H s' → Q () s') (hf : X.fn x = true ∨ X.env.scope.names.lookup x = some .local := by first | exact .inl rfl | exact .inr rfl | assumption) : wpAny M A (storeName X.env x u) Q E s :=
  store_ok2 I hN hi hx r (fun s' I' _ => h s' I') hf
end
abbrev XK := Value → Option Addr → Hp → Prop
abbrev St := List (Option V)
abbrev VK := V → Hp → Prop
abbrev TE := St → Hp → VK → Prop
abbrev TT := St → Hp → (Bool → Hp → Prop) → Prop
abbrev TA := St → Hp → (List V → Hp → Prop) → Prop
structure Ends where
  nx : St → Hp → Prop
  rt : VK
  bk : St → Hp → Prop := fun _ _ => False
  ct : St → Hp → Prop := fun _ _ => False
abbrev TS := Ends → St → Hp → Prop
def EP (X : Cx) (pins : List (Addr × Obj)) (σ : St) (Q : VK) (u : Value) (s' : Shared) : Prop := ∃ v H', Inv X pins σ H' s' ∧ RelV v u ∧ Q v H'
def TP (X : Cx) (pins : List (Addr × Obj)) (σ : St) (Q : Bool → Hp → Prop) (b : Bool) (s' : Shared) : Prop := ∃ H', Inv X pins σ H' s' ∧ Q b H'
def AP (X : Cx) (pins : List (Addr × Obj)) (σ : St) (Q : List V → Hp → Prop) (us : List Value) (s' : Shared) : Prop := ∃ vs H', Inv X pins σ H' s' ∧ Vals vs us ∧ Q vs H'
def SP (X : Cx) (pins : List (Addr × Obj)) (D : Ends) (f : Flow) (s' : Shared) : Prop :=
  match f with
  | .next => ∃ σ' H', Inv X pins σ' H' s' ∧ D.nx σ' H'
  | .brk => ∃ σ' H', Inv X pins σ' H' s' ∧ D.bk σ' H'
  | .cont => ∃ σ' H', Inv X pins σ' H' s' ∧ D.ct σ' H'
  | .ret u => ∃ v σ' H', Inv X pins σ' H' s' ∧ RelV v u ∧ D.rt v H'
def PE (X : Cx) (e : Expr) (t : TE) : Prop :=
  ∀ (pins : List (Addr × Obj)) (s : Shared) (σ : St) (H : Hp) (Q : VK), Inv X pins σ H s → t σ H Q → wpAny (model X.prog X.w) X.A (eval e X.env) (EP X pins σ Q) X.xe s
def PT (X : Cx) (e : Expr) (t : TT) : Prop :=
  ∀ (pins : List (Addr × Obj)) (s : Shared) (σ : St) (H : Hp) (Q : Bool → Hp → Prop), Inv X pins σ H s → t σ H Q → wpAny (model X.prog X.w) X.A (isTrue e X.env (eval e X.env)) (TP X pins σ Q) X.xe s
def PW (X : Cx) (e : Expr) (t : TT) : Prop :=
  ∀ (whole : Sem Value) (pins : List (Addr × Obj)) (s : Shared) (σ : St) (H : Hp) (Q : Bool → Hp → Prop), Inv X pins σ H s → t σ H Q → wpAny (model X.prog X.w) X.A (isTrue e X.env whole) (TP X pins σ Q) X.xe s
theorem PW.pt {X : Cx} {e : Expr} {t : TT} (h : PW X e t) : PT X e t := h _
def PA (X : Cx) (es : List Expr) (t : TA) : Prop :=
  ∀ (pos : Pos) (pins : List (Addr × Obj)) (s : Shared) (σ : St) (H : Hp) (Q : List V → Hp → Prop), Inv X pins σ H s → t σ H Q → wpAny (model X.prog X.w) X.A (spliced (backTo pos (starEach es X.env))) (AP X pins σ Q) X.xe s
def PS (X : Cx) (st : Stmt) (t : TS) : Prop :=
  ∀ (pins : List (Addr × Obj)) (s : Shared) (σ : St) (H : Hp) (D : Ends), Inv X pins σ H s → t D σ H → wpAny (model X.prog X.w) X.A (exec st X.env) (SP X pins D) X.xe s
def PSs (X : Cx) (st : List Stmt) (t : TS) : Prop :=
  ∀ (pins : List (Addr × Obj)) (s : Shared) (σ : St) (H : Hp) (D : Ends), Inv X pins σ H s → t D σ H → wpAny (model X.prog X.w) X.A (execs st X.env) (SP X pins D) X.xe s
theorem thn {α : Type} {t : Sem α} {Q Q' : α → Shared → Prop} {M : Model} {A : Around} {E : Value → Shared → Prop} {s : Shared} (h : wpAny M A t Q E s) (hQ : ∀ a s, Q a s → Q' a s) : wpAny M A t Q' E s := wpAny_mono h hQ fun _ _ x => x
end L2
namespace L2
open PySem PySem.Spec PyProof.Rows
section
variable {X : Cx}
def tVar (i : Nat) : TE := fun σ H Q => ∃ v, σ[i]? = some (some v) ∧ Q v H
def tC (v : V) : TE := fun _ H Q => Q v H
theorem pe_var {i : Nat} {x : Str} {pos : Pos} (hN : X.N[i]? = some x) (hv : Vis X.env.scope x) (hd : (x == ("__debug__" : Str)) = false := by decide) (hcd : (x == ("__classdict__" : Str)) = false := by decide) : PE X (.Name x pos) (tVar i) := by
  intro pins s σ H Q I h
  obtain ⟨v, e, h⟩ := h
  obtain ⟨m, hn, hl⟩ := I.loc
  obtain ⟨u, r, l⟩ := hl i x v hN e hv
  have fin : EP X pins σ Q u s := ⟨v, H, I, r, h⟩
  rcases l with ⟨hk, hm⟩ | ⟨hk, c, hc, hcell⟩
  · exact wpAny_Name (wpAny_loadName_local I.ok.kind hk hn hm fin) hd
  · rcases hk with hk | hk
    · exact wpAny_Name (wpAny_loadName_cell I.ok.kind hk hc hcell fin) hd
    · exact wpAny_Name (wpAny_loadName_free I.ok.kind hk hc hcell fin hcd) hd
theorem pe_int {i j pos} : PE X (.Constant (.int i) j pos) (tC (.int i)) := fun _ _ _ H _ I h => wpAny_Constant_int ⟨.int i, H, I.tok _, ⟨_, rfl⟩, h⟩
theorem pe_bl {b j pos} : PE X (.Constant (.bool b) j pos) (tC (.bl b)) := fun _ _ _ H _ I h => Constant_bool ⟨.bl b, H, I, rfl, h⟩
theorem pe_non {j pos} : PE X (.Constant .none j pos) (tC .non) := fun _ _ _ H _ I h => Constant_none ⟨.non, H, I, rfl, h⟩
theorem pe_str {x j pos} : PE X (.Constant (.str x) j pos) (tC (.str x)) := fun _ _ _ H _ I h => Calls.Constant_str ⟨.str x, H, I.tok _, ⟨_, rfl⟩, h⟩
def Gl (X : Cx) (x : Str) : Prop := X.env.kindOf x = some .globalImplicit
theorem ld_glob {E : Value → Shared → Prop} {pins : List (Addr × Obj)} {s : Shared} {σ : St} {H : Hp} {x : Str} {u : Value} {pos : Pos} {Q : Value → Shared → Prop} (I : Inv X pins σ H s) (hg : Gl X x) (hm : X.mg x = some u) (h : Q u s)
    (hd : (x == ("__debug__" : Str)) = false := by decide) : wpAny (model X.prog X.w) X.A (eval (.Name x pos) X.env) Q E s :=
  Calls.Name_function_global I.ok.kind hg (Calls.loadGlobal_global (by rw [I.ok.glob]; exact I.mod.glob.keeps I.bk) hm h) hd
theorem ld_blt {E : Value → Shared → Prop} {pins : List (Addr × Obj)} {s : Shared} {σ : St} {H : Hp} {x : Str} {u : Value} {pos : Pos} {Q : Value → Shared → Prop} (I : Inv X pins σ H s) (hg : Gl X x) (hm : X.mg x = none) (hv : bootBuiltins x = some u) (h : Q u s)
    (hn : x ≠ "__name__" := by decide) (hd : (x == ("__debug__" : Str)) = false := by decide) : wpAny (model X.prog X.w) X.A (eval (.Name x pos) X.env) Q E s := by
  obtain ⟨mb, h1, h2⟩ := I.mod.blt
  exact Calls.Name_function_global I.ok.kind hg (Calls.loadGlobal_builtin (by rw [I.ok.glob]; exact I.mod.glob.keeps I.bk) hm (by rw [I.ok.blt]; exact h1.keeps I.bk) ((h2 x hn).trans hv) h) hd
theorem pe_glob {x : Str} {v : V} {u : Value} {pos : Pos} (hg : Gl X x) (hm : X.mg x = some u) (r : RelV v u) (hd : (x == ("__debug__" : Str)) = false := by decide) : PE X (.Name x pos) (tC v) :=
  fun _ _ _ H _ I h => ld_glob I hg hm ⟨v, H, I, r, h⟩ hd
theorem pe_bltn {x : Str} {v : V} {u : Value} {pos : Pos} (hg : Gl X x) (hm : X.mg x = none) (hv : bootBuiltins x = some u) (r : RelV v u) (hn : x ≠ "__name__" := by decide) (hd : (x == ("__debug__" : Str)) = false := by decide) : PE X (.Name x pos) (tC v) :=
  fun _ _ _ H _ I h => ld_blt I hg hm hv ⟨v, H, I, r, h⟩ hn hd
variable {a b : Expr} {ta tb : TE} {pos : Pos}
def PC (X : Cx) (op : CmpOp) (a b : Expr) (t : TE) : Prop :=
  ∀ (pins : List (Addr × Obj)) (s : Shared) (σ : St) (H : Hp) (Q : VK), Inv X pins σ H s → t σ H Q →
    wpAny (model X.prog X.w) X.A (eval a X.env) (fun v s₁ => wpAny (model X.prog X.w) X.A (eval b X.env) (fun u s₂ => wpAny (model X.prog X.w) X.A (compareOp op v u) (EP X pins σ Q) X.xe s₂) X.xe s₁) X.xe s
theorem nobehind (b : Expr) {op : CmpOp} (h : op ≠ .In) (h2 : op ≠ .NotIn) : behindInMarks op b = false := by
  have e1 : (op == CmpOp.In) = false := by cases op <;> first | rfl | exact absurd rfl h
  have e2 : (op == CmpOp.NotIn) = false := by cases op <;> first | rfl | exact absurd rfl h2
  cases b <;> simp [behindInMarks, e1, e2]
def tIsN (ta : TE) : TE := fun σ H Q => ta σ H fun x H1 => Q (.bl (decide (x = .non))) H1
def tNotN (ta : TE) : TE := fun σ H Q => ta σ H fun x H1 => Q (.bl (!decide (x = .non))) H1
theorem RelV.none_iff {x : V} {v : Value} (r : RelV x v) : (v == Value.none) = decide (x = .non) := by
  cases x with
  | non => cases r; rfl
  | bl _ => cases r; rfl
  | int _ => obtain ⟨t, rfl⟩ := r; rfl
  | str _ => obtain ⟨t, rfl⟩ := r; rfl
  | byt _ => obtain ⟨t, rfl⟩ := r; rfl
  | flt _ => obtain ⟨t, rfl⟩ := r; rfl
  | ref _ => cases r; rfl
  | ty _ => cases r; rfl
theorem pc_isN {j pos'} (ha : PE X a ta) : PC X .Is a (.Constant .none j pos') (tIsN ta) := by
  intro pins s σ H Q I h
  refine thn (ha pins s σ H _ I h) fun v s1 ⟨x, H1, I1, r1, q1⟩ => ?_
  exact Constant_none (is_none_gen ⟨.bl _, H1, I1, by rw [r1.none_iff]; rfl, q1⟩)
theorem pc_notN {j pos'} (ha : PE X a ta) : PC X .IsNot a (.Constant .none j pos') (tNotN ta) := by
  intro pins s σ H Q I h
  refine thn (ha pins s σ H _ I h) fun v s1 ⟨x, H1, I1, r1, q1⟩ => ?_
  exact Constant_none (isnot_none_gen ⟨.bl _, H1, I1, by rw [r1.none_iff]; rfl, q1⟩)
def tB (t : TE) : TT := fun σ H Q => t σ H fun x H1 => ∃ c, x = .bl c ∧ Q c H1
theorem pt_cmp {op : CmpOp} {t : TE} (h : PC X op a b t) (h1 : behindInMarks op b = false := by first | exact nobehind _ (by decide) (by decide) | rfl) : PT X (.Compare a [op] [b] pos) (tB t) := by
  intro pins s σ H Q I hw
  refine wpAny_isTrue_Compare1 (thn (h pins s σ H _ I hw) fun v s1 h1 => thn h1 fun u s2 h2 => thn h2 fun c s3 ⟨x, H1, I1, r1, q1⟩ => ?_) h1
  obtain ⟨d, rfl, q⟩ := q1
  cases r1
  exact wpAny_truthy_bool ⟨H1, I1, q⟩
theorem pt_val {e : Expr} {t : TE} (h : PE X e t) (he : ∀ whole, isTrue e X.env whole = (do let v ← whole; standAt e.pos; holding [v] (truthy v)) := by intro _; rfl) : PT X e (tB t) := by
  intro pins s σ H Q I hw
  refine isTrue_plain (thn (h pins s σ H _ I hw) fun v s1 ⟨x, H1, I1, r1, q1⟩ => ?_) (he _)
  obtain ⟨d, rfl, q⟩ := q1
  cases r1
  exact wpAny_truthy_bool ⟨H1, I1, q⟩
variable {tA tB' : TT} {rest : List Expr}
def tAnd (t u : TT) : TT := fun σ H Q => t σ H fun c H1 => if c = true then u σ H1 Q else Q false H1
def tOr (t u : TT) : TT := fun σ H Q => t σ H fun c H1 => if c = true then Q true H1 else u σ H1 Q
def tNot (t : TT) : TT := fun σ H Q => t σ H fun c H1 => Q (!c) H1
theorem pw_and1 (ha : PT X a tA) : PW X (.BoolOp .And [a] pos) tA := by
  intro wh pins s σ H Q I h
  refine isTrue_and (thn (ha pins s σ H Q I h) fun c s1 e => ?_)
  cases c with
  | true => exact isTrue_and_nil e
  | false => exact e
theorem pw_or1 (ha : PT X a tA) : PW X (.BoolOp .Or [a] pos) tA := by
  intro wh pins s σ H Q I h
  refine isTrue_or (thn (ha pins s σ H Q I h) fun c s1 e => ?_)
  cases c with
  | false => exact isTrue_or_nil e
  | true => exact e
theorem pw_and (ha : PT X a tA) (hb : PW X (.BoolOp .And (b :: rest) pos) tB') : PW X (.BoolOp .And (a :: b :: rest) pos) (tAnd tA tB') := by
  intro wh pins s σ H Q I h
  refine isTrue_and (thn (ha pins s σ H _ I h) fun c s1 ⟨H1, I1, q1⟩ => ?_)
  cases c with
  | true => exact hb wh pins s1 σ H1 Q I1 q1
  | false => exact ⟨H1, I1, q1⟩
theorem pw_or (ha : PT X a tA) (hb : PW X (.BoolOp .Or (b :: rest) pos) tB') : PW X (.BoolOp .Or (a :: b :: rest) pos) (tOr tA tB') := by
  intro wh pins s σ H Q I h
  refine isTrue_or (thn (ha pins s σ H _ I h) fun c s1 ⟨H1, I1, q1⟩ => ?_)
  cases c with
  | true => exact ⟨H1, I1, q1⟩
  | false => exact hb wh pins s1 σ H1 Q I1 q1
theorem pt_not (ha : PT X a tA) : PT X (.UnaryOp .Not a pos) (tNot tA) := by
  intro pins s σ H Q I h
  exact isTrue_not (ha pins s σ H (fun c H1 => Q (!c) H1) I h)
def tAndV (ta tb : TE) : TE := fun σ H Q => ta σ H fun x H1 => ∃ c, x = .bl c ∧ if c = true then tb σ H1 Q else Q (.bl false) H1
def tOrV (ta tb : TE) : TE := fun σ H Q => ta σ H fun x H1 => ∃ c, x = .bl c ∧ if c = true then Q (.bl true) H1 else tb σ H1 Q
def tNotV (ta : TE) : TE := fun σ H Q => ta σ H fun x H1 => ∃ c, x = .bl c ∧ Q (.bl (!c)) H1
theorem pe_one {op} {t : TE} (h : PE X a t) : PE X (.BoolOp op [a] pos) t := fun pins s σ H Q I hw => BoolOp_one (h pins s σ H Q I hw)
theorem pe_and (ha : PE X a ta) (hb : PE X (.BoolOp .And (b :: rest) pos) tb) : PE X (.BoolOp .And (a :: b :: rest) pos) (tAndV ta tb) := by
  intro pins s σ H Q I h
  refine BoolOp_and (thn (ha pins s σ H _ I h) fun v s1 ⟨x, H1, I1, r1, q1⟩ => ?_)
  obtain ⟨c, rfl, q1⟩ := q1
  cases r1
  refine wpAny_truthy_bool ?_
  cases c with
  | true => exact hb pins s1 σ H1 Q I1 q1
  | false => exact ⟨.bl false, H1, I1, rfl, q1⟩
theorem pe_or (ha : PE X a ta) (hb : PE X (.BoolOp .Or (b :: rest) pos) tb) : PE X (.BoolOp .Or (a :: b :: rest) pos) (tOrV ta tb) := by
  intro pins s σ H Q I h
  refine BoolOp_or (thn (ha pins s σ H _ I h) fun v s1 ⟨x, H1, I1, r1, q1⟩ => ?_)
  obtain ⟨c, rfl, q1⟩ := q1
  cases r1
  refine wpAny_truthy_bool ?_
  cases c with
  | false => exact hb pins s1 σ H1 Q I1 q1
  | true => exact ⟨.bl true, H1, I1, rfl, q1⟩
theorem pe_not (ha : PE X a ta) : PE X (.UnaryOp .Not a pos) (tNotV ta) := by
  intro pins s σ H Q I h
  refine UnaryOp_ (thn (ha pins s σ H _ I h) fun v s1 ⟨x, H1, I1, r1, q1⟩ => ?_)
  obtain ⟨c, rfl, q1⟩ := q1
  cases r1
  exact not_of (wpAny_truthy_bool ⟨.bl (!c), H1, I1, rfl, q1⟩)
def tIf (t : TT) (ta tb : TE) : TE := fun σ H Q => t σ H fun c H1 => if c = true then ta σ H1 Q else tb σ H1 Q
theorem pe_ifExp {c : Expr} (hc : PT X c tA) (ha : PE X a ta) (hb : PE X b tb) : PE X (.IfExp c a b pos) (tIf tA ta tb) := by
  intro pins s σ H Q I h
  refine wpAny_IfExp (thn (hc pins s σ H _ I h) fun d s1 ⟨H1, I1, q1⟩ => ?_)
  cases d with
  | true => exact ha pins s1 σ H1 Q I1 q1
  | false => exact hb pins s1 σ H1 Q I1 q1
end
end L2
namespace L2
open PySem PySem.Spec PyProof.Rows
def SqL (K : PySem.W.Frag) (H : Hp) (a : Addr) (xs : List V) : Prop :=
  Rd H a (.lst xs) ∨
    ∃ (o : Obj) (its : Array Value) (n : Nat), K.lookup a = some o ∧ o.cls = .type "list" ∧ o.dict = none ∧ o.data = .seq its n ∧ its.size ≤ sizeLine ∧ Vals xs its.toList
def SqT (K : PySem.W.Frag) (H : Hp) (a : Addr) (xs : List V) : Prop :=
  Rd H a (.tup xs) ∨
    ∃ (o : Obj) (its : Array Value) (n : Nat), K.lookup a = some o ∧ o.cls = .type "tuple" ∧ o.data = .seq its n ∧ its.size ≤ sizeLine ∧ Vals xs its.toList
def absV : Value → Option V
  | .none => some .non
  | .bool b => some (.bl b)
  | .int i _ => some (.int i)
  | .str x _ => some (.str x)
  | .bytes b _ => some (.byt b)
  | .float b _ => some (.flt b)
  | .ref a => some (.ref a)
  | .type n => some (.ty n)
  | _ => none
theorem RelV.abs {x : V} {u : Value} (r : RelV x u) : absV u = some x := by
  cases x with
  | non => cases r; rfl
  | bl _ => cases r; rfl
  | int _ => obtain ⟨t, rfl⟩ := r; rfl
  | str _ => obtain ⟨t, rfl⟩ := r; rfl
  | byt _ => obtain ⟨t, rfl⟩ := r; rfl
  | flt _ => obtain ⟨t, rfl⟩ := r; rfl
  | ref _ => cases r; rfl
  | ty _ => cases r; rfl
theorem RelV.inj {x y : V} {u : Value} (r : RelV x u) (q : RelV y u) : x = y := Option.some.inj (r.abs.symm.trans q.abs)
theorem Vals.inj : ∀ {xs ys : List V} {us : List Value}, Vals xs us → Vals ys us → xs = ys
  | _, _, _, .nil, .nil => rfl
  | _, _, _, .cons r t, .cons r' t' => by rw [r.inj r', Vals.inj t t']
section
variable {X : Cx} {pins : List (Addr × Obj)} {σ : St} {H : Hp} {s : Shared} {a : Addr} {xs ys : List V}
theorem SqL.of {K : PySem.W.Frag} (h : H a = some (.lst xs)) : SqL K H a xs := .inl (.inl h)
theorem SqT.of {K : PySem.W.Frag} (h : H a = some (.tup xs)) : SqT K H a xs := .inl (.inl h)
theorem Inv.list (I : Inv X pins σ H s) (h : SqL X.K H a xs) : ∃ its : List Value, Vals xs its ∧ PlainL s.heap a its.toArray ∧ xs.length ≤ sizeLine := by
  rcases h with h | ⟨o, its, n, hk, hc, hd, hs, hz, r⟩
  · obtain ⟨z, its, n, r, e⟩ := h.ok I.hok
    exact ⟨its, r, ⟨_, n, e, rfl, rfl, rfl⟩, z⟩
  · refine ⟨its.toList, r, ⟨o, n, I.kIn a o hk, hc, hd, by simpa using hs⟩, ?_⟩
    have e := r.length
    simp only [Array.length_toList] at e
    omega
theorem Inv.tuple (I : Inv X pins σ H s) (h : SqT X.K H a xs) : ∃ its : List Value, Vals xs its ∧ IsTup s.heap a its.toArray ∧ xs.length ≤ sizeLine := by
  rcases h with h | ⟨o, its, n, hk, hc, hs, hz, r⟩
  · obtain ⟨z, its, r, p⟩ := h.ok I.hok
    exact ⟨its, r, p, z⟩
  · refine ⟨its.toList, r, ⟨o, I.kIn a o hk, hc, n, by simpa using hs⟩, ?_⟩
    have e := r.length
    simp only [Array.length_toList] at e
    omega
theorem Inv.list_inj (I : Inv X pins σ H s) (h : SqL X.K H a xs) (h' : SqL X.K H a ys) : xs = ys := by
  obtain ⟨its, r, ⟨o, n, e, _, _, d⟩, _⟩ := I.list h
  obtain ⟨its', r', ⟨o', n', e', _, _, d'⟩, _⟩ := I.list h'
  rw [e] at e'; cases e'
  rw [d] at d'
  injection d' with d1 _
  have : its = its' := by simpa using congrArg Array.toList d1
  subst this
  exact r.inj r'
theorem Inv.tuple_inj (I : Inv X pins σ H s) (h : SqT X.K H a xs) (h' : SqT X.K H a ys) : xs = ys := by
  obtain ⟨its, r, ⟨o, e, _, n, d⟩, _⟩ := I.tuple h
  obtain ⟨its', r', ⟨o', e', _, n', d'⟩, _⟩ := I.tuple h'
  rw [e] at e'; cases e'
  rw [d] at d'
  injection d' with d1 _
  have : its = its' := by simpa using congrArg Array.toList d1
  subst this
  exact r.inj r'
end
abbrev Cx.wish (X : Cx) (E : Value → Shared → Prop) : Cx := { X with xe := E }
abbrev Cx.nox (X : Cx) : Cx := X.wish fun _ _ => False
theorem Cx.Ok.wish {X : Cx} (ok : X.Ok) (E : Value → Shared → Prop) : (X.wish E).Ok :=
  ⟨ok.mod, ok.kind, ok.glob, ok.blt, ok.above, ok.inj, ok.has, ok.cab, ok.hd, ok.frames, ok.stk, ok.exf, ok.bs, ok.bsz, ok.noex, ok.exfs, ok.funs, ok.frf⟩
theorem Cx.Ok.unwish {X : Cx} {E : Value → Shared → Prop} (ok : (X.wish E).Ok) : X.Ok :=
  ⟨ok.mod, ok.kind, ok.glob, ok.blt, ok.above, ok.inj, ok.has, ok.cab, ok.hd, ok.frames, ok.stk, ok.exf, ok.bs, ok.bsz, ok.noex, ok.exfs, ok.funs, ok.frf⟩
section
variable {X : Cx} {pins : List (Addr × Obj)} {σ : St} {H : Hp} {s : Shared} {E : Value → Shared → Prop}
theorem Inv.wish (I : Inv X pins σ H s) (E : Value → Shared → Prop) : Inv (X.wish E) pins σ H s := ⟨I.ok.wish E, I.os, I.bare, I.base, I.loc, I.cell, I.free, I.freeC, I.pin, I.hok, I.len⟩
theorem Inv.unwish (I : Inv (X.wish E) pins σ H s) : Inv X pins σ H s := ⟨I.ok.unwish, I.os, I.bare, I.base, I.loc, I.cell, I.free, I.freeC, I.pin, I.hok, I.len⟩
theorem SP.unwish {D : Ends} {f : Flow} {s' : Shared} (h : SP (X.wish E) pins D f s') : SP X pins D f s' := by
  cases f with
  | next => obtain ⟨σ', H', I, q⟩ := h; exact ⟨σ', H', I.unwish, q⟩
  | brk => obtain ⟨σ', H', I, q⟩ := h; exact ⟨σ', H', I.unwish, q⟩
  | cont => obtain ⟨σ', H', I, q⟩ := h; exact ⟨σ', H', I.unwish, q⟩
  | ret u => obtain ⟨v, σ', H', I, r, q⟩ := h; exact ⟨v, σ', H', I.unwish, r, q⟩
theorem PE.nox {e : Expr} {t : TE} (h : PE X.nox e t) : PE X e t := fun pins s σ H Q I hw =>
  wpAny_mono (h pins s σ H Q (I.wish _) hw) (fun _ _ ⟨v, H', I', r, q⟩ => ⟨v, H', I'.unwish, r, q⟩) fun _ _ z => False.elim z
theorem PT.nox {e : Expr} {t : TT} (h : PT X.nox e t) : PT X e t := fun pins s σ H Q I hw =>
  wpAny_mono (h pins s σ H Q (I.wish _) hw) (fun _ _ ⟨H', I', q⟩ => ⟨H', I'.unwish, q⟩) fun _ _ z => False.elim z
theorem PSs.nox {st : List Stmt} {t : TS} (h : PSs X.nox st t) : PSs X st t := fun pins s σ H D I hw =>
  wpAny_mono (h pins s σ H D (I.wish _) hw) (fun _ _ q => q.unwish) fun _ _ z => False.elim z
end
section
variable {X : Cx} {st : Stmt} {rest : List Stmt} {t u : TS} {e : Expr} {te : TE} {pos : Pos}
def tNext : TS := fun D σ H => D.nx σ H
def tSeq (t u : TS) : TS := fun D σ H => t { D with nx := u D } σ H
theorem pss_nil : PSs X [] tNext := fun _ _ σ H _ I h => wpAny_execs_nil ⟨σ, H, I, h⟩
theorem pss_cons (h1 : PS X st t) (h2 : PSs X rest u) : PSs X (st :: rest) (tSeq t u) := by
  intro pins s σ H D I h
  refine wpAny_execs_cons (thn (h1 pins s σ H { D with nx := u D } I h) fun f s1 q => ?_)
  cases f with
  | next =>
    obtain ⟨σ', H', I', q⟩ := q
    exact h2 pins s1 σ' H' D I' q
  | ret v => exact q
  | brk => exact q
  | cont => exact q
theorem pss_one (h1 : PS X st t) : PSs X [st] t := by
  intro pins s σ H D I h
  refine wpAny_execs_cons (thn (h1 pins s σ H D I h) fun f s1 q => ?_)
  cases f with
  | next => exact wpAny_execs_nil q
  | ret v => exact q
  | brk => exact q
  | cont => exact q
theorem Inv.quiet {pins : List (Addr × Obj)} {σ : St} {H : Hp} {s : Shared} (I : Inv X pins σ H s) : interactive X.env = false := by simp [interactive, I.ok.kind]
def tDrop (te : TE) : TS := fun D σ H => te σ H fun _ H1 => D.nx σ H1
theorem ps_expr (he : PE X e te) (hs : swapsWith e none pos.line X.env = pure false := by rfl) : PS X (.Expr e pos) (tDrop te) := by
  intro pins s σ H D I h
  exact wpAny_Expr_any (thn (he pins s σ H _ I h) fun v s1 ⟨x, H1, I1, r1, q1⟩ => ⟨σ, H1, I1, q1⟩) I.quiet hs
def tRet (te : TE) : TS := fun D σ H => te σ H D.rt
theorem ps_ret (he : PE X e te) : PS X (.Return (some e) pos) (tRet te) := by
  intro pins s σ H D I h
  exact wpAny_Return_some (thn (he pins s σ H _ I h) fun v s1 ⟨x, H1, I1, r1, q1⟩ => ⟨x, σ, H1, I1, r1, q1⟩)
def tIfS (c : TT) (t u : TS) : TS := fun D σ H => c σ H fun b H1 => if b = true then t D σ H1 else u D σ H1
theorem ps_if {c : Expr} {a b : List Stmt} {tc : TT} (hc : PT X c tc) (ha : PSs X a t) (hb : PSs X b u) : PS X (.If c a b pos) (tIfS tc t u) := by
  intro pins s σ H D I h
  refine wpAny_If (thn (hc pins s σ H _ I h) fun d s1 ⟨H1, I1, q1⟩ => ?_)
  cases d with
  | true => exact ha pins s1 σ H1 D I1 q1
  | false => exact hb pins s1 σ H1 D I1 q1
end
abbrev TG := V → St → Hp → (St → Hp → Prop) → Prop
abbrev TGs := List V → St → Hp → (St → Hp → Prop) → Prop
def PG (X : Cx) (target : Expr) (t : TG) : Prop :=
  ∀ (pins : List (Addr × Obj)) (s : Shared) (σ : St) (H : Hp) (v : V) (u : Value) (Q : St → Hp → Prop), Inv X pins σ H s → RelV v u → t v σ H Q →
    wpAny (model X.prog X.w) X.A (assign target X.env u) (fun _ s' => ∃ σ' H', Inv X pins σ' H' s' ∧ Q σ' H') X.xe s
def PGs (X : Cx) (ts : List Expr) (t : TGs) : Prop :=
  ∀ (pins : List (Addr × Obj)) (s : Shared) (σ : St) (H : Hp) (vs : List V) (us : List Value) (Q : St → Hp → Prop), Inv X pins σ H s → Vals vs us → t vs σ H Q →
    wpAny (model X.prog X.w) X.A (assignInOrder ((assignEach ts X.env).map (·.2)) us) (fun _ s' => ∃ σ' H', Inv X pins σ' H' s' ∧ Q σ' H') X.xe s
abbrev TSet := V → V → V → Hp → (Hp → Prop) → Prop
def PSet (X : Cx) (t : TSet) : Prop :=
  ∀ (pins : List (Addr × Obj)) (s : Shared) (σ : St) (H : Hp) (o i v : V) (ov iv u : Value) (Q : Hp → Prop), Inv X pins σ H s → RelV o ov → RelV i iv → RelV v u → t o i v H Q →
    wpAny (model X.prog X.w) X.A (setItem ov iv u) (fun _ s' => ∃ H', Inv X pins σ H' s' ∧ Q H') X.xe s
section
variable {X : Cx} {pos : Pos}
def gName (i : Nat) : TG := fun v σ H Q => Q (σ.set i (some v)) H
theorem pg_name {i : Nat} {x : Str} (hN : X.N.Nodup) (hi : X.N[i]? = some x) (hx : Loc X.env.scope x) (hf : X.fn x = true ∨ X.env.scope.names.lookup x = some .local := by first | exact .inl rfl | exact .inr rfl | assumption) : PG X (.Name x pos) (gName i) := by
  intro pins s σ H v u Q I r h
  exact wpAny_assign_Name (store_ok I hN hi hx r (fun s' I' => ⟨_, H, I', h⟩) hf)
def gNil : TGs := fun vs σ H Q => vs = [] ∧ Q σ H
def gCons (t : TG) (u : TGs) : TGs := fun vs σ H Q => ∃ v r, vs = v :: r ∧ t v σ H fun σ' H' => u r σ' H' Q
theorem pgs_nil : PGs X [] gNil := by
  intro pins s σ H vs us Q I r h
  obtain ⟨e, h⟩ := h
  subst e
  cases r
  exact assignInOrder_nil ⟨σ, H, I, h⟩
theorem pgs_cons {e : Expr} {es : List Expr} {t : TG} {u : TGs} (h1 : PG X e t) (h2 : PGs X es u)
    (hs : (assignEach (e :: es) X.env).map (·.2) = assign e X.env :: (assignEach es X.env).map (·.2) := by rfl) : PGs X (e :: es) (gCons t u) := by
  intro pins s σ H vs us Q I r h
  obtain ⟨v, vr, e1, h⟩ := h
  subst e1
  cases r with
  | cons r rr =>
    rw [hs]
    refine assignInOrder_cons (thn (h1 pins s σ H _ _ _ I r h) fun _ s1 ⟨σ1, H1, I1, q1⟩ => ?_)
    exact h2 pins s1 σ1 H1 _ _ Q I1 rr q1
def gTup (K : PySem.W.Frag) (n : Nat) (t : TGs) : TG := fun v σ H Q => ∃ a xs, v = .ref a ∧ SqT K H a xs ∧ xs.length = n ∧ t xs σ H Q
theorem pg_tup {es : List Expr} {k : Nat} {t : TGs} {n : Nat} (hc : X.calm = true) (h : PGs X es t)
    (hn : (assignEach es X.env).length = n := by rfl) (hst : (assignEach es X.env).findIdx? (·.1) = none := by rfl) : PG X (.Tuple es k pos) (gTup X.K n t) := by
  intro pins s σ H v u Q I r hw
  obtain ⟨a, xs, e1, hq, hl, hw⟩ := hw
  subst e1
  cases r
  obtain ⟨its, rv, ht, hz⟩ := I.tuple hq
  refine assign_Tuple_tuple (I.ok.hd hc) ht (by simp [hn, ← hl, rv.length]) hst fun h' hx => ?_
  have I1 : Inv X pins σ H { s with heap := h' } := I.kept (t' := s.toks) fun b o e => hx b o (Nat.ne_of_lt (Heap.lt_size e)) e
  exact h pins _ σ H xs _ Q I1 (by simpa using rv) hw
def gSub (to ti : TE) (t : TSet) : TG := fun v σ H Q => to σ H fun o H1 => ti σ H1 fun i H2 => t o i v H2 fun H3 => Q σ H3
theorem pg_sub {o i : Expr} {to ti : TE} {t : TSet} (ho : PE X o to) (hi : PE X i ti) (hs : PSet X t)
    (ha : ∀ v, assign (.Subscript o i pos) X.env v = (do
      let ov ← holding [v] (eval o X.env)
      let iv ← holding [v, ov] (eval i X.env)
      standAt pos
      holding [v, ov, iv] (setItem ov iv v)
      release [v, ov, iv] []) := by intro _; rfl) : PG X (.Subscript o i pos) (gSub to ti t) := by
  intro pins s σ H v u Q I r h
  rw [ha]
  refine wpAny_bind (wpAny_holding (thn (ho pins s σ H _ I h) fun ov s1 ⟨x, H1, I1, r1, q1⟩ => ?_))
  refine wpAny_bind (wpAny_holding (thn (hi pins s1 σ H1 _ I1 q1) fun iv s2 ⟨y, H2, I2, r2, q2⟩ => ?_))
  refine wpAny_bind (wpAny_standAt (wpAny_bind (wpAny_holding (thn (hs pins s2 σ H2 x y v ov iv u _ I2 r1 r2 r q2) fun _ s3 ⟨H3, I3, q3⟩ => ?_))))
  exact wpAny_release ⟨σ, H3, I3, q3⟩
def tAsg (te : TE) (g : TG) : TS := fun D σ H => te σ H fun x H1 => g x σ H1 D.nx
theorem ps_asg {tg e : Expr} {te : TE} {g : TG} (he : PE X e te) (hg : PG X tg g) (hs : swapsWithSole [tg] e pos.line X.env = pure false := by rfl) (hw : swappedStores [tg] e X.env = pure none := by rfl)
    (h1 : (assignEach [tg] X.env).map (·.2) = [assign tg X.env] := by rfl) : PS X (.Assign [tg] e pos) (tAsg te g) := by
  intro pins s σ H D I h
  refine wpAny_Assign_stores (thn (he pins s σ H _ I h) fun v s1 ⟨x, H1, I1, r1, q1⟩ => ?_) hs hw
  rw [h1]
  exact thn (hg pins s1 σ H1 x v _ I1 r1 q1) fun _ s2 q => q
theorem ps_set {i : Nat} {x : Str} {e : Expr} {te : TE} {pos' : Pos} (hN : X.N.Nodup) (hi : X.N[i]? = some x) (hx : Loc X.env.scope x) (he : PE X e te) (hs : swapsWith e (some (.Name x pos')) pos.line X.env = pure false := by rfl) (hf : X.fn x = true ∨ X.env.scope.names.lookup x = some .local := by first | exact .inl rfl | exact .inr rfl | assumption) :
    PS X (.Assign [.Name x pos'] e pos) (tAsg te (gName i)) := by
  intro pins s σ H D I h
  refine wpAny_Assign_Name (thn (he pins s σ H _ I h) fun v s1 ⟨y, H1, I1, r1, q1⟩ => ?_) hs
  exact store_ok I1 hN hi hx r1 (fun s2 I2 => ⟨_, H1, I2, q1⟩) hf
end
section
variable {X : Cx} {pos : Pos}
def tWhile (c : TT) (tb : TS) : TS := fun D σ H => ∃ W : Nat → St → Hp → Prop, (∃ m, W m σ H) ∧ ∀ m σ H, W m σ H →
  c σ H fun b H1 => if b = true then ∃ N : St → Hp → Prop, (∀ σ' H', N σ' H' → ∃ m', m' < m ∧ W m' σ' H') ∧ tb { D with nx := N, ct := N, bk := D.nx } σ H1 else D.nx σ H1
theorem ps_while {c : Expr} {body : List Stmt} {tc : TT} {tb : TS} (hp : PassesOwn (model X.prog X.w) X.A X.env X.xe) (hc : PT X c tc) (hb : PSs X body tb) : PS X (.While c body [] pos) (tWhile tc tb) := by
  intro pins s σ H D I h
  obtain ⟨W, ⟨m0, w0⟩, turn⟩ := h
  refine wpAny_While (codeAny_whileLoop (fun n s' => ∃ σ' H', Inv X pins σ' H' s' ∧ W n σ' H') ?_ m0 ⟨σ, H, I, w0⟩)
  rintro n s1 ⟨σ1, H1, I1, w1⟩
  refine wpAny_passesOwn hp (thn (hc pins s1 σ1 H1 _ I1 (turn n σ1 H1 w1)) fun b s2 ⟨H2, I2, q2⟩ => ?_)
  cases b with
  | true =>
    obtain ⟨N, hN, q2⟩ := q2
    rw [if_pos rfl]
    refine wpAny_passesOwn hp (thn (hb pins s2 σ1 H2 _ I2 q2) fun f s3 q3 => ?_)
    cases f with
    | next =>
      obtain ⟨σ3, H3, I3, n3⟩ := q3
      obtain ⟨m', hm, w3⟩ := hN σ3 H3 n3
      exact ⟨m', hm, σ3, H3, I3, w3⟩
    | cont =>
      obtain ⟨σ3, H3, I3, n3⟩ := q3
      obtain ⟨m', hm, w3⟩ := hN σ3 H3 n3
      exact ⟨m', hm, σ3, H3, I3, w3⟩
    | brk => exact q3
    | ret v => exact q3
  | false =>
    rw [if_neg Bool.false_ne_true]
    exact wpAny_execs_nil ⟨σ1, H2, I2, q2⟩
end
structure It where
  go : Nat → Hp → Prop
  yld : Nat → Hp → V → Hp → Prop
  stop : Nat → Hp → Prop
def FpOk (X : Cx) (pins : List (Addr × Obj)) (H : Hp) (b : Addr) : Prop :=
  H b = none ∧ b ≠ X.env.locals ∧ b ∉ X.fs ∧ (b ∈ X.ex ∨ X.s₀.heap.objs.size ≤ b) ∧ (∀ x c, X.env.cells.lookup x = some c → c ≠ b) ∧ ∀ p ∈ X.pn ++ pins, p.1 ≠ b
theorem Inv.fpOk {X : Cx} {pins : List (Addr × Obj)} {σ : St} {H H' : Hp} {s : Shared} {b : Addr} (I : Inv X pins σ H s) (hb : s.heap.objs.size ≤ b) (hn : H' b = none) : FpOk X pins H' b := by
  refine ⟨hn, Nat.ne_of_gt (Nat.lt_of_lt_of_le I.lt hb), I.nofs hb, .inr (Nat.le_trans I.sz hb), fun x c e z => ?_, fun p hp z => ?_⟩
  · obtain ⟨v, q⟩ := I.cell x c e
    exact absurd (Nat.lt_of_lt_of_le q.lt (by rw [z]; exact hb)) (Nat.lt_irrefl _)
  · exact absurd (Nat.lt_of_lt_of_le (Heap.lt_size (I.pin p hp).1) (by rw [z]; exact hb)) (Nat.lt_irrefl _)
structure Turn (P : Program) (w : World) (K : PySem.W.Frag) (tg : Expr) (J : It) (fp : List Addr) (it : Addr) (tn : Nat → Heap → Prop) : Prop where
  mem : it ∈ fp
  obj : ∀ i h, tn i h → ∀ b ∈ fp, ∃ o, h.get? b = some o ∧ ∀ v, o.data ≠ .cell v
  keep : ∀ i h h', tn i h → (∀ b ∈ fp, ∀ o, h.get? b = some o → h'.get? b = some o) → tn i h'
  item : ∀ (X : Cx), X.prog = P → X.w = w → X.K = K → X.calm = true → ∀ (i : Nat) (pins : List (Addr × Obj)) (s : Shared) (σ : St) (H : Hp) (E : Value → Shared → Prop), Inv X pins σ H s → (∀ b ∈ fp, FpOk X pins H b) → tn i s.heap → J.go i H →
    wpAny (model P w) X.A (pyNext (.ref it)) (fun r s1 => ∃ u, r = some u ∧
      wpAny (model P w) X.A (letOwnedTupleGo tg (.ref it) u) (fun _ s2 => ∃ x H', Inv X pins σ H' s2 ∧ RelV x u ∧ J.yld i H x H' ∧ tn (i + 1) s2.heap ∧ ∀ b ∈ fp, H' b = none) E s1) E s
  done : ∀ (X : Cx), X.prog = P → X.w = w → X.K = K → X.calm = true → ∀ (i : Nat) (pins : List (Addr × Obj)) (s : Shared) (σ : St) (H : Hp) (E : Value → Shared → Prop), Inv X pins σ H s → (∀ b ∈ fp, FpOk X pins H b) → tn i s.heap → J.stop i H →
    wpAny (model P w) X.A (pyNext (.ref it)) (fun r s1 => r = none ∧ Inv X pins σ H s1) E s
  self : ∀ (A : Around) (i : Nat) (s : Shared) (Q : Value → Shared → Prop) (E : Value → Shared → Prop), tn i s.heap → Q (.ref it) s → wpAny (model P w) A (pyIter (.ref it)) Q E s
abbrev TI := St → Hp → (It → Hp → Prop) → Prop
def PIE (X : Cx) (pins : List (Addr × Obj)) (σ : St) (tg : Expr) (R : It → Hp → Prop) (itv : Value) (s2 : Shared) : Prop :=
  ∃ (it : Addr) (fp : List Addr) (tn : Nat → Heap → Prop) (J : It) (H' : Hp), itv = .ref it ∧ Inv X pins σ H' s2 ∧ Turn X.prog X.w X.K tg J fp it tn ∧ tn 0 s2.heap ∧ (∀ b ∈ fp, FpOk X pins H' b) ∧ R J H'
def PI (X : Cx) (tg iter : Expr) (wi : TI) : Prop :=
  ∀ (pins : List (Addr × Obj)) (s : Shared) (σ : St) (H : Hp) (R : It → Hp → Prop), Inv X pins σ H s → wi σ H R →
    wpAny (model X.prog X.w) X.A (eval iter X.env) (fun v s1 => wpAny (model X.prog X.w) X.A (pyIter v) (PIE X pins σ tg R) X.xe s1) X.xe s
theorem go_of {M : Model} {A : Around} {E : Value → Shared → Prop} {s : Shared} {tg : Expr} {it : Addr} {u : Value} {o : Obj} {n : String} {vs : Array Value} {Q : Unit → Shared → Prop} (ho : s.heap.get? it = some o) (hc : o.cls = .type n) (hd : o.data = .fields vs)
    (hn : ["enumerate", "zip", "dict_itemiterator", "dict_reverseitemiterator", "odict_iterator", "itertools.zip_longest", "itertools.pairwise"].contains n = false) (hQ : Q () s) : wpAny M A (letOwnedTupleGo tg (.ref it) u) Q E s := by
  unfold letOwnedTupleGo
  cases tg <;> first
    | exact wpAny_pure hQ
    | (cases u <;> first
        | exact wpAny_pure hQ
        | (refine wpAny_bind (wpAny_load ho ?_)
           rw [hc, hd]
           show wpAny M A (if (["enumerate", "zip", "dict_itemiterator", "dict_reverseitemiterator", "odict_iterator", "itertools.zip_longest", "itertools.pairwise"].contains n && vs[0]? == some (rawInt _)) = true then _ else _) Q E s
           rw [if_neg (by intro h; rw [hn, Bool.false_and] at h; cases h)]
           exact wpAny_pure hQ))
def Itl (K : PySem.W.Frag) (a : Addr) : It :=
  ⟨fun i H => ∃ xs x, SqL K H a xs ∧ xs[i]? = some x, fun i H x H' => H' = H ∧ ∀ xs, SqL K H a xs → xs[i]? = some x, fun i H => ∃ xs, SqL K H a xs ∧ xs.length ≤ i⟩
def Itt (K : PySem.W.Frag) (a : Addr) : It :=
  ⟨fun i H => ∃ xs x, SqT K H a xs ∧ xs[i]? = some x, fun i H x H' => H' = H ∧ ∀ xs, SqT K H a xs → xs[i]? = some x, fun i H => ∃ xs, SqT K H a xs ∧ xs.length ≤ i⟩
def Itr (lo : Int) (n : Nat) : It := ⟨fun i _ => i < n, fun i H x H' => H' = H ∧ x = .int (lo + i), fun i _ => n ≤ i⟩
theorem turn_list {P : Program} {w : World} {K : PySem.W.Frag} {tg : Expr} (a it : Addr) : Turn P w K tg (Itl K a) [it] it (fun i h => h.IsListIter it a i) where
  mem := by simp
  obj := fun i h st b hb => by
    have e : b = it := by simpa using hb
    subst e
    obtain ⟨o, e, c, d⟩ := st
    exact ⟨o, e, fun v z => by rw [d] at z; cases z⟩
  keep := fun i h h' st k => st.at fun o e => k it (by simp) o e
  item := by
    intro X hP hw hK hc i pins s σ H E I hf st hg
    subst hP hw hK
    obtain ⟨xs, x, hq, hx⟩ := hg
    obtain ⟨its, rv, p, hz⟩ := I.list hq
    obtain ⟨u, hu, ru⟩ := rv.get hx
    obtain ⟨f0, f1, f2, f3, f4, f5⟩ := hf it (by simp)
    refine wpAny_pyNext_list_item st p.isList (x := u) (by simpa using hu) fun h' st' sb => ?_
    have I1 : Inv X pins σ H { s with heap := h' } := I.turned (t' := s.toks) (fun b o hb e => (sb.2 b hb).trans e) f0 f1 f3 f4 f5
    obtain ⟨o, e, c, d⟩ := id st'
    exact ⟨u, rfl, go_of (s := { s with heap := h' }) e c d (by decide) ⟨x, H, I1, ru, ⟨rfl, fun ys hy => by rw [I.list_inj hy hq]; exact hx⟩, st', fun b hb => (hf b hb).1⟩⟩
  done := by
    intro X hP hw hK hc i pins s σ H E I hf st hg
    subst hP hw hK
    obtain ⟨xs, hq, hx⟩ := hg
    obtain ⟨its, rv, p, hz⟩ := I.list hq
    obtain ⟨f0, f1, f2, f3, f4, f5⟩ := hf it (by simp)
    have hl := rv.length
    exact wpAny_pyNext_list_end (I.ok.hd hc) st p.isList (by simp; omega) fun h' eb => ⟨rfl, I.turned (t' := s.toks) (fun b o hb e => eb b o hb e) f0 f1 f3 f4 f5⟩
  self := fun _ _ _ _ _ st h => wpAny_pyIter_listiter st h
theorem turn_tuple {P : Program} {w : World} {K : PySem.W.Frag} {tg : Expr} (a it : Addr) : Turn P w K tg (Itt K a) [it] it (fun i h => h.IsTupleIter it a i) where
  mem := by simp
  obj := fun i h st b hb => by
    have e : b = it := by simpa using hb
    subst e
    obtain ⟨o, e, c, d⟩ := st
    exact ⟨o, e, fun v z => by rw [d] at z; cases z⟩
  keep := fun i h h' st k => st.at fun o e => k it (by simp) o e
  item := by
    intro X hP hw hK hc i pins s σ H E I hf st hg
    subst hP hw hK
    obtain ⟨xs, x, hq, hx⟩ := hg
    obtain ⟨its, rv, p, hz⟩ := I.tuple hq
    obtain ⟨u, hu, ru⟩ := rv.get hx
    obtain ⟨f0, f1, f2, f3, f4, f5⟩ := hf it (by simp)
    refine wpAny_pyNext_tuple_item st (show s.heap.IsTuple a its.toArray from p) (x := u) (by simpa using hu) fun h' st' sb => ?_
    have I1 : Inv X pins σ H { s with heap := h' } := I.turned (t' := s.toks) (fun b o hb e => (sb.2 b hb).trans e) f0 f1 f3 f4 f5
    obtain ⟨o, e, c, d⟩ := id st'
    exact ⟨u, rfl, go_of (s := { s with heap := h' }) e c d (by decide) ⟨x, H, I1, ru, ⟨rfl, fun ys hy => by rw [I.tuple_inj hy hq]; exact hx⟩, st', fun b hb => (hf b hb).1⟩⟩
  done := by
    intro X hP hw hK hc i pins s σ H E I hf st hg
    subst hP hw hK
    obtain ⟨xs, hq, hx⟩ := hg
    obtain ⟨its, rv, p, hz⟩ := I.tuple hq
    obtain ⟨f0, f1, f2, f3, f4, f5⟩ := hf it (by simp)
    have hl := rv.length
    exact wpAny_pyNext_tuple_end (I.ok.hd hc) st (show s.heap.IsTuple a its.toArray from p) (by simp; omega) fun h' eb => ⟨rfl, I.turned (t' := s.toks) (fun b o hb e => eb b o hb e) f0 f1 f3 f4 f5⟩
  self := fun _ _ _ _ _ st h => wpAny_pyIter_tupleiter st h
theorem turn_range {P : Program} {w : World} {K : PySem.W.Frag} {tg : Expr} (it : Addr) (lo : Int) (n : Nat) : Turn P w K tg (Itr lo n) [it] it (fun i h => IsRangeIter h it (lo + (i : Nat) * 1) ((n : Int) - (i : Nat)) 1) where
  mem := by simp
  obj := fun i h st b hb => by
    have e : b = it := by simpa using hb
    subst e
    exact ⟨_, st, fun v z => by
      have z' : Data.fields _ = Data.cell v := z
      cases z'⟩
  keep := fun i h h' st k => k it (by simp) _ st
  item := by
    intro X hP hw hK hc i pins s σ H E I hf st hg
    subst hP hw hK
    obtain ⟨f0, f1, f2, f3, f4, f5⟩ := hf it (by simp)
    have W := Walks.range (prog := X.prog) (w := X.w) (I.ok.hd hc) it lo 1 n
    refine W.item i s _ _ hg st fun v h' tk hv st' kk => ?_
    obtain ⟨t, rfl⟩ := hv
    have I1 : Inv X pins σ H { s with heap := h', toks := tk } := I.turned (fun b o hb e => kk b o (by simpa using hb) e) f0 f1 f3 f4 f5
    refine ⟨_, rfl, go_of (s := { s with heap := h', toks := tk }) (n := "range_iterator") st' rfl rfl (by decide) ⟨.int (lo + i), H, I1, ⟨t, ?_⟩, ⟨rfl, rfl⟩, st', fun b hb => (hf b hb).1⟩⟩
    rw [Int.mul_one]
  done := by
    intro X hP hw hK hc i pins s σ H E I hf st hg
    subst hP hw hK
    obtain ⟨f0, f1, f2, f3, f4, f5⟩ := hf it (by simp)
    exact wpAny_pyNext_range_end (I.ok.hd hc) st (by have : n ≤ i := hg; omega) fun h' eb => ⟨rfl, I.turned (t' := s.toks) (fun b o hb e => eb b o hb e) f0 f1 f3 f4 f5⟩
  self := fun _ _ _ _ _ st h => wpAny_pyIter_rangeiter st h
end L2
namespace L2
open PySem PySem.Spec PyProof.Rows
section
variable {X : Cx} {tg : Expr}
def iList (K : PySem.W.Frag) (tl : TE) : TI := fun σ H R => tl σ H fun x H1 => ∃ a, x = .ref a ∧ (∃ xs, SqL K H1 a xs) ∧ R (Itl K a) H1
def iTup (K : PySem.W.Frag) (tl : TE) : TI := fun σ H R => tl σ H fun x H1 => ∃ a, x = .ref a ∧ (∃ xs, SqT K H1 a xs) ∧ R (Itt K a) H1
theorem pi_list {l : Expr} {tl : TE} (hl : PE X l tl) : PI X tg l (iList X.K tl) := by
  intro pins s σ H R I h
  refine thn (hl pins s σ H _ I h) fun v s1 ⟨x, H1, I1, r1, q1⟩ => ?_
  obtain ⟨a, e, ⟨xs, hq⟩, q⟩ := q1
  subst e
  cases r1
  obtain ⟨its, rv, p, hz⟩ := I1.list hq
  refine wpAny_pyIter_list p.isList ?_
  refine ⟨s1.heap.objs.size, [s1.heap.objs.size], _, _, H1, rfl, I1.kept (t' := s1.toks) fun b o e => Heap.get?_push_of_some _ e, turn_list a _, ⟨_, Heap.get?_push_size _ rfl, rfl, rfl⟩, fun b hb => ?_, q⟩
  have e : b = s1.heap.objs.size := by simpa using hb
  subst e
  exact I1.fpOk (Nat.le_refl _) (I1.hok.fresh (Nat.le_refl _))
theorem pi_tup {l : Expr} {tl : TE} (hl : PE X l tl) : PI X tg l (iTup X.K tl) := by
  intro pins s σ H R I h
  refine thn (hl pins s σ H _ I h) fun v s1 ⟨x, H1, I1, r1, q1⟩ => ?_
  obtain ⟨a, e, ⟨xs, hq⟩, q⟩ := q1
  subst e
  cases r1
  obtain ⟨its, rv, p, hz⟩ := I1.tuple hq
  refine wpAny_pyIter_tuple (show s1.heap.IsTuple a its.toArray from p) ?_
  refine ⟨s1.heap.objs.size, [s1.heap.objs.size], _, _, H1, rfl, I1.kept (t' := s1.toks) fun b o e => Heap.get?_push_of_some _ e, turn_tuple a _, ⟨_, Heap.get?_push_size _ rfl, rfl, rfl⟩, fun b hb => ?_, q⟩
  have e : b = s1.heap.objs.size := by simpa using hb
  subst e
  exact I1.fpOk (Nat.le_refl _) (I1.hok.fresh (Nat.le_refl _))
theorem range_it {pins : List (Addr × Obj)} {σ : St} {H : Hp} {s : Shared} {R : It → Hp → Prop} {E : Value → Shared → Prop} {lo hi : Int} {t u v : Tok} {tk : Nat} (I : Inv X pins σ H s) (h1 : -(2 ^ 62) ≤ lo) (h2 : lo < 2 ^ 62) (h3 : -(2 ^ 62) ≤ hi) (h4 : hi < 2 ^ 62)
    (q : R (Itr lo (hi - lo).toNat) H) : wpAny (model X.prog X.w) X.A (pyIter (.ref s.heap.objs.size)) (PIE X pins σ tg R) E { s with heap := s.heap.push { cls := .type "range", data := .fields #[.int lo t, .int hi u, .int 1 v] }, toks := tk } := by
  refine wpAny_pyIter_range (IsRange.new ..) (small_one h1 h2 h3 h4) ?_
  have I1 : Inv X pins σ H { s with heap := s.heap.push { cls := .type "range", data := .fields #[.int lo t, .int hi u, .int 1 v] }, toks := tk } := I.kept fun b o e => Heap.get?_push_of_some _ e
  refine ⟨(s.heap.push { cls := .type "range", data := .fields #[.int lo t, .int hi u, .int 1 v] }).objs.size, [(s.heap.push { cls := .type "range", data := .fields #[.int lo t, .int hi u, .int 1 v] }).objs.size], _, _, H, rfl,
    I1.kept (t' := tk) fun b o e => Heap.get?_push_of_some _ e, turn_range _ lo (hi - lo).toNat, ?_, fun b hb => ?_, q⟩
  · have e1 : lo + ((0 : Nat) : Int) * 1 = lo := by simp
    have e2 : (((hi - lo).toNat : Nat) : Int) - ((0 : Nat) : Int) = Builtin.Range.rangeSize lo hi 1 := by rw [rangeSize_one]; split <;> omega
    show IsRangeIter _ _ (lo + ((0 : Nat) : Int) * 1) ((((hi - lo).toNat : Nat) : Int) - ((0 : Nat) : Int)) 1
    rw [e1, e2]
    exact Heap.get?_push_size _ rfl
  · have e : b = (s.heap.push { cls := .type "range", data := .fields #[.int lo t, .int hi u, .int 1 v] }).objs.size := by simpa using hb
    subst e
    exact I1.fpOk (Nat.le_refl _) (I1.hok.fresh (Nat.le_refl _))
def iRng1 (ta : TA) : TI := fun σ H R => ta σ H fun vs H1 => ∃ j : Int, vs = [.int j] ∧ -(2 ^ 62) ≤ j ∧ j < 2 ^ 62 ∧ R (Itr 0 j.toNat) H1
def iRng2 (ta : TA) : TI := fun σ H R => ta σ H fun vs H1 => ∃ i j : Int, vs = [.int i, .int j] ∧ (-(2 ^ 62) ≤ i ∧ i < 2 ^ 62 ∧ -(2 ^ 62) ≤ j ∧ j < 2 ^ 62) ∧ R (Itr i (j - i).toNat) H1
theorem pi_range1 {a : Expr} {ta : TA} {p pos : Pos} (hg : Gl X "range") (hm : X.mg "range" = none) (ha : PA X [a] ta) (hs : starEach [a] X.env = [(false, eval a X.env)] := by rfl) : PI X tg (.Call (.Name "range" p) [a] [] pos) (iRng1 ta) := by
  intro pins s σ H R I h
  refine Call_ (ld_blt I hg hm boot_range (PyProof.Rows.callWith_type1 (thn (ha pos pins s σ H _ I h) fun us s1 ⟨vs, H1, I1, r1, q1⟩ => ?_) hs rfl))
  obtain ⟨j, e, q1, q2, q⟩ := q1
  subst e
  cases r1 with
  | cons r rr =>
    cases rr
    obtain ⟨t, rfl⟩ := r
    exact call_range_1 (range_it I1 (by omega) (by omega) q1 q2 (by simpa using q))
theorem pi_range2 {a b : Expr} {ta : TA} {p pos : Pos} (hg : Gl X "range") (hm : X.mg "range" = none) (ha : PA X [a, b] ta) (hs : starEach [a, b] X.env = [(false, eval a X.env), (false, eval b X.env)] := by rfl) (hs2 : starEach [b] X.env = [(false, eval b X.env)] := by rfl) :
    PI X tg (.Call (.Name "range" p) [a, b] [] pos) (iRng2 ta) := by
  intro pins s σ H R I h
  refine Call_ (ld_blt I hg hm boot_range (PyProof.Rows.callWith_type1 (thn (ha pos pins s σ H _ I h) fun us s1 ⟨vs, H1, I1, r1, q1⟩ => ?_) (by rw [hs, hs2]) (by rw [hs2]; rfl)))
  obtain ⟨i, j, e, ⟨q1, q2, q3, q4⟩, q⟩ := q1
  subst e
  cases r1 with
  | cons r rr =>
    cases rr with
    | cons r' rr =>
      cases rr
      obtain ⟨t, rfl⟩ := r
      obtain ⟨t', rfl⟩ := r'
      exact call_range_2 (range_it I1 q1 q2 q3 q4 q)
def tFor (wi : TI) (g : TG) (tb : TS) : TS := fun D σ H => wi σ H fun J H1 => ∃ W : Nat → Nat → St → Hp → Prop, (∃ m, W 0 m σ H1) ∧ ∀ i m σ H, W i m σ H →
  (J.stop i H ∧ D.nx σ H) ∨ (J.go i H ∧ ∃ N : St → Hp → Prop, (∀ σ' H', N σ' H' → ∃ m', m' < m ∧ W (i + 1) m' σ' H') ∧ ∀ x H', J.yld i H x H' → g x σ H' fun σ2 H2 => tb { D with nx := N, ct := N, bk := D.nx } σ2 H2)
def pinsAt (fp : List Addr) (h : Heap) : List (Addr × Obj) := fp.filterMap fun b => (h.get? b).map fun o => (b, o)
theorem mem_pinsAt {fp : List Addr} {h : Heap} {b : Addr} {o : Obj} (hb : b ∈ fp) (e : h.get? b = some o) : (b, o) ∈ pinsAt fp h := List.mem_filterMap.mpr ⟨b, hb, by rw [e]; rfl⟩
theorem of_pinsAt {fp : List Addr} {h : Heap} {p : Addr × Obj} (hp : p ∈ pinsAt fp h) : p.1 ∈ fp ∧ h.get? p.1 = some p.2 := by
  obtain ⟨b, hb, e⟩ := List.mem_filterMap.mp hp
  cases q : h.get? b with
  | none => rw [q] at e; cases e
  | some o =>
    rw [q] at e
    have e' : (b, o) = p := Option.some.inj e
    subst e'
    exact ⟨hb, q⟩
theorem Inv.pinned {pins : List (Addr × Obj)} {σ : St} {H : Hp} {s : Shared} {fp : List Addr} (I : Inv X pins σ H s) (hf : ∀ b ∈ fp, FpOk X pins H b) (ho : ∀ b ∈ fp, ∃ o, s.heap.get? b = some o ∧ ∀ v, o.data ≠ .cell v) : Inv X (pins ++ pinsAt fp s.heap) σ H s :=
  I.pins_of fun p hp => (List.mem_append.mp hp).elim (fun z => I.pin p (List.mem_append_right _ z)) fun z => by
    obtain ⟨hb, e⟩ := of_pinsAt z
    obtain ⟨f0, f1, f2, _⟩ := hf p.1 hb
    obtain ⟨o, e', d⟩ := ho p.1 hb
    rw [e] at e'; cases e'
    exact ⟨e, f0, f1, f2, d⟩
theorem Inv.unpinned {pins pl : List (Addr × Obj)} {σ : St} {H : Hp} {s : Shared} (I : Inv X (pins ++ pl) σ H s) : Inv X pins σ H s := I.pins_of fun p hp => I.pin p (List.mem_append_right _ (List.mem_append_left _ hp))
theorem ps_for {iter : Expr} {body : List Stmt} {wi : TI} {g : TG} {tb : TS} {pos : Pos} (hp : PassesOwn (model X.prog X.w) X.A X.env X.xe) (hc : X.calm = true) (hi : PI X tg iter wi) (hg : PG X tg g) (hb : PSs X body tb)
    (hs : ∀ x, foldedSetIterable iter X.env x = pure x := by intro _; rfl) : PS X (.For tg iter body [] pos) (tFor wi g tb) := by
  intro pins s σ H D I h
  refine wpAny_For (thn (hi pins s σ H _ I h) fun v s1 h1 => thn h1 fun itv s2 h2 => ?_) hs
  obtain ⟨it, fp, tn, J, H2, e, I2, T, st2, f2, W, ⟨m0, w0⟩, turn⟩ := h2
  subst e
  -- what stays true of the iterator's objects through the loop
  have stat : ∀ {H' : Hp}, (∀ b ∈ fp, H' b = none) → ∀ b ∈ fp, FpOk X pins H' b := fun hn b hb => ⟨hn b hb, (f2 b hb).2⟩
  refine codeAny_forLoop_any (fun n s' => ∃ i σ' H', Inv X pins σ' H' s' ∧ tn i s'.heap ∧ (∀ b ∈ fp, H' b = none) ∧ W i n σ' H') ?_ m0 ⟨0, σ, H2, I2, st2, fun b hb => (f2 b hb).1, w0⟩
  rintro n s3 ⟨i, σ3, H3, I3, st3, fr3, w3⟩
  rcases turn i n σ3 H3 w3 with ⟨stop, qn⟩ | ⟨go, N, hN, step⟩
  · refine wpAny_passesOwn hp (thn (T.done X rfl rfl rfl hc i pins s3 σ3 H3 X.xe I3 (stat fr3) st3 stop) fun r s4 ⟨hr, I4⟩ => ?_)
    subst hr
    exact wpAny_execs_nil ⟨σ3, H3, I4, qn⟩
  · refine wpAny_passesOwn hp (thn (T.item X rfl rfl rfl hc i pins s3 σ3 H3 X.xe I3 (stat fr3) st3 go) fun r s4 ⟨u, hr, h4⟩ => ?_)
    subst hr
    refine wpAny_passesOwn hp (thn h4 fun _ s5 ⟨x, H5, I5, r5, y5, st5, fr5⟩ => ?_)
    have I5' := I5.pinned (stat fr5) (T.obj _ _ st5)
    refine wpAny_passesOwn hp (thn (hg _ s5 σ3 H5 x u _ I5' r5 (step x H5 y5)) fun _ s6 ⟨σ6, H6, I6, q6⟩ => ?_)
    refine wpAny_passesOwn hp (thn (hb _ s6 σ6 H6 _ I6 q6) fun f s7 q7 => ?_)
    have again : ∀ {σ7 : St} {H7 : Hp}, Inv X (pins ++ pinsAt fp s5.heap) σ7 H7 s7 → N σ7 H7 → ∃ m, m < n ∧ ∃ i σ' H', Inv X pins σ' H' s7 ∧ tn i s7.heap ∧ (∀ b ∈ fp, H' b = none) ∧ W i m σ' H' := fun {σ7 H7} I7 n7 => by
      obtain ⟨m', hm, w7⟩ := hN σ7 H7 n7
      refine ⟨m', hm, i + 1, σ7, H7, I7.unpinned, T.keep _ _ _ st5 fun b hb o e => (I7.pin (b, o) (List.mem_append_right _ (List.mem_append_right _ (mem_pinsAt hb e)))).1, fun b hb => ?_, w7⟩
      obtain ⟨o, e, d⟩ := T.obj _ _ st5 b hb
      exact (I7.pin (b, o) (List.mem_append_right _ (List.mem_append_right _ (mem_pinsAt hb e)))).2.1
    cases f with
    | next => obtain ⟨σ7, H7, I7, n7⟩ := q7; exact again I7 n7
    | cont => obtain ⟨σ7, H7, I7, n7⟩ := q7; exact again I7 n7
    | brk => obtain ⟨σ7, H7, I7, q7⟩ := q7; exact ⟨σ7, H7, I7.unpinned, q7⟩
    | ret v => obtain ⟨x7, σ7, H7, I7, r7, q7⟩ := q7; exact ⟨x7, σ7, H7, I7.unpinned, r7, q7⟩
end
theorem for_list {K : PySem.W.Frag} {a : Addr} {xs : List V} {g : TG} {tb : TS} {D : Ends} {σ : St} {H : Hp} (Pv : Nat → St → Hp → Prop) (h0 : Pv 0 σ H) (hl : ∀ i σ H, i ≤ xs.length → Pv i σ H → SqL K H a xs)
    (hs : ∀ i x σ H, xs[i]? = some x → Pv i σ H → g x σ H fun σ2 H2 => tb { D with nx := Pv (i + 1), ct := Pv (i + 1), bk := D.nx } σ2 H2) (hd : ∀ σ H, Pv xs.length σ H → D.nx σ H) :
    ∃ W : Nat → Nat → St → Hp → Prop, (∃ m, W 0 m σ H) ∧ ∀ i m σ H, W i m σ H →
      ((Itl K a).stop i H ∧ D.nx σ H) ∨ ((Itl K a).go i H ∧ ∃ N : St → Hp → Prop, (∀ σ' H', N σ' H' → ∃ m', m' < m ∧ W (i + 1) m' σ' H') ∧ ∀ x H', (Itl K a).yld i H x H' → g x σ H' fun σ2 H2 => tb { D with nx := N, ct := N, bk := D.nx } σ2 H2) := by
  refine ⟨fun i m σ H => m = xs.length - i ∧ i ≤ xs.length ∧ Pv i σ H, ⟨xs.length, by simp, Nat.zero_le _, h0⟩, ?_⟩
  rintro i m σ H ⟨rfl, hi, p⟩
  have q := hl i σ H hi p
  by_cases hlt : i < xs.length
  · refine .inr ⟨⟨xs, xs[i], q, by simp [hlt]⟩, Pv (i + 1), fun σ' H' p' => ⟨xs.length - (i + 1), by omega, rfl, hlt, p'⟩, fun x H' y => ?_⟩
    obtain ⟨e, y⟩ := y
    subst e
    exact hs i x σ _ (y xs q) p
  · have e : i = xs.length := by omega
    subst e
    exact .inl ⟨⟨xs, q, Nat.le_refl _⟩, hd σ H p⟩
theorem for_range {lo : Int} {n : Nat} {g : TG} {tb : TS} {D : Ends} {σ : St} {H : Hp} (Pv : Nat → St → Hp → Prop) (h0 : Pv 0 σ H)
    (hs : ∀ i σ H, i < n → Pv i σ H → g (.int (lo + i)) σ H fun σ2 H2 => tb { D with nx := Pv (i + 1), ct := Pv (i + 1), bk := D.nx } σ2 H2) (hd : ∀ σ H, Pv n σ H → D.nx σ H) :
    ∃ W : Nat → Nat → St → Hp → Prop, (∃ m, W 0 m σ H) ∧ ∀ i m σ H, W i m σ H →
      ((Itr lo n).stop i H ∧ D.nx σ H) ∨ ((Itr lo n).go i H ∧ ∃ N : St → Hp → Prop, (∀ σ' H', N σ' H' → ∃ m', m' < m ∧ W (i + 1) m' σ' H') ∧ ∀ x H', (Itr lo n).yld i H x H' → g x σ H' fun σ2 H2 => tb { D with nx := N, ct := N, bk := D.nx } σ2 H2) := by
  refine ⟨fun i m σ H => m = n - i ∧ i ≤ n ∧ Pv i σ H, ⟨n, by simp, Nat.zero_le _, h0⟩, ?_⟩
  rintro i m σ H ⟨rfl, hi, p⟩
  by_cases hlt : i < n
  · refine .inr ⟨hlt, Pv (i + 1), fun σ' H' p' => ⟨n - (i + 1), by omega, rfl, hlt, p'⟩, fun x H' y => ?_⟩
    obtain ⟨e, y⟩ := y
    subst e y
    exact hs i σ _ hlt p
  · have e : i = n := by omega
    subst e
    exact .inl ⟨Nat.le_refl _, hd σ H p⟩
end L2
namespace L2
open PySem PySem.Spec PyProof.Rows
abbrev R2 := V → V → Hp → VK → Prop
def OpR (X : Cx) (f : Value → Value → Sem Value) (r : R2) : Prop :=
  ∀ (pins : List (Addr × Obj)) (s : Shared) (σ : St) (H : Hp) (x y : V) (v u : Value) (Q : VK), Inv X pins σ H s → RelV x v → RelV y u → r x y H Q →
    wpAny (model X.prog X.w) X.A (f v u) (EP X pins σ Q) X.xe s
def CallR (X : Cx) (f : Value) (r : List V → Hp → VK → Prop) : Prop :=
  ∀ (pins : List (Addr × Obj)) (s : Shared) (σ : St) (H : Hp) (xs : List V) (us : List Value) (Q : VK), Inv X pins σ H s → Vals xs us → r xs H Q →
    wpAny (model X.prog X.w) X.A (call f us) (EP X pins σ Q) X.xe s
def tOp (r : R2) (ta tb : TE) : TE := fun σ H Q => ta σ H fun x H1 => tb σ H1 fun y H2 => r x y H2 Q
def rI (C : Int → Int → Prop) (g : Int → Int → V) : R2 := fun x y H Q => ∃ i j, x = .int i ∧ y = .int j ∧ C i j ∧ Q (g i j) H
def rI0 (g : Int → Int → V) : R2 := fun x y H Q => ∃ i j, x = .int i ∧ y = .int j ∧ Q (g i j) H
section
variable {X : Cx} {a b c : Expr} {ta tb tc : TE} {pos : Pos}
theorem binT (ha : PE X a ta) (hb : PE X b tb) {pins : List (Addr × Obj)} {s : Shared} {σ : St} {H : Hp} {R : V → V → Hp → Prop} (I : Inv X pins σ H s)
    (h : ta σ H fun x H1 => tb σ H1 fun y H2 => R x y H2) {Q : Value → Shared → Prop} {f : Value → Value → Sem Value}
    (hf : ∀ v u s2 x y H2, Inv X pins σ H2 s2 → RelV x v → RelV y u → R x y H2 → wpAny (model X.prog X.w) X.A (f v u) Q X.xe s2) :
    wpAny (model X.prog X.w) X.A (eval a X.env) (fun v s₁ => wpAny (model X.prog X.w) X.A (eval b X.env) (fun u s₂ => wpAny (model X.prog X.w) X.A (f v u) Q X.xe s₂) X.xe s₁) X.xe s := by
  refine thn (ha pins s σ H _ I h) fun v s1 ⟨x, H1, I1, r1, q1⟩ => ?_
  refine thn (hb pins s1 σ H1 _ I1 q1) fun u s2 ⟨y, H2, I2, r2, q2⟩ => ?_
  exact hf v u s2 x y H2 I2 r1 r2 q2
theorem pe_op {op : Operator} {r : R2} (ho : OpR X (binaryOp op) r) (ha : PE X a ta) (hb : PE X b tb) : PE X (.BinOp a op b pos) (tOp r ta tb) := by
  intro pins s σ H Q I h
  exact wpAny_BinOp (binT ha hb I h fun v u s2 x y H2 I2 rx ry q => ho pins s2 σ H2 x y v u Q I2 rx ry q)
theorem opI {f : Value → Value → Sem Value} {C : Int → Int → Prop} {g : Int → Int → Int}
    (rule : ∀ (i j : Int) (t u : Tok) (s : Shared) (Q : Value → Shared → Prop) (E : Value → Shared → Prop), C i j → Q (.int (g i j) s.toks) { s with toks := s.toks + 1 } → wpAny (model X.prog X.w) X.A (f (.int i t) (.int j u)) Q E s) :
    OpR X f (rI C fun i j => .int (g i j)) := by
  intro pins s σ H x y v u Q I rx ry h
  obtain ⟨i, j, rfl, rfl, hc, q⟩ := h
  obtain ⟨t, rfl⟩ := rx
  obtain ⟨t', rfl⟩ := ry
  exact rule i j t t' s _ _ hc ⟨.int (g i j), H, I.tok _, ⟨_, rfl⟩, q⟩
theorem opI0 {f : Value → Value → Sem Value} {g : Int → Int → Int}
    (rule : ∀ (i j : Int) (t u : Tok) (s : Shared) (Q : Value → Shared → Prop) (E : Value → Shared → Prop), Q (.int (g i j) s.toks) { s with toks := s.toks + 1 } → wpAny (model X.prog X.w) X.A (f (.int i t) (.int j u)) Q E s) :
    OpR X f (rI0 fun i j => .int (g i j)) := by
  intro pins s σ H x y v u Q I rx ry h
  obtain ⟨i, j, rfl, rfl, q⟩ := h
  obtain ⟨t, rfl⟩ := rx
  obtain ⟨t', rfl⟩ := ry
  exact rule i j t t' s _ _ ⟨.int (g i j), H, I.tok _, ⟨_, rfl⟩, q⟩
theorem opB0 {f : Value → Value → Sem Value} {g : Int → Int → Bool}
    (rule : ∀ (i j : Int) (t u : Tok) (s : Shared) (Q : Value → Shared → Prop) (E : Value → Shared → Prop), Q (.bool (g i j)) s → wpAny (model X.prog X.w) X.A (f (.int i t) (.int j u)) Q E s) :
    OpR X f (rI0 fun i j => .bl (g i j)) := by
  intro pins s σ H x y v u Q I rx ry h
  obtain ⟨i, j, rfl, rfl, q⟩ := h
  obtain ⟨t, rfl⟩ := rx
  obtain ⟨t', rfl⟩ := ry
  exact rule i j t t' s _ _ ⟨.bl (g i j), H, I, rfl, q⟩
def CDiv (i j : Int) : Prop := 0 < j ∧ j < 1073741824
def CPow (i j : Int) : Prop := 0 ≤ j ∧ j ≤ 1000000 ∧ i.natAbs < 2 ^ 64
def CMul (i j : Int) : Prop := (-(2 ^ 64) < i ∧ i < 2 ^ 64) ∨ (-(2 ^ 64) < j ∧ j < 2 ^ 64)
theorem CMul.ok {i j : Int} (h : CMul i j) : IntMulOk i j := by
  rcases h with ⟨h1, h2⟩ | ⟨h1, h2⟩
  · exact .of_left (intBits_le_64 h1 h2)
  · exact .of_right (intBits_le_64 h1 h2)
theorem op_add : OpR X (binaryOp .Add) (rI0 fun i j => .int (i + j)) := opI0 fun _ _ _ _ _ _ _ q => add_int q
theorem op_sub : OpR X (binaryOp .Sub) (rI0 fun i j => .int (i - j)) := opI0 fun _ _ _ _ _ _ _ q => sub_int q
theorem op_mul : OpR X (binaryOp .Mult) (rI CMul fun i j => .int (i * j)) := opI fun _ _ _ _ _ _ _ hc q => mul_int q hc.ok
theorem op_fdiv : OpR X (binaryOp .FloorDiv) (rI CDiv fun i j => .int (i / j)) := opI fun i j _ _ _ _ _ hc q => by
  have h1 : (0 : Int) < j := hc.1
  have h2 : j < 1073741824 := hc.2
  exact floordiv_int (by omega) (by rw [Int.fdiv_eq_ediv_of_nonneg i (by omega)]; exact q) (.inl (PyProof.noPylong_small (by omega)))
theorem op_mod : OpR X (binaryOp .Mod) (rI (fun _ j => 0 < j) fun i j => .int (i % j)) := opI fun i j _ _ _ _ _ hc q => by
  have h1 : (0 : Int) < j := hc
  exact mod_int' (by omega) (by rw [Int.fmod_eq_emod_of_nonneg i (by omega)]; exact q)
theorem op_pow : OpR X (binaryOp .Pow) (rI CPow fun i j => .int (i ^ j.toNat)) := opI fun _ _ _ _ _ _ _ hc q => pow_int_small hc.1 hc.2.1 hc.2.2 q
end
def scal : V → V → Bool
  | .non, .non => true | .non, .int _ => true | .int _, .non => true | .non, .bl _ => true | .bl _, .non => true | .non, .str _ => true | .str _, .non => true
  | .int _, .int _ => true | .bl _, .bl _ => true | .str _, .str _ => true | .byt _, .byt _ => true
  | .int _, .str _ => true | .str _, .int _ => true | .bl _, .str _ => true | .str _, .bl _ => true
  | _, _ => false
def rEq : R2 := fun x y H Q => scal x y = true ∧ Q (.bl (decide (x = y))) H
def rNe : R2 := fun x y H Q => scal x y = true ∧ Q (.bl (!decide (x = y))) H
theorem dec_int {i j : Int} : decide (V.int i = V.int j) = (i == j) := by
  rw [Bool.eq_iff_iff]
  simp
theorem dec_bl {i j : Bool} : decide (V.bl i = V.bl j) = (i == j) := by
  rw [Bool.eq_iff_iff]
  simp
theorem dec_str {i j : Str} : decide (V.str i = V.str j) = (i == j) := by
  rw [Bool.eq_iff_iff]
  simp
theorem dec_byt {i j : Array UInt8} : decide (V.byt i = V.byt j) = (i.toList == j.toList) := by
  rw [Bool.eq_iff_iff]
  cases i
  cases j
  simp
section
variable {X : Cx} {a b c : Expr} {ta tb tc : TE} {pos : Pos}
theorem fin_bl {pins : List (Addr × Obj)} {σ : St} {H : Hp} {s : Shared} {Q : VK} {k k' : Bool} (I : Inv X pins σ H s) (q : Q (.bl k) H) (e : k = k') : EP X pins σ Q (.bool k') s := by
  subst e
  exact ⟨.bl k, H, I, rfl, q⟩
theorem op_eq : OpR X (compareOp .Eq) rEq := by
  intro pins s σ H x y v u Q I rx ry h
  obtain ⟨hs, q⟩ := h
  cases x with
  | non =>
    cases rx
    cases y with
    | non => cases ry; exact PySem.EqNone.eq_none_none (fin_bl I q (by simp))
    | bl j => cases ry; exact PySem.EqNone.eq_none_bool (fin_bl I q (by simp))
    | int j => obtain ⟨t', rfl⟩ := ry; exact PySem.EqNone.eq_none_int (fin_bl I q (by simp))
    | str j => obtain ⟨t', rfl⟩ := ry; exact PySem.EqNone.eq_none_str (fin_bl I q (by simp))
    | _ => exact absurd (show false = true from hs) Bool.false_ne_true
  | bl i =>
    cases rx
    cases y with
    | non => cases ry; exact PySem.EqNone.eq_bool_none (fin_bl I q (by simp))
    | bl j => cases ry; exact eq_bool (fin_bl I q dec_bl)
    | str j => obtain ⟨t', rfl⟩ := ry; exact PySem.EqMixed.eq_bool_str (fin_bl I q (by simp))
    | _ => exact absurd (show false = true from hs) Bool.false_ne_true
  | int i =>
    obtain ⟨t, rfl⟩ := rx
    cases y with
    | non => cases ry; exact PySem.EqNone.eq_int_none (fin_bl I q (by simp))
    | int j => obtain ⟨t', rfl⟩ := ry; exact eq_int (fin_bl I q dec_int)
    | str j => obtain ⟨t', rfl⟩ := ry; exact PySem.EqMixed.eq_int_str (fin_bl I q (by simp))
    | _ => exact absurd (show false = true from hs) Bool.false_ne_true
  | str i =>
    obtain ⟨t, rfl⟩ := rx
    cases y with
    | non => cases ry; exact PySem.EqNone.eq_str_none (fin_bl I q (by simp))
    | bl j => cases ry; exact PySem.EqMixed.eq_str_bool (fin_bl I q (by simp))
    | int j => obtain ⟨t', rfl⟩ := ry; exact PySem.EqMixed.eq_str_int (fin_bl I q (by simp))
    | str j => obtain ⟨t', rfl⟩ := ry; exact eq_str (fin_bl I q dec_str)
    | _ => exact absurd (show false = true from hs) Bool.false_ne_true
  | byt i =>
    obtain ⟨t, rfl⟩ := rx
    cases y with
    | byt j => obtain ⟨t', rfl⟩ := ry; exact PySem.W.eq_bytes (fin_bl I q dec_byt)
    | _ => exact absurd (show false = true from hs) Bool.false_ne_true
  | _ => cases y <;> exact absurd (show false = true from hs) Bool.false_ne_true
theorem op_ne : OpR X (compareOp .NotEq) rNe := by
  intro pins s σ H x y v u Q I rx ry h
  obtain ⟨hs, q⟩ := h
  cases x with
  | non =>
    cases rx
    cases y with
    | non => cases ry; exact PySem.EqNone.ne_none_none (fin_bl I q (by simp))
    | bl j => cases ry; exact PySem.EqNone.ne_none_bool (fin_bl I q (by simp))
    | int j => obtain ⟨t', rfl⟩ := ry; exact PySem.EqNone.ne_none_int (fin_bl I q (by simp))
    | str j => obtain ⟨t', rfl⟩ := ry; exact PySem.EqNone.ne_none_str (fin_bl I q (by simp))
    | _ => exact absurd (show false = true from hs) Bool.false_ne_true
  | bl i =>
    cases rx
    cases y with
    | non => cases ry; exact PySem.EqNone.ne_bool_none (fin_bl I q (by simp))
    | bl j => cases ry; exact ne_bool (fin_bl I q (congrArg not dec_bl))
    | str j => obtain ⟨t', rfl⟩ := ry; exact PySem.EqMixed.ne_bool_str (fin_bl I q (by simp))
    | _ => exact absurd (show false = true from hs) Bool.false_ne_true
  | int i =>
    obtain ⟨t, rfl⟩ := rx
    cases y with
    | non => cases ry; exact PySem.EqNone.ne_int_none (fin_bl I q (by simp))
    | int j => obtain ⟨t', rfl⟩ := ry; exact ne_int (fin_bl I q (congrArg not dec_int))
    | str j => obtain ⟨t', rfl⟩ := ry; exact PySem.EqMixed.ne_int_str (fin_bl I q (by simp))
    | _ => exact absurd (show false = true from hs) Bool.false_ne_true
  | str i =>
    obtain ⟨t, rfl⟩ := rx
    cases y with
    | non => cases ry; exact PySem.EqNone.ne_str_none (fin_bl I q (by simp))
    | bl j => cases ry; exact PySem.EqMixed.ne_str_bool (fin_bl I q (by simp))
    | int j => obtain ⟨t', rfl⟩ := ry; exact PySem.EqMixed.ne_str_int (fin_bl I q (by simp))
    | str j => obtain ⟨t', rfl⟩ := ry; exact ne_str (fin_bl I q (congrArg not dec_str))
    | _ => exact absurd (show false = true from hs) Bool.false_ne_true
  | byt i =>
    obtain ⟨t, rfl⟩ := rx
    cases y with
    | byt j => obtain ⟨t', rfl⟩ := ry; exact PySem.W.ne_bytes (fin_bl I q (congrArg not dec_byt))
    | _ => exact absurd (show false = true from hs) Bool.false_ne_true
  | _ => cases y <;> exact absurd (show false = true from hs) Bool.false_ne_true
theorem op_lt : OpR X (compareOp .Lt) (rI0 fun i j => .bl (decide (i < j))) := opB0 fun _ _ _ _ _ _ _ q => lt_int q
theorem op_le : OpR X (compareOp .LtE) (rI0 fun i j => .bl (decide (i ≤ j))) := opB0 fun _ _ _ _ _ _ _ q => le_int q
theorem op_gt : OpR X (compareOp .Gt) (rI0 fun i j => .bl (decide (j < i))) := opB0 fun _ _ _ _ _ _ _ q => gt_int q
theorem nomark (b : Expr) {op : CmpOp} (h : op ≠ .In := by decide) (h2 : op ≠ .NotIn := by decide) : behindInMarks op b = false := by
  have e1 : (op == CmpOp.In) = false := by cases op <;> first | rfl | exact absurd rfl h
  have e2 : (op == CmpOp.NotIn) = false := by cases op <;> first | rfl | exact absurd rfl h2
  cases b <;> simp [behindInMarks, e1, e2]
theorem pe_cmpR {op : CmpOp} {r : R2} (ho : OpR X (compareOp op) r) (ha : PE X a ta) (hb : PE X b tb) (hm : behindInMarks op b = false) : PE X (.Compare a [op] [b] pos) (tOp r ta tb) := by
  intro pins s σ H Q I h
  exact wpAny_Compare1 (binT ha hb I h fun v u s2 x y H2 I2 rx ry q => ho pins s2 σ H2 x y v u Q I2 rx ry q) hm
def tTest (t : TE) : TT := fun σ H Q => t σ H fun x H' => ∃ k, x = .bl k ∧ Q k H'
theorem pt_cmpR {op : CmpOp} {r : R2} (ho : OpR X (compareOp op) r) (ha : PE X a ta) (hb : PE X b tb) (hm : behindInMarks op b = false) : PT X (.Compare a [op] [b] pos) (tTest (tOp r ta tb)) := by
  intro pins s σ H Q I h
  refine wpAny_isTrue_Compare1 (thn (ha pins s σ H _ I h) fun v s1 ⟨x, H1, I1, r1, q1⟩ => thn (hb pins s1 σ H1 _ I1 q1) fun u s2 ⟨y, H2, I2, r2, q2⟩ =>
    thn (ho pins s2 σ H2 x y v u _ I2 r1 r2 q2) fun c s3 ⟨z, H3, I3, r3, k, e, q3⟩ => ?_) hm
  subst e
  cases r3
  exact wpAny_truthy_bool ⟨H3, I3, q3⟩
def tChain (r r' : R2) (ta tb tc : TE) : TE := fun σ H Q => ta σ H fun x H1 => tb σ H1 fun y H2 => r x y H2 fun z H3 => ∃ k, z = .bl k ∧
  (if k = true then tc σ H3 fun w' H4 => r' y w' H4 Q else Q (.bl false) H3)
theorem pe_chain {op op' : CmpOp} {r r' : R2} (ho : OpR X (compareOp op) r) (ho' : OpR X (compareOp op') r') (ha : PE X a ta) (hb : PE X b tb) (hc : PE X c tc)
    (hm : lastMarks [op, op'] [b, c] = false := by with_unfolding_all rfl) : PE X (.Compare a [op, op'] [b, c] pos) (tChain r r' ta tb tc) := by
  intro pins s σ H Q I h
  refine Compare_chain (thn (ha pins s σ H _ I h) fun v s1 ⟨x, H1, I1, r1, q1⟩ => chain_link (thn (hb pins s1 σ H1 _ I1 q1) fun u s2 ⟨y, H2, I2, r2, q2⟩ =>
    thn (ho pins s2 σ H2 x y v u _ I2 r1 r2 q2) fun d s3 ⟨z, H3, I3, r3, k, e, q3⟩ => ?_)) hm
  subst e
  cases r3
  refine wpAny_truthy_bool ?_
  cases k with
  | false => exact ite_ff ⟨.bl false, H3, I3, rfl, q3⟩
  | true => exact ite_tt (chain_last (thn (hc pins s3 σ H3 _ I3 q3) fun w' s4 ⟨z', H4, I4, r4, q4⟩ => ho' pins s4 σ H4 y z' u w' Q I4 r2 r4 q4))
theorem line63 : (sizeLine : Nat) < 2 ^ 63 := by rw [sizeLine_eq]; decide
theorem vals1 {x : V} {us : List Value} (r : Vals [x] us) : ∃ u, us = [u] ∧ RelV x u := by
  cases r with
  | cons r1 r2 => cases r2; exact ⟨_, rfl, r1⟩
theorem vals2 {x y : V} {us : List Value} (r : Vals [x, y] us) : ∃ u w', us = [u, w'] ∧ RelV x u ∧ RelV y w' := by
  cases r with
  | cons r1 r2 =>
    cases r2 with
    | cons r3 r4 => cases r4; exact ⟨_, _, rfl, r1, r3⟩
theorem call_max2 (hc : X.calm = true) : CallR X (.builtin "max") (fun xs H Q => ∃ i j, xs = [.int i, .int j] ∧ Q (.int (if j > i then j else i)) H) := by
  intro pins s σ H xs us Q I r h
  obtain ⟨i, j, rfl, q⟩ := h
  obtain ⟨u, w', rfl, ⟨t, rfl⟩, ⟨t', rfl⟩⟩ := vals2 r
  refine max_two_ints (I.ok.hd hc) fun h' tk k => ⟨_, H, I.kept k, ?_, q⟩
  by_cases hj : j > i
  · rw [if_pos hj, if_pos hj]; exact ⟨_, rfl⟩
  · rw [if_neg hj, if_neg hj]; exact ⟨_, rfl⟩
theorem call_min2 (hc : X.calm = true) : CallR X (.builtin "min") (fun xs H Q => ∃ i j, xs = [.int i, .int j] ∧ Q (.int (if j < i then j else i)) H) := by
  intro pins s σ H xs us Q I r h
  obtain ⟨i, j, rfl, q⟩ := h
  obtain ⟨u, w', rfl, ⟨t, rfl⟩, ⟨t', rfl⟩⟩ := vals2 r
  refine min_two_ints (I.ok.hd hc) fun h' tk k => ⟨_, H, I.kept k, ?_, q⟩
  by_cases hj : j < i
  · rw [if_pos hj, if_pos hj]; exact ⟨_, rfl⟩
  · rw [if_neg hj, if_neg hj]; exact ⟨_, rfl⟩
end
end L2
namespace L2
open PySem PySem.Spec PyProof.Rows
structure ObjM (h : Heap) (x dx C : Addr) (mA : Str → Option Value) : Prop where
  obj : h.get? x = some (PySem.W.instObj C dx)
  ns : h.Ns1 dx mA
  ne : dx ≠ x
theorem lookIn_ns {h : Heap} {dx : Addr} {mA : Str → Option Value} (n : h.Ns1 dx mA) : ∃ od, h.get? dx = some od ∧ ∀ name, PySem.W.lookIn name od = some (mA name) := by
  obtain ⟨o, es, ep, ho, hd, hk, _, hm⟩ := n
  refine ⟨o, ho, fun name => ?_⟩
  have e := hm name
  unfold nsFind findBy at e
  rw [← Array.find?_toList] at e
  unfold PySem.W.lookIn
  rw [hd]
  dsimp only
  split
  · rename_i y q
    rw [q] at e
    exact congrArg some e
  · rename_i q
    rw [q] at e
    have a : es.toList.any (·.refKey) = false := by
      rw [List.any_eq_false]
      intro y hy
      obtain ⟨z, t, hkey⟩ := hk y (Array.mem_toList_iff.mp hy)
      simp [DictEntry.refKey, hkey]
    have a' : ¬ es.toList.any (·.refKey) = true := by rw [a]; exact Bool.false_ne_true
    rw [if_neg a']
    exact congrArg some e
theorem ObjM.look {h : Heap} {x dx C : Addr} {mA : Str → Option Value} (I : ObjM h x dx C mA) : ∃ od, PySem.W.InstAt h x (PySem.W.instObj C dx) C (some od) ∧ ∀ name, PySem.W.lookIn name od = some (mA name) :=
  let ⟨od, ho, hl⟩ := lookIn_ns I.ns
  ⟨od, ⟨I.obj, rfl, rfl, ho⟩, hl⟩
section
variable {prog : Program} {w : World} {A : Around} {E : Value → Shared → Prop} {s : Shared} {K : PySem.W.Frag} {x dx C f : Addr} {mA : Str → Option Value} {name : Str} {v : Value}
end
theorem RelO.some_of {v : V} {o : Option Value} (r : RelO (some v) o) : ∃ u, o = some u ∧ RelV v u := by
  cases o with
  | none => exact (show False from r).elim
  | some u => exact ⟨u, rfl, r⟩
section
variable {P : Program} {w : World} {H H' : Hp} {h h' : Heap} {a C dx : Addr} {fs fs' : List (Str × V)}
theorem ins_get (hok : HOk P w H h) (e : H a = some (.ins C dx fs)) : ∃ mA, ObjM h a dx C mA ∧ (∀ f, RelO (fs.lookup f) (mA f)) ∧ PySem.Within mA (fs.map (·.1)) ∧ fs.length ≤ 1000 ∧ H dx = some (.own a) := by
  obtain ⟨d, z, ne, ob, mA, n, r, q⟩ := (show ObjOk P w H h a (.ins C dx fs) from hok a _ e)
  exact ⟨mA, ⟨ob, n, ne⟩, r, q, z, d⟩
end
structure Cls (K : PySem.W.Frag) (C : Addr) : Prop where
  pg : PySem.W.plainGet K C Str.empty = true
  hd : PySem.W.hasDictIn K C = true
  po : PySem.W.plainOver K C = true
  sa : PySem.W.findIn K (.ref C) "__setattr__" = some (some (.builtin "object.__setattr__"))
theorem Cls.get {K : PySem.W.Frag} {C : Addr} (c : Cls K C) (f : Str) : PySem.W.plainGet K C f = true := c.pg
structure Con (K : PySem.W.Frag) (C : Addr) (f : Str) (v : V) (u : Value) : Prop where
  at_ : PySem.W.findIn K (.ref C) f = some (some u)
  rel : RelV v u
  get : PySem.W.specialIn K u "__get__" = some none
  cp : PySem.W.copiedNames.contains f = false
structure Meth (K : PySem.W.Frag) (C : Addr) (m : Str) (f : Addr) : Prop where
  at_ : PySem.W.findIn K (.ref C) m = some (some (.ref f))
  fn : PySem.W.isFn K (.ref f) = true
  kp : PySem.W.keepIn K (.ref f) = true
section
variable {X : Cx} {pins : List (Addr × Obj)} {σ : St} {H : Hp} {s : Shared} {a C dx : Addr} {fs : List (Str × V)} {f : Str} {v : V} {A : Around} {E : Value → Shared → Prop}
theorem Inv.made (I : Inv X pins σ H s) : Inv X pins σ (upd (upd H s.heap.objs.size (.own (s.heap.objs.size + 1))) (s.heap.objs.size + 1) (.ins C s.heap.objs.size []))
    { s with heap := (s.heap.push PySem.W.emptyDict).push (PySem.W.instObj C s.heap.objs.size) } := by
  have e1 : (s.heap.push PySem.W.emptyDict).get? s.heap.objs.size = some PySem.W.emptyDict := Heap.get?_push_size s.heap rfl
  have e2 : ((s.heap.push PySem.W.emptyDict).push (PySem.W.instObj C s.heap.objs.size)).get? (s.heap.objs.size + 1) = some (PySem.W.instObj C s.heap.objs.size) := by
    have := Heap.get?_push_size (s.heap.push PySem.W.emptyDict) (o := PySem.W.instObj C s.heap.objs.size) rfl
    rwa [Heap.size_push] at this
  have e3 : (s.heap.push PySem.W.emptyDict).Ns s.heap.objs.size (fun _ => none) := ⟨PySem.W.emptyDict, #[], _, e1, rfl, (fun e he => absurd he (by simp)), fun _ => rfl⟩
  have I1 := I.laid (a := s.heap.objs.size) (o := .own (s.heap.objs.size + 1)) (h' := s.heap.push PySem.W.emptyDict) (t' := s.toks) (fun b u q => Heap.get?_push_of_some _ q) (Nat.le_refl _) ⟨_, e1⟩
  refine I1.laid (a := s.heap.objs.size + 1) (o := .ins C s.heap.objs.size []) (t' := s.toks) (fun b u q => Heap.get?_push_of_some _ q) (Nat.le_of_eq (Heap.size_push _ _)) ?_
  have ne : s.heap.objs.size ≠ s.heap.objs.size + 1 := Nat.ne_of_lt (Nat.lt_succ_self _)
  refine ⟨by rw [upd_ne ne, upd_same], Nat.zero_le _, ne, e2, fun _ => none, (Heap.Ns1.of_empty e3).at fun o q => Heap.get?_push_of_some _ q, fun _ => True.intro, fun y hy => absurd rfl hy⟩
end
section
variable {X : Cx} {o e value : Expr} {f : Str} {pos pos' tpos : Pos} {ta tv : TE}
end
section
variable {X : Cx} {pins : List (Addr × Obj)} {σ : St} {H : Hp} {s : Shared} {A : Around} {E : Value → Shared → Prop} {Q : Value → Shared → Prop} {c : Value} {b : Bool}
inductive TyOf (K : PySem.W.Frag) (H : Hp) : V → Value → Prop where
  | non : TyOf K H .non (.type "NoneType")
  | bl (x : Bool) : TyOf K H (.bl x) (.type "bool")
  | int (i : Int) : TyOf K H (.int i) (.type "int")
  | str (x : Str) : TyOf K H (.str x) (.type "str")
  | flt (x : UInt64) : TyOf K H (.flt x) (.type "float")
  | lst {a : Addr} {xs : List V} (e : H a = some (.lst xs)) : TyOf K H (.ref a) (.type "list")
  | frz {a : Addr} {o : Obj} {xs : List V} (e : H a = some (.frz o (.lst xs))) : TyOf K H (.ref a) (.type "list")
  | tup {a : Addr} {xs : List V} (e : H a = some (.tup xs)) : TyOf K H (.ref a) (.type "tuple")
  | dK {a : Addr} {kvs : List (Key × V)} (e : H a = some (.dK kvs)) : TyOf K H (.ref a) (.type "dict")
  | dT {a : Addr} {kvs : List (List Key × V)} (e : H a = some (.dT kvs)) : TyOf K H (.ref a) (.type "dict")
  | ins {a C dx : Addr} {fs : List (Str × V)} (e : H a = some (.ins C dx fs)) (cl : Cls K C) (ha : PySem.W.findIn K (.ref C) "__class__" = some (some (.builtin "object.__class__")))
      (hn : PySem.W.specialIn K (.builtin "object.__class__") "__get__" = some (some (.builtin "getset_descriptor.__get__"))) (htk : PySem.W.takesIn K (.builtin "object.__class__") = some true)
      (hm : PySem.W.mroIn K C (.type "object") = some true) : TyOf K H (.ref a) (.ref C)
theorem isinst_ok {x : V} {u t : Value} (I : Inv X pins σ H s) (rx : RelV x u) (ty : TyOf X.K H x t) (e : PySem.W.kitOne X.K t c = some b) (h : ∀ tk, Q (.bool b) { s with toks := tk }) :
    wpAny (model X.prog X.w) A (call (.builtin "isinstance") [u, c]) Q E s := by
  cases ty with
  | non => cases (show u = Value.none from rx); exact PySem.W.kia_one PySem.W.kitx_none I.kIn True.intro e (fun z => nomatch z) h
  | bl y => cases (show u = Value.bool y from rx); exact PySem.W.kia_one PySem.W.kitx_bool I.kIn True.intro e (fun z => nomatch z) h
  | int i => obtain ⟨t, q⟩ := (show ∃ t, u = Value.int i t from rx); cases q; exact PySem.W.kia_one PySem.W.kitx_int I.kIn True.intro e (fun z => nomatch z) h
  | str y => obtain ⟨t, q⟩ := (show ∃ t, u = Value.str y t from rx); cases q; exact PySem.W.kia_one PySem.W.kitx_str I.kIn True.intro e (fun z => nomatch z) h
  | flt y => obtain ⟨t, q⟩ := (show ∃ t, u = Value.float y t from rx); cases q; exact PySem.W.kia_one PySem.W.kitx_float I.kIn True.intro e (fun z => nomatch z) h
  | @lst a xs ea =>
    cases (show u = Value.ref a from rx)
    obtain ⟨_, _, n, _, h1⟩ := (show ObjOk X.prog X.w H s.heap a (.lst xs) from I.hok a _ ea)
    exact PySem.W.kia_one PySem.W.kitx_list I.kIn ⟨_, h1, rfl⟩ e (fun z => nomatch z) h
  | @frz a ob xs ea =>
    cases (show u = Value.ref a from rx)
    obtain ⟨_, _, _, n, _, h1⟩ := (show ObjOk X.prog X.w H s.heap a (.frz ob (.lst xs)) from I.hok a _ ea)
    exact PySem.W.kia_one PySem.W.kitx_list I.kIn ⟨_, h1, rfl⟩ e (fun z => nomatch z) h
  | @tup a xs ea =>
    cases (show u = Value.ref a from rx)
    obtain ⟨_, _, _, p⟩ := (show ObjOk X.prog X.w H s.heap a (.tup xs) from I.hok a _ ea)
    obtain ⟨o, h1, h2, _⟩ := p
    exact PySem.W.kia_one PySem.W.kitx_tuple I.kIn ⟨o, h1, h2⟩ e (fun z => nomatch z) h
  | @dK a kvs ea =>
    cases (show u = Value.ref a from rx)
    obtain ⟨_, _, vs, _, p⟩ := (show ObjOk X.prog X.w H s.heap a (.dK kvs) from I.hok a _ ea)
    obtain ⟨o, es, ep, h1, h2, _⟩ := p
    exact PySem.W.kia_one PySem.W.kitx_dict I.kIn ⟨o, h1, h2.1⟩ e (fun z => nomatch z) h
  | @dT a kvs ea =>
    cases (show u = Value.ref a from rx)
    obtain ⟨_, _, xs, _, o, es, ep, h1, h2, _⟩ := (show ObjOk X.prog X.w H s.heap a (.dT kvs) from I.hok a _ ea)
    exact PySem.W.kia_one PySem.W.kitx_dict I.kIn ⟨o, h1, h2.1⟩ e (fun z => nomatch z) h
  | @ins a C dx fs ea cl ha hn htk hm =>
    cases (show u = Value.ref a from rx)
    obtain ⟨mA, O, _⟩ := ins_get I.hok ea
    obtain ⟨od, J, _⟩ := O.look
    exact PySem.W.kia_one (PySem.W.kitx_own (cl.get _) cl.hd ha hn htk hm) I.kIn J e (fun z => nomatch z) h
end
end L2
namespace L2
open PySem PySem.Spec PyProof.Rows
structure Room (k : Nat) (A : Around) : Prop where
  hd : A.handled = none
  dp : A.depth + 3 * k + 5 < recursionLimit
  un : A.units + 16 * k + 200 < cLine
theorem Room.mono {j k : Nat} {A : Around} (r : Room k A) (h : j ≤ k) : Room j A := ⟨r.hd, by have := r.dp; omega, by have := r.un; omega⟩
theorem Room.deeper {k : Nat} {A : Around} (r : Room (k + 1) A) (env : Env) : Room k (A.deeper env) :=
  ⟨r.hd, by have := r.dp; show A.depth + 1 + 3 * k + 5 < _; omega, by have := r.un; show A.units + 3 + 16 * k + 200 < _; omega⟩
theorem Room.in1 {k : Nat} {A : Around} (r : Room (k + 1) A) : Room k A.in1 :=
  ⟨r.hd, by have := r.dp; show A.depth + 3 * k + 5 < _; omega, by have := r.un; show A.units + 1 + 16 * k + 200 < _; omega⟩
theorem Room.depth {k : Nat} {A : Around} (r : Room k A) : A.depth < recursionLimit := by have := r.dp; omega
theorem Room.units {k : Nat} {A : Around} (r : Room k A) : A.units + 64 < cLine := by have := r.un; omega
def tNil : TA := fun _ H Q => Q [] H
def tCons (ta : TE) (tr : TA) : TA := fun σ H Q => ta σ H fun x H1 => tr σ H1 fun xs H2 => Q (x :: xs) H2
section
variable {X : Cx} {e : Expr} {es : List Expr} {te : TE} {t : TA} {pos : Pos}
theorem pa_nil : PA X [] tNil := fun _ _ _ _ H Q I h => Calls.spliced_nil ⟨[], H, I, .nil, h⟩
theorem pa_cons (ha : PE X e te) (hr : PA X es t) (hs : starEach (e :: es) X.env = (false, eval e X.env) :: starEach es X.env := by rfl) : PA X (e :: es) (tCons te t) := by
  intro pos pins s σ H Q I h
  rw [hs]
  show wpAny _ _ (spliced ((false, eval e X.env) :: backTo pos (starEach es X.env))) _ _ s
  refine Calls.spliced_cons (thn (ha pins s σ H _ I h) fun u s1 ⟨x, H1, I1, r1, q1⟩ => ?_)
  exact thn (hr pos pins s1 σ H1 _ I1 q1) fun us s2 ⟨xs, H2, I2, r2, q2⟩ => ⟨x :: xs, H2, I2, .cons r1 r2, q2⟩
def tTup (t : TA) : TE := fun σ H Q => t σ H fun xs H1 => xs.length ≤ sizeLine ∧ ∀ p, H1 p = none → Q (.ref p) (upd H1 p (.tup xs))
def tLst (t : TA) : TE := fun σ H Q => t σ H fun xs H1 => xs.length ≤ sizeLine ∧ ∀ p, H1 p = none → Q (.ref p) (upd H1 p (.lst xs))
theorem pe_tup {x1} (h : PA X es t) : PE X (.Tuple es x1 pos) (tTup t) := by
  intro pins s σ H Q I hq
  refine wpAny_Tuple_spliced (thn (h pos pins s σ H _ I hq) fun us s1 ⟨xs, H1, I1, r, z, q⟩ => ⟨by rw [← r.length]; exact z, ?_⟩)
  have hf : H1 s1.heap.objs.size = none := I1.hok.fresh (Nat.le_refl _)
  refine ⟨.ref s1.heap.objs.size, upd H1 s1.heap.objs.size (.tup xs), I1.laid (t' := s1.toks) (fun b u e => Heap.get?_push_of_some _ e) (Nat.le_refl _) ?_, rfl, q _ hf⟩
  exact ⟨z, us, r, ⟨_, Heap.get?_push_size _ rfl, rfl, _, rfl⟩⟩
theorem pe_lst (h : PA X es t) : PE X (.List es pos) (tLst t) := by
  intro pins s σ H Q I hq
  refine wpAny_List_spliced (thn (h pos pins s σ H _ I hq) fun us s1 ⟨xs, H1, I1, r, z, q⟩ => ⟨by rw [← r.length]; exact z, ?_⟩)
  have hf : H1 s1.heap.objs.size = none := I1.hok.fresh (Nat.le_refl _)
  refine ⟨.ref s1.heap.objs.size, upd H1 s1.heap.objs.size (.lst xs), I1.laid (t' := s1.toks) (fun b u e => Heap.get?_push_of_some _ e) (Nat.le_refl _) ?_, rfl, q _ hf⟩
  exact ⟨z, us, 0, r, Heap.get?_push_size _ rfl⟩
end
abbrev Sp := List V → Hp → VK → XK → Prop
abbrev CXT := List Env → Hp → Shared → XK → Value → Shared → Prop
structure Env0 (P : Program) (w : World) (K : PySem.W.Frag) (mg : Str → Option Value) (base : Heap) (A : Around) (outer : List Env) (s : Shared) (H : Hp) : Prop where
  frames : A.frames = some outer
  mod : Mod K mg base
  bs : ∀ b o, base.get? b = some o → s.heap.get? b = some o ∧ H b = none
  bsz : base.objs.size ≤ s.heap.objs.size
  funs : s.heap.FunFrames base outer
  frf : ∀ b ∈ frs outer, H b = none
  hok : HOk P w H s.heap
  bare : AllBare s.gens
def CE (outer : List Env) (P : Program) (w : World) (H : Hp) (s : Shared) (Q : VK) (u : Value) (s' : Shared) : Prop :=
  ∃ v H', s'.os = s.os ∧ AllBare s'.gens ∧ Un (frs outer) [] H H' s.heap s'.heap ∧ HOk P w H' s'.heap ∧ RelV v u ∧ Q v H'
def CR (CX : CXT) (outer : List Env) (P : Program) (w : World) (H : Hp) (s : Shared) (Q : VK) (E : XK) (r : Result) (s' : Shared) : Prop :=
  match r with
  | .ok (.ret u) => CE outer P w H s Q u s'
  | .ok _ => False
  | .error e => CX outer H s E e s'
structure FnOk (P : Program) (w : World) (K : PySem.W.Frag) (mg : Str → Option Value) (base : Heap) (CX : CXT) (k : Nat) (f : Addr) (fd : FuncData) (ps : List Str) (sp : Sp) : Prop where
  len : ∀ vs H Q E, sp vs H Q E → vs.length = ps.length
  run : ∀ (A : Around) (outer : List Env) (s : Shared) (H : Hp) (args : Args) (us : List Value) (vs : List V) (Q : VK) (E : XK), Room k A → Env0 P w K mg base A outer s H → BindsTo s fd args (ps.zip us) → Vals vs us → sp vs H Q E →
    codeAny (model P w) A (.call (.ref f) args) (CR CX outer P w H s Q E) s
theorem FnOk.mono {P : Program} {w : World} {K : PySem.W.Frag} {mg : Str → Option Value} {base : Heap} {CX : CXT} {j k : Nat} {f : Addr} {fd : FuncData} {ps : List Str} {sp : Sp} (F : FnOk P w K mg base CX j f fd ps sp) (h : j ≤ k) :
    FnOk P w K mg base CX k f fd ps sp := ⟨F.len, fun A outer s H args us vs Q E hr => F.run A outer s H args us vs Q E (hr.mono h)⟩
theorem Env0.in1 {P : Program} {w : World} {K : PySem.W.Frag} {mg : Str → Option Value} {base : Heap} {A : Around} {outer : List Env} {s : Shared} {H : Hp} (e : Env0 P w K mg base A outer s H) :
    Env0 P w K mg base A.in1 outer s H := ⟨e.frames, e.mod, e.bs, e.bsz, e.funs, e.frf, e.hok, e.bare⟩
section
variable {X : Cx} {pins : List (Addr × Obj)} {σ : St} {H : Hp} {s s' : Shared}
theorem Inv.env0 (I : Inv X pins σ H s) : Env0 X.prog X.w X.K X.mg X.base X.A X.stack s H :=
  ⟨I.ok.frames, I.ok.mod, I.bs, Nat.le_trans I.ok.bsz I.sz, I.stack, I.stkFree, I.hok, I.bare⟩
theorem Inv.after {Q : VK} {u : Value} (I : Inv X pins σ H s) (h : CE X.stack X.prog X.w H s Q u s') : EP X pins σ Q u s' := by
  obtain ⟨v, H', os, bare, un, hok, r, q⟩ := h
  obtain ⟨hh, g, d, t, os'⟩ := s'
  obtain rfl : os' = s.os := os
  exact ⟨v, H', I.call (h' := hh) (g' := g) (d' := d) (t' := t) (ch := []) un hok bare (fun b z => absurd z (by simp)), r, q⟩
end
def tCall (sp : Sp) (dvs : List V) (E : XK) (t : TA) : TE := fun σ H Q => t σ H fun vs H1 => sp (vs ++ dvs) H1 Q E
def Binds (K : PySem.W.Frag) (fd : FuncData) (ps : List Str) (ds : List Value) : Prop :=
  ∀ (s : Shared) (us : List Value), K.In s.heap → (us ++ ds).length = ps.length → BindsTo s fd ⟨us, []⟩ (ps.zip (us ++ ds))
theorem Binds.all {K : PySem.W.Frag} {fd : FuncData} {ps : List Str} (h : ∀ us : List Value, us.length = ps.length → bindArgs fd ⟨us, []⟩ = pure (ps.zip us)) : Binds K fd ps [] := fun s us _ hl => by
  rw [List.append_nil] at hl ⊢
  exact .of_eq (h us hl)
def Passes (CX : CXT) (X : Cx) (E : XK) : Prop := ∀ (pins : List (Addr × Obj)) (σ : St) (H : Hp) (s : Shared) (e : Value) (s' : Shared), Inv X pins σ H s → CX X.stack H s E e s' → X.xe e s'
section
variable {X : Cx} {CX : CXT} {k : Nat} {f C : Addr} {fd : FuncData} {ps : List Str} {sp : Sp} {dvs : List V} {ds : List Value} {E : XK} {x m : Str} {p pos apos : Pos} {e o : Expr} {es : List Expr} {ta : TE} {t : TA}
theorem run_fn {pins : List (Addr × Obj)} {σ : St} {H : Hp} {s : Shared} {Q : VK} {us : List Value} {vs : List V} (F : FnOk X.prog X.w X.K X.mg X.base CX k f fd ps sp) (hr : Room k X.A) (hb : Binds X.K fd ps ds) (hd : Vals dvs ds) (hx : Passes CX X E)
    (I : Inv X pins σ H s) (r : Vals vs us) (h : sp (vs ++ dvs) H Q E) : wpAny (model X.prog X.w) X.A (call (.ref f) us) (EP X pins σ Q) X.xe s := by
  have r2 : Vals (vs ++ dvs) (us ++ ds) := r.append hd
  have hl : (us ++ ds).length = ps.length := by rw [← r2.length]; exact F.len _ _ _ _ h
  refine wpAny_call (codeAny_mono (F.run X.A X.stack s H ⟨us, []⟩ (us ++ ds) (vs ++ dvs) Q E hr I.env0 (hb s us I.kIn hl) r2 h) fun r s' hq => ?_)
  cases r with
  | error e => exact hx pins σ H s e s' I hq
  | ok fl =>
    cases fl with
    | ret u => exact I.after hq
    | next => exact False.elim hq
    | brk => exact False.elim hq
    | cont => exact False.elim hq
theorem pe_call (F : FnOk X.prog X.w X.K X.mg X.base CX k f fd ps sp) (hr : Room k X.A) (hg : Gl X x) (hm : X.mg x = some (.ref f)) (hk : PySem.W.keepIn X.K (.ref f) = true) (hb : Binds X.K fd ps ds) (hd : Vals dvs ds) (hx : Passes CX X E)
    (ha : PA X (e :: es) t) (hdb : (x == ("__debug__" : Str)) = false := by decide) (he : starEach (e :: es) X.env = (false, eval e X.env) :: starEach es X.env := by rfl) (hpl : (backTo pos (starEach es X.env)).any (·.1) = false := by rfl) :
    PE X (.Call (.Name x p) (e :: es) [] pos) (tCall sp dvs E t) := by
  intro pins s σ H Q I h
  refine wpAny_Call_Name_kw (ld_glob I hg hm ?_ hdb)
  refine PySem.W.callWith_K (h₀ := X.base) I.ok.mod.kin hk (thn (ha pos pins s σ H _ I h) fun us s1 ⟨vs, H1, I1, r, q⟩ => ⟨I1.kIn, ?_⟩) he hpl
  exact run_fn F hr hb hd hx I1 r q
structure Mk (K : PySem.W.Frag) (C f : Addr) : Prop where
  makes : PySem.W.makesIn K C = true
  init : PySem.W.findIn K (.ref C) "__init__" = some (some (.ref f))
  fn : PySem.W.isFn K (.ref f) = true
  kp : PySem.W.keepIn K (.ref C) = true
end
section
variable {X : Cx} {CX : CXT} {k : Nat} {f C : Addr} {fd : FuncData} {ps ks : List Str} {sp : Sp} {E : XK} {x m : Str} {p pos apos kpos : Pos} {e o : Expr} {es : List Expr} {kws : List Keyword} {te ta : TE} {t tk : TA} {nm : Option Str}
structure KBinds (K : PySem.W.Frag) (fd : FuncData) (ps ks : List Str) (g : List Value → List Value → List Value) (gV : List V → List V → List V) : Prop where
  to : ∀ (s : Shared) (us ws : List Value), K.In s.heap → (g us ws).length = ps.length → BindsTo s fd ⟨us, ks.zip ws⟩ (ps.zip (g us ws))
  rel : ∀ {vs : List V} {us : List Value} {zs : List V} {ws : List Value}, Vals vs us → Vals zs ws → Vals (gV vs zs) (g us ws)
variable {g : List Value → List Value → List Value} {gV : List V → List V → List V}
end
structure FnScope (N P : List Str) (sc : Scope) : Prop where
  kind : sc.kind = .function
  co : sc.isCoroutine = false
  gen : sc.isGenerator = false
  nd : N.Nodup
  pre : N.take P.length = P
  par : ∀ x ∈ P, sc.names.lookup x = some .local ∨ sc.names.lookup x = some .cell
  nofree : ∀ y ∈ sc.names, y.2 ≠ .free
theorem bindL_out {kindOf : Str → Option NameKind} {x : Str} : ∀ {binds : List (Str × Value)} {m : Str → Option Value}, (∀ v, (x, v) ∉ binds) → bindL kindOf binds m x = m x
  | [], _, _ => rfl
  | (n, v) :: r, m, h => by
    unfold bindL
    rw [bindL_out fun w hw => h w (List.mem_cons_of_mem _ hw)]
    split
    · have : x ≠ n := by rintro rfl; exact h v List.mem_cons_self
      simp [this]
    · rfl
theorem bindC_out {kindOf : Str → Option NameKind} {x : Str} : ∀ {binds : List (Str × Value)} {m : Str → Option Value}, (∀ v, (x, v) ∉ binds) → bindC kindOf binds m x = m x
  | [], _, _ => rfl
  | (n, v) :: r, m, h => by
    unfold bindC
    rw [bindC_out fun w hw => h w (List.mem_cons_of_mem _ hw)]
    split
    · rfl
    · have : x ≠ n := by rintro rfl; exact h v List.mem_cons_self
      simp [this]
theorem bindL_get {kindOf : Str → Option NameKind} {x : Str} {v : Value} : ∀ {P : List Str} {vs : List Value} {i : Nat} {m : Str → Option Value}, P.Nodup → P[i]? = some x → vs[i]? = some v → kindOf x = some .local →
    bindL kindOf (P.zip vs) m x = some v
  | [], _, _, _, _, h, _, _ => by simp at h
  | _ :: _, [], _, _, _, _, h, _ => by simp at h
  | p :: P, w :: vs, 0, m, nd, h1, h2, hk => by
    simp at h1 h2; subst h1; subst h2
    show bindL kindOf ((p, w) :: P.zip vs) m p = _
    unfold bindL
    rw [bindL_out fun v hv => (List.nodup_cons.mp nd).1 (List.of_mem_zip hv).1, if_pos hk]
    simp
  | p :: P, w :: vs, i + 1, m, nd, h1, h2, hk => by
    show bindL kindOf ((p, w) :: P.zip vs) m x = _
    unfold bindL
    exact bindL_get (i := i) (List.nodup_cons.mp nd).2 (by simpa using h1) (by simpa using h2) hk
theorem bindC_get {kindOf : Str → Option NameKind} {x : Str} {v : Value} : ∀ {P : List Str} {vs : List Value} {i : Nat} {m : Str → Option Value}, P.Nodup → P[i]? = some x → vs[i]? = some v → kindOf x ≠ some .local →
    bindC kindOf (P.zip vs) m x = some v
  | [], _, _, _, _, h, _, _ => by simp at h
  | _ :: _, [], _, _, _, _, h, _ => by simp at h
  | p :: P, w :: vs, 0, m, nd, h1, h2, hk => by
    simp at h1 h2; subst h1; subst h2
    show bindC kindOf ((p, w) :: P.zip vs) m p = _
    unfold bindC
    rw [bindC_out fun v hv => (List.nodup_cons.mp nd).1 (List.of_mem_zip hv).1, if_neg hk]
    simp
  | p :: P, w :: vs, i + 1, m, nd, h1, h2, hk => by
    show bindC kindOf ((p, w) :: P.zip vs) m x = _
    unfold bindC
    exact bindC_get (i := i) (List.nodup_cons.mp nd).2 (by simpa using h1) (by simpa using h2) hk
def start (N : List Str) (vs : List V) : St := vs.map some ++ List.replicate (N.length - vs.length) none
def cxOf (CX : CXT) (P : Program) (w : World) (K : PySem.W.Frag) (mg : Str → Option Value) (base : Heap) (N : List Str) (qual : Str) (scope : Scope) (f : Addr) (cd : Value) (A : Around) (outer : List Env) (s : Shared) (H : Hp) (E : XK) : Cx where
  prog := P
  w := w
  K := K
  mg := mg
  base := base
  A := A.deeper (envOfC qual scope s.heap.objs.size f cd)
  N := N
  s₀ := s
  H₀ := H
  env := envOfC qual scope s.heap.objs.size f cd
  outer := outer
  stack := envOfC qual scope s.heap.objs.size f cd :: outer
  ex := []
  calm := true
  fn := fun _ => true
  pn := []
  xe := fun e s' => wpAny (model P w) (A.deeper (envOfC qual scope s.heap.objs.size f cd)) (leaving (envOfC qual scope s.heap.objs.size f cd) e) (fun _ s'' => CX outer H s E e s'') (fun e' s'' => CX outer H s E e' s'') s'
theorem cell_has {sc : Scope} {n : Nat} {x : Str} (h : sc.names.lookup x = some .cell) : ∃ c, (cellsFrom n sc.names []).lookup x = some c := by
  have q := PySem.W.cellsFrom_some sc.names n [] (.inl h)
  exact Option.isSome_iff_exists.mp q
theorem inv_start {CX : CXT} {P : Program} {w : World} {K : PySem.W.Frag} {mg : Str → Option Value} {base : Heap} {N ps : List Str} {qual : Str} {scope : Scope} {f : Addr} {cd : Value} {A : Around} {outer : List Env} {s s1 : Shared} {H : Hp} {E : XK} {us : List Value} {vs : List V}
    (S : FnScope N ps scope) (hd : A.handled = none) (e0 : Env0 P w K mg base A outer s H) (hl : vs.length = ps.length) (r : Vals vs us)
    (x : InCallC s s.heap.objs.size (bindL (envOfC qual scope s.heap.objs.size f cd).kindOf (ps.zip us) fun _ => none) (cellsFrom (s.heap.objs.size + 1) scope.names []) (bindC (envOfC qual scope s.heap.objs.size f cd).kindOf (ps.zip us) fun _ => none) s1) :
    Inv (cxOf CX P w K mg base N qual scope f cd A outer s H E) [] (start N vs) H s1 := by
  have hpl : ps.length ≤ N.length := by have := congrArg List.length S.pre; rw [List.length_take] at this; omega
  obtain ⟨h1, tk, rfl, hk⟩ := x.done
  have noA : ∀ b : Addr, b ∉ (cxOf CX P w K mg base N qual scope f cd A outer s H E).ex := fun b z => absurd (show b ∈ ([] : List Addr) from z) (by simp)
  refine ⟨⟨e0.mod, S.kind, rfl, rfl, Nat.le_refl _, fun y z c h1 h2 => ?_, fun y hy => ?_, fun y c _ h => ?_, fun _ => hd, Around.frames_deeper e0.frames, .inr ⟨rfl, rfl⟩, fun b z => absurd z (noA b), e0.bs, e0.bsz, fun b _ _ => noA b, fun b z => absurd z (noA b), e0.funs, e0.frf⟩,
    rfl, e0.bare, Un.kept hk, ⟨_, x.toInCall.ns, fun i y v h1 h2 h3 => ?_⟩, fun y c h => ⟨_, x.cell y c h⟩, e0.hok.fresh (Nat.le_refl _), fun y c h => ?_, fun p hp => absurd (show p ∈ ([] : List (Addr × Obj)) from hp) (by simp), e0.hok.kept hk, ?_⟩
  · exact name_of_addr x.apart (PySem.mem_of_lookup h1) (PySem.mem_of_lookup h2)
  · have hy : scope.names.lookup y = some .cell ∨ scope.names.lookup y = some .free := hy
    rcases hy with hy | hy
    · exact cell_has hy
    · exact absurd rfl (S.nofree _ (PySem.mem_of_lookup hy))
  · exact Nat.le_of_lt (x.above y c (PySem.mem_of_lookup h))
  · have hi : i < vs.length := by
      unfold start at h2
      by_cases hi : i < vs.length
      · exact hi
      · rw [List.getElem?_append_right (by simpa using hi)] at h2
        rw [List.getElem?_replicate] at h2
        split at h2 <;> cases h2
    have ha : vs[i]? = some v := by
      unfold start at h2
      rw [List.getElem?_append_left (by simpa using hi), List.getElem?_map] at h2
      cases e : vs[i]? with
      | none => rw [e] at h2; cases h2
      | some a => rw [e] at h2; cases h2; rfl
    obtain ⟨u, hu, rv⟩ := r.get ha
    have hp : ps[i]? = some y := by
      rw [← S.pre, List.getElem?_take_of_lt (by omega)]; exact h1
    have ndP : ps.Nodup := by rw [← S.pre]; exact S.nd.sublist (List.take_sublist _ _)
    refine ⟨u, rv, ?_⟩
    rcases S.par y (List.mem_of_getElem? hp) with k | k
    · exact .inl ⟨k, bindL_get ndP hp hu k⟩
    · obtain ⟨c, e⟩ := cell_has (n := s.heap.objs.size + 1) k
      refine .inr ⟨.inl k, c, e, ?_⟩
      have q := x.cell y c e
      rw [bindC_get ndP hp hu (by show scope.names.lookup y ≠ _; rw [k]; decide)] at q
      exact q
  · exact e0.hok.fresh (Nat.le_of_lt (x.above y c (PySem.mem_of_lookup h)))
  · unfold start
    show _ = N.length
    rw [List.length_append, List.length_map, List.length_replicate]
    omega
theorem fn_of {CX : CXT} {P : Program} {w : World} {K : PySem.W.Frag} {mg : Str → Option Value} {base : Heap} {k : Nat} {f : Addr} {name qual : Str} {params : Arguments} {body : List Stmt} {scope : Scope} {dV kV doc pm cdv ct oc : Value} {an od : Option Addr}
    {osl : Array (Option Value)} {N ps : List Str} {sp : Sp} (lk : K.lookup f = some ⟨oc, od, .func (PySem.W.fnOf name qual params body scope dV kV doc pm an cdv ct), osl⟩) (hcd : PySem.W.codeIn K cdv qual = true) (S : FnScope N ps scope)
    (len : ∀ vs H Q E, sp vs H Q E → vs.length = ps.length)
    (hbody : ∀ (A : Around) (outer : List Env) (s : Shared) (H : Hp) (vs : List V) (Q : VK) (E : XK), Room k (A.deeper (envOfC qual scope s.heap.objs.size f cdv)) → sp vs H Q E →
      ∃ t, PSs (cxOf CX P w K mg base N qual scope f cdv A outer s H E) body t ∧ t { nx := fun _ H' => Q .non H', rt := Q } (start N vs) H) :
    FnOk P w K mg base CX (k + 1) f (PySem.W.fnOf name qual params body scope dV kV doc pm an cdv ct) ps sp := by
  refine ⟨len, fun A outer s H args us vs Q E hr e0 hb r hsp => ?_⟩
  have hl := len _ _ _ _ hsp
  have KX : K.In s.heap := e0.mod.kin.keeps fun b o e => (e0.bs b o e).1
  have lim : s.heap.NoLimit := e0.mod.nolimit.keeps fun b o e => (e0.bs b o e).1
  have hkind : ∀ y ∈ ps.zip us, scope.names.lookup y.1 = some .local ∨ (scope.names.lookup y.1 = some .cell ∧ ((cellsFrom (s.heap.objs.size + 1) scope.names []).lookup y.1).isSome = true) := fun ⟨n, v⟩ hy => by
    rcases S.par n (List.of_mem_zip hy).1 with q | q
    · exact .inl q
    · exact .inr ⟨q, PySem.W.cellsFrom_some _ _ _ (.inl q)⟩
  refine codeAny_call_function hr.depth (KX _ _ lk) rfl S.co S.gen rfl (PySem.W.codeRec_of KX hcd) (hb _ _ _ _ ?_)
  refine wpAny_newFunctionEnv_cells S.kind hkind fun env he s1 x => ?_
  subst he
  refine ⟨lim.keeps x.toInCall.keep, codeAny_func ?_⟩
  obtain ⟨t, ht, hq⟩ := hbody A outer s H vs Q E (hr.deeper _) hsp
  have I : Inv (cxOf CX P w K mg base N qual scope f cdv A outer s H E) [] (start N vs) H s1 := inv_start S hr.hd e0 hl r x
  refine wpAny_mono (ht [] s1 (start N vs) H _ I hq) (fun fl s' hs => ?_) fun e s' hs => hs
  have fin : ∀ {σ' : St} {H' : Hp} {v : V} {u : Value}, Inv (cxOf CX P w K mg base N qual scope f cdv A outer s H E) [] σ' H' s' → RelV v u → Q v H' → CE outer P w H s Q u s' :=
    fun {σ' H' v u} J rv q => ⟨v, H', J.os, J.bare, J.base, J.hok, rv, q⟩
  cases fl with
  | ret u =>
    obtain ⟨v, σ', H', J, rv, q⟩ := hs
    exact fin J rv q
  | next =>
    obtain ⟨σ', H', J, q⟩ := hs
    exact fin (v := V.non) (u := Value.none) J rfl q
  | brk =>
    obtain ⟨_, _, _, q⟩ := hs
    exact False.elim q
  | cont =>
    obtain ⟨_, _, _, q⟩ := hs
    exact False.elim q
end L2
namespace L2
open PySem PySem.Spec PyProof.Rows
section
variable {X : Cx} {x : Str} {p pos : Pos} {e : Expr} {es : List Expr} {t : TA} {id T : String} {r : List V → Hp → VK → Prop}
def tCB (r : List V → Hp → VK → Prop) (t : TA) : TE := fun σ H Q => t σ H fun vs H1 => r vs H1 Q
theorem pe_callB (hc : CallR X (.builtin id) r) (hg : Gl X x) (hm : X.mg x = none) (hv : bootBuiltins x = some (.builtin id)) (ha : PA X (e :: es) t) (hn : x ≠ "__name__" := by decide) (hdb : (x == ("__debug__" : Str)) = false := by decide)
    (he : starEach (e :: es) X.env = (false, eval e X.env) :: starEach es X.env := by rfl) (hpl : (backTo pos (starEach es X.env)).any (·.1) = false := by rfl) : PE X (.Call (.Name x p) (e :: es) [] pos) (tCB r t) := by
  intro pins s σ H Q I h
  refine wpAny_Call_Name_kw (ld_blt I hg hm hv ?_ hn hdb)
  exact PyProof.Rows.callWith_builtin1 (thn (ha pos pins s σ H _ I h) fun us s1 ⟨vs, H1, I1, r1, q1⟩ => hc pins s1 σ H1 vs us Q I1 r1 q1) he hpl
theorem pe_callTy (hc : CallR X (.type T) r) (hg : Gl X x) (hm : X.mg x = none) (hv : bootBuiltins x = some (.type T)) (ha : PA X (e :: es) t) (hn : x ≠ "__name__" := by decide) (hdb : (x == ("__debug__" : Str)) = false := by decide)
    (he : starEach (e :: es) X.env = (false, eval e X.env) :: starEach es X.env := by rfl) (hpl : (backTo pos (starEach es X.env)).any (·.1) = false := by rfl) : PE X (.Call (.Name x p) (e :: es) [] pos) (tCB r t) := by
  intro pins s σ H Q I h
  refine wpAny_Call_Name_kw (ld_blt I hg hm hv ?_ hn hdb)
  exact PyProof.Rows.callWith_type1 (thn (ha pos pins s σ H _ I h) fun us s1 ⟨vs, H1, I1, r1, q1⟩ => hc pins s1 σ H1 vs us Q I1 r1 q1) he hpl
end
end L2
namespace HT
open PySem PyProof.Rows
section
open PySem.SeqAt
open PySem.AutoSeq1 (wpAny_loadPart')
open PySem.MeetsSeq PySem.MeetsSeq2 PySem.MeetsSeq3
end
section
variable {prog : Program} {w : World} {A : Around} {E : Value → Shared → Prop} {s : Shared}
def sIx (n d : Nat) : Option Int → Nat
  | none => d
  | some v => if v < 0 then (v + (n : Int)).toNat else min v.toNat n
theorem sIx_none (n d : Nat) : sIx n d none = d := rfl
theorem sIx_nat (n d k : Nat) : sIx n d (some (k : Int)) = min k n := by
  show (if (k : Int) < 0 then ((k : Int) + (n : Int)).toNat else min (k : Int).toNat n) = min k n
  rw [if_neg (by omega), Int.toNat_natCast]
end
end HT
namespace L2
open PySem PySem.Spec PyProof.Rows
abbrev TO := St → Hp → (Option Int → Hp → Prop) → Prop
def PO (X : Cx) (e : Option Expr) (t : TO) : Prop :=
  ∀ (pins : List (Addr × Obj)) (s : Shared) (σ : St) (H : Hp) (Q : Option Int → Hp → Prop), Inv X pins σ H s → t σ H Q →
    wpAny (model X.prog X.w) X.A (evalPart e X.env) (fun u s' => ∃ o H', Inv X pins σ H' s' ∧ IsPart u o ∧ Q o H') X.xe s
def tNoPart : TO := fun _ H Q => Q none H
def tPart (t : TE) : TO := fun σ H Q => t σ H fun x H1 => ∃ i, x = .int i ∧ Q (some i) H1
section
variable {X : Cx} {e : Expr} {te : TE} {lo hi : Option Expr} {tl th : TO} {pos p2 : Pos}
theorem po_none : PO X none tNoPart := by
  intro pins s σ H Q I h
  rw [evalPart_none]
  exact wpAny_pure ⟨none, H, I, .none, h⟩
theorem po_some (h : PE X e te) : PO X (some e) (tPart te) := by
  intro pins s σ H Q I hw
  rw [evalPart_some]
  refine thn (h pins s σ H _ I hw) fun u s1 ⟨x, H1, I1, r1, q1⟩ => ?_
  obtain ⟨i, rfl, q⟩ := q1
  obtain ⟨t, rfl⟩ := r1
  exact ⟨some i, H1, I1, .int i t, q⟩
def SlR (X : Cx) (r : V → Option Int → Option Int → Hp → VK → Prop) : Prop :=
  ∀ (pins : List (Addr × Obj)) (s : Shared) (σ : St) (H : Hp) (x : V) (v vl vu : Value) (lo hi : Option Int) (sl : Addr) (Q : VK), Inv X pins σ H s → RelV x v → s.heap.IsSliceOf sl vl vu .none → IsPart vl lo → IsPart vu hi → r x lo hi H Q →
    ∃ T id, typeLookup (.type T) "__getitem__" = pure (some (.builtin id)) ∧ s.TypeIs v T ∧ wpAny (model X.prog X.w) X.A (getItem v (.ref sl)) (EP X pins σ Q) X.xe s
def tSl (r : V → Option Int → Option Int → Hp → VK → Prop) (te : TE) (tl th : TO) : TE := fun σ H Q => te σ H fun x H1 => tl σ H1 fun l H2 => th σ H2 fun u H3 => r x l u H3 Q
theorem pe_slice {r : V → Option Int → Option Int → Hp → VK → Prop} (hr : SlR X r) (he : PE X e te) (hl : PO X lo tl) (hu : PO X hi th) : PE X (.Subscript e (.Slice lo hi none p2) pos) (tSl r te tl th) := by
  intro pins s σ H Q I h
  refine Subscript_ (thn (he pins s σ H _ I h) fun v s1 ⟨x, H1, I1, r1, q1⟩ => ?_)
  refine wpAny_Slice (thn (hl pins s1 σ H1 _ I1 q1) fun vl s2 ⟨l, H2, I2, pl, q2⟩ => thn (hu pins s2 σ H2 _ I2 q2) fun vu s3 ⟨u, H3, I3, pu, q3⟩ => ?_)
  rw [evalPart_none]
  refine wpAny_pure ?_
  have I4 : Inv X pins σ H3 { s3 with heap := s3.heap.push { cls := .type "slice", data := .fields #[vl, vu, .none] } } := I3.kept (t' := s3.toks) fun b ob q => Heap.get?_push_of_some _ q
  obtain ⟨T, id, hT, ht, hg⟩ := hr pins { s3 with heap := s3.heap.push { cls := .type "slice", data := .fields #[vl, vu, .none] } } σ H3 x v vl vu l u s3.heap.objs.size Q I4 r1 (Heap.IsSliceOf.new ..) pl pu q3
  show wpAny (model X.prog X.w) X.A (subscriptTail e (.Slice lo hi none p2) v (.ref s3.heap.objs.size)) (EP X pins σ Q) X.xe { s3 with heap := s3.heap.push { cls := .type "slice", data := .fields #[vl, vu, .none] } }
  exact tail_any (ops := [.ref s3.heap.objs.size, v]) ht hT hg (by with_unfolding_all rfl)
def cutV (xs : List V) (lo hi : Option Int) : List V := (xs.drop (HT.sIx xs.length 0 lo)).take (HT.sIx xs.length xs.length hi - HT.sIx xs.length 0 lo)
theorem cutV_length (xs : List V) (lo hi : Option Int) : (cutV xs lo hi).length ≤ xs.length := by
  unfold cutV
  rw [List.length_take, List.length_drop]
  omega
end
end L2
namespace L2
open PySem PySem.Spec PyProof.Rows
def ixN (n : Nat) (i : Int) : Option Nat := if 0 ≤ i then (if i < n then some i.toNat else none) else if -(n : Int) ≤ i then some (i + n).toNat else none
def atI {α : Type} (xs : List α) (i : Int) : Option α := (ixN xs.length i).bind fun j => xs[j]?
theorem ixN_seq {n : Nat} {i : Int} {j : Nat} (h : ixN n i = some j) : seqIndex? i n = some j ∧ j < n ∧ -(n : Int) ≤ i ∧ i < n := by
  unfold ixN at h
  by_cases h0 : 0 ≤ i
  · rw [if_pos h0] at h
    by_cases h1 : i < n
    · rw [if_pos h1] at h
      have e : i.toNat = j := Option.some.inj h
      exact ⟨by rw [seqIndex_of h0 h1, e], by omega, by omega, h1⟩
    · rw [if_neg h1] at h; cases h
  · rw [if_neg h0] at h
    by_cases h1 : -(n : Int) ≤ i
    · rw [if_pos h1] at h
      have e : (i + n).toNat = j := Option.some.inj h
      exact ⟨by rw [seqIndex_neg (by omega) h1, e], by omega, h1, by omega⟩
    · rw [if_neg h1] at h; cases h
theorem atI_get {α : Type} {xs : List α} {i : Int} {v : α} (h : atI xs i = some v) : ∃ j, seqIndex? i xs.length = some j ∧ xs[j]? = some v ∧ j < xs.length ∧ -(xs.length : Int) ≤ i ∧ i < xs.length := by
  unfold atI at h
  cases e : ixN xs.length i with
  | none => rw [e] at h; cases h
  | some j =>
    rw [e] at h
    obtain ⟨h1, h2, h3, h4⟩ := ixN_seq e
    exact ⟨j, h1, h, h2, h3, h4⟩
theorem atI_nat {α : Type} {xs : List α} {j : Nat} {v : α} (h : xs[j]? = some v) : atI xs (j : Int) = some v := by
  have hj : j < xs.length := (List.getElem?_eq_some_iff.mp h).1
  have e : ixN xs.length (j : Int) = some j := by
    unfold ixN
    rw [if_pos (by omega), if_pos (by omega)]; simp
  unfold atI; rw [e]; exact h
def PlainIx (b : Expr) : Prop := ∀ o i, subscripted b false o i = operate [o, i] (getItem o i)
def IxR (X : Cx) (r : R2) : Prop :=
  ∀ (value slice : Expr) (pins : List (Addr × Obj)) (s : Shared) (σ : St) (H : Hp) (x y : V) (v u : Value) (Q : VK), Inv X pins σ H s → RelV x v → RelV y u → r x y H Q →
    subscripted slice false v u = operate [v, u] (getItem v u) → wpAny (model X.prog X.w) X.A (subscriptTail value slice v u) (EP X pins σ Q) X.xe s
def MtR (X : Cx) (id : String) (r : V → List V → Hp → VK → Prop) : Prop :=
  ∀ (pins : List (Addr × Obj)) (s : Shared) (σ : St) (H : Hp) (x : V) (xs : List V) (v : Value) (us : List Value) (Q : VK), Inv X pins σ H s → RelV x v → Vals xs us → r x xs H Q →
    wpAny (model X.prog X.w) X.A (call (.builtin id) (v :: us)) (EP X pins σ Q) X.xe s
section
variable {X : Cx} {a b : Expr} {ta tb : TE} {pos : Pos}
theorem pe_ix {r : R2} (hr : IxR X r) (ha : PE X a ta) (hb : PE X b tb) (hs : PlainIx b) : PE X (.Subscript a b pos) (tOp r ta tb) := by
  intro pins s σ H Q I h
  exact Subscript_ (binT ha hb I h fun v u s2 x y H2 I2 rx ry q => hr a b pins s2 σ H2 x y v u Q I2 rx ry q (hs _ _))
def rIxL (K : PySem.W.Frag) : R2 := fun x y H Q => ∃ p xs i v, x = .ref p ∧ y = .int i ∧ SqL K H p xs ∧ atI xs i = some v ∧ Q v H
def rIxT (K : PySem.W.Frag) : R2 := fun x y H Q => ∃ p xs i v, x = .ref p ∧ y = .int i ∧ SqT K H p xs ∧ atI xs i = some v ∧ Q v H
theorem ix_list : IxR X (rIxL X.K) := by
  intro value slice pins s σ H x y v u Q I rx ry h hs
  obtain ⟨p, xs, i, z, rfl, rfl, hq, he, q⟩ := h
  cases rx
  obtain ⟨t, rfl⟩ := ry
  obtain ⟨its, r, pl, hz⟩ := I.list hq
  obtain ⟨j, h1, h2, h3, h4, h5⟩ := atI_get he
  obtain ⟨w, ew, rw'⟩ := r.get h2
  have hl := r.length
  have hn := line63
  have fin : EP X pins σ Q w s := ⟨z, H, I, rw', q⟩
  by_cases h0 : 0 ≤ i
  · have hj : i.toNat = j := by
      rw [seqIndex_of h0 h5] at h1
      exact Option.some.inj h1
    exact item_listR pl.isList h0 (by omega) (by rw [hj]; simpa using ew) fin hs
  · have hj : (i + (its.toArray.size : Int)).toNat = j := by
      rw [seqIndex_neg (by omega) h4] at h1
      rw [List.size_toArray, ← hl]
      exact Option.some.inj h1
    exact subscriptTail_builtinR (x := w) pl.isList.typeIs slot_list_getitem.lookup
      (wpAny_getItem_list_neg (Q := fun r s' => r = w ∧ EP X pins σ Q r s') pl.isList (by omega) (by rw [List.size_toArray] <;> omega) (by omega) (by rw [hj]; simpa using ew) ⟨rfl, fin⟩) hs
theorem ix_tup : IxR X (rIxT X.K) := by
  intro value slice pins s σ H x y v u Q I rx ry h hs
  obtain ⟨p, xs, i, z, rfl, rfl, hq, he, q⟩ := h
  cases rx
  obtain ⟨t, rfl⟩ := ry
  obtain ⟨its, r, pl, hz⟩ := I.tuple hq
  obtain ⟨j, h1, h2, h3, h4, h5⟩ := atI_get he
  obtain ⟨w, ew, rw'⟩ := r.get h2
  have hl := r.length
  have hn := line63
  have fin : EP X pins σ Q w s := ⟨z, H, I, rw', q⟩
  exact subscriptTail_builtinR (x := w) pl.typeIs slot_tuple_getitem.lookup
    (getItem_tuple (j := j) (Q := fun r s' => r = w ∧ EP X pins σ Q r s') pl (by omega) (by omega) (by rw [List.size_toArray, ← hl]; exact h1) (by simpa using ew) ⟨rfl, fin⟩) hs
theorem mapSeq_set (its : List Value) (n j : Nat) (u : Value) : Obj.mapSeq (·.setIfInBounds j u) { cls := .type "list", data := .seq its.toArray n } = { cls := .type "list", data := .seq (its.set j u).toArray n } := by
  simp [Obj.mapSeq]
theorem Inv.lst {pins : List (Addr × Obj)} {σ : St} {H : Hp} {s : Shared} {p : Addr} {xs : List V} (I : Inv X pins σ H s) (h : H p = some (.lst xs)) :
    ∃ (its : List Value) (n : Nat), Vals xs its ∧ s.heap.get? p = some { cls := .type "list", data := .seq its.toArray n } ∧ xs.length ≤ sizeLine := by
  obtain ⟨z, its, n, r, e⟩ := I.hok p _ h
  exact ⟨its, n, r, e, z⟩
theorem Inv.lstUpd {pins : List (Addr × Obj)} {σ : St} {H : Hp} {s : Shared} {p : Addr} {xs ys : List V} {its its' : List Value} {n n' : Nat} {f : Obj → Obj} (I : Inv X pins σ H s) (h : H p = some (.lst xs))
    (ho : s.heap.get? p = some { cls := .type "list", data := .seq its.toArray n }) (hf : f { cls := .type "list", data := .seq its.toArray n } = { cls := .type "list", data := .seq its'.toArray n' }) (r : Vals ys its') (hz : ys.length ≤ sizeLine) (t : Nat) :
    Inv X pins σ (upd H p (.lst ys)) { s with heap := s.heap.update p f, toks := t } := by
  have e : (s.heap.update p f).get? p = some { cls := .type "list", data := .seq its'.toArray n' } := by
    rw [Heap.get?_update_self f ho (by rw [hf] <;> rfl), hf]
  refine I.write (x := p) (e := p) (by rw [h]; trivial) (.inl rfl) (fun b u hb q => (Heap.get?_update_other _ _ (Ne.symm hb)).trans q) ⟨_, e⟩ ?_
  exact ⟨hz, its', n', r, e⟩
def rSetL : V → V → V → Hp → (Hp → Prop) → Prop := fun o i v H Q => ∃ p xs k j, o = .ref p ∧ i = .int k ∧ H p = some (.lst xs) ∧ ixN xs.length k = some j ∧ Q (upd H p (.lst (xs.set j v)))
theorem set_list : PSet X rSetL := by
  intro pins s σ H o i v ov iv u Q I ro ri rv h
  obtain ⟨p, xs, k, j, rfl, rfl, hp, hj, q⟩ := h
  cases ro
  obtain ⟨t, rfl⟩ := ri
  obtain ⟨its, n, r, ho, hz⟩ := I.lst hp
  obtain ⟨h1, h2, h3, h4⟩ := ixN_seq hj
  have hl := r.length
  have hn := line63
  have I' : Inv X pins σ (upd H p (.lst (xs.set j v))) { s with heap := s.heap.update p (Obj.mapSeq (·.setIfInBounds j u)) } :=
    I.lstUpd hp ho (mapSeq_set its n j u) (r.set rv j) (by rw [List.length_set]; exact hz) s.toks
  by_cases h0 : 0 ≤ k
  · have hk : k.toNat = j := by
      rw [seqIndex_of h0 h4] at h1
      exact Option.some.inj h1
    exact PySem.W.ki_setAt ho h0 (by omega) (by rw [List.size_toArray, ← hl]; exact h4) (by rw [hk]; exact ⟨_, I', q⟩)
  · have hk : (k + (its.toArray.size : Int)).toNat = j := by
      rw [seqIndex_neg (by omega) h3] at h1
      rw [List.size_toArray, ← hl]
      exact Option.some.inj h1
    exact PySem.W.ki_setBack ho (by omega) (by rw [List.size_toArray, ← hl]; exact h3) (by omega) (by rw [hk]; exact ⟨_, I', q⟩)
theorem slice_bounds (lo hi : Option Int) (n : Nat) : (sliceBounds lo hi none n).1 = ((HT.sIx n 0 lo : Nat) : Int) ∧ (sliceBounds lo hi none n).2.1 = ((HT.sIx n n hi : Nat) : Int) ∧ (sliceBounds lo hi none n).2.2 = 1 := by
  refine ⟨?_, ?_, rfl⟩
  · cases lo with
    | none => simp [sliceBounds, HT.sIx]
    | some i =>
      simp only [sliceBounds, HT.sIx, Option.getD_none, show (1 : Int) > 0 by decide, if_true]
      by_cases h : i < 0
      · simp only [h, if_true] <;> omega
      · simp only [h, if_false] <;> omega
  · cases hi with
    | none => simp [sliceBounds, HT.sIx]
    | some i =>
      simp only [sliceBounds, HT.sIx, Option.getD_none, show (1 : Int) > 0 by decide, if_true]
      by_cases h : i < 0
      · simp only [h, if_true] <;> omega
      · simp only [h, if_false] <;> omega
theorem slicePick_cut (its : List Value) (lo hi : Option Int) : slicePick its.toArray lo hi none = ((its.drop (HT.sIx its.length 0 lo)).take (HT.sIx its.length its.length hi - HT.sIx its.length 0 lo)).toArray := by
  obtain ⟨h1, h2, h3⟩ := slice_bounds lo hi its.toArray.size
  unfold slicePick
  rw [h1, h2, h3]
  simp only [sliceRange_one, pick_run, List.size_toArray] <;> rfl
def rSlL (K : PySem.W.Frag) : V → Option Int → Option Int → Hp → VK → Prop := fun x lo hi H Q => ∃ a xs, x = .ref a ∧ SqL K H a xs ∧ ∀ p, H p = none → Q (.ref p) (upd H p (.lst (cutV xs lo hi)))
theorem sl_list : SlR X (rSlL X.K) := by
  intro pins s σ H x v vl vu lo hi sl Q I rx hs pl pu h
  obtain ⟨a, xs, rfl, hx, q⟩ := h
  cases rx
  obtain ⟨its, r, ht, hz⟩ := I.list hx
  have hlen := r.length
  refine ⟨"list", _, slot_list_getitem.lookup, ht.isList.typeIs, ?_⟩
  refine wpAny_getItem_list_slice ht.isList hs pl pu .none (by simp) ?_ (by rw [List.size_toArray] <;> omega)
  rw [slicePick_cut, ← hlen]
  refine ⟨.ref s.heap.objs.size, _, I.laid (t' := s.toks) (o := .lst (cutV xs lo hi)) (fun b ob q => Heap.get?_push_of_some _ q) (Nat.le_refl _) ?_, rfl, q _ (I.hok.fresh (Nat.le_refl _))⟩
  exact ⟨Nat.le_trans (cutV_length xs lo hi) hz, _, 0, (r.drop (HT.sIx xs.length 0 lo)).take (HT.sIx xs.length xs.length hi - HT.sIx xs.length 0 lo), Heap.get?_push_size _ rfl⟩
theorem call_len_seq : CallR X (.builtin "len") (fun xs H Q => ∃ p ys, xs = [.ref p] ∧ (SqL X.K H p ys ∨ SqT X.K H p ys) ∧ Q (.int ys.length) H) := by
  intro pins s σ H xs us Q I r h
  obtain ⟨p, ys, rfl, hq, q⟩ := h
  obtain ⟨u, rfl, rx⟩ := vals1 r
  cases rx
  have hn := line63
  rcases hq with hq | hq
  · obtain ⟨its, r', pl, hz⟩ := I.list hq
    have hlen := r'.length
    exact Calls.call_len_list pl.isList (by simp only [List.size_toArray] <;> omega) ⟨.int ys.length, H, I.tok _, ⟨s.toks + 1, by rw [List.size_toArray, hlen]⟩, q⟩
  · obtain ⟨its, r', pl, hz⟩ := I.tuple hq
    have hlen := r'.length
    exact len_tuple pl (by simp only [List.size_toArray] <;> omega) ⟨.int ys.length, H, I.tok _, ⟨s.toks + 1, by rw [List.size_toArray, hlen]⟩, q⟩
theorem call_list_of : CallR X (.type "list") (fun xs H Q => ∃ p ys, xs = [.ref p] ∧ (SqL X.K H p ys ∨ SqT X.K H p ys) ∧ ∀ l, H l = none → Q (.ref l) (upd H l (.lst ys))) := by
  intro pins s σ H xs us Q I r h
  obtain ⟨p, ys, rfl, hq, q⟩ := h
  obtain ⟨u, rfl, rx⟩ := vals1 r
  cases rx
  have fin : ∀ (its : List Value), Vals ys its → ys.length ≤ sizeLine → ∀ (h' : Heap) (c' : Nat), (∀ b o', s.heap.get? b = some o' → h'.get? b = some o') →
      h'.get? s.heap.objs.size = some { cls := .type "list", dict := none, data := .seq its.toArray c', slots := #[] } → EP X pins σ Q (.ref s.heap.objs.size) { s with heap := h' } := fun its r' hz h' c' kp e =>
    ⟨.ref s.heap.objs.size, _, I.laid (t' := s.toks) kp (Nat.le_refl _) (show ObjOk X.prog X.w _ h' _ (.lst ys) from ⟨hz, its, c', r', e⟩), rfl, q _ (I.hok.fresh (Nat.le_refl _))⟩
  rcases hq with hq | hq
  · obtain ⟨its, r', pl, hz⟩ := I.list hq
    have hlen := r'.length
    obtain ⟨o, ho, hc, n, hd⟩ := pl.isList
    exact call_list_seq p (.inl rfl) ho hc hd (fun h' c' kp e => fin its r' hz h' c' kp e) (by simp only [List.size_toArray] <;> omega)
  · obtain ⟨its, r', pl, hz⟩ := I.tuple hq
    have hlen := r'.length
    obtain ⟨o, ho, hc, n, hd⟩ := pl
    exact call_list_seq p (.inr rfl) ho hc hd (fun h' c' kp e => fin its r' hz h' c' kp e) (by simp only [List.size_toArray] <;> omega)
def tyV (K : PySem.W.Frag) (T : String) (x : V) (H : Hp) : Prop := match x with
  | .str _ => T = "str"
  | .int _ => T = "int"
  | .ref p => (T = "list" ∧ ∃ xs, SqL K H p xs) ∨ (T = "tuple" ∧ ∃ o, K.lookup p = some o ∧ o.cls = .type "tuple" ∧ o.dict = none) ∨
      (T = "dict" ∧ ((∃ kvs, H p = some (.dK kvs)) ∨ ∃ kvs, H p = some (.dT kvs))) ∨ (T = "set" ∧ ∃ S n, H p = some (.set S n))
  | _ => False
theorem tyV_is {pins : List (Addr × Obj)} {σ : St} {H : Hp} {s : Shared} {T : String} {x : V} {v : Value} (I : Inv X pins σ H s) (r : RelV x v) (ty : tyV X.K T x H) :
    s.TypeIs v T ∧ ∀ a, v = .ref a → ∃ ob, s.heap.get? a = some ob ∧ ob.dict = none := by
  cases x with
  | str z =>
    obtain ⟨t, rfl⟩ := r
    cases (show T = "str" from ty)
    exact ⟨typeIs_str s z t, fun _ e => nomatch e⟩
  | int i =>
    obtain ⟨t, rfl⟩ := r
    cases (show T = "int" from ty)
    exact ⟨typeIs_int s i t, fun _ e => nomatch e⟩
  | ref p =>
    cases r
    rcases ty with ⟨rfl, xs, hq⟩ | ⟨rfl, o, hk, hc, hd⟩ | ⟨rfl, hk⟩ | ⟨rfl, S, n, hk⟩
    · obtain ⟨its, _, pl, _⟩ := I.list hq
      refine ⟨pl.isList.typeIs, fun a e => ?_⟩
      cases e
      obtain ⟨o, n, e, c, hd, _⟩ := pl
      exact ⟨o, e, hd⟩
    · refine ⟨⟨o, I.kIn p o hk, hc⟩, fun a e => ?_⟩
      cases e
      exact ⟨o, I.kIn _ o hk, hd⟩
    · have z : ∃ o, s.heap.get? p = some o ∧ o.ExactDict := by
        rcases hk with ⟨kvs, hk⟩ | ⟨kvs, hk⟩
        · obtain ⟨_, _, _, _, o, _, _, e, ex, _⟩ := I.hok p _ hk
          exact ⟨o, e, ex⟩
        · obtain ⟨_, _, _, _, o, _, _, e, ex, _⟩ := I.hok p _ hk
          exact ⟨o, e, ex⟩
      obtain ⟨o, e, ex⟩ := z
      refine ⟨⟨o, e, ex.1⟩, fun a e2 => ?_⟩
      cases e2
      exact ⟨o, e, ex.2.1⟩
    · obtain ⟨o, _, _, _, e, ex, _⟩ := I.hok p _ hk
      refine ⟨⟨o, e, ex.1⟩, fun a e2 => ?_⟩
      cases e2
      exact ⟨o, e, ex.2.1⟩
  | _ => exact False.elim ty
def tBM0 (K : PySem.W.Frag) (T : String) (r : V → List V → Hp → VK → Prop) (to : TE) : TE := fun σ H Q => to σ H fun x H1 => tyV K T x H1 ∧ r x [] H1 Q
def tBM (K : PySem.W.Frag) (T : String) (r : V → List V → Hp → VK → Prop) (to : TE) (t : TA) : TE := fun σ H Q => to σ H fun x H1 => tyV K T x H1 ∧ t σ H1 fun xs H2 => r x xs H2 Q
variable {o e : Expr} {es : List Expr} {to : TE} {t : TA} {name : Str} {apos cpos : Pos} {T id : String} {r : V → List V → Hp → VK → Prop}
theorem pe_bm0 (pa : PlainAttrs T) (slot : Slot T name id) (hty : typeOf (.builtin id) = pure (.type "method_descriptor")) (hm : MtR X id r) (ho : PE X o to)
    (hbase : attributeBase o name X.env (eval o X.env) = eval o X.env := by rfl) (hline : (apos.endLine == cpos.line) = true := by rfl) : PE X (.Call (.Attribute o name apos) [] [] cpos) (tBM0 X.K T r to) := by
  intro pins s σ H Q I h
  refine wpAny_Call_method0_late hbase hline (thn (ho pins s σ H _ I h) fun v s1 ⟨x, H1, I1, r1, ty, q1⟩ => ?_)
  obtain ⟨h1, h2⟩ := tyV_is I1 r1 ty
  exact ⟨T, id, pa, slot, hty, h1, h2, Calls.callWith_builtin rfl (PySem.evalArgs_none (hm pins s1 σ H1 x [] v [] Q I1 r1 .nil q1))⟩
theorem pe_bm (pa : PlainAttrs T) (slot : Slot T name id) (hty : typeOf (.builtin id) = pure (.type "method_descriptor")) (hm : MtR X id r) (ho : PE X o to) (ha : PA X (e :: es) t)
    (hbase : attributeBase o name X.env (eval o X.env) = eval o X.env := by rfl)
    (hfew : ((backTo cpos (starEach (e :: es) X.env)).all (fun x => !x.1) && (backToKw cpos (keywordEach [] X.env)).all (fun x => x.1.isSome)
      && decide ((e :: es).length + ([] : List Keyword).length + (if ([] : List Keyword).isEmpty then 0 else 1) < 30)) = true := by rfl)
    (hline : (apos.endLine == cpos.line) = true := by rfl) (hs : starEach (e :: es) X.env = (false, eval e X.env) :: starEach es X.env := by rfl) (hplain : (backTo cpos (starEach es X.env)).any (·.1) = false := by rfl) :
    PE X (.Call (.Attribute o name apos) (e :: es) [] cpos) (tBM X.K T r to t) := by
  intro pins s σ H Q I h
  refine wpAny_Call_method_late hbase hfew hline rfl (thn (ho pins s σ H _ I h) fun v s1 ⟨x, H1, I1, r1, ty, q1⟩ => ?_)
  obtain ⟨h1, h2⟩ := tyV_is I1 r1 ty
  refine ⟨T, id, pa, slot, hty, h1, h2, ?_⟩
  have hA := ha cpos pins s1 σ H1 _ I1 q1
  rw [hs] at hA ⊢
  refine Calls.callWith_builtin (by show (false || (backTo cpos (starEach es X.env)).any (·.1)) = false; rw [hplain] <;> rfl) (Calls.evalArgs_plain ?_)
  exact thn hA fun us s2 ⟨vs, H2, I2, r2, q2⟩ => hm pins s2 σ H2 x vs v us Q I2 r1 r2 q2
/- xs.append(e), list.index on a module's tuple .. are MtR facts of 06m -/
end
end L2
namespace L2
open PySem PySem.Spec PyProof.Rows
def MtM (X : Cx) (id : String) (r : V → List V → Hp → VK → Prop) : Prop :=
  ∀ (pins : List (Addr × Obj)) (s : Shared) (σ : St) (H : Hp) (x : V) (xs : List V) (v : Value) (us : List Value) (Q : VK), Inv X pins σ H s → RelV x v → Vals xs us → r x xs H Q →
    wpAny (model X.prog X.w) X.A (call (.builtin id) (v :: us)) (EP X pins σ Q) X.xe s
theorem Vals.one : ∀ {x : V} {us : List Value}, Vals [x] us → ∃ u, us = [u] ∧ RelV x u
  | _, _, .cons r .nil => ⟨_, rfl, r⟩
theorem Vals.two : ∀ {x y : V} {us : List Value}, Vals [x, y] us → ∃ u v, us = [u, v] ∧ RelV x u ∧ RelV y v
  | _, _, _, .cons r (.cons q .nil) => ⟨_, _, rfl, r, q⟩
theorem Vals.zero : ∀ {us : List Value}, Vals [] us → us = []
  | _, .nil => rfl
theorem Vals.dropLast {xs : List V} {us : List Value} (h : Vals xs us) : Vals xs.dropLast us.dropLast := by
  induction h with
  | nil => exact .nil
  | cons r t ih =>
    cases t with
    | nil => exact .nil
    | cons q t' => exact .cons r ih
theorem Vals.eraseIdx : ∀ {xs : List V} {us : List Value} (i : Nat), Vals xs us → Vals (xs.eraseIdx i) (us.eraseIdx i)
  | _, _, _, .nil => .nil
  | _, _, 0, .cons _ t => t
  | _, _, i + 1, .cons r t => .cons r (Vals.eraseIdx i t)
theorem Vals.reverse {xs : List V} {us : List Value} (h : Vals xs us) : Vals xs.reverse us.reverse := by
  induction h with
  | nil => exact .nil
  | cons r t ih => rw [List.reverse_cons, List.reverse_cons]; exact Vals.append ih (.cons r .nil)
theorem Vals.rep {xs : List V} {us : List Value} (h : Vals xs us) : ∀ k : Nat, Vals (List.replicate k xs).flatten (List.replicate k us).flatten
  | 0 => .nil
  | k + 1 => by
    rw [List.replicate_succ, List.replicate_succ, List.flatten_cons, List.flatten_cons]
    exact Vals.append h (Vals.rep h k)
theorem erase_last {α : Type} (l : List α) : l.eraseIdx (l.length - 1) = l.dropLast := by
  induction l with
  | nil => rfl
  | cons a r ih =>
    cases r with
    | nil => rfl
    | cons b r =>
      have e : (a :: b :: r).length - 1 = ((b :: r).length - 1) + 1 := by
        have h1 : (a :: b :: r).length = r.length + 2 := rfl
        have h2 : (b :: r).length = r.length + 1 := rfl
        omega
      rw [e, List.eraseIdx_cons_succ, ih]
      all_goals rfl
theorem foldl_rep (its : List Value) : ∀ (k : Nat) (acc : List Value),
    List.foldl (fun x1 x2 => x1 ++ x2) acc.toArray (List.replicate k its.toArray) = (acc ++ (List.replicate k its).flatten).toArray
  | 0, acc => by simp
  | k + 1, acc => by
    have e : acc.toArray ++ its.toArray = (acc ++ its).toArray := by simp
    have e2 : (acc ++ its) ++ (List.replicate k its).flatten = acc ++ (List.replicate (k + 1) its).flatten := by
      rw [List.replicate_succ, List.flatten_cons, List.append_assoc]
    rw [← e2, ← foldl_rep its k (acc ++ its), ← e, List.replicate_succ, List.foldl_cons]
section
variable {X : Cx} {pins : List (Addr × Obj)} {σ : St} {H : Hp} {s : Shared} {l b : Addr} {xs ys zs : List V}
theorem Inv.lset {its its' : List Value} {n : Nat} {f : Array Value → Array Value} {t' : Nat} (I : Inv X pins σ H s) (hH : H l = some (.lst xs))
    (e : s.heap.get? l = some { cls := .type "list", data := .seq its.toArray n }) (hf : f its.toArray = its'.toArray) (hv : Vals ys its') (hz : ys.length ≤ sizeLine) :
    Inv X pins σ (upd H l (.lst ys)) { s with heap := s.heap.update l (Obj.mapSeq f), toks := t' } := by
  have q := PySem.IsL.update e f
  rw [hf] at q
  refine I.write (x := l) (e := l) (by rw [hH]; exact trivial) (.inl rfl) (fun b' u hb hu => (Heap.get?_update_other s.heap (Obj.mapSeq f) (Ne.symm hb)).trans hu) ⟨_, q⟩ ?_
  exact ⟨hz, its', _, hv, q⟩
theorem Inv.lnew {its : List Value} {t' : Nat} (I : Inv X pins σ H s) (hv : Vals ys its) (hz : ys.length ≤ sizeLine) :
    Inv X pins σ (upd H s.heap.objs.size (.lst ys)) { s with heap := s.heap.push { cls := .type "list", data := .seq its.toArray }, toks := t' } :=
  I.laid (fun _ _ q => Heap.get?_push_of_some _ q) (Nat.le_refl _) ⟨hz, its, 0, hv, Heap.get?_push_size _ rfl⟩
theorem Inv.fresh (I : Inv X pins σ H s) : H s.heap.objs.size = none := I.hok.fresh (Nat.le_refl _)
theorem Inv.lstM (I : Inv X pins σ H s) (hH : H l = some (.lst xs)) : xs.length ≤ sizeLine ∧ ∃ (its : List Value) (n : Nat), Vals xs its ∧ xs.length = its.length ∧ s.heap.get? l = some { cls := .type "list", data := .seq its.toArray n } := by
  obtain ⟨z, its, n, r, e⟩ := I.hok l _ hH
  exact ⟨z, its, n, r, r.length, e⟩
theorem notLongL {n : Nat} (h : n ≤ sizeLine) : Builtin.List.listTooLong n = false := by
  unfold Builtin.List.listTooLong
  exact decide_eq_false (by omega)
end
section
variable {X : Cx}
def rAppend : V → List V → Hp → VK → Prop := fun x vs H Q => ∃ l xs y, x = .ref l ∧ vs = [y] ∧ H l = some (.lst xs) ∧ xs.length < sizeLine ∧ Q .non (upd H l (.lst (xs ++ [y])))
theorem mt_append : MtM X "list.append" rAppend := by
  intro pins s σ H x vs v us Q I rx rv h
  obtain ⟨l, xs, y, rfl, rfl, hH, hz, q⟩ := h
  cases rx
  obtain ⟨u, rfl, ru⟩ := rv.one
  obtain ⟨z, its, n, r, hl, e⟩ := I.lstM hH
  refine call_meets F.slot_list_append ⟨_, e, rfl⟩ F.entry_list_append (F.args_list_append_2 _ _) (PySem.list_append l its.toArray n u (by rw [List.size_toArray]; omega)) ⟨e, ?_⟩
  refine ⟨.non, _, I.lset (its' := its ++ [u]) hH e (by simp) (r.append (.cons ru .nil)) ?_, rfl, q⟩
  rw [List.length_append, List.length_singleton]
  omega
def rExtend : V → List V → Hp → VK → Prop := fun x vs H Q => ∃ l b xs zs, x = .ref l ∧ vs = [.ref b] ∧ H l = some (.lst xs) ∧ H b = some (.lst zs) ∧ xs.length + zs.length ≤ sizeLine ∧ Q .non (upd H l (.lst (xs ++ zs)))
theorem mt_extend : MtM X "list.extend" rExtend := by
  intro pins s σ H x vs v us Q I rx rv h
  obtain ⟨l, b, xs, zs, rfl, rfl, hH, hB, hz, q⟩ := h
  cases rx
  obtain ⟨u, rfl, ru⟩ := rv.one
  cases ru
  obtain ⟨z, its, n, r, hl, e⟩ := I.lstM hH
  obtain ⟨z2, its2, n2, r2, hl2, e2⟩ := I.lstM hB
  have hsz : its.toArray.size + its2.toArray.size ≤ sizeLine := by rw [List.size_toArray, List.size_toArray]; omega
  have hlong : ¬ (!its.toArray.isEmpty && Builtin.List.listTooLong (its.toArray.size + its2.toArray.size)) = true := by
    rw [notLongL hsz, Bool.and_false]
    exact Bool.false_ne_true
  refine call_meets F.slot_list_extend ⟨_, e, rfl⟩ F.entry_list_extend (F.args_list_extend_2 _ _)
    (AutoSeq1.list_extend_list_list_0 l its.toArray n b its2.toArray n2 hlong (by rw [List.size_toArray]; omega) (by omega)) ⟨e, e2, ?_⟩
  refine ⟨.non, _, I.lset (its' := its ++ its2) hH e (by simp) (r.append r2) ?_, rfl, q⟩
  rw [List.length_append]
  omega
def rPop : V → List V → Hp → VK → Prop := fun x vs H Q => ∃ l xs y, x = .ref l ∧ vs = [] ∧ H l = some (.lst xs) ∧ xs[xs.length - 1]? = some y ∧ Q y (upd H l (.lst xs.dropLast))
theorem mt_pop : MtM X "list.pop" rPop := by
  intro pins s σ H x vs v us Q I rx rv h
  obtain ⟨l, xs, y, rfl, rfl, hH, hy, q⟩ := h
  cases rx
  have hus := rv.zero
  subst hus
  obtain ⟨z, its, n, r, hl, e⟩ := I.lstM hH
  obtain ⟨u, hu, ru⟩ := r.get hy
  have hy' : its.toArray[its.toArray.size - 1]? = some u := by
    show its.toArray[its.length - 1]? = some u
    rw [← Array.getElem?_toList, ← hl]
    exact hu
  refine call_meets F.slot_list_pop ⟨_, e, rfl⟩ F.entry_list_pop (F.args_list_pop_1 _) (MeetsSeq.list_pop_last l its.toArray n u hy' (by rw [List.size_toArray]; omega)) ⟨e, ?_⟩
  refine ⟨y, _, I.lset (its' := its.dropLast) hH e ?_ r.dropLast ?_, ru, q⟩
  · show its.toArray.eraseIdxIfInBounds (its.toArray.size - 1) = its.dropLast.toArray
    rw [List.size_toArray, List.eraseIdxIfInBounds_toArray, erase_last]
  · rw [List.length_dropLast]
    omega
def rCat : R2 := fun x y H Q => ∃ l b xs zs, x = .ref l ∧ y = .ref b ∧ H l = some (.lst xs) ∧ H b = some (.lst zs) ∧ xs.length + zs.length ≤ sizeLine ∧ ∀ p, H p = none → Q (.ref p) (upd H p (.lst (xs ++ zs)))
theorem op_cat : OpR X (binaryOp .Add) rCat := by
  intro pins s σ H x y v u Q I rx ry h
  obtain ⟨l, b, xs, zs, rfl, rfl, hH, hB, hz, q⟩ := h
  cases rx
  cases ry
  obtain ⟨z, its, n, r, hl, e⟩ := I.lstM hH
  obtain ⟨z2, its2, n2, r2, hl2, e2⟩ := I.lstM hB
  refine PySem.P.add_list e e2 ?_ (by rw [List.size_toArray, List.size_toArray]; omega)
  have ea : its.toArray ++ its2.toArray = (its ++ its2).toArray := by simp
  rw [ea]
  exact ⟨.ref _, _, I.lnew (t' := s.toks) (r.append r2) (by rw [List.length_append]; omega), rfl, q _ I.fresh⟩
def rRep : R2 := fun x y H Q => ∃ l k xs, x = .ref l ∧ y = .int k ∧ H l = some (.lst xs) ∧ -(2 ^ 63) ≤ k ∧ k < 2 ^ 63 ∧ xs.length * k.toNat ≤ sizeLine ∧
  ∀ p, H p = none → Q (.ref p) (upd H p (.lst (List.replicate k.toNat xs).flatten))
theorem len_rep {α : Type} (xs : List α) (k : Nat) : (List.replicate k xs).flatten.length = k * xs.length := by
  induction k with
  | zero => simp
  | succ k ih => rw [List.replicate_succ, List.flatten_cons, List.length_append, ih, Nat.succ_mul, Nat.add_comm]
theorem op_rep : OpR X (binaryOp .Mult) rRep := by
  intro pins s σ H x y v u Q I rx ry h
  obtain ⟨l, k, xs, rfl, rfl, hH, h1, h2, hz, q⟩ := h
  cases rx
  obtain ⟨t, rfl⟩ := ry
  obtain ⟨z, its, n, r, hl, e⟩ := I.lstM hH
  have hlen : its.toArray.size * k.toNat ≤ sizeLine := by rw [List.size_toArray, ← hl]; exact hz
  have hcap : ¬ its.toArray.size * k.toNat > (2 ^ 63 - 1) / 8 := by
    have : (sizeLine : Nat) ≤ (2 ^ 63 - 1) / 8 := by decide
    omega
  have hfit : ¬ (!Builtin.List.listFitsIndex k) = true := by
    rw [fitsIndex_both h1 h2]
    exact Bool.false_ne_true
  have hlong : ¬ Builtin.List.listTooLong (its.toArray.size * k.toNat) = true := by
    rw [notLongL hlen]
    exact Bool.false_ne_true
  have hnew : List.foldl (fun x1 x2 => x1 ++ x2) #[] (List.replicate (if its.toArray.isEmpty = true then 0 else k.toNat) its.toArray) = (List.replicate k.toNat its).flatten.toArray := by
    have f0 : ∀ m : Nat, List.foldl (fun x1 x2 => x1 ++ x2) #[] (List.replicate m its.toArray) = (List.replicate m its).flatten.toArray := fun m => by
      have := foldl_rep its m []
      rw [List.nil_append] at this
      exact this
    rw [f0]
    cases its with
    | nil => simp
    | cons a r' => rw [if_neg (by simp)]
  refine wpAny_binaryOp_repeat_ref (T := "list") (U := "int") (by decide) ⟨_, e, rfl⟩ (fun s' => typeIs_int s' k t) noFill_list_mul F.fills_int_mul F.slot_int_rmul repeat_list F.slot_int_index.lookup
    (call_meets F.slot_int_rmul (typeIs_int s k t) F.entry_int_rmul (F.args_int_rmul_2 _ _) (int___rmul___int_list k t l its.toArray n)
      ⟨e, rfl, ⟨_, e, rfl⟩, call_meets F.slot_list_mul ⟨_, e, rfl⟩ F.entry_list_mul (F.args_list_mul_2 _ _) (AutoListH.list___mul___list_int_3 l its.toArray n k t hfit hcap hlong) ⟨e, ?_⟩⟩)
  rw [hnew]
  exact ⟨.ref _, _, I.lnew (t' := s.toks) (r.rep k.toNat) (by rw [len_rep, Nat.mul_comm]; exact hz), rfl, q _ I.fresh⟩
end
section
variable {prog : Program} {w : World} {A : Around} {E : Value → Shared → Prop} {s : Shared}
theorem bounds_run {a c n : Nat} (hac : a ≤ c) (hc : c ≤ n) : sliceBounds (some (a : Int)) (some (c : Int)) none n = ((a : Int), (c : Int), 1) := by
  simp only [sliceBounds, Option.getD_none]
  have h1 : ¬ ((a : Int) < 0) := by omega
  have h2 : ¬ ((c : Int) < 0) := by omega
  simp only [h1, h2, if_false, show (1 : Int) > 0 by decide, if_true]
  congr 1
  · omega
  · congr 1; omega
set_option maxRecDepth 100000 in
theorem setItem_slice {l b sl : Addr} {items new : Array Value} {n n2 : Nat} {vl vu : Value} {a c : Nat} {Q : Unit → Shared → Prop}
    (e : s.heap.get? l = some { cls := .type "list", data := .seq items n }) (e2 : s.heap.get? b = some { cls := .type "list", data := .seq new n2 }) (hne : l ≠ b)
    (hs : s.heap.IsSliceOf sl vl vu .none) (pl : IsPart vl (some (a : Int))) (pu : IsPart vu (some (c : Int))) (hac : a ≤ c) (hc : c ≤ items.size)
    (hsz : items.size + new.size ≤ sizeLine) (h : Q () { s with heap := s.heap.update l (Obj.mapSeq fun xs => xs.extract 0 a ++ new ++ xs.extract c xs.size) }) :
    wpAny (model prog w) A (setItem (.ref l) (.ref sl) (.ref b)) Q E s := by
  have hl : s.heap.IsList l items := PySem.IsL.isList e
  have hb : s.heap.IsList b new := PySem.IsL.isList e2
  obtain ⟨os, hos, hcs, hds⟩ := id hs
  have hTs : s.TypeIs (.ref sl) "slice" := ⟨os, hos, hcs⟩
  have hstep : ¬ ((rawPart none == rawInt 0) = true) := Bool.false_ne_true
  have hsame : Builtin.List.listSameRef (.ref l) (.ref b) = false := by
    unfold Builtin.List.listSameRef
    exact beq_eq_false_iff_ne.mpr hne
  have hmax : (max (a : Int) (c : Int)).toNat = c := by omega
  have hz' : ((fun xs : Array Value => xs.extract 0 a ++ new ++ xs.extract c xs.size) items).size ≤ sizeLine + 1 := by
    simp only [Array.size_append, Array.size_extract]
    omega
  unfold setItem
  try with_reducible refine wpAny_holding ?_
  first | refine wpAny_bind (wpAny_pure ?_) | skip
  refine wpAny_bind (wpAny_sequenceKey hl.typeIs (by decide) ?_)
  refine wpAny_bind (wpAny_callSpecial?_slot (name := Str.ofString "__setitem__") hl.typeIs slot_list_setitem
    (wpAny_call_entry slot_list_setitem hl.typeIs entry_list_setitem ?_ (args_list_setitem _ _ _)))
  show wpAny _ _ (Builtin.List.listSubscript? (.ref sl) >>= _) _ _ s
  refine wpAny_bind ?_
  unfold Builtin.List.listSubscript?
  refine wpAny_bind (wpAny_specialOf hTs slice_no_index ?_)
  simp only [Option.isNone_none, if_true]
  refine wpAny_pure ?_
  show wpAny _ _ (typeOf (.ref sl) >>= _) _ _ s
  refine wpAny_bind (wpAny_typeOf hTs ?_)
  first
    | rw [if_neg (by decide)]
    | refine PySem.W.KFB.if_not (by decide) ?_
  rw [listSliceParts_eq]
  refine wpAny_bind (wpAny_bind (wpAny_field hos hds (x := .none) rfl (wpAny_bind (wpAny_listPart .none ?_))))
  rw [if_neg hstep]
  refine wpAny_bind (wpAny_field hos hds (x := vl) rfl (wpAny_bind (wpAny_listPart pl ?_)))
  refine wpAny_bind (wpAny_field hos hds (x := vu) rfl (wpAny_bind (wpAny_listPart pu (wpAny_pure ?_))))
  first
    | simp only [hsame, Bool.false_eq_true, if_false]
    | refine PySem.W.KFB.if_not hsame ?_
    | (dsimp only
       rw [if_neg (by rw [hsame]; exact Bool.false_ne_true)])
  refine wpAny_bind (m := Builtin.List.listAllItems (.ref b) "must assign iterable to extended slice") ?_
  unfold Builtin.List.listAllItems
  refine wpAny_bind (wpAny_typeOf hb.typeIs ?_)
  first
    | refine PySem.W.KFB.if_so (by decide) ?_
    | rw [if_pos (by decide)]
    | simp only [beq_self_eq_true, Bool.true_or, if_true]
  unfold Builtin.List.listItems
  refine wpAny_bind (wpAny_seqItems e2 rfl (wpAny_pure ?_))
  refine wpAny_bind (wpAny_bind (wpAny_seqItems e rfl (wpAny_pure ?_)))
  refine wpAny_bind (wpAny_of_eq ((sliceIndices_raw (some (a : Int)) (some (c : Int)) none items.size (by simp)).trans (congrArg (pure : Int × Int × Int → Sem (Int × Int × Int)) (bounds_run hac hc))) ?_)
  show wpAny _ _ (if ((1 : Int) == 1) = true then _ else _) _ _ s
  rw [if_pos (by decide)]
  refine wpAny_bind (wpAny_rule ?_)
  first
    | simp only [notLongL hsz, Bool.false_eq_true, if_false]
    | refine PySem.W.KFB.if_not (notLongL hsz) ?_
  first | refine wpAny_bind (wpAny_pure ?_) | skip
  show wpAny _ _ (updateSeq l (fun xs => xs.extract 0 ((a : Int)).toNat ++ new ++ xs.extract (max (a : Int) (c : Int)).toNat xs.size) >>= _) _ _ s
  rw [hmax, Int.toNat_natCast]
  refine wpAny_bind (wpAny_updateSeq (hz := Nat.le_trans (Nat.le_add_right _ _) hsz) (_hz' := hz') e rfl ?_)
  refine wpAny_bind (wpAny_letGo ?_)
  first
    | exact wpAny_bind (wpAny_pure (wpAny_pure ⟨.none, rfl, wpAny_pure h⟩))
    | exact wpAny_pure ⟨.none, rfl, wpAny_pure h⟩
end
section
variable {X : Cx}
end
end L2
namespace Att
open PySem PySem.W PySem.Calls PyProof.Rows
theorem ints_of_wellAll {P : Params} {h : Heap} : ∀ (ns : List Int) (vs : List Value), WellAll P h vs (ns.map WData.int) → IntsAre vs ns := by
  intro ns
  induction ns with
  | nil =>
    intro vs w
    rw [List.map_nil] at w
    cases w
    exact .nil
  | cons n ns ih =>
    intro vs w
    rw [List.map_cons] at w
    cases w with
    | cons a b =>
      cases a
      exact .cons _ _ (ih _ b)
theorem script_of {l : OpenLaw} {n : Nat} (hn : l.most = some n) {P : Params} {h : Heap} {args : List WData} {vals : List Value}
    (hpre : l.row.toRowW.claim.pre args = true) (hwl : WellAll P h vals args) :
    ∃ a vs ns, vals = [Value.ref a] ∧ args = [WData.list (ns.map WData.int)] ∧ h.get? a = some { cls := .type "list", data := .seq vs.toArray } ∧ IntsAre vs ns ∧ ns.length ≤ n := by
  have hsh : WShape.hasAll [] args [.list .int] = true := (pre_splitW hpre).1
  have hc : l.pre.holds [] { args := args } = true := (pre_splitW hpre).2
  obtain ⟨d, r, rfl, h1, h2⟩ := hasAllW_cons hsh
  obtain rfl := hasAllW_nil h2
  obtain ⟨xs, rfl, h3⟩ := hasW_list h1
  obtain ⟨ns, rfl⟩ := items_int h3
  have hlen : ns.length ≤ n := by
    unfold OpenLaw.pre at hc
    have h4 : (WTm.not (.lt (.lit (.int (n : Int))) (.len (.arg 0)))).holds [] { args := [.list (ns.map .int)] } = true := by
      have h4 := (holds_andW hc).1
      rw [hn] at h4
      exact h4
    have h5 := condW_of h4 (w_not (w_lt w_lit (w_len_list (w_arg rfl))))
    rw [List.length_map] at h5
    refine Nat.le_of_not_lt fun q => ?_
    have q' : (n : Int) < ((ns.length : Nat) : Int) := by omega
    first
      | (rw [decide_eq_true q'] at h5; exact absurd h5 (by decide))
      | (simp at h5; omega)
  cases hwl with
  | cons w1 w2 =>
    cases w2
    cases w1 with
    | list ho hall => exact ⟨_, _, ns, rfl, rfl, ho, ints_of_wellAll ns _ hall, hlen⟩
theorem post_true (l : OpenLaw) (args : List WData) : l.row.toRowW.claim.post args (.bool true) args = true :=
  postW_of (r := l.row.toRowW) (X := (true == true))
    (show WShape.has [] (.bool true) .bool = true by first | rfl | decide | simp [WShape.has, WShape.arms, WShape.armsAll])
    (show (WTm.eq .res (.lit (.bool true))).value [] { args := args, res := some (.bool true), after := args } = some (.bool (true == true)) from w_eq_bool (w_res rfl) w_lit) rfl
theorem attach_call {l : OpenLaw} {n : Nat} {q : Program} {loose : List Str} {XP : (Str → Option Value) → Heap → Prop} {YP : World → Heap → Prop} {d : DefRec}
    (hn : l.most = some n) (hdf : d.params.defaults = [])
    (call : ∀ (w : World) (s₀ s₁ : Shared) (mg mb : Str → Option Value) (fa : Addr) (o : Obj) (pm cd doc : Value) (a : Addr) (vs : List Value) (ns : List Int),
      Ground q loose [] XP w s₀ mg mb s₁.heap → YP w s₁.heap →
      s₁.heap.get? fa = some o → o.data = .func (docDef d.name d.params d.body d.scope pm cd doc) → s₁.heap.CodeRec cd d.name → mg d.name = some (.ref fa) →
      s₁.heap.get? a = some { cls := .type "list", data := .seq vs.toArray } → IntsAre vs ns → ns.length ≤ n → s₁.gens = #[] →
      codeAny (model l.prog w) callerA (.call (.ref fa) ⟨[.ref a], []⟩) (fun r s' => r = .ok (.ret (.bool true)) ∧ OldK s₁.heap s'.heap ∧ s'.os = s₁.os ∧ AllBare s'.gens) s₁) :
    WalkO q loose XP YP l.row.toRowW d [] (fun f vs => PySem.call f vs) := by
  intro w s₀ s₁ mg mb G Y fa o pm cd doc dV kV ho hd hcd hD hmg hg args vals as hpre hlay hrd hwl hlo
  obtain rfl : dV = .none := Dflts.none hD hdf
  obtain rfl : kV = .none := Dflts.noKw hD
  obtain ⟨a, vs, ns, rfl, rfl, hobj, hints, hlen⟩ := script_of hn hpre hwl
  refine enter_call (codeAny_mono (call w s₀ s₁ mg mb fa o pm cd doc a vs ns G Y ho (fd_plain hd) hcd hmg hobj hints hlen hg) fun r s' hq => ?_)
  obtain ⟨rfl, h2, h3, h4⟩ := hq
  exact ⟨.inl ⟨.bool true, .bool true, [], rfl, fun _ => rfl, .bool true, post_true l _, fun _ => ⟨List.Pairwise.nil, fun _ hm => (nomatch hm)⟩⟩, h2, h3, h4⟩
section
variable {prog : Program} {w : World} {A : Around} {E : Value → Shared → Prop} {s : Shared} {K : Frag}
end
end Att
namespace L2
open PySem PySem.Spec PyProof.Rows
theorem vals_ints : ∀ {vs : List Value} {ns : List Int}, IntsAre vs ns → Vals (ns.map V.int) vs
  | _, _, .nil => .nil
  | _, _, .cons n t h => .cons ⟨t, rfl⟩ (vals_ints h)
def Only (H : Hp) : Prop := ∀ b, H b = none ∨ ∃ o xs, H b = some (.frz o (.lst xs))
theorem law_call {P : Program} {w : World} {K : PySem.W.Frag} {mg mb : Str → Option Value} {CX : CXT} {k : Nat} {fa a : Addr} {fd : FuncData} {x : Str} {sp : Sp} {s₁ : Shared} {vs : List Value} {ns : List Int}
    (KX : K.In s₁.heap) (hns : s₁.heap.Ns mainGlobals mg) (hb : s₁.heap.Ns builtinsNs mb) (hbb : ∀ x : Str, x ≠ "__name__" → mb x = bootBuiltins x) (hlim : s₁.heap.NoLimit) (hg : s₁.gens = #[])
    (ha : s₁.heap.get? a = some { cls := .type "list", data := .seq vs.toArray }) (hi : IntsAre vs ns) (hl : ns.length ≤ sizeLine) (hr : Room k callerA)
    (F : ∀ base : Heap, K.In base → base.Ns mainGlobals mg → FnOk P w K mg base CX k fa fd [x] sp) (hbind : ∀ (s : Shared) (u : Value), BindsTo s fd ⟨[u], []⟩ [(x, u)])
    (hsp : ∀ H : Hp, Only H → SqL K H a (ns.map V.int) → sp [.ref a] H (fun v _ => v = .bl true) fun _ _ _ => False)
    (hCX : ∀ H e s', CX [] H s₁ (fun _ _ _ => False) e s' → False) :
    codeAny (model P w) callerA (.call (.ref fa) ⟨[.ref a], []⟩) (fun r s' => r = .ok (.ret (.bool true)) ∧ OldK s₁.heap s'.heap ∧ s'.os = s₁.os ∧ AllBare s'.gens) s₁ := by
  have rv := vals_ints hi
  have lenV := hi.length
  -- from an abstract heap in which nothing but the script may be tracked
  have core : ∀ H : Hp, Only H → SqL K H a (ns.map V.int) → HOk P w H s₁.heap → (∀ b, H b ≠ none → b = a) → (H a ≠ none → K.lookup a = none) →
      codeAny (model P w) callerA (.call (.ref fa) ⟨[.ref a], []⟩) (fun r s' => r = .ok (.ret (.bool true)) ∧ OldK s₁.heap s'.heap ∧ s'.os = s₁.os ∧ AllBare s'.gens) s₁ := by
    intro H hO hS hok hA hK
    have base_of : ∀ {b : Addr} {o : Obj}, s₁.heap.get? b = some o → H b = none → (hidT s₁.heap H).get? b = some o := fun e n => hidT_get e n
    have noA : ∀ {b : Addr} {o : Obj} {es : Array DictEntry} {ep : Nat}, s₁.heap.get? b = some o → o.data = .dict es ep → H b = none := fun {b o es ep} e d => by
      cases q : H b with
      | none => rfl
      | some u =>
        have e' : b = a := hA b (by rw [q]; simp)
        subst e'
        rw [ha] at e; cases e
        have d' : Data.seq vs.toArray _ = Data.dict es ep := d
        cases d'
    have nsK : ∀ {b : Addr} {m : Str → Option Value}, s₁.heap.Ns b m → (hidT s₁.heap H).Ns b m := fun {b m} ⟨o, es, ep, e, d, r⟩ => ⟨o, es, ep, base_of e (noA e d), d, r⟩
    have hKb : K.In (hidT s₁.heap H) := fun b o e => base_of (KX b o e) (by
      cases q : H b with
      | none => rfl
      | some u =>
        have e' : b = a := hA b (by rw [q]; simp)
        subst e'
        rw [hK (by rw [q]; simp)] at e; cases e)
    have hM : Mod K mg (hidT s₁.heap H) := ⟨hKb, nsK hns, ⟨mb, nsK hb, hbb⟩, let ⟨mc, h1, h2⟩ := hlim; ⟨mc, nsK h1, h2⟩⟩
    have e0 : Env0 P w K mg (hidT s₁.heap H) callerA [] s₁ H := ⟨rfl, hM, fun b o e => of_hidT e, Nat.le_of_eq (hidT_size _ _), trivial, fun b hb => absurd (show b ∈ ([] : List Addr) from hb) (by simp), hok, .of_eq hg⟩
    refine codeAny_mono ((F _ hKb (nsK hns)).run callerA [] s₁ H ⟨[.ref a], []⟩ [.ref a] [.ref a] _ _ hr e0 (hbind s₁ (.ref a)) (.cons rfl .nil) (hsp H hO hS)) fun r s' h => ?_
    cases r with
    | error e => exact (hCX H e s' h).elim
    | ok fl =>
      cases fl with
      | next => exact False.elim h
      | brk => exact False.elim h
      | cont => exact False.elim h
      | ret u =>
        obtain ⟨v, H', os, bare, un, hok', r', q⟩ := h
        have q' : v = .bl true := q
        subst q'
        obtain rfl : u = Value.bool true := r'
        refine ⟨rfl, OldK.of_keep fun b o e => ?_, os, bare⟩
        cases q : H b with
        | none => exact un.keep b o e q (by intro z; exact absurd (show b ∈ ([] : List Addr) from z) (by simp)) (by simp)
        | some u =>
          rcases hO b with z | ⟨ob, xs, z⟩
          · rw [q] at z; cases z
          · have z2 := un.frzs b ob _ z
            obtain ⟨e1, _⟩ := hok b _ z
            obtain ⟨e2, _⟩ := hok' b _ z2
            rw [e] at e1; cases e1
            exact e2
  cases hk : K.lookup a with
  | some o =>
    -- the script is one of the module's own objects
    have e := KX a o hk
    rw [ha] at e
    cases e
    refine core (fun _ => none) (fun _ => .inl rfl) (.inr ⟨_, vs.toArray, _, hk, rfl, rfl, rfl, by rw [List.size_toArray, lenV]; exact hl, by simpa using rv⟩) (fun b u z => by have z' : (none : Option HO) = some u := z; cases z') (fun b z => absurd rfl z) fun z => absurd rfl z
  | none =>
    refine core (fun b => if b = a then some (.frz { cls := .type "list", data := .seq vs.toArray } (.lst (ns.map V.int))) else none) (fun b => ?_) (.inl (.inr ⟨{ cls := .type "list", data := .seq vs.toArray }, if_pos rfl⟩)) (fun b u z => ?_) (fun b z => ?_) fun _ => hk
    · by_cases hb : b = a
      · exact .inr ⟨_, _, if_pos hb⟩
      · exact .inl (if_neg hb)
    · by_cases hb : b = a
      · have z' := (if_pos hb).symm.trans z
        cases z'
        subst hb
        exact ⟨ha, by rw [List.length_map]; exact hl, vs, _, rv, ha⟩
      · have z' := (if_neg hb).symm.trans z
        cases z'
    · by_cases hb : b = a
      · exact hb
      · exact absurd (if_neg hb) z
end L2
namespace L2
open PySem PySem.Spec PyProof.Rows
abbrev KOf {K : PySem.W.Frag} {h : Heap} (_ : K.In h) : PySem.W.Frag := K
theorem walk_of {l : PySem.W.OpenLaw} {n k : Nat} {q : Program} {loose : List Str} {XP : (Str → Option Value) → Heap → Prop} {YP : World → Heap → Prop} {d : DefRec} {K : Params → PySem.W.Frag} {CX : World → CXT} {sp : World → Sp} {x : Str}
    (hn : l.most = some n) (hn2 : n ≤ sizeLine) (hdf : d.params.defaults = []) (hr : Room k callerA)
    (hY : ∀ (w : World) (h : Heap), YP w h → (K w.params).In h)
    (F : ∀ (w : World) (mg : Str → Option Value) (fa : Addr) (h : Heap), (K w.params).In h → h.Ns mainGlobals mg → mg d.name = some (.ref fa) →
      ∃ fd : FuncData, (∀ (s : Shared) (u : Value), BindsTo s fd ⟨[u], []⟩ [(x, u)]) ∧
        ∀ base : Heap, (K w.params).In base → base.Ns mainGlobals mg → FnOk l.prog w (K w.params) mg base (CX w) k fa fd [x] (sp w))
    (hsp : ∀ (w : World) (H : Hp) (a : Addr) (ns : List Int), ns.length ≤ n → Only H → SqL (K w.params) H a (ns.map V.int) → sp w [.ref a] H (fun v _ => v = .bl true) fun _ _ _ => False)
    (hCX : ∀ (w : World) (H : Hp) (s : Shared) (e : Value) (s' : Shared), CX w [] H s (fun _ _ _ => False) e s' → False) :
    PySem.W.WalkO q loose XP YP l.row.toRowW d [] (fun f vs => PySem.call f vs) := by
  refine Att.attach_call hn hdf fun w s₀ s₁ mg mb fa o pm cd doc a vs ns G Y ho hd hcd hmg hobj hints hlen hg => ?_
  have KX := hY w _ Y
  obtain ⟨fd, hb, hF⟩ := F w mg fa _ KX G.T.g hmg
  exact law_call KX G.T.g G.T.b G.T.builtins G.T.nolimit hg hobj hints (Nat.le_trans hlen hn2) hr hF hb (fun H hO hS => hsp w H a ns hlen hO hS) fun H e s' => hCX w H s₁ e s'
end L2
/- THE LAST THEOREM (shape; LID, My.* are yours):
   My.Adr: a structure of the addresses that your layer names (classes, functions); My.Txt K t: a structure (Prop) of the equations over K;
   My.txt_mk : {K} {implicit addresses ..} (e1 : nsIn K mainGlobals "law" = some (some (.ref f))) (e2 : K.lookup f = some ⟨oc, od, .func (fnOf "law" "law" params body scope dV kV doc pm an cdv ct), sl⟩) (e3 : codeIn K cdv "law" = true) .. : ∃ t, My.Txt K t
set_option maxRecDepth 100000 in
set_option maxHeartbeats 0 in
theorem PySem.Challenge.cw_LID_holds : PySem.Challenge.rw_LID.Holds := by
  w_on; o_law; k_head; (case hw => w_witness2)
  k_fill
  refine L2.walk_of (l := PySem.Challenge.rw_LID) (n := 63) (k := 40) (x := "script") (CX := fun w => ..) (sp := fun _ => My.sp_law) rfl (by decide) rfl ⟨rfl, by decide, by decide⟩ (fun w h Y => PySem.W.kIn_of Y) ?F ?S ?C
  case F =>
    intro w mg fa h KX G hmg
    have T : ∃ t, My.Txt (L2.KOf KX) t := by
      dsimp only [L2.KOf]                          -- K must stand as «<heap const> w.params» for k_is
      refine' My.txt_mk ?e1 ?e2 ?e3 ..
      (case e1 => PySem.W.k_is)                    -- in the order: a name -> its address -> its object -> its parts
      (case e2 => PySem.W.k_is)
      ..
    obtain ⟨t, T⟩ := T
    have e0 := hmg.symm.trans (PySem.W.mg_of KX G T.law)
    cases e0                                       -- fa is the law's own address
    exact ⟨_, fun s u => .of_eq rfl, fun base kb nb => My.law_fn T kb nb⟩     -- if «.of_eq rfl» comes too early: refine' ⟨_, ?b, fun base kb nb => My.law_fn T kb nb⟩; exact fun s u => .of_eq rfl
  case S => exact fun w H a ns hl hO hS => ..
  case C => exact ..
(the tactic k_is has no namespace: write k_is) -/
namespace L2
open PySem PySem.Spec PyProof.Rows
def defArgs (s : Stmt) : Arguments := match s with
  | .FunctionDef _ a _ _ _ _ _ _ _ _ => a
  | _ => { posonlyargs := [], args := [], vararg := none, kwonlyargs := [], kw_defaults := [], kwarg := none, defaults := [] }
def defBody (s : Stmt) : List Stmt := match s with
  | .FunctionDef _ _ b _ _ _ _ _ _ _ => b
  | _ => []
def defScope (s : Stmt) : Scope := match s with
  | .FunctionDef _ _ _ _ _ _ sc _ _ _ => sc
  | _ => { kind := .function, names := [], isGenerator := false, isCoroutine := false }
abbrev CX0 : CXT := fun _ _ _ _ _ _ => False
abbrev E0 : XK := fun _ _ _ => False
structure Fun (K : PySem.W.Frag) (x qual : Str) (st : Stmt) (f : Addr) (fd : FuncData) : Prop where
  ex : ∃ (oc : Value) (od : Option Addr) (kV doc pm : Value) (an : Option Addr) (cdv ct : Value) (osl : Array (Option Value)),
    fd = PySem.W.fnOf x qual (defArgs st) (defBody st) (defScope st) .none kV doc pm an cdv ct ∧ K.lookup f = some ⟨oc, od, .func fd, osl⟩ ∧ PySem.W.codeIn K cdv qual = true
  kp : PySem.W.keepIn K (.ref f) = true
section
variable {P : Program} {w : World} {K : PySem.W.Frag} {mg : Str → Option Value} {base : Heap}
theorem Fun.ok {x qual : Str} {st : Stmt} {f : Addr} {fd : FuncData} {N ps : List Str} {k : Nat} {sp : Sp} (F : Fun K x qual st f fd) (S : FnScope N ps (defScope st)) (len : ∀ vs H Q E, sp vs H Q E → vs.length = ps.length)
    (hbody : ∀ (cdv : Value) (A : Around) (outer : List Env) (s : Shared) (H : Hp) (vs : List V) (Q : VK) (E : XK), Room k (A.deeper (envOfC qual (defScope st) s.heap.objs.size f cdv)) → sp vs H Q E →
      ∃ t, PSs (cxOf CX0 P w K mg base N qual (defScope st) f cdv A outer s H E).nox (defBody st) t ∧ t { nx := fun _ H' => Q .non H', rt := Q } (start N vs) H) : FnOk P w K mg base CX0 (k + 1) f fd ps sp := by
  obtain ⟨oc, od, kV, doc, pm, an, cdv, ct, osl, rfl, lk, hcd⟩ := F.ex
  refine fn_of lk hcd S len fun A outer s H vs Q E hr hsp => ?_
  obtain ⟨t, h, q⟩ := hbody cdv A outer s H vs Q E hr hsp
  exact ⟨t, h.nox, q⟩
theorem Fun.binds {x qual : Str} {st : Stmt} {f : Addr} {fd : FuncData} {ps : List Str} (F : Fun K x qual st f fd)
    (h : ∀ (kV doc pm : Value) (an : Option Addr) (cdv ct : Value) (us : List Value), us.length = ps.length → bindArgs (PySem.W.fnOf x qual (defArgs st) (defBody st) (defScope st) .none kV doc pm an cdv ct) ⟨us, []⟩ = pure (ps.zip us)) : Binds K fd ps [] := by
  obtain ⟨oc, od, kV, doc, pm, an, cdv, ct, osl, rfl, lk, hcd⟩ := F.ex
  exact .all (h kV doc pm an cdv ct)
theorem fun_mk {x qual : Str} {st : Stmt} {f : Addr} {oc : Value} {od an : Option Addr} {osl : Array (Option Value)} {kV doc pm cdv ct : Value} (l : K.lookup f = some ⟨oc, od, .func (PySem.W.fnOf x qual (defArgs st) (defBody st) (defScope st) .none kV doc pm an cdv ct), osl⟩)
    (c : PySem.W.codeIn K cdv qual = true) (k : PySem.W.keepIn K (.ref f) = true) : Fun K x qual st f (PySem.W.fnOf x qual (defArgs st) (defBody st) (defScope st) .none kV doc pm an cdv ct) := ⟨⟨oc, od, kV, doc, pm, an, cdv, ct, osl, rfl, l, c⟩, k⟩
end
theorem hu_of {A : Around} {k : Nat} (hr : Room k A) : A.units + 1 < cLine := Nat.lt_of_le_of_lt (Nat.add_le_add_left (by decide : 1 ≤ 64) _) hr.units
section
variable {X : Cx}
theorem pv (i : Nat) {x : Str} {pos : Pos} (hN : X.N[i]? = some x := by rfl) (hv : Vis X.env.scope x := by first | exact Or.inl rfl | exact Or.inr (Or.inl rfl) | exact Or.inr (Or.inr rfl)) (hd : (x == ("__debug__" : Str)) = false := by decide)
    (hcd : (x == ("__classdict__" : Str)) = false := by decide) : PE X (.Name x pos) (tVar i) := pe_var hN hv hd hcd
end
theorem iteF {A B : Prop} (h : B) : if false = true then A else B := by
  rw [if_neg Bool.false_ne_true]
  exact h
theorem iteT {A B : Prop} (h : A) : if true = true then A else B := by
  rw [if_pos rfl]
  exact h
theorem ite2 {c A B : Prop} [Decidable c] (h1 : c → A) (h2 : ¬ c → B) : if c then A else B := by
  by_cases h : c
  · rw [if_pos h]
    exact h1 h
  · rw [if_neg h]
    exact h2 h
theorem iteNS {c A B : Prop} [Decidable c] (hc : c) (h : B) : if (!decide c) = true then A else B := by
  rw [decide_eq_true hc]
  exact iteF h
def Same (H H' : Hp) : Prop := ∀ b o, H b = some o → H' b = some o
theorem Same.refl (H : Hp) : Same H H := fun _ _ h => h
theorem Same.trans {H H1 H2 : Hp} (a : Same H H1) (b : Same H1 H2) : Same H H2 := fun c o h => b c o (a c o h)
theorem Same.free {H H' : Hp} (e : Same H H') {l : Addr} (h : H' l = Option.none) : H l = Option.none := by
  cases q : H l with
  | none => rfl
  | some o =>
    rw [e l o q] at h
    cases h
theorem Same.seq {K : PySem.W.Frag} {H H' : Hp} {a : Addr} {xs : List V} (e : Same H H') (h : SqL K H a xs) : SqL K H' a xs := by
  rcases h with (h | ⟨o, h⟩) | h
  · exact .inl (.inl (e _ _ h))
  · exact .inl (.inr ⟨o, e _ _ h⟩)
  · exact .inr h
end L2
set_option Elab.async false
set_option linter.all false
set_option maxRecDepth 100000
namespace L2
open PySem PySem.Spec PyProof.Rows
def clos (cells : List (Str × Addr)) : List (Str × NameKind) → List (Str × Addr) → List (Str × Addr)
  | [], cs => cs
  | (n, k) :: r, cs => if (k == NameKind.free) = true then (match cells.lookup n with | some c => clos cells r ((n, c) :: cs) | none => clos cells r cs) else clos cells r cs
theorem clos_for {env : Env} : ∀ (l : List (Str × NameKind)) (cs : List (Str × Addr)), (∀ x ∈ l, x.2 = .free → ∃ c, env.cells.lookup x.1 = some c) →
    (forIn (m := Sem) l cs fun x r => match x with
      | (name, kind) => if (kind == NameKind.free) = true then do let c ← cellOf env name; pure (ForInStep.yield ((name, c) :: r)) else pure (ForInStep.yield r)) = pure (clos env.cells l cs)
  | [], cs, _ => by rfl
  | (n, k) :: r, cs, h => by
    have ih := fun cs => clos_for r cs fun x hx => h x (List.mem_cons_of_mem _ hx)
    rw [List.forIn_cons]
    unfold clos
    by_cases hk : (k == NameKind.free) = true
    · obtain ⟨c, hc⟩ := h (n, k) List.mem_cons_self (by simpa using hk)
      have hc' : env.cells.lookup n = some c := hc
      simp only [hk, if_true, hc']
      have e : cellOf env n = pure c := by unfold cellOf; rw [hc']
      rw [e]
      simp only [pure_bind]
      exact ih _
    · have hk' : (k == NameKind.free) = false := by simpa using hk
      simp only [hk', Bool.false_eq_true, if_false, pure_bind]
      exact ih _
theorem clos_eq {scope : Scope} {env : Env} (h : ∀ x ∈ scope.names, x.2 = .free → ∃ c, env.cells.lookup x.1 = some c) : closureFor scope env = pure (clos env.cells scope.names []) := by
  unfold closureFor
  have := clos_for (env := env) scope.names [] h
  simp only [this, pure_bind]
theorem clos_sub {cells : List (Str × Addr)} {x : Str} {c : Addr} : ∀ (l : List (Str × NameKind)) (cs : List (Str × Addr)), (∀ y d, cs.lookup y = some d → cells.lookup y = some d) → (clos cells l cs).lookup x = some c → cells.lookup x = some c
  | [], cs, h, e => h x c e
  | (n, k) :: r, cs, h, e => by
    unfold clos at e
    split at e
    · split at e
      · rename_i d hd
        refine clos_sub r _ (fun y z q => ?_) e
        rw [List.lookup_cons] at q
        split at q
        · rename_i hy
          cases q
          rw [eq_of_beq hy]; exact hd
        · exact h y z q
      · exact clos_sub r cs h e
    · exact clos_sub r cs h e
theorem clos_keep {cells : List (Str × Addr)} {x : Str} : ∀ (l : List (Str × NameKind)) (cs : List (Str × Addr)), (∃ c, cs.lookup x = some c) → ∃ c, (clos cells l cs).lookup x = some c
  | [], cs, h => h
  | (n, k) :: r, cs, h => by
    unfold clos
    split
    · split
      · refine clos_keep r _ ?_
        rw [List.lookup_cons]
        split
        · exact ⟨_, rfl⟩
        · exact h
      · exact clos_keep r cs h
    · exact clos_keep r cs h
theorem clos_has {cells : List (Str × Addr)} {x : Str} : ∀ (l : List (Str × NameKind)) (cs : List (Str × Addr)), (x, NameKind.free) ∈ l → (∃ c, cells.lookup x = some c) → ∃ c, (clos cells l cs).lookup x = some c
  | [], _, h, _ => nomatch h
  | (n, k) :: r, cs, h, ⟨c, hc⟩ => by
    unfold clos
    rcases List.mem_cons.mp h with e | h
    · cases e
      rw [if_pos (by rfl), hc]
      refine clos_keep r _ ⟨c, ?_⟩
      simp [List.lookup_cons]
    · split
      · split
        · exact clos_has r _ h ⟨c, hc⟩
        · exact clos_has r _ h ⟨c, hc⟩
      · exact clos_has r _ h ⟨c, hc⟩
theorem relabel_free {env : Env} : ∀ {names : List (Str × NameKind)} {x : Str}, names.lookup x = some .free →
    (names.map fun (n, k) => if (k == NameKind.free && env.scope.kind == .function && env.kindOf n == some .cell) then (n, NameKind.cell) else (n, k)).lookup x = some .cell ∨
    (names.map fun (n, k) => if (k == NameKind.free && env.scope.kind == .function && env.kindOf n == some .cell) then (n, NameKind.cell) else (n, k)).lookup x = some .free
  | [], _, h => by simp at h
  | (n, k) :: r, x, h => by
    have ih := @relabel_free env r x
    by_cases hc : (k == NameKind.free && env.scope.kind == .function && env.kindOf n == some .cell) = true
    · simp only [List.map_cons, if_pos hc, List.lookup_cons]
      cases hx : x == n with
      | true => exact .inl rfl
      | false =>
        simp only [List.lookup_cons, hx] at h
        exact ih h
    · simp only [List.map_cons, if_neg hc, List.lookup_cons]
      cases hx : x == n with
      | true =>
        simp only [List.lookup_cons, hx] at h
        cases h
        exact .inr rfl
      | false =>
        simp only [List.lookup_cons, hx] at h
        exact ih h
theorem relabel_back {env : Env} : ∀ {names : List (Str × NameKind)} {x : Str}, (∀ y ∈ names, y.2 ≠ .cell) →
    ((names.map fun (n, k) => if (k == NameKind.free && env.scope.kind == .function && env.kindOf n == some .cell) then (n, NameKind.cell) else (n, k)).lookup x = some .cell ∨
    (names.map fun (n, k) => if (k == NameKind.free && env.scope.kind == .function && env.kindOf n == some .cell) then (n, NameKind.cell) else (n, k)).lookup x = some .free) → (x, NameKind.free) ∈ names
  | [], _, _, h => by simp at h
  | (n, k) :: r, x, hn, h => by
    have ih := @relabel_back env r x fun y hy => hn y (List.mem_cons_of_mem _ hy)
    by_cases hc : (k == NameKind.free && env.scope.kind == .function && env.kindOf n == some .cell) = true
    · simp only [List.map_cons, if_pos hc, List.lookup_cons] at h
      have hk : k = .free := by
        simp only [Bool.and_eq_true] at hc
        exact eq_of_beq hc.1.1
      cases hx : x == n with
      | true => rw [eq_of_beq hx, hk]; exact List.mem_cons_self
      | false =>
        simp only [hx] at h
        exact List.mem_cons_of_mem _ (ih h)
    · simp only [List.map_cons, if_neg hc, List.lookup_cons] at h
      cases hx : x == n with
      | true =>
        simp only [hx] at h
        rcases h with h | h
        · have e : k = .cell := Option.some.inj h
          exact absurd e (hn (n, k) List.mem_cons_self)
        · have e : k = .free := Option.some.inj h
          rw [eq_of_beq hx, e]; exact List.mem_cons_self
      | false =>
        simp only [hx] at h
        exact List.mem_cons_of_mem _ (ih h)
def compCx (X : Cx) (N : List Str) (scope : Scope) (C : Addr) (s : Shared) (H : Hp) (fp : List Addr) : Cx where
  prog := X.prog
  w := X.w
  K := X.K
  mg := X.mg
  base := X.base
  A := X.A
  N := N
  s₀ := s
  H₀ := H
  env := compEnvC scope (clos X.env.cells scope.names []) C X.env
  outer := X.stack
  stack := X.stack
  ex := fp
  fn := fun _ => false
  calm := X.calm
  pn := []
  xe := fun _ _ => False
structure CompScope (X : Cx) (N : List Str) (js : List (Option Nat)) (scope : Scope) : Prop where
  kind : scope.kind = .function
  nocell : ∀ y ∈ scope.names, y.2 ≠ .cell
  locs : ∀ y ∈ scope.names, y.2 = .local → scope.names.lookup y.1 = some .local
  free : ∀ y ∈ scope.names, y.2 = .free → X.env.kindOf y.1 = some .cell ∨ X.env.kindOf y.1 = some .free
  len : js.length = N.length
  js : ∀ (i j : Nat) (x : Str), js[i]? = some (some j) → N[i]? = some x → X.N[j]? = some x ∧ scope.names.lookup x = some .free
def innerSt (js : List (Option Nat)) (σ : St) : St := js.map fun j => (j.bind fun j => σ[j]?).join
section
variable {X : Cx} {pins : List (Addr × Obj)} {σ : St} {H : Hp} {s : Shared} {N : List Str} {js : List (Option Nat)} {scope : Scope} {fp : List Addr} {C D : Addr} {h₁ : Heap} {m : Str → Option Value} {tk : Nat}
theorem lookup_mem {α β : Type} [BEq α] [LawfulBEq α] {x : α} {y : β} : ∀ {l : List (α × β)}, l.lookup x = some y → (x, y) ∈ l
  | [], h => by simp at h
  | (a, b) :: r, h => by
    rw [List.lookup_cons] at h
    split at h
    · rename_i hx
      cases h
      rw [eq_of_beq hx]; exact List.mem_cons_self
    · exact List.mem_cons_of_mem _ (lookup_mem h)
theorem inv_comp (S : CompScope X N js scope) (I : Inv X pins σ H s) (f2 : ∀ b ∈ fp, FpOk X pins H b) (hfp : ∀ b ∈ fp, b < s.heap.objs.size) (keep : ∀ b o, s.heap.get? b = some o → h₁.get? b = some o)
    (hD0 : s.heap.objs.size ≤ D) (hC0 : s.heap.objs.size ≤ C) (hDC : D ≠ C) (hD : ∃ n, h₁.get? D = some { cls := .type "list", data := .seq ([] : List Value).toArray n }) (hns : h₁.Ns C m) :
    Inv (compCx X N scope C s H fp) [] (innerSt js σ) (upd H D (.lst [])) { s with heap := h₁, toks := tk } := by
  have hc : ∀ x ∈ scope.names, x.2 = .free → ∃ c, X.env.cells.lookup x.1 = some c := fun x hx e => I.ok.has _ (S.free x hx e)
  have sub : ∀ x c, (clos X.env.cells scope.names []).lookup x = some c → X.env.cells.lookup x = some c := fun x c e => clos_sub _ _ (fun _ _ z => by simp at z) e
  have clt : ∀ x c, X.env.cells.lookup x = some c → c < s.heap.objs.size := fun x c e => by obtain ⟨v, q⟩ := I.cell x c e; exact q.lt
  have hasF : ∀ x, (x, NameKind.free) ∈ scope.names → ∃ c, (clos X.env.cells scope.names []).lookup x = some c := fun x hx => clos_has _ _ hx (hc (x, .free) hx rfl)
  have fD : H D = none := I.hok.fresh hD0
  have fC : H C = none := I.hok.fresh hC0
  refine ⟨⟨I.ok.mod, S.kind, I.ok.glob, I.ok.blt, hC0, fun x y c h1 h2 => I.ok.inj x y c (sub _ _ h1) (sub _ _ h2), fun x hx => ?_, fun x c h _ => (Bool.noConfusion h), I.ok.hd, I.ok.frames, .inl rfl, fun b hb => ⟨?_, fun x c e => (f2 b hb).2.2.2.2.1 x c (sub _ _ e)⟩, I.bs,
      Nat.le_trans I.ok.bsz I.sz, fun b o e hb => ?_, fun b hb z => ?_, I.stack, I.stkFree⟩,
    rfl, I.bare, Un.laid keep hD0 fD, ⟨m, hns, fun i x v h1 h2 h3 => ?_⟩, fun x c e => ?_, ?_, fun x c e => ?_, fun p hp => absurd hp (by simp [compCx]), I.hok.laid keep hD0 ?_, ?_⟩
  · exact hasF x (relabel_back S.nocell hx)
  · exact Nat.ne_of_lt (Nat.lt_of_lt_of_le (hfp b hb) hC0)
  · rcases (f2 b hb).2.2.2.1 with q | q
    · exact I.ok.noex b o e q
    · exact absurd (Nat.lt_of_lt_of_le (Heap.lt_size e) (Nat.le_trans I.ok.bsz q)) (Nat.lt_irrefl _)
  · rcases List.mem_cons.mp (I.stkSub b z) with q | q
    · exact (f2 b hb).2.1 q
    · exact (f2 b hb).2.2.1 q
  · have h2' : (js[i]?.map fun j => (j.bind fun j => σ[j]?).join) = some (some v) := by rw [← List.getElem?_map]; exact h2
    cases ej : js[i]? with
    | none => rw [ej] at h2'; cases h2'
    | some j =>
      rw [ej] at h2'
      cases j with
      | none => simp at h2'
      | some j =>
        have e2 : σ[j]? = some (some v) := by
          simp only [Option.map_some, Option.bind_some, Option.some.injEq] at h2'
          cases q : σ[j]? with
          | none => rw [q] at h2'; simp at h2'
          | some z => rw [q] at h2'; simp at h2'; rw [h2']
        obtain ⟨n1, n2⟩ := S.js i j x ej h1
        have hx := lookup_mem n2
        have hk := S.free _ hx rfl
        obtain ⟨m0, _, hl⟩ := I.loc
        obtain ⟨u, r, l⟩ := hl j x v n1 e2 (hk.elim (fun z => .inr (.inl z)) fun z => .inr (.inr z))
        refine ⟨u, r, ?_⟩
        rcases l with ⟨k, _⟩ | ⟨_, c, e, z⟩
        · have k' : X.env.kindOf x = some .local := k
          rcases hk with q | q <;> (rw [show X.env.kindOf x = _ from q] at k'; cases k')
        · obtain ⟨c', e'⟩ := hasF x hx
          have := sub _ _ e'
          rw [e] at this; cases this
          exact .inr ⟨relabel_free n2, c, e', z.keeps keep⟩
  · obtain ⟨v, q⟩ := I.cell x c (sub _ _ e)
    exact ⟨v, q.keeps keep⟩
  · show upd H D _ C = none
    rw [upd_ne (Ne.symm hDC)]; exact fC
  · show upd H D _ c = none
    have hlt := clt x c (sub _ _ e)
    rw [upd_ne (Nat.ne_of_lt (Nat.lt_of_lt_of_le hlt hD0))]
    exact I.freeC x c (sub _ _ e)
  · obtain ⟨n, hD⟩ := hD
    exact ⟨Nat.zero_le _, [], n, .nil, hD⟩
  · show (innerSt js σ).length = N.length
    unfold innerSt
    rw [List.length_map, S.len]
end
def PIfs (X : Cx) (ifs : List Expr) (t : TT) : Prop :=
  ∀ (pins : List (Addr × Obj)) (s : Shared) (σ : St) (H : Hp) (Q : Bool → Hp → Prop), Inv X pins σ H s → t σ H Q →
    wpAny (model X.prog X.w) X.A (forIn ifs true fun c r => if r = true then do let ok ← isTrue c X.env (eval c X.env); pure (ForInStep.yield ok) else pure (ForInStep.yield r)) (TP X pins σ Q) X.xe s
def tTrue : TT := fun _ H Q => Q true H
theorem pif_nil {X : Cx} : PIfs X [] tTrue := fun _ _ _ H _ I h => wpAny_tests_nil ⟨H, I, h⟩
theorem pif_one {X : Cx} {c : Expr} {t : TT} (h : PT X c t) : PIfs X [c] t := fun pins s σ H Q I hw => wpAny_tests_one (h pins s σ H Q I hw)
theorem compLoop_gen {prog : Program} {w : World} {A : Around} {R : Result → Shared → Prop} {s : Shared} {elt target iter : Expr} {ifs : List Expr} {scope : Scope} {pos : Pos} {it acc : Value} {env : Env} (I : Nat → Shared → Prop)
    (turn : ∀ n s, I n s → wpAny (model prog w) A (pyNext it) (fun r s₁ => match r with
      | none => R (.ok .next) s₁
      | some v => wpAny (model prog w) A (letOwnedTupleGo target it v) (fun _ s₁' => wpAny (model prog w) A (assign target env v) (fun _ s₂ =>
          wpAny (model prog w) A (forIn ifs true fun c r => if r = true then do let ok ← isTrue c env (eval c env); pure (ForInStep.yield ok) else pure (ForInStep.yield r)) (fun ok s₃ =>
            if ok = true then wpAny (model prog w) A (eval elt env) (fun x s₄ =>
              wpAny (model prog w) A (call (.builtin "list.append") [acc, x]) (fun _ s₅ => ∃ m, m < n ∧ I m s₅) (fun _ _ => False) s₄) (fun _ _ => False) s₃
            else ∃ m, m < n ∧ I m s₃) (fun _ _ => False) s₂) (fun _ _ => False) s₁') (fun _ _ => False) s₁) (fun _ _ => False) s)
    (n : Nat) (h : I n s) :
    codeAny (model prog w) A (.compLoop (.ListComp elt [⟨target, iter, ifs, 0⟩] scope pos) 0 it acc env) R s := by
  refine codeAny_loop rfl I (fun n s hI => ?_) n h
  show wpAny _ A ((compTurn (.ListComp elt [⟨target, iter, ifs, 0⟩] scope pos) 0 it acc env).onRaise (fun x => do noteFrame x env; theTreesLotGoes x)) _ _ s
  refine wpAny_noted ?_
  rw [compTurn_list]
  refine wpAny_bind (wpAny_standAt (wpAny_bind (wpAny_mono (turn n s hI) (fun r s₁ h₁ => ?_) fun _ _ h' => h'.elim)))
  cases r with
  | none => exact wpAny_pure h₁
  | some v =>
    refine wpAny_bind (wpAny_mono h₁ (fun _ s₁' h₁' => ?_) fun _ _ h' => h'.elim)
    refine wpAny_bind (wpAny_mono h₁' (fun _ s₂ h₂ => wpAny_bind (wpAny_mono h₂ (fun ok s₃ h₃ => ?_) fun _ _ h' => h'.elim)) fun _ _ h' => h'.elim)
    cases ok with
    | false => exact wpAny_pure ⟨rfl, h₃⟩
    | true =>
      exact wpAny_bind (wpAny_bind (wpAny_mono h₃ (fun x s₄ h₄ => wpAny_bind (wpAny_mono h₄ (fun _ s₅ h₅ => wpAny_pure (wpAny_pure ⟨rfl, h₅⟩)) fun _ _ h' => h'.elim)) fun _ _ h' => h'.elim))
def tComp (js : List (Option Nat)) (wi : TI) (g : TG) (tc : TT) (te : TE) : TE := fun σ H Q =>
  wi σ H fun J H1 => ∀ D, H1 D = none → ∃ W : Nat → Nat → St → Hp → Prop, (∃ m, W 0 m (innerSt js σ) (upd H1 D (.lst []))) ∧
    ∀ i m σ' H', W i m σ' H' → (J.stop i H' ∧ Q (.ref D) H') ∨ (J.go i H' ∧ ∀ x H2, J.yld i H' x H2 → g x σ' H2 fun σ2 H3 => tc σ2 H3 fun b H4 =>
      if b = true then te σ2 H4 fun v H5 => rAppend (.ref D) [v] H5 fun _ H6 => ∃ m', m' < m ∧ W (i + 1) m' σ2 H6 else ∃ m', m' < m ∧ W (i + 1) m' σ2 H4)
theorem pe_comp {X : Cx} {elt tg iter : Expr} {ifs : List Expr} {scope : Scope} {pos : Pos} {N : List Str} {js : List (Option Nat)} {wi : TI} {g : TG} {tc : TT} {te : TE} (hcalm : X.calm = true) (S : CompScope X N js scope)
    (hi : PI X tg iter wi) (hg : ∀ C s H fp, PG (compCx X N scope C s H fp) tg g) (ht : ∀ C s H fp, PIfs (compCx X N scope C s H fp) ifs tc) (he : ∀ C s H fp, PE (compCx X N scope C s H fp) elt te)
    (hs : ∀ x, foldedSetIterable iter X.env x = pure x := by intro _; rfl) : PE X (.ListComp elt [⟨tg, iter, ifs, 0⟩] scope pos) (tComp js wi g tc te) := by
  intro pins s σ H Q I h
  have hc : ∀ x ∈ scope.names, x.2 = .free → ∃ c, X.env.cells.lookup x.1 = some c := fun x hx e => I.ok.has _ (S.free x hx e)
  rw [eval_ListComp]
  refine wpAny_comprehension_free (use := none) rfl hs (clos_eq hc) S.kind S.locs (thn (hi pins s σ H _ I h) fun v s1 h1 => thn h1 fun itv s2 h2 => ?_)
  obtain ⟨it, fp, tn, J, H2, e, I2, T, st2, f2, q⟩ := h2
  subst e
  refine wpAny_newObj_type (wpAny_newFunctionEnv S.nocell (by intro y hy; simp at hy) (fun h₁ hns₁ hsb₁ => ?_) S.kind)
  dsimp only at hns₁ hsb₁ ⊢
  generalize hH2 : s2.heap.push { cls := .type "list", dict := none, data := .seq ([] : List Value).toArray } = G2 at hns₁ hsb₁ ⊢
  have hC : G2.objs.size = s2.heap.objs.size + 1 := by rw [← hH2, Heap.size_push]
  have hDC : s2.heap.objs.size ≠ G2.objs.size := by rw [hC]; exact Nat.ne_of_lt (Nat.lt_succ_self _)
  have hC0 : s2.heap.objs.size ≤ G2.objs.size := by rw [hC]; exact Nat.le_succ _
  have below : ∀ b, b < s2.heap.objs.size → b ≠ G2.objs.size := fun b hb => by rw [hC]; exact Nat.ne_of_lt (Nat.lt_succ_of_lt hb)
  have old : ∀ b o, s2.heap.get? b = some o → h₁.get? b = some o := fun b o e => hsb₁.extBut b o (below b (Heap.lt_size e)) (Heap.get?_push_of_some _ (hH2 ▸ Heap.get?_push_of_some _ e))
  have hacc : h₁.get? s2.heap.objs.size = some { cls := .type "list", data := .seq ([] : List Value).toArray } := hsb₁.extBut _ _ hDC (Heap.get?_push_of_some _ (hH2 ▸ Heap.get?_push_size _ rfl))
  have hfp : ∀ b ∈ fp, b < s2.heap.objs.size := fun b hb => by obtain ⟨o, e, _⟩ := T.obj 0 _ st2 b hb; exact Heap.lt_size e
  obtain ⟨W, ⟨m0, w0⟩, turn⟩ := q s2.heap.objs.size (I2.hok.fresh (Nat.le_refl _))
  have stat : ∀ {H' : Hp}, (∀ b ∈ fp, H' b = none) → ∀ b ∈ fp, FpOk (compCx X N scope G2.objs.size s2 H2 fp) [] H' b := fun {H'} hn b hb =>
    ⟨hn b hb, below b (hfp b hb), fun z => by
      rcases List.mem_cons.mp (I2.stkSub b z) with q | q
      · exact (f2 b hb).2.1 q
      · exact (f2 b hb).2.2.1 q, .inl hb, fun x c e => (f2 b hb).2.2.2.2.1 x c (clos_sub _ _ (fun _ _ z => by simp at z) e), fun p hp => absurd hp (by simp [compCx])⟩
  have loop : ∀ s3 : Shared, s3 = { s2 with heap := h₁, toks := s2.toks + ([] : List (Str × Value)).length } →
      codeAny (model X.prog X.w) X.A (.compLoop (.ListComp elt [⟨tg, iter, ifs, 0⟩] scope pos) 0 (.ref it) (.ref s2.heap.objs.size) (compEnvC scope (clos X.env.cells scope.names []) G2.objs.size X.env))
        (compPost (model X.prog X.w) X.A X.xe none (EP X pins σ Q) (.ref s2.heap.objs.size) G2.objs.size) s3 := by
    rintro s3 rfl
    have I3 : Inv (compCx X N scope G2.objs.size s2 H2 fp) [] (innerSt js σ) (upd H2 s2.heap.objs.size (.lst [])) { s2 with heap := h₁, toks := s2.toks + ([] : List (Str × Value)).length } :=
      inv_comp S I2 f2 hfp old (Nat.le_refl _) hC0 hDC ⟨_, hacc⟩ hns₁
    refine compLoop_gen (fun n s' => ∃ i σ' H', Inv (compCx X N scope G2.objs.size s2 H2 fp) [] σ' H' s' ∧ tn i s'.heap ∧ (∀ b ∈ fp, H' b = none) ∧ W i n σ' H') ?_ m0
      ⟨0, _, _, I3, T.keep 0 _ _ st2 fun b _ o e => old b o e, fun b hb => by rw [upd_ne (Nat.ne_of_lt (hfp b hb))]; exact (f2 b hb).1, w0⟩
    rintro n s4 ⟨i, σ4, H4, I4, st4, fr4, w4⟩
    rcases turn i n σ4 H4 w4 with ⟨stop, qn⟩ | ⟨go, step⟩
    · refine thn (T.done (compCx X N scope G2.objs.size s2 H2 fp) rfl rfl rfl hcalm i [] s4 σ4 H4 (fun _ _ => False) I4 (stat fr4) st4 stop) fun r s5 ⟨hr, I5⟩ => ?_
      subst hr
      obtain ⟨m5, n5, _⟩ := I5.loc
      refine ⟨m5, n5, fun h' sb => ?_⟩
      have hos : s5.os = s2.os := I5.os
      obtain ⟨hh, gg, dd, tt, os5⟩ := s5
      obtain rfl : os5 = s2.os := hos
      have un : Un (frs X.stack) fp H2 H4 s2.heap h' := by
        have u := I5.base
        have nC : ∀ b o, s2.heap.get? b = some o → b ≠ G2.objs.size := fun b o e => below b (Heap.lt_size e)
        exact ⟨fun b o e n hf hx => sb.extBut b o (nC b o e) (u.keep b o e n hf hx), fun b o e n hf hx => by
            obtain ⟨sl, z⟩ := u.slot b o e n hf hx
            exact ⟨sl, sb.extBut b _ (nC b o e) z⟩, u.free, fun b o e hx => by
            obtain ⟨o', z⟩ := u.there b o e hx
            exact ⟨o', sb.extBut b _ (nC b o e) z⟩, u.tups, u.frzs, u.tbls⟩
      have hok : HOk X.prog X.w H4 h' := fun b ob e => (I5.hok b ob e).stay (fun c v hcv z => sb.extBut c v (fun q => by
        rcases hcv with hcv | hcv
        · rw [← hcv, q] at e
          have := I5.free
          have this' : H4 G2.objs.size = none := this
          rw [e] at this'; cases this'
        · rw [q] at hcv
          have this' : H4 G2.objs.size = none := I5.free
          rw [hcv] at this'; cases this') z) (fun _ z => z) fun _ _ z => z
      have IE := I2.call (h' := h') (g' := gg) (d' := dd) (t' := tt) (ch := fp) un hok I5.bare fun b hb => ⟨(f2 b hb).2.2.2.1, (f2 b hb).2.1, (f2 b hb).2.2.2.2.1, (f2 b hb).2.2.2.2.2⟩
      exact ⟨.ref s2.heap.objs.size, H4, IE, rfl, qn⟩
    · refine thn (T.item (compCx X N scope G2.objs.size s2 H2 fp) rfl rfl rfl hcalm i [] s4 σ4 H4 (fun _ _ => False) I4 (stat fr4) st4 go) fun r s5 ⟨u, hr, h5⟩ => ?_
      subst hr
      refine thn h5 fun _ s6 ⟨x, H6, I6, r6, y6, st6, fr6⟩ => ?_
      have I6' := I6.pinned (stat fr6) (T.obj _ _ st6)
      refine thn (hg _ _ _ _ _ s6 σ4 H6 x u _ I6' r6 (step x H6 y6)) fun _ s7 ⟨σ7, H7, I7, q7⟩ => ?_
      refine thn (ht _ _ _ _ _ s7 σ7 H7 _ I7 q7) fun b s8 ⟨H8, I8, q8⟩ => ?_
      have again : ∀ {s9 : Shared} {H9 : Hp}, Inv (compCx X N scope G2.objs.size s2 H2 fp) ([] ++ pinsAt fp s6.heap) σ7 H9 s9 → (∃ m', m' < n ∧ W (i + 1) m' σ7 H9) → ∃ m, m < n ∧ ∃ i σ' H', Inv (compCx X N scope G2.objs.size s2 H2 fp) [] σ' H' s9 ∧ tn i s9.heap ∧ (∀ b ∈ fp, H' b = none) ∧ W i m σ' H' := fun {s9 H9} I9 ⟨m', hm, w9⟩ => by
        refine ⟨m', hm, i + 1, σ7, H9, I9.unpinned, T.keep _ _ _ st6 fun b hb o e => (I9.pin (b, o) (List.mem_append_right _ (List.mem_append_right _ (mem_pinsAt hb e)))).1, fun b hb => ?_, w9⟩
        obtain ⟨o, e, d⟩ := T.obj _ _ st6 b hb
        exact (I9.pin (b, o) (List.mem_append_right _ (List.mem_append_right _ (mem_pinsAt hb e)))).2.1
      cases b with
      | false =>
        rw [if_neg Bool.false_ne_true] at q8 ⊢
        exact again I8 q8
      | true =>
        rw [if_pos rfl] at q8 ⊢
        refine thn (he _ _ _ _ _ s8 σ7 H8 _ I8 q8) fun xv s9 ⟨xx, H9, I9, r9, q9⟩ => ?_
        refine thn (mt_append _ s9 σ7 H9 (.ref s2.heap.objs.size) [xx] (.ref s2.heap.objs.size) [xv] _ I9 rfl (.cons r9 .nil) q9) fun _ s10 ⟨_, H10, I10, _, q10⟩ => ?_
        exact again I10 q10
  exact codeAny_compStart_list (loop _ rfl) (T.self _ _ _ _ _ (T.keep 0 _ _ st2 fun b _ o e => old b o e) (loop _ rfl))
end L2
set_option Elab.async false
set_option linter.all false
set_option maxRecDepth 100000
namespace L2
open PySem PySem.Spec PyProof.Rows
theorem ObjOk.obj {P : Program} {w : World} {H : Hp} {h : Heap} {a : Addr} {o : HO} (x : ObjOk P w H h a o) : ∃ ob, h.get? a = some ob := by
  cases o with
  | lst xs => obtain ⟨_, _, _, _, e⟩ := x; exact ⟨_, e⟩
  | tup xs => obtain ⟨_, _, _, o, e, _⟩ := x; exact ⟨_, e⟩
  | dK kvs => obtain ⟨_, _, _, _, o, _, _, e, _⟩ := x; exact ⟨_, e⟩
  | dT kvs => obtain ⟨_, _, _, _, o, _, _, e, _⟩ := x; exact ⟨_, e⟩
  | set S n => obtain ⟨o, _, _, _, e, _⟩ := x; exact ⟨_, e⟩
  | ins C dx fs => obtain ⟨_, _, _, e, _⟩ := x; exact ⟨_, e⟩
  | own y => exact x
  | xd fs => obtain ⟨_, ⟨_, _, _, e, _⟩, _⟩ := x; exact ⟨_, e⟩
  | rng lo hi => obtain ⟨_, _, _, e⟩ := x; exact ⟨_, e⟩
  | frz ob u => obtain ⟨e, _⟩ := x; exact ⟨_, e⟩
  | tbl ps => exact ⟨_, (show h.get? a = some _ from x)⟩
  | met f y => exact ⟨_, (show h.get? a = some _ from x)⟩
  | ext φ => obtain ⟨_, e, _⟩ := x; exact e
def CXW (P : Program) (w : World) : CXT := fun outer H s E e s' => ∃ (a : Addr) (cls a0 : Value) (H' : Hp) (B : Heap), e = .ref a ∧ s'.os = s.os ∧ AllBare s'.gens ∧ Un (frs outer) [] H H' s.heap s'.heap ∧ HOk P w H' B ∧
  Heap.FlyingW B outer a cls a0 s'.heap ∧ (∀ b o, s.heap.get? b = some o → H b = none → b ∉ frs outer → B.get? b = some o) ∧ (∀ b o, s.heap.get? b = some o → b ∉ frs outer → ∃ o', B.get? b = some o') ∧ E cls none H'
theorem passN {P : Program} {w : World} {X : Cx} : Passes (CXW P w) X E0 := fun _ _ _ _ _ _ _ h => by
  obtain ⟨_, _, _, _, _, _, _, _, _, _, _, _, _, hE⟩ := h
  exact hE.elim
theorem mem_frs {env : Env} {L b : Addr} {outer : List Env} (hf : env.frame = some L) : b ∈ frs (env :: outer) ↔ b = L ∨ b ∈ frs outer := by
  unfold frs
  rw [List.filterMap_cons, hf]
  exact List.mem_cons
section
variable {P : Program} {w : World} {K : PySem.W.Frag} {mg : Str → Option Value} {base : Heap} {N : List Str} {qual : Str} {scope : Scope} {f : Addr} {cd : Value} {A : Around} {outer : List Env} {s : Shared} {H : Hp} {E : XK}
  {pins : List (Addr × Obj)} {σ : St} {H1 : Hp} {s1 : Shared}
theorem cxw_out (I : Inv (cxOf (CXW P w) P w K mg base N qual scope f cd A outer s H E) pins σ H1 s1) {a : Addr} {cls a0 : Value} {H' : Hp} {B : Heap} {s2 : Shared}
    (hos : s2.os = s1.os) (hb : AllBare s2.gens) (hokB : HOk P w H' B) (hfl : Heap.FlyingW B outer a cls a0 s2.heap)
    (keepB : ∀ b o, s1.heap.get? b = some o → H1 b = none → b ∉ frs (envOfC qual scope s.heap.objs.size f cd :: outer) → B.get? b = some o)
    (thereB : ∀ b o, s1.heap.get? b = some o → b ∉ frs (envOfC qual scope s.heap.objs.size f cd :: outer) → ∃ o', B.get? b = some o')
    (up : ∀ b o, s1.heap.get? b = some o → (∀ vs, o.data ≠ .fields vs) → b ∈ frs outer → H1 b = none → ∃ sl, s2.heap.get? b = some { o with slots := sl })
    (free1 : ∀ b o, s1.heap.get? b = some o → H1 b = none → H' b = none)
    (tups : ∀ b xs, H1 b = some (.tup xs) → H' b = some (.tup xs)) (frzs : ∀ b o u, H1 b = some (.frz o u) → H' b = some (.frz o u)) (tbls : ∀ b ps, H1 b = some (.tbl ps) → ∃ more, H' b = some (.tbl (ps ++ more)))
    (hE : E cls none H') : CXW P w outer H s E (.ref a) s2 := by
  have u := I.base
  have notL : ∀ b o, s.heap.get? b = some o → b ∉ frs outer → b ∉ frs (envOfC qual scope s.heap.objs.size f cd :: outer) := fun b o e nf z => by
    rcases (mem_frs (env := envOfC qual scope s.heap.objs.size f cd) rfl).mp z with q | q
    · rw [q] at e; exact absurd (Heap.lt_size e) (Nat.lt_irrefl _)
    · exact nf q
  have inB : ∀ b o, s.heap.get? b = some o → H b = none → b ∉ frs outer → B.get? b = some o := fun b o e n nf =>
    keepB b o (u.keep b o e n nf (by simp [cxOf])) (u.free b o e n (by simp [cxOf])) (notL b o e nf)
  have thB : ∀ b o, s.heap.get? b = some o → b ∉ frs outer → ∃ o', B.get? b = some o' := fun b o e nf => by
    obtain ⟨o1, e1⟩ := u.there b o e (by simp [cxOf])
    exact thereB b o1 e1 (notL b o e nf)
  have sl : ∀ b o, s.heap.get? b = some o → H b = none → b ∈ frs outer → ∃ sl, s2.heap.get? b = some { o with slots := sl } := fun b o e n hb => by
    obtain ⟨sl1, e1⟩ := u.slot b o e n hb (by simp [cxOf])
    obtain ⟨_, o', e', nf⟩ := I.ok.funs.mem hb
    have e'' : s.heap.get? b = some o' := e'
    rw [e] at e''; cases e''
    obtain ⟨sl2, e2⟩ := up b _ e1 nf hb (u.free b o e n (by simp [cxOf]))
    exact ⟨sl2, e2⟩
  refine ⟨a, cls, a0, H', B, rfl, hos.trans I.os, hb, ⟨fun b o e n nf _ => hfl.1 b o (inB b o e n nf), fun b o e n hb _ => sl b o e n hb, fun b o e n _ => ?_, fun b o e _ => ?_, fun b xs e => tups b xs (u.tups b xs e), fun b o x e => frzs b o x (u.frzs b o x e), fun b ps e => ?_⟩, hokB, hfl, inB, thB, hE⟩
  · obtain ⟨o1, e1⟩ := u.there b o e (by simp [cxOf])
    exact free1 b o1 e1 (u.free b o e n (by simp [cxOf]))
  · by_cases hb : b ∈ frs outer
    · obtain ⟨sl, q⟩ := sl b o e (I.ok.frf b hb) hb
      exact ⟨_, q⟩
    · obtain ⟨o', q⟩ := thB b o e hb
      exact ⟨o', hfl.1 b o' q⟩
  · obtain ⟨m1, e1⟩ := u.tbls b ps e
    obtain ⟨m2, e2⟩ := tbls b _ e1
    exact ⟨m1 ++ m2, by rw [e2, Array.append_assoc]⟩
theorem passW : Passes (CXW P w) (cxOf (CXW P w) P w K mg base N qual scope f cd A outer s H E) E := by
  intro pins σ H1 s1 e s' I hx
  obtain ⟨a, cls, a0, H', B, rfl, hos, hb, un, hokB, hfl, keepB, thereB, hE⟩ := hx
  show wpAny _ _ (leaving _ (.ref a)) _ _ s'
  refine wpAny_leaves_onW (L := s.heap.objs.size) I.ok.frames rfl hfl fun h'' hfl' hup => ?_
  refine cxw_out I (s2 := { s' with heap := h'' }) hos hb hokB hfl' keepB thereB (fun b o e nf hb n => ?_) (fun b o e n => un.free b o e n (by simp)) un.tups un.frzs un.tbls hE
  obtain ⟨sl, e1⟩ := un.slot b o e n ((mem_frs (env := envOfC qual scope s.heap.objs.size f cd) rfl).mpr (.inr hb)) (by simp)
  obtain ⟨sl2, e2⟩ := hup b _ e1 nf
  exact ⟨sl2, e2⟩
theorem madeW (I : Inv (cxOf (CXW P w) P w K mg base N qual scope f cd A outer s H E) pins σ H1 s1) {h' : Heap} {a : Addr} {cls : Value} {vs : List Value} (hx : Heap.MadeExcOf s1.heap h' a cls vs) (hE : E cls none H1) :
    (cxOf (CXW P w) P w K mg base N qual scope f cd A outer s H E).xe (.ref a) { s1 with heap := h' } := by
  have hin : ∀ env ∈ (envOfC qual scope s.heap.objs.size f cd :: outer), ∀ b, env.frame = some b → b ∈ frs (envOfC qual scope s.heap.objs.size f cd :: outer) := fun env he b hb => List.mem_filterMap.mpr ⟨env, he, hb⟩
  have stk : s1.heap.FunFrames base (envOfC qual scope s.heap.objs.size f cd :: outer) := I.stack
  have fr0 : ∀ b, b ∈ frs (envOfC qual scope s.heap.objs.size f cd :: outer) → H1 b = none := I.stkFree
  show wpAny _ _ (leaving _ (.ref a)) _ _ _
  refine wpAny_leaves_madeW (base := PySem.W.hideAll s1.heap (frs (envOfC qual scope s.heap.objs.size f cd :: outer))) (h := s1.heap) (L := s.heap.objs.size) (s := { s1 with heap := h' }) I.ok.frames rfl (fun b o q => PySem.W.of_hideAll _ q) (PySem.W.funFrames_hide stk hin) hx fun h'' t x1 x2 x3 x4 => ?_
  have hg : ∀ b o, s1.heap.get? b = some o → b ∉ frs (envOfC qual scope s.heap.objs.size f cd :: outer) → (PySem.W.hideAll s1.heap (frs (envOfC qual scope s.heap.objs.size f cd :: outer))).get? b = some o := fun b o e nf => PySem.W.hideAll_get _ e nf
  refine cxw_out I (s2 := { s1 with heap := h'' }) (H' := H1) rfl I.bare (fun b ob e => (I.hok b ob e).stay (fun c v hcv z => hg c v z fun q => ?_) (fun _ z => z) fun _ _ z => z) x1 (fun b o e _ nf => hg b o e nf) (fun b o e nf => ⟨o, hg b o e nf⟩) (fun b o e nf hb n => ?_) (fun _ _ _ n => n) (fun _ _ e => e) (fun _ _ _ e => e) (fun b ps e => ⟨#[], by rw [e]; simp⟩) hE
  · have z := fr0 c q
    rcases hcv with r | r
    · rw [← r, z] at e; cases e
    · rw [z] at r; cases r
  · exact x4 b o (hx.keeps b o e) nf
end
theorem exc_obj {K : PySem.W.Frag} {h : Heap} {C : Addr} {bmB : List Value} {newId : String} (X : K.In h) (q : PySem.W.excIn K C bmB newId = true) :
    ∃ bm N nm qn bs hdct sn sub ab col dd k0 k1 k2 k3 k5 mN, h.get? C = some (excClassObj nm qn C N bs bm hdct sn sub ab col dd k0 k1 k2 k3 k5 newId) ∧ h.Ns N mN ∧ mN "__init__" = none ∧ OwnTail h bmB bm := by
  unfold PySem.W.excIn at q
  split at q
  · rename_i dd cd sl ho
    split at q
    · rename_i C' bm k0 k1 k2 k3 n k5 hm hs
      simp only [Bool.and_eq_true, beq_iff_eq, Bool.not_eq_true'] at q
      obtain ⟨⟨⟨⟨⟨rfl, rfl⟩, hdel⟩, ht⟩, hok⟩, hni⟩ := q
      obtain ⟨nm, bs, mro, ns, qn, hd, sn, sub, ab, col, del⟩ := cd
      dsimp only at hm hdel hok hni
      subst hm hdel
      have hsl : sl = #[k0, k1, k2, k3, some (.builtin n), k5] := by
        obtain ⟨l⟩ := sl
        simp only at hs
        rw [hs]
      subst hsl
      exact ⟨bm, ns, nm, qn, bs, hd, sn, sub, ab, col, dd, k0, k1, k2, k3, k5, _, X _ _ ho, .of_isNs (PySem.W.isNs_of_in X hok), PySem.W.nsMap_none_of_in X hok hni, PySem.W.tail_of_in X ht⟩
    · cases q
  · cases q
def tRaise (E : XK) (C : Addr) : TS := fun _ _ H => E (.ref C) none H
theorem ps_raise {P : Program} {w : World} {K : PySem.W.Frag} {mg : Str → Option Value} {base : Heap} {N : List Str} {qual : Str} {scope : Scope} {f : Addr} {cd : Value} {A : Around} {outer : List Env} {s : Shared} {H : Hp} {E : XK}
    {x msg : Str} {C : Addr} {B newId initId : String} {bmB : List Value} {np cpos pos p3 : Pos} {j : Nat} (FB : ExcBaseFacts B newId initId bmB) (q : PySem.W.excIn K C bmB newId = true)
    (hm : mg x = some (.ref C)) (hg : Gl (cxOf (CXW P w) P w K mg base N qual scope f cd A outer s H E) x) (hd : (x == ("__debug__" : Str)) = false := by decide) :
    PS (cxOf (CXW P w) P w K mg base N qual scope f cd A outer s H E) (.Raise (some (.Call (.Name x np) [.Constant (.str msg) j p3] [] cpos)) none pos) (tRaise E C) := by
  intro pins s1 σ H1 D I h
  obtain ⟨bm, Nn, nm, qn, bs, hdct, sn, sub, ab, col, dd, k0, k1, k2, k3, k5, mN, hC, hN, hni, T⟩ := exc_obj I.ok.mod.kin q
  refine wpAny_Raise_call_subT (C := C) (nm := nm) (q := qn) (N := Nn) (bs := bs) (bm := bm) (hdct := hdct) (sn := sn) (sub := sub) (ab := ab) (col := col) (dd := dd) (k0 := k0) (k1 := k1) (k2 := k2) (k3 := k3) (k5 := k5)
    FB (mN := mN) (T.hasType FB.hasBase) (I.ok.hd rfl) rfl hni (ld_glob I hg hm ⟨rfl, ?_⟩ hd)
  have ha : PA (cxOf (CXW P w) P w K mg base N qual scope f cd A outer s H E) [.Constant (.str msg) j p3] (tCons (tC (.str msg)) tNil) := pa_cons pe_str pa_nil
  have hw := ha cpos pins s1 σ H1 (fun vs H2 => vs.length = 1 ∧ H2 = H1) I ⟨rfl, rfl⟩
  refine Calls.evalArgs_plain (thn hw fun us s2 ⟨vs, H2, I2, r, hl, e2⟩ => ?_)
  subst e2
  refine ⟨rfl, ?_, I2.bk _ _ hC, hN.keeps I2.bk, T.keeps I2.bk, fun h' e hx => madeW I2 hx h⟩
  show us.length ≤ sizeLine
  rw [← r.length, hl]; decide
section
variable {P : Program} {w : World} {K : PySem.W.Frag} {mg : Str → Option Value} {base : Heap}
theorem Fun.okX {x qual : Str} {st : Stmt} {f : Addr} {fd : FuncData} {N ps : List Str} {k : Nat} {sp : Sp} (F : Fun K x qual st f fd) (S : FnScope N ps (defScope st)) (len : ∀ vs H Q E, sp vs H Q E → vs.length = ps.length)
    (hbody : ∀ (cdv : Value) (A : Around) (outer : List Env) (s : Shared) (H : Hp) (vs : List V) (Q : VK) (E : XK), Room k (A.deeper (envOfC qual (defScope st) s.heap.objs.size f cdv)) → sp vs H Q E →
      ∃ t, PSs (cxOf (CXW P w) P w K mg base N qual (defScope st) f cdv A outer s H E) (defBody st) t ∧ t { nx := fun _ H' => Q .non H', rt := Q } (start N vs) H) : FnOk P w K mg base (CXW P w) (k + 1) f fd ps sp := by
  obtain ⟨oc, od, kV, doc, pm, an, cdv, ct, osl, rfl, lk, hcd⟩ := F.ex
  exact fn_of lk hcd S len fun A outer s H vs Q E hr hsp => hbody cdv A outer s H vs Q E hr hsp
theorem Fun.okN {x qual : Str} {st : Stmt} {f : Addr} {fd : FuncData} {N ps : List Str} {k : Nat} {sp : Sp} (F : Fun K x qual st f fd) (S : FnScope N ps (defScope st)) (len : ∀ vs H Q E, sp vs H Q E → vs.length = ps.length)
    (hbody : ∀ (cdv : Value) (A : Around) (outer : List Env) (s : Shared) (H : Hp) (vs : List V) (Q : VK) (E : XK), Room k (A.deeper (envOfC qual (defScope st) s.heap.objs.size f cdv)) → sp vs H Q E →
      ∃ t, PSs (cxOf (CXW P w) P w K mg base N qual (defScope st) f cdv A outer s H E).nox (defBody st) t ∧ t { nx := fun _ H' => Q .non H', rt := Q } (start N vs) H) : FnOk P w K mg base (CXW P w) (k + 1) f fd ps sp :=
  F.okX S len fun cdv A outer s H vs Q E hr hsp => by
    obtain ⟨t, h, q⟩ := hbody cdv A outer s H vs Q E hr hsp
    exact ⟨t, h.nox, q⟩
end
end L2
set_option Elab.async false
set_option linter.all false
set_option maxRecDepth 100000
namespace L2
open PySem PySem.Spec PyProof.Rows PySem.W
structure ExcC (K : Frag) (C : Addr) : Prop where
  ga : findIn K (.ref C) "__getattribute__" = some (some (.builtin "BaseException.__getattribute__"))
  gt : findIn K (.ref C) "__getattr__" = some none
  ca : findIn K (.ref C) "__class__" = some (some (.builtin "object.__class__"))
  ob : mroIn K C (.type "object") = some true
  be : mroIn K C (.type "BaseException") = some true
  ty : typeIn K (.ref C) = some (.type "type")
theorem ExcC.cls {K : Frag} {C : Addr} (T : ExcC K C) : (clsIn K C).isSome = true := by
  have h := T.ob
  unfold mroIn at h
  cases e : clsIn K C with
  | none => rw [e] at h; cases h
  | some cd => rfl
def ExcAt (a C : Addr) (h : Heap) : Prop := ∃ o vs, h.get? a = some o ∧ o.cls = .ref C ∧ o.data = .fields vs
section
variable {prog : Program} {w : World} {A : Around} {E : Value → Shared → Prop} {h : Heap} {g : Array GenState} {d : Drawn} {t : Nat} {os : OsState} {a C : Addr} {o : Obj} {K : Frag}
theorem exc_class_get {R : Result → Shared → Prop} (X : K.In h) (T : ExcC K C) (hx : h.get? a = some o) (hc : o.cls = .ref C) (hq : R (.ok (.ret (.ref C))) ⟨h, g, d, t, os⟩) :
    codeAny (model prog w) A (.call (.builtin "getset_descriptor.__get__") ⟨[.builtin "object.__class__", .ref a, .ref C], []⟩) R ⟨h, g, d, t, os⟩ := by
  have hT5 : (⟨h, g, d, t, os⟩ : Shared).TypeIs (.builtin "object.__class__") "getset_descriptor" := F.typeOf_object_class
  have L1 := looks_mroIn (M := model prog w) X T.ob
  refine codeAny_call_builtin F.slot_gs_get.plain F.entry_gs_get (F.slot_gs_get.check _ _ _ _ _ _ _ _ hT5 (F.args_gs_get _ _ _) ?_)
  repeat (any_goals (first | assumption | (with_reducible refine wpAny_loadPart_at hx ?_; rw [hc]) | (rw [F.owner_object_class]; with_reducible refine L1.at ?_) | wp_step))
  refine ⟨Code.quiet_builtin _ (by decide +kernel), codeAny_builtin F.entry_object_class ?_⟩
  repeat (any_goals (first | assumption | (with_reducible refine wpAny_loadPart_at hx ?_; rw [hc]) | wp_step))
theorem exc_class_entry {tk : Tok} {Q : Fin → Shared → Prop} (X : K.In h) (T : ExcC K C) (hx : h.get? a = some o) (hc : o.cls = .ref C) (hq : Q (.done (.ret (.ref C))) ⟨h, g, d, t, os⟩) :
    wpAny (model prog w) A (Builtin.«object.__getattribute__» ⟨[.ref a, .str "__class__" tk], []⟩) Q E ⟨h, g, d, t, os⟩ := by
  have hT5 : (⟨h, g, d, t, os⟩ : Shared).TypeIs (.builtin "object.__class__") "getset_descriptor" := F.typeOf_object_class
  have f5 := F.typeOf_object_class
  have f6 := F.slot_gs_get.lookup
  have f7 := F.slot_gs_set.lookup
  have L1 := looks_findIn (M := model prog w) X T.ca
  repeat (any_goals (first | assumption | (with_reducible refine wpAny_loadPart_at hx ?_; rw [hc]) | with_reducible refine L1.at ?_ | wp_step))
  refine exc_class_get X T hx hc ?_
  repeat (any_goals (first | assumption | wp_step))
theorem exc_check_ga {M : Model} {nameV : Value} {Q : Unit → Shared → Prop} (X : K.In h) (T : ExcC K C) (hx : h.get? a = some o) (hc : o.cls = .ref C) (hq : Q () ⟨h, g, d, t, os⟩) :
    wpAny M A (checkBuiltinCall "BaseException.__getattribute__" ⟨[.ref a, nameV], []⟩) Q E ⟨h, g, d, t, os⟩ := by
  have hk : builtinKind "BaseException.__getattribute__" = some .slot := by decide +kernel
  have hsplit : splitId "BaseException.__getattribute__" = some ("BaseException", "__getattribute__") := by decide +kernel
  have ha := F.args_bexc_ga (.ref a) nameV
  have L1 := looks_mroIn (M := M) X T.be
  simp only [checkBuiltinCall, hk, hsplit]
  refine wpAny_bind ?_
  · unfold isInstance
    repeat (first | (with_reducible refine wpAny_loadPart_at hx ?_; rw [hc]) | with_reducible refine L1.at ?_ | wp_step)
    exact hq
theorem exc_class_by {tk : Tok} {Q : Value → Shared → Prop} (X : K.In h) (T : ExcC K C) (hx : h.get? a = some o) (hc : o.cls = .ref C) (hq : Q (.ref C) ⟨h, g, d, t, os⟩) :
    wpAny (model prog w) A (getAttrBy (.ref a) (.str "__class__" tk) false) Q E ⟨h, g, d, t, os⟩ := by
  have FB := PySem.F.attrBase_ValueError
  have f3 := FB.ga.bind (.ref a)
  have hx0 : (false && onTheHeap (Value.builtin "BaseException.__getattribute__")) = false := rfl
  have hx2 : (Value.builtin "BaseException.__getattribute__" == Value.builtin "object.__getattribute__") = false := by decide +kernel
  have hx1 : (onTheHeap (Value.ref C) && Value.builtin "BaseException.__getattribute__" == Value.builtin "object.__getattribute__") = false := by rw [hx2]; rfl
  have L1 := looks_findIn (M := model prog w) X T.ga
  have L2 := looks_findIn (M := model prog w) X T.gt
  repeat (any_goals (first | assumption | (with_reducible refine wpAny_loadPart_at hx ?_; rw [hc]) | with_reducible refine L1.at ?_ | with_reducible refine L2.at ?_ | wp_step))
  refine codeAny_call_builtin FB.ga.plain F.entry_bexc_ga (exc_check_ga X T hx hc (exc_class_entry X T hx hc ?_))
  repeat (any_goals (first | assumption | wp_step))
theorem exc_class_attr {Q : Option Value → Shared → Prop} (X : K.In h) (T : ExcC K C) (hx : h.get? a = some o) (hc : o.cls = .ref C) (hq : Q (some (.ref C)) ⟨h, g, d, t + 1, os⟩) :
    wpAny (model prog w) A (getAttr? (.ref a) "__class__") Q E ⟨h, g, d, t, os⟩ := by
  unfold getAttr? getAttrBy?
  repeat (any_goals (first | assumption | with_reducible apply exc_class_by X T hx hc | wp_step))
end
theorem kitx_exc {K : Frag} {a C : Addr} (T : ExcC K C) : KitX K (.ref a) (.ref C) (ExcAt a C) where
  ty := fun M h _ p => by
    obtain ⟨o, vs, h1, h2, _⟩ := p
    exact h2 ▸ (Looks.ld h1).andThen .now
  it := fun _ _ X _ => by
    obtain ⟨cdD, hcD⟩ := Option.isSome_iff_exists.mp T.cls
    unfold clsIn at hcD
    split at hcD
    · rename_i c' d' cd' sl' ho
      intro A' Q' E' s' k q
      unfold isType loadHead
      exact wpAny_bind (wpAny_loadPart (k _ _ (X _ _ ho)) (wpAny_pure q))
    · cases hcD
  ne := fun h tp dd its n sl X htp => by
    obtain ⟨cdD, hcD⟩ := Option.isSome_iff_exists.mp T.cls
    refine Bool.eq_false_iff.mpr fun q => ?_
    have e : C = tp := Value.ref.inj (beq_iff_eq.mp q)
    subst e
    unfold clsIn at hcD
    split at hcD
    · rename_i c' d' cd' sl' ho
      have z := (X _ _ ho).symm.trans htp
      cases z
    · cases hcD
  ca := fun {_ _ _ _ _ s} X p k => by
    obtain ⟨o, vs, h1, h2, _⟩ := p
    obtain ⟨hh, g, d, t, os⟩ := s
    exact exc_class_attr X T h1 h2 k
def excO (a C : Addr) : HO := .ext (ExcAt a C)
inductive TyX (K : Frag) (H : Hp) : V → Value → Prop where
  | of {x : V} {t : Value} (h : TyOf K H x t) : TyX K H x t
  | exc {a C : Addr} (T : ExcC K C) (e : H a = some (excO a C)) : TyX K H (.ref a) (.ref C)
theorem isinst_x {X : Cx} {pins : List (Addr × Obj)} {σ : St} {H : Hp} {s : Shared} {A : Around} {E : Value → Shared → Prop} {Q : Value → Shared → Prop} {c : Value} {b : Bool} {x : V} {u t : Value} (I : Inv X pins σ H s) (rx : RelV x u) (ty : TyX X.K H x t)
    (e : kitOne X.K t c = some b) (h : ∀ tk, Q (.bool b) { s with toks := tk }) : wpAny (model X.prog X.w) A (call (.builtin "isinstance") [u, c]) Q E s := by
  cases ty with
  | of ty => exact isinst_ok I rx ty e h
  | @exc a C T ea =>
    cases (show u = Value.ref a from rx)
    obtain ⟨p, _, _⟩ := (show ObjOk X.prog X.w H s.heap a (excO a C) from I.hok a _ ea)
    exact kia_one (kitx_exc T) I.kIn p e (fun z => nomatch z) h
def clsV : V → Option Value
  | .ref a => some (.ref a)
  | .ty n => some (.type n)
  | _ => none
theorem clsV_rel {x : V} {c u : Value} (h : clsV x = some c) (r : RelV x u) : u = c := by
  cases x with
  | ref a => cases h; exact r
  | ty n => cases h; exact r
  | _ => cases h
def rIsi (K : Frag) : List V → Hp → VK → Prop := fun xs H Q => ∃ x t vc c b, xs = [x, vc] ∧ TyX K H x t ∧ clsV vc = some c ∧ kitOne K t c = some b ∧ Q (.bl b) H
theorem call_isi {X : Cx} : CallR X (.builtin "isinstance") (rIsi X.K) := by
  intro pins s σ H xs us Q I rv h
  obtain ⟨x, t, vc, c, b, rfl, ty, rc, e, q⟩ := h
  obtain ⟨u, v, rfl, r1, r2⟩ := rv.two
  rw [clsV_rel rc r2]
  exact isinst_x I r1 ty e fun tk => ⟨.bl b, H, I.tok _, rfl, q⟩
end L2
set_option Elab.async false
set_option linter.all false
set_option maxRecDepth 100000
namespace L2
open PySem PySem.Spec PyProof.Rows PySem.W
section
variable {X : Cx} {CX : CXT} {k : Nat} {f : Addr} {fd : FuncData} {ps : List Str} {sp : Sp} {dvs : List V} {ds : List Value} {E : XK} {x : Str} {p pos : Pos} {e : Expr} {es : List Expr} {te : TE} {t : TA} {pins : List (Addr × Obj)} {σ : St} {ta tb : TS}
end
abbrev hdCx (X : Cx) (a : Addr) : Cx := { X with A := X.A.mark (some (.ref a)), calm := false, xe := fun _ _ => False }
theorem Inv.hd {X : Cx} {pins : List (Addr × Obj)} {σ : St} {H : Hp} {s : Shared} {a : Addr} (I : Inv X pins σ H s) : Inv (hdCx X a) pins σ H s :=
  ⟨⟨I.ok.mod, I.ok.kind, I.ok.glob, I.ok.blt, I.ok.above, I.ok.inj, I.ok.has, I.ok.cab, fun z => Bool.noConfusion z, I.ok.frames, I.ok.stk, I.ok.exf, I.ok.bs, I.ok.bsz, I.ok.noex, I.ok.exfs, I.ok.funs, I.ok.frf⟩, I.os, I.bare, I.base, I.loc, I.cell, I.free, I.freeC, I.pin, I.hok, I.len⟩
end L2
set_option Elab.async false
set_option linter.all false
set_option maxRecDepth 100000
namespace L2
open PySem PySem.Spec PyProof.Rows PySem.W
inductive DV where
  | non | bl (b : Bool) | int (i : Int) | str (x : Str) | lst (xs : List DV) | tup (xs : List DV)
mutual
def eqD : DV → DV → Bool
  | .non, .non => true
  | .bl a, .bl b => a == b
  | .bl a, .int b => (if a then 1 else 0) == b
  | .int a, .bl b => a == (if b then 1 else 0)
  | .int a, .int b => a == b
  | .str a, .str b => a == b
  | .lst a, .lst b => eqDs a b
  | .tup a, .tup b => eqDs a b
  | _, _ => false
def eqDs : List DV → List DV → Bool
  | [], [] => true
  | a :: r, b :: t => eqD a b && eqDs r t
  | _, _ => false
end
mutual
def ht : DV → Nat
  | .lst xs => hts xs + 1
  | .tup xs => hts xs + 1
  | _ => 0
def hts : List DV → Nat
  | [] => 0
  | a :: r => max (ht a) (hts r)
end
theorem ht_lst (ds : List DV) : ht (.lst ds) = hts ds + 1 := by unfold ht; rfl
theorem ht_tup (ds : List DV) : ht (.tup ds) = hts ds + 1 := by unfold ht; rfl
mutual
inductive Deep (K : Frag) (H : Hp) : V → DV → Prop where
  | non : Deep K H .non .non
  | bl (b : Bool) : Deep K H (.bl b) (.bl b)
  | int (i : Int) : Deep K H (.int i) (.int i)
  | str (x : Str) : Deep K H (.str x) (.str x)
  | lst {a : Addr} {xs : List V} {ds : List DV} (h : SqL K H a xs) (t : Deeps K H xs ds) : Deep K H (.ref a) (.lst ds)
  | tup {a : Addr} {xs : List V} {ds : List DV} (h : SqT K H a xs) (t : Deeps K H xs ds) : Deep K H (.ref a) (.tup ds)
inductive Deeps (K : Frag) (H : Hp) : List V → List DV → Prop where
  | nil : Deeps K H [] []
  | cons {x : V} {d : DV} {xs : List V} {ds : List DV} (h : Deep K H x d) (t : Deeps K H xs ds) : Deeps K H (x :: xs) (d :: ds)
end
theorem Deeps.length {K : Frag} {H : Hp} : ∀ {xs : List V} {ds : List DV}, Deeps K H xs ds → xs.length = ds.length
  | _, _, .nil => rfl
  | _, _, .cons _ t => by rw [List.length_cons, List.length_cons, Deeps.length t]
theorem Deeps.get {K : Frag} {H : Hp} : ∀ {xs : List V} {ds : List DV} {i : Nat} {d : DV}, Deeps K H xs ds → ds[i]? = some d → ∃ x, xs[i]? = some x ∧ Deep K H x d
  | _, _, _, _, .nil, e => by simp at e
  | _, _, 0, _, .cons h _, e => by simp at e; subst e; exact ⟨_, rfl, h⟩
  | _, _, i + 1, d, .cons _ t, e => by
    obtain ⟨x, h1, h2⟩ := Deeps.get (i := i) (d := d) t (by simpa using e)
    exact ⟨x, by simpa using h1, h2⟩
theorem Deeps.ints {K : Frag} {H : Hp} : ∀ ns : List Int, Deeps K H (ns.map V.int) (ns.map DV.int)
  | [] => .nil
  | n :: r => .cons (.int n) (Deeps.ints r)
theorem eqDs_len : ∀ {a b : List DV}, eqDs a b = true → a.length = b.length
  | [], [], _ => rfl
  | a :: r, b :: t, h => by
    unfold eqDs at h
    rw [Bool.and_eq_true] at h
    rw [List.length_cons, List.length_cons, eqDs_len h.2]
  | [], _ :: _, h => by unfold eqDs at h; cases h
  | _ :: _, [], h => by unfold eqDs at h; cases h
def eAt (ds es : List DV) (j : Nat) : Bool := match ds[j]?, es[j]? with
  | some d, some e => eqD d e
  | _, _ => true
theorem all_eAt : ∀ (ds es : List DV), ds.length = es.length → (List.range ds.length).all (eAt ds es) = eqDs ds es
  | [], [], _ => by unfold eqDs; rfl
  | d :: r, e :: t, h => by
    have ih := all_eAt r t (by simpa using h)
    rw [List.length_cons, List.range_succ_eq_map, List.all_cons, List.all_map]
    unfold eqDs
    rw [← ih]
    congr 1
  | [], _ :: _, h => by cases h
  | _ :: _, [], h => by cases h
theorem all_eAt_min : ∀ (ds es : List DV), ((List.range (min ds.length es.length)).all (eAt ds es) && ds.length == es.length) = eqDs ds es := fun ds es => by
  by_cases h : ds.length = es.length
  · rw [h, Nat.min_self, ← h, all_eAt ds es h]; simp
  · have h1 : (ds.length == es.length) = false := by simpa using h
    rw [h1, Bool.and_false]
    cases q : eqDs ds es with
    | false => rfl
    | true => exact absurd (eqDs_len q) h
theorem hts_get : ∀ {ds : List DV} {i : Nat} {d : DV}, ds[i]? = some d → ht d ≤ hts ds
  | [], _, _, e => by simp at e
  | a :: r, 0, d, e => by simp at e; subst e; unfold hts; exact Nat.le_max_left _ _
  | a :: r, i + 1, d, e => by
    have := hts_get (ds := r) (i := i) (d := d) (by simpa using e)
    unfold hts; exact Nat.le_trans this (Nat.le_max_right _ _)
section
variable {X : Cx} {pins : List (Addr × Obj)} {σ : St} {H : Hp} {s : Shared}
theorem lt_ne {a : Addr} {xs ys : List V} (I : Inv X pins σ H s) (h1 : SqL X.K H a xs) (h2 : SqT X.K H a ys) : False := by
  obtain ⟨its, _, p, _⟩ := I.list h1
  obtain ⟨its2, _, q, _⟩ := I.tuple h2
  exact SeqAt.ne_of_list_tuple p.isList (show s.heap.IsTuple a its2.toArray from q) rfl
mutual
theorem Deep.inj (I : Inv X pins σ H s) : ∀ {d : DV} {x : V} {e : DV}, Deep X.K H x d → Deep X.K H x e → d = e
  | .non, _, _, .non, h => by cases h; rfl
  | .bl b, _, _, .bl _, h => by cases h; rfl
  | .int b, _, _, .int _, h => by cases h; rfl
  | .str b, _, _, .str _, h => by cases h; rfl
  | .lst ds, _, _, .lst h t, h' => by
    cases h' with
    | lst h2 t2 =>
      have e := I.list_inj h h2
      subst e
      rw [Deeps.inj I t t2]
    | tup h2 t2 => exact (lt_ne I h h2).elim
  | .tup ds, _, _, .tup h t, h' => by
    cases h' with
    | tup h2 t2 =>
      have e := I.tuple_inj h h2
      subst e
      rw [Deeps.inj I t t2]
    | lst h2 t2 => exact (lt_ne I h2 h).elim
theorem Deeps.inj (I : Inv X pins σ H s) : ∀ {ds : List DV} {xs : List V} {es : List DV}, Deeps X.K H xs ds → Deeps X.K H xs es → ds = es
  | [], _, _, .nil, h => by cases h; rfl
  | d :: ds, _, _, .cons h t, h' => by
    cases h' with
    | cons h2 t2 => rw [Deep.inj I h h2, Deeps.inj I t t2]
end
mutual
theorem eqD_refl : ∀ d : DV, eqD d d = true
  | .non => by unfold eqD; rfl
  | .bl b => by unfold eqD; simp
  | .int b => by unfold eqD; simp
  | .str b => by unfold eqD; simp
  | .lst ds => by unfold eqD; exact eqDs_refl ds
  | .tup ds => by unfold eqD; exact eqDs_refl ds
theorem eqDs_refl : ∀ ds : List DV, eqDs ds ds = true
  | [] => by unfold eqDs; rfl
  | d :: r => by unfold eqDs; rw [eqD_refl d, eqDs_refl r]; rfl
end
theorem items_eq {A : Around} {xs ys : List V} {us vs : List Value} {ds es : List DV} (rx : Vals xs us) (ry : Vals ys vs) (t1 : Deeps X.K H xs ds) (t2 : Deeps X.K H ys es)
    (ih : ∀ d ∈ ds, ∀ (e : DV) (x y : V) (u v : Value), Deep X.K H x d → Deep X.K H y e → RelV x u → RelV y v → SeqAt.EqAt A s u v (eqD d e)) (j : Nat) (h1 : j < us.toArray.size) (h2 : j < vs.toArray.size) :
    SeqAt.EqAt A s us.toArray[j] vs.toArray[j] (eAt ds es j) := by
  have l1 := rx.length
  have l2 := ry.length
  have m1 := t1.length
  have m2 := t2.length
  simp only [List.size_toArray] at h1 h2
  have g1 : ds[j]? = some ds[j] := List.getElem?_eq_getElem (by omega)
  have g2 : es[j]? = some es[j] := List.getElem?_eq_getElem (by omega)
  obtain ⟨x, ex, dx⟩ := t1.get g1
  obtain ⟨y, ey, dy⟩ := t2.get g2
  obtain ⟨u, eu, ru⟩ := rx.get ex
  obtain ⟨v, ev, rv⟩ := ry.get ey
  have e1 : us.toArray[j] = u := by
    rw [List.getElem_toArray]
    exact Option.some.inj ((List.getElem?_eq_getElem h1).symm.trans eu)
  have e2 : vs.toArray[j] = v := by
    rw [List.getElem_toArray]
    exact Option.some.inj ((List.getElem?_eq_getElem h2).symm.trans ev)
  have e3 : eAt ds es j = eqD ds[j] es[j] := by unfold eAt; rw [g1, g2]
  rw [e1, e2, e3]
  exact ih _ (List.getElem_mem _) _ x y u v dx dy ru rv
theorem rc_deep (I : Inv X pins σ H s) {A : Around} (d e : DV) (x y : V) (u v : Value) (hx : Deep X.K H x d) (hy : Deep X.K H y e) (rx : RelV x u) (ry : RelV y v) (hu : A.units < cLine)
    (ih : ∀ (d' : DV), ht d' < ht d → ∀ (e : DV) (x y : V) (u v : Value), Deep X.K H x d' → Deep X.K H y e → RelV x u → RelV y v → SeqAt.EqAt A.in1 s u v (eqD d' e)) : SeqAt.RcAt A s u v (eqD d e) := by
  have hlt : ∀ {ds : List DV} {d' : DV}, d' ∈ ds → ht d' < hts ds + 1 := fun {ds d'} hm => by
    obtain ⟨i, hi, e⟩ := List.getElem_of_mem hm
    exact Nat.lt_succ_of_le (hts_get (i := i) (by rw [List.getElem?_eq_getElem hi, e]))
  cases hx with
  | non =>
    cases (show u = Value.none from rx)
    cases hy with
    | non => cases (show v = Value.none from ry); unfold eqD; exact SeqAt.RcAt.none_none
    | bl b => cases (show v = Value.bool b from ry); unfold eqD; exact SeqAt.RcAt.none_bool b
    | int b => obtain ⟨t, rfl⟩ := ry; unfold eqD; exact SeqAt.RcAt.none_int b t
    | str b => obtain ⟨t, rfl⟩ := ry; unfold eqD; exact SeqAt.RcAt.none_str b t
    | lst h t => cases ry; obtain ⟨its, r, p, _⟩ := I.list h; unfold eqD; exact SeqAt.RcAt.none_list p.isList hu
    | tup h t => cases ry; obtain ⟨its, r, p, _⟩ := I.tuple h; unfold eqD; exact SeqAt.RcAt.none_tuple (show s.heap.IsTuple _ its.toArray from p) hu
  | bl a =>
    cases (show u = Value.bool a from rx)
    cases hy with
    | non => cases (show v = Value.none from ry); unfold eqD; exact SeqAt.RcAt.bool_none a
    | bl b => cases (show v = Value.bool b from ry); unfold eqD; exact SeqAt.RcAt.bool_bool a b
    | int b => obtain ⟨t, rfl⟩ := ry; unfold eqD; exact SeqAt.RcAt.bool_int a b t
    | str b => obtain ⟨t, rfl⟩ := ry; unfold eqD; exact SeqAt.RcAt.bool_str a b t
    | lst h t => cases ry; obtain ⟨its, r, p, _⟩ := I.list h; unfold eqD; exact SeqAt.RcAt.bool_list a p.isList hu
    | tup h t => cases ry; obtain ⟨its, r, p, _⟩ := I.tuple h; unfold eqD; exact SeqAt.RcAt.bool_tuple a (show s.heap.IsTuple _ its.toArray from p) hu
  | int a =>
    obtain ⟨t', rfl⟩ := rx
    cases hy with
    | non => cases (show v = Value.none from ry); unfold eqD; exact SeqAt.RcAt.int_none a t'
    | bl b => cases (show v = Value.bool b from ry); unfold eqD; exact SeqAt.RcAt.int_bool a t' b
    | int b => obtain ⟨t, rfl⟩ := ry; unfold eqD; exact SeqAt.RcAt.int_int a t' b t
    | str b => obtain ⟨t, rfl⟩ := ry; unfold eqD; exact SeqAt.RcAt.int_str a t' b t
    | lst h t => cases ry; obtain ⟨its, r, p, _⟩ := I.list h; unfold eqD; exact SeqAt.RcAt.int_list a t' p.isList hu
    | tup h t => cases ry; obtain ⟨its, r, p, _⟩ := I.tuple h; unfold eqD; exact SeqAt.RcAt.int_tuple a t' (show s.heap.IsTuple _ its.toArray from p) hu
  | str a =>
    obtain ⟨t', rfl⟩ := rx
    cases hy with
    | non => cases (show v = Value.none from ry); unfold eqD; exact SeqAt.RcAt.str_none a t'
    | bl b => cases (show v = Value.bool b from ry); unfold eqD; exact SeqAt.RcAt.str_bool a t' b
    | int b => obtain ⟨t, rfl⟩ := ry; unfold eqD; exact SeqAt.RcAt.str_int a t' b t
    | str b => obtain ⟨t, rfl⟩ := ry; unfold eqD; exact SeqAt.RcAt.str_str a t' b t
    | lst h t => cases ry; obtain ⟨its, r, p, _⟩ := I.list h; unfold eqD; exact SeqAt.RcAt.str_list a t' p.isList hu
    | tup h t => cases ry; obtain ⟨its, r, p, _⟩ := I.tuple h; unfold eqD; exact SeqAt.RcAt.str_tuple a t' (show s.heap.IsTuple _ its.toArray from p) hu
  | @lst a xs ds h t1 =>
    cases rx
    obtain ⟨its, r, p, _⟩ := I.list h
    cases hy with
    | non => cases (show v = Value.none from ry); unfold eqD; exact SeqAt.RcAt.list_none p.isList hu
    | bl b => cases (show v = Value.bool b from ry); unfold eqD; exact SeqAt.RcAt.list_bool b p.isList hu
    | int b => obtain ⟨t, rfl⟩ := ry; unfold eqD; exact SeqAt.RcAt.list_int b t p.isList hu
    | str b => obtain ⟨t, rfl⟩ := ry; unfold eqD; exact SeqAt.RcAt.list_str b t p.isList hu
    | @lst b ys es h2 t2 =>
      cases ry
      obtain ⟨its2, r2, p2, _⟩ := I.list h2
      have l1 := r.length
      have l2 := r2.length
      have m1 := t1.length
      have m2 := t2.length
      have it := items_eq (A := A.in1) r r2 t1 t2 fun d' hd' e x y u v a b c d => ih d' (by rw [ht_lst]; exact hlt hd') e x y u v a b c d
      unfold eqD
      by_cases hl : ds.length = es.length
      · have q := SeqAt.RcAt.lists (e := eAt ds es) p.isList p2.isList (by simp only [List.size_toArray]; omega) hu it
        rw [← all_eAt ds es hl]
        have e1 : its.toArray.size = ds.length := by simp only [List.size_toArray]; omega
        rw [e1] at q
        exact q
      · have q := SeqAt.RcAt.lists_lengths (A := A) p.isList p2.isList (by simp only [List.size_toArray, bne_iff_ne]; omega) hu
        cases z : eqDs ds es with
        | false => exact q
        | true => exact absurd (eqDs_len z) hl
    | @tup b ys es h2 t2 =>
      cases ry
      obtain ⟨its2, r2, p2, _⟩ := I.tuple h2
      unfold eqD
      exact SeqAt.RcAt.list_tuple p.isList (show s.heap.IsTuple b its2.toArray from p2) hu
  | @tup a xs ds h t1 =>
    cases rx
    obtain ⟨its, r, p, _⟩ := I.tuple h
    have p' : s.heap.IsTuple a its.toArray := p
    cases hy with
    | non => cases (show v = Value.none from ry); unfold eqD; exact SeqAt.RcAt.tuple_none p' hu
    | bl b => cases (show v = Value.bool b from ry); unfold eqD; exact SeqAt.RcAt.tuple_bool b p' hu
    | int b => obtain ⟨t, rfl⟩ := ry; unfold eqD; exact SeqAt.RcAt.tuple_int b t p' hu
    | str b => obtain ⟨t, rfl⟩ := ry; unfold eqD; exact SeqAt.RcAt.tuple_str b t p' hu
    | @lst b ys es h2 t2 =>
      cases ry
      obtain ⟨its2, r2, p2, _⟩ := I.list h2
      unfold eqD
      exact SeqAt.RcAt.tuple_list p' p2.isList hu
    | @tup b ys es h2 t2 =>
      cases ry
      obtain ⟨its2, r2, p2, _⟩ := I.tuple h2
      have p2' : s.heap.IsTuple b its2.toArray := p2
      have l1 := r.length
      have l2 := r2.length
      have m1 := t1.length
      have m2 := t2.length
      have it := items_eq (A := A.in1) r r2 t1 t2 fun d' hd' e x y u v a b c d => ih d' (by rw [ht_tup]; exact hlt hd') e x y u v a b c d
      unfold eqD
      have q := SeqAt.RcAt.tuples (e := eAt ds es) p' p2' hu it
      have e1 : its.toArray.size = ds.length := by simp only [List.size_toArray]; omega
      have e2 : its2.toArray.size = es.length := by simp only [List.size_toArray]; omega
      rw [e1, e2, all_eAt_min] at q
      exact q
theorem eq_deep (I : Inv X pins σ H s) : ∀ (n : Nat) {A : Around} (d : DV), ht d ≤ n → A.units + n < cLine → ∀ (e : DV) (x y : V) (u v : Value), Deep X.K H x d → Deep X.K H y e → RelV x u → RelV y v → SeqAt.EqAt A s u v (eqD d e) := by
  intro n
  induction n with
  | zero =>
    intro A d hd hu e x y u v hx hy rx ry
    have rc := rc_deep I (A := A) d e x y u v hx hy rx ry (by omega) (fun d' h => absurd h (by omega))
    exact eq_of_rc I hx hy rx ry rc
  | succ n ihn =>
    intro A d hd hu e x y u v hx hy rx ry
    have rc := rc_deep I (A := A) d e x y u v hx hy rx ry (by omega) (fun d' h => ihn (A := A.in1) d' (by omega) (by rw [Around.in1_units]; omega))
    exact eq_of_rc I hx hy rx ry rc
where
  eq_of_rc (I : Inv X pins σ H s) {A : Around} {d e : DV} {x y : V} {u v : Value} (hx : Deep X.K H x d) (hy : Deep X.K H y e) (rx : RelV x u) (ry : RelV y v) (rc : SeqAt.RcAt A s u v (eqD d e)) : SeqAt.EqAt A s u v (eqD d e) := by
    intro prog w E Q hq
    unfold eqBool
    refine wpAny_holding ?_
    refine wpAny_ite_split (fun hab => ?_) (fun hab => ?_)
    · have e1 : x = y := by
        have e0 := eq_of_beq hab
        rw [e0] at rx
        exact rx.inj ry
      subst e1
      have e2 := Deep.inj I hx hy
      subst e2
      rw [eqD_refl] at hq
      exact wpAny_bind (wpAny_rule (wpAny_pure hq))
    · cases hx <;> cases hy <;> first
        | (cases rx; cases ry; exact wpAny_bind (rc prog w E _ (wpAny_truthy_bool hq)))
        | (obtain ⟨t, rfl⟩ := rx; cases ry; exact wpAny_bind (rc prog w E _ (wpAny_truthy_bool hq)))
        | (cases rx; obtain ⟨t, rfl⟩ := ry; exact wpAny_bind (rc prog w E _ (wpAny_truthy_bool hq)))
        | (obtain ⟨t, rfl⟩ := rx; obtain ⟨t', rfl⟩ := ry; exact wpAny_bind (rc prog w E _ (wpAny_truthy_bool hq)))
theorem rcne_deep (I : Inv X pins σ H s) {A : Around} (d e : DV) (x y : V) (u v : Value) (hx : Deep X.K H x d) (hy : Deep X.K H y e) (rx : RelV x u) (ry : RelV y v) (hu : A.units < cLine)
    (ih : ∀ (d' : DV), ht d' < ht d → ∀ (e : DV) (x y : V) (u v : Value), Deep X.K H x d' → Deep X.K H y e → RelV x u → RelV y v → SeqAt.EqAt A.in1 s u v (eqD d' e)) : SeqAt.RcNeAt A s u v (!eqD d e) := by
  have hlt : ∀ {ds : List DV} {d' : DV}, d' ∈ ds → ht d' < hts ds + 1 := fun {ds d'} hm => by
    obtain ⟨i, hi, e⟩ := List.getElem_of_mem hm
    exact Nat.lt_succ_of_le (hts_get (i := i) (by rw [List.getElem?_eq_getElem hi, e]))
  cases hx with
  | non =>
    cases (show u = Value.none from rx)
    cases hy with
    | non => cases (show v = Value.none from ry); unfold eqD; exact SeqAt.RcNeAt.none_none
    | bl b => cases (show v = Value.bool b from ry); unfold eqD; exact SeqAt.RcNeAt.none_bool b
    | int b => obtain ⟨t, rfl⟩ := ry; unfold eqD; exact SeqAt.RcNeAt.none_int b t
    | str b => obtain ⟨t, rfl⟩ := ry; unfold eqD; exact SeqAt.RcNeAt.none_str b t
    | lst h t => cases ry; obtain ⟨its, r, p, _⟩ := I.list h; unfold eqD; exact SeqAt.RcNeAt.none_list p.isList hu
    | tup h t => cases ry; obtain ⟨its, r, p, _⟩ := I.tuple h; unfold eqD; exact SeqAt.RcNeAt.none_tuple (show s.heap.IsTuple _ its.toArray from p) hu
  | bl a =>
    cases (show u = Value.bool a from rx)
    cases hy with
    | non => cases (show v = Value.none from ry); unfold eqD; exact SeqAt.RcNeAt.bool_none a
    | bl b => cases (show v = Value.bool b from ry); unfold eqD; exact SeqAt.RcNeAt.bool_bool a b
    | int b => obtain ⟨t, rfl⟩ := ry; unfold eqD; exact SeqAt.RcNeAt.bool_int a b t
    | str b => obtain ⟨t, rfl⟩ := ry; unfold eqD; exact SeqAt.RcNeAt.bool_str a b t
    | lst h t => cases ry; obtain ⟨its, r, p, _⟩ := I.list h; unfold eqD; exact SeqAt.RcNeAt.bool_list a p.isList hu
    | tup h t => cases ry; obtain ⟨its, r, p, _⟩ := I.tuple h; unfold eqD; exact SeqAt.RcNeAt.bool_tuple a (show s.heap.IsTuple _ its.toArray from p) hu
  | int a =>
    obtain ⟨t', rfl⟩ := rx
    cases hy with
    | non => cases (show v = Value.none from ry); unfold eqD; exact SeqAt.RcNeAt.int_none a t'
    | bl b => cases (show v = Value.bool b from ry); unfold eqD; exact SeqAt.RcNeAt.int_bool a t' b
    | int b => obtain ⟨t, rfl⟩ := ry; unfold eqD; exact SeqAt.RcNeAt.int_int a t' b t
    | str b => obtain ⟨t, rfl⟩ := ry; unfold eqD; exact SeqAt.RcNeAt.int_str a t' b t
    | lst h t => cases ry; obtain ⟨its, r, p, _⟩ := I.list h; unfold eqD; exact SeqAt.RcNeAt.int_list a t' p.isList hu
    | tup h t => cases ry; obtain ⟨its, r, p, _⟩ := I.tuple h; unfold eqD; exact SeqAt.RcNeAt.int_tuple a t' (show s.heap.IsTuple _ its.toArray from p) hu
  | str a =>
    obtain ⟨t', rfl⟩ := rx
    cases hy with
    | non => cases (show v = Value.none from ry); unfold eqD; exact SeqAt.RcNeAt.str_none a t'
    | bl b => cases (show v = Value.bool b from ry); unfold eqD; exact SeqAt.RcNeAt.str_bool a t' b
    | int b => obtain ⟨t, rfl⟩ := ry; unfold eqD; exact SeqAt.RcNeAt.str_int a t' b t
    | str b => obtain ⟨t, rfl⟩ := ry; unfold eqD; exact SeqAt.RcNeAt.str_str a t' b t
    | lst h t => cases ry; obtain ⟨its, r, p, _⟩ := I.list h; unfold eqD; exact SeqAt.RcNeAt.str_list a t' p.isList hu
    | tup h t => cases ry; obtain ⟨its, r, p, _⟩ := I.tuple h; unfold eqD; exact SeqAt.RcNeAt.str_tuple a t' (show s.heap.IsTuple _ its.toArray from p) hu
  | @lst a xs ds h t1 =>
    cases rx
    obtain ⟨its, r, p, _⟩ := I.list h
    cases hy with
    | non => cases (show v = Value.none from ry); unfold eqD; exact SeqAt.RcNeAt.list_none p.isList hu
    | bl b => cases (show v = Value.bool b from ry); unfold eqD; exact SeqAt.RcNeAt.list_bool b p.isList hu
    | int b => obtain ⟨t, rfl⟩ := ry; unfold eqD; exact SeqAt.RcNeAt.list_int b t p.isList hu
    | str b => obtain ⟨t, rfl⟩ := ry; unfold eqD; exact SeqAt.RcNeAt.list_str b t p.isList hu
    | @lst b ys es h2 t2 =>
      cases ry
      obtain ⟨its2, r2, p2, _⟩ := I.list h2
      have l1 := r.length
      have l2 := r2.length
      have m1 := t1.length
      have m2 := t2.length
      have it := items_eq (A := A.in1) r r2 t1 t2 fun d' hd' e x y u v a b c d => ih d' (by rw [ht_lst]; exact hlt hd') e x y u v a b c d
      unfold eqD
      by_cases hl : ds.length = es.length
      · have q := SeqAt.RcNeAt.lists (e := eAt ds es) p.isList p2.isList (by simp only [List.size_toArray]; omega) hu it
        rw [← all_eAt ds es hl]
        have e1 : its.toArray.size = ds.length := by simp only [List.size_toArray]; omega
        rw [e1] at q
        exact q
      · have q := SeqAt.RcNeAt.lists_lengths (A := A) p.isList p2.isList (by simp only [List.size_toArray, bne_iff_ne]; omega) hu
        cases z : eqDs ds es with
        | false => exact q
        | true => exact absurd (eqDs_len z) hl
    | @tup b ys es h2 t2 =>
      cases ry
      obtain ⟨its2, r2, p2, _⟩ := I.tuple h2
      unfold eqD
      exact SeqAt.RcNeAt.list_tuple p.isList (show s.heap.IsTuple b its2.toArray from p2) hu
  | @tup a xs ds h t1 =>
    cases rx
    obtain ⟨its, r, p, _⟩ := I.tuple h
    have p' : s.heap.IsTuple a its.toArray := p
    cases hy with
    | non => cases (show v = Value.none from ry); unfold eqD; exact SeqAt.RcNeAt.tuple_none p' hu
    | bl b => cases (show v = Value.bool b from ry); unfold eqD; exact SeqAt.RcNeAt.tuple_bool b p' hu
    | int b => obtain ⟨t, rfl⟩ := ry; unfold eqD; exact SeqAt.RcNeAt.tuple_int b t p' hu
    | str b => obtain ⟨t, rfl⟩ := ry; unfold eqD; exact SeqAt.RcNeAt.tuple_str b t p' hu
    | @lst b ys es h2 t2 =>
      cases ry
      obtain ⟨its2, r2, p2, _⟩ := I.list h2
      unfold eqD
      exact SeqAt.RcNeAt.tuple_list p' p2.isList hu
    | @tup b ys es h2 t2 =>
      cases ry
      obtain ⟨its2, r2, p2, _⟩ := I.tuple h2
      have p2' : s.heap.IsTuple b its2.toArray := p2
      have l1 := r.length
      have l2 := r2.length
      have m1 := t1.length
      have m2 := t2.length
      have it := items_eq (A := A.in1) r r2 t1 t2 fun d' hd' e x y u v a b c d => ih d' (by rw [ht_tup]; exact hlt hd') e x y u v a b c d
      unfold eqD
      have q := SeqAt.RcNeAt.tuples (e := eAt ds es) p' p2' hu it
      have e1 : its.toArray.size = ds.length := by simp only [List.size_toArray]; omega
      have e2 : its2.toArray.size = es.length := by simp only [List.size_toArray]; omega
      rw [e1, e2, all_eAt_min] at q
      exact q
end
def rEqD (K : Frag) : R2 := fun x y H Q => ∃ d e, Deep K H x d ∧ Deep K H y e ∧ ht d ≤ 60 ∧ Q (.bl (eqD d e)) H
theorem op_eqD {X : Cx} (hu : X.A.units + 64 < cLine) : OpR X (compareOp .Eq) (rEqD X.K) := by
  intro pins s σ H x y v u Q I rx ry h
  obtain ⟨d, e, hx, hy, hh, q⟩ := h
  have rc := rc_deep I (A := X.A) d e x y v u hx hy rx ry (by omega) (fun d' h => eq_deep I 60 d' (by omega) (by rw [Around.in1_units]; omega))
  exact rc X.prog X.w X.xe _ ⟨.bl _, H, I, rfl, q⟩
def rNeD (K : Frag) : R2 := fun x y H Q => ∃ d e, Deep K H x d ∧ Deep K H y e ∧ ht d ≤ 60 ∧ Q (.bl (!eqD d e)) H
theorem op_neD {X : Cx} (hu : X.A.units + 64 < cLine) : OpR X (compareOp .NotEq) (rNeD X.K) := by
  intro pins s σ H x y v u Q I rx ry h
  obtain ⟨d, e, hx, hy, hh, q⟩ := h
  have rc := rcne_deep I (A := X.A) d e x y v u hx hy rx ry (by omega) (fun d' h => eq_deep I 60 d' (by omega) (by rw [Around.in1_units]; omega))
  exact rc X.prog X.w X.xe _ ⟨.bl _, H, I, rfl, q⟩
end L2
set_option Elab.async false
set_option linter.all false
set_option maxRecDepth 100000
namespace L2
open PySem PySem.Spec PyProof.Rows PySem.W
def compOk (osc : Scope) (XN N : List Str) (js : List (Option Nat)) (scope : Scope) : Bool :=
  scope.names.all (fun y => !(y.2 == NameKind.cell)) && scope.names.all (fun y => !(y.2 == NameKind.local) || scope.names.lookup y.1 == some .local) &&
  scope.names.all (fun y => !(y.2 == NameKind.free) || osc.names.lookup y.1 == some .cell || osc.names.lookup y.1 == some .free) && js.length == N.length &&
  (js.zip N).all (fun p => match p.1 with | none => true | some j => XN[j]? == some p.2 && scope.names.lookup p.2 == some .free)
theorem comp_scope {X : Cx} {N : List Str} {js : List (Option Nat)} {scope : Scope} {osc : Scope} {XN : List Str} (hk : scope.kind = .function) (e1 : X.env.scope = osc) (e2 : X.N = XN) (h : compOk osc XN N js scope = true) : CompScope X N js scope := by
  unfold compOk at h
  simp only [Bool.and_eq_true, List.all_eq_true, Bool.or_eq_true, Bool.not_eq_true', beq_iff_eq] at h
  obtain ⟨⟨⟨⟨h1, h2⟩, h3⟩, h4⟩, h5⟩ := h
  refine ⟨hk, fun y hy z => ?_, fun y hy z => ?_, fun y hy z => ?_, h4, fun i j x ej ex => ?_⟩
  · have := h1 y hy
    rw [z] at this; cases this
  · rcases h2 y hy with q | q
    · rw [z] at q; cases q
    · exact q
  · show X.env.scope.names.lookup y.1 = _ ∨ X.env.scope.names.lookup y.1 = _
    rw [e1]
    rcases h3 y hy with (q | q) | q
    · rw [z] at q; cases q
    · exact .inl q
    · exact .inr q
  · have hm : (some j, x) ∈ js.zip N := by
      refine List.mem_iff_getElem?.mpr ⟨i, ?_⟩
      rw [List.getElem?_zip_eq_some]
      exact ⟨ej, ex⟩
    have q := h5 _ hm
    simp only [Bool.and_eq_true, beq_iff_eq] at q
    rw [e2]
    exact q
def CW (n : Nat) (Pv : Nat → St → Hp → Prop) (i m : Nat) (σ : St) (H : Hp) : Prop := m = n - i ∧ i ≤ n ∧ Pv i σ H
theorem CW.next {n : Nat} {Pv : Nat → St → Hp → Prop} {i : Nat} {σ : St} {H : Hp} (hi : i < n) (h : Pv (i + 1) σ H) : ∃ m', m' < n - i ∧ CW n Pv (i + 1) m' σ H := ⟨n - (i + 1), by omega, rfl, hi, h⟩
theorem comp_rng {lo : Int} {n : Nat} {D : Addr} {σ0 : St} {H1 : Hp} {Q : VK} {g : TG} {tc : TT} {te : TE} (Pv : Nat → St → Hp → Prop) (h0 : Pv 0 σ0 (upd H1 D (.lst [])))
    (hs : ∀ i σ' H', i < n → Pv i σ' H' → g (.int (lo + i)) σ' H' fun σ2 H3 => tc σ2 H3 fun b H4 => if b = true then te σ2 H4 fun v H5 => rAppend (.ref D) [v] H5 fun _ H6 => ∃ m', m' < n - i ∧ CW n Pv (i + 1) m' σ2 H6 else ∃ m', m' < n - i ∧ CW n Pv (i + 1) m' σ2 H4)
    (hd : ∀ σ' H', Pv n σ' H' → Q (.ref D) H') :
    ∃ W : Nat → Nat → St → Hp → Prop, (∃ m, W 0 m σ0 (upd H1 D (.lst []))) ∧ ∀ i m σ' H', W i m σ' H' → ((Itr lo n).stop i H' ∧ Q (.ref D) H') ∨ ((Itr lo n).go i H' ∧ ∀ x H2, (Itr lo n).yld i H' x H2 → g x σ' H2 fun σ2 H3 => tc σ2 H3 fun b H4 =>
      if b = true then te σ2 H4 fun v H5 => rAppend (.ref D) [v] H5 fun _ H6 => ∃ m', m' < m ∧ W (i + 1) m' σ2 H6 else ∃ m', m' < m ∧ W (i + 1) m' σ2 H4) := by
  refine ⟨CW n Pv, ⟨n, rfl, Nat.zero_le _, h0⟩, ?_⟩
  rintro i m σ' H' ⟨rfl, hi, p⟩
  by_cases hlt : i < n
  · refine .inr ⟨hlt, fun x H2 y => ?_⟩
    obtain ⟨e, y⟩ := y
    subst e y
    exact hs i σ' _ hlt p
  · have e : i = n := by omega
    subst e
    exact .inl ⟨Nat.le_refl _, hd σ' H' p⟩
theorem comp_lst {K : Frag} {a : Addr} {xs : List V} {D : Addr} {σ0 : St} {H1 : Hp} {Q : VK} {g : TG} {tc : TT} {te : TE} (Pv : Nat → St → Hp → Prop) (h0 : Pv 0 σ0 (upd H1 D (.lst []))) (hl : ∀ i σ H, i ≤ xs.length → Pv i σ H → SqL K H a xs)
    (hs : ∀ i x σ' H', xs[i]? = some x → Pv i σ' H' → g x σ' H' fun σ2 H3 => tc σ2 H3 fun b H4 => if b = true then te σ2 H4 fun v H5 => rAppend (.ref D) [v] H5 fun _ H6 => ∃ m', m' < xs.length - i ∧ CW xs.length Pv (i + 1) m' σ2 H6 else ∃ m', m' < xs.length - i ∧ CW xs.length Pv (i + 1) m' σ2 H4)
    (hd : ∀ σ' H', Pv xs.length σ' H' → Q (.ref D) H') :
    ∃ W : Nat → Nat → St → Hp → Prop, (∃ m, W 0 m σ0 (upd H1 D (.lst []))) ∧ ∀ i m σ' H', W i m σ' H' → ((Itl K a).stop i H' ∧ Q (.ref D) H') ∨ ((Itl K a).go i H' ∧ ∀ x H2, (Itl K a).yld i H' x H2 → g x σ' H2 fun σ2 H3 => tc σ2 H3 fun b H4 =>
      if b = true then te σ2 H4 fun v H5 => rAppend (.ref D) [v] H5 fun _ H6 => ∃ m', m' < m ∧ W (i + 1) m' σ2 H6 else ∃ m', m' < m ∧ W (i + 1) m' σ2 H4) := by
  refine ⟨CW xs.length Pv, ⟨xs.length, rfl, Nat.zero_le _, h0⟩, ?_⟩
  rintro i m σ' H' ⟨rfl, hi, p⟩
  have q := hl i σ' H' hi p
  by_cases hlt : i < xs.length
  · refine .inr ⟨⟨xs, xs[i], q, by simp [hlt]⟩, fun x H2 y => ?_⟩
    obtain ⟨e, y⟩ := y
    subst e
    exact hs i x σ' _ (y xs q) p
  · have e : i = xs.length := by omega
    subst e
    exact .inl ⟨⟨xs, q, Nat.le_refl _⟩, hd σ' H' p⟩
theorem eqDs_ints : ∀ (a b : List Int), eqDs (a.map DV.int) (b.map DV.int) = decide (a = b)
  | [], [] => by unfold eqDs; rfl
  | [], _ :: _ => by simp [eqDs]
  | _ :: _, [] => by simp [eqDs]
  | x :: r, y :: t => by
    rw [List.map_cons, List.map_cons]
    unfold eqDs eqD
    rw [eqDs_ints r t]
    by_cases h : x = y <;> by_cases h2 : r = t <;> simp [h, h2]
theorem hts_ints : ∀ a : List Int, hts (a.map DV.int) = 0
  | [] => by unfold hts; rfl
  | x :: r => by rw [List.map_cons]; unfold hts ht; rw [hts_ints r]; rfl
def rEqI (K : Frag) : R2 := fun x y H Q => ∃ (a b : Addr) (ns ms : List Int), x = .ref a ∧ y = .ref b ∧ SqL K H a (ns.map V.int) ∧ SqL K H b (ms.map V.int) ∧ Q (.bl (decide (ns = ms))) H
def rNeI (K : Frag) : R2 := fun x y H Q => ∃ (a b : Addr) (ns ms : List Int), x = .ref a ∧ y = .ref b ∧ SqL K H a (ns.map V.int) ∧ SqL K H b (ms.map V.int) ∧ Q (.bl (!decide (ns = ms))) H
theorem op_eqL {X : Cx} (hu : X.A.units + 64 < cLine) : OpR X (compareOp .Eq) (rEqI X.K) := by
  intro pins s σ H x y v u Q I rx ry h
  obtain ⟨a, b, ns, ms, rfl, rfl, h1, h2, q⟩ := h
  refine op_eqD hu pins s σ H _ _ v u Q I rx ry ⟨_, _, .lst h1 (Deeps.ints ns), .lst h2 (Deeps.ints ms), ?_, ?_⟩
  · unfold ht; rw [hts_ints]; decide
  · unfold eqD; rw [eqDs_ints]; exact q
theorem op_neL {X : Cx} (hu : X.A.units + 64 < cLine) : OpR X (compareOp .NotEq) (rNeI X.K) := by
  intro pins s σ H x y v u Q I rx ry h
  obtain ⟨a, b, ns, ms, rfl, rfl, h1, h2, q⟩ := h
  refine op_neD hu pins s σ H _ _ v u Q I rx ry ⟨_, _, .lst h1 (Deeps.ints ns), .lst h2 (Deeps.ints ms), ?_, ?_⟩
  · unfold ht; rw [hts_ints]; decide
  · unfold eqD; rw [eqDs_ints]; exact q
theorem units_of {A : Around} {k : Nat} (hr : Room k A) : A.units + 64 < cLine := by have := hr.un; omega
theorem ifT {σ : St} {H : Hp} {A B : Hp → Prop} (h : A H) : tTrue σ H (fun b H4 => if b = true then A H4 else B H4) := by
  show if true = true then A H else B H
  exact iteT h
theorem nameT {j : Nat} {v : V} {σ : St} {H : Hp} {A B : St → Hp → Prop} (h : A (σ.set j (some v)) H) : gName j v σ H (fun σ2 H3 => tTrue σ2 H3 (fun b H4 => if b = true then A σ2 H4 else B σ2 H4)) := by
  show if true = true then A (σ.set j (some v)) H else B (σ.set j (some v)) H
  exact iteT h
abbrev rLen (K : Frag) : List V → Hp → VK → Prop := fun xs H Q => ∃ p ys, xs = [.ref p] ∧ (SqL K H p ys ∨ SqT K H p ys) ∧ Q (.int ys.length) H
end L2
namespace PH
end PH
set_option Elab.async false
set_option linter.all false
set_option maxRecDepth 100000
set_option maxHeartbeats 4000000
namespace PH
open PySem L2 PySem.W
theorem same_new {H : Hp} {p : Addr} (h : H p = none) (o : HO) : Same H (upd H p o) := fun b u q => by rw [upd_ne (ne_of_none q h)]; exact q
def deckO (a b c : Int) : HO := .lst [.int a, .int b, .int c]
def lsI (ns : List Int) : HO := .lst (ns.map V.int)
theorem int_at {ns : List Int} {i : Nat} {y : V} (h : (ns.map V.int)[i]? = some y) : ∃ z, y = V.int z ∧ ns[i]? = some z := by
  rw [List.getElem?_map] at h
  cases e : ns[i]? with
  | none => rw [e] at h; cases h
  | some z => rw [e] at h; exact ⟨z, (Option.some.inj h).symm, rfl⟩
theorem take_at {α : Type} {ns : List α} {i : Nat} {z : α} (h : ns[i]? = some z) : ns.take (i + 1) = ns.take i ++ [z] := by rw [List.take_add_one, h]; rfl
theorem cut_to {α : Type} {f : Int → V} (ns : List Int) (k : Nat) : cutV (ns.map f) none (some (k : Int)) = (ns.take k).map f := by
  unfold cutV
  rw [HT.sIx_none, HT.sIx_nat, List.drop_zero, Nat.sub_zero, List.length_map, ← List.map_take]
  congr 1
  rcases Nat.le_total k ns.length with h | h
  · rw [Nat.min_eq_left h]
  · rw [Nat.min_eq_right h, List.take_of_length_le (Nat.le_refl _), List.take_of_length_le h]
abbrev bmV : List Value := [.type "ValueError", .type "Exception", .type "BaseException", .type "object"]
structure Ex (K : Frag) (mg : Str → Option Value) (x : Str) (C : Addr) : Prop where
  mg : mg x = some (.ref C)
  ex : excIn K C bmV "ValueError.__new__" = true
  cl : ExcC K C
theorem kit_refl (K : Frag) (t : Value) : kitOne K t t = some true := by unfold kitOne; rw [if_pos (beq_self_eq_true t)]
theorem kit_ib (K : Frag) : kitOne K (.type "int") (.type "bool") = some false := by rfl
theorem boot_isi : bootBuiltins "isinstance" = some (.builtin "isinstance") := by decide +kernel
theorem boot_list' : bootBuiltins "list" = some (.type "list") := by decide +kernel
theorem boot_int' : bootBuiltins "int" = some (.type "int") := by decide +kernel
theorem boot_bool' : bootBuiltins "bool" = some (.type "bool") := by decide +kernel
theorem boot_max' : bootBuiltins "max" = some (.builtin "max") := by decide +kernel
structure Bl (mg : Str → Option Value) : Prop where
  isi : mg "isinstance" = none
  list : mg "list" = none
  int : mg "int" = none
  bool : mg "bool" = none
  len : mg "len" = none
  range : mg "range" = none
  max : mg "max" = none
  ve : mg "ValueError" = none
theorem cut_from (ns : List Int) (k : Nat) : cutV (ns.map V.int) (some (k : Int)) none = (ns.drop k).map V.int := by
  unfold cutV
  rw [HT.sIx_none, HT.sIx_nat, List.length_map]
  rcases Nat.le_total k ns.length with h | h
  · rw [Nat.min_eq_left h, ← List.map_drop, List.take_of_length_le (by rw [List.length_map, List.length_drop]; exact Nat.le_refl _)]
  · rw [Nat.min_eq_right h, Nat.sub_self, List.take_zero, List.drop_of_length_le h]; rfl
def spLaw (K : PySem.W.Frag) : Sp := fun vs H Q _ => ∃ (a : Addr) (ns : List Int), vs = [.ref a] ∧ SqL K H a (ns.map V.int) ∧ ns.length ≤ 63 ∧ ∀ H', Q (.bl true) H'
theorem fits {n : Nat} (h : n ≤ 1000000) : n ≤ sizeLine := by
  have : sizeLine = 16777216 := by decide
  omega
theorem fits_lt {n : Nat} (h : n ≤ 1000000) : n < sizeLine := by
  have : sizeLine = 16777216 := by decide
  omega
end PH
namespace PH
end PH
set_option Elab.async false
set_option linter.all false
set_option maxRecDepth 100000
namespace L2
open PySem PySem.Spec PyProof.Rows PySem.W
section
variable {X : Cx} {tg : Expr}
end
theorem comp_tup {K : Frag} {a : Addr} {xs : List V} {D : Addr} {σ0 : St} {H1 : Hp} {Q : VK} {g : TG} {tc : TT} {te : TE} (Pv : Nat → St → Hp → Prop) (h0 : Pv 0 σ0 (upd H1 D (.lst []))) (hl : ∀ i σ H, i ≤ xs.length → Pv i σ H → SqT K H a xs)
    (hs : ∀ i x σ' H', xs[i]? = some x → Pv i σ' H' → g x σ' H' fun σ2 H3 => tc σ2 H3 fun b H4 => if b = true then te σ2 H4 fun v H5 => rAppend (.ref D) [v] H5 fun _ H6 => ∃ m', m' < xs.length - i ∧ CW xs.length Pv (i + 1) m' σ2 H6 else ∃ m', m' < xs.length - i ∧ CW xs.length Pv (i + 1) m' σ2 H4)
    (hd : ∀ σ' H', Pv xs.length σ' H' → Q (.ref D) H') :
    ∃ W : Nat → Nat → St → Hp → Prop, (∃ m, W 0 m σ0 (upd H1 D (.lst []))) ∧ ∀ i m σ' H', W i m σ' H' → ((Itt K a).stop i H' ∧ Q (.ref D) H') ∨ ((Itt K a).go i H' ∧ ∀ x H2, (Itt K a).yld i H' x H2 → g x σ' H2 fun σ2 H3 => tc σ2 H3 fun b H4 =>
      if b = true then te σ2 H4 fun v H5 => rAppend (.ref D) [v] H5 fun _ H6 => ∃ m', m' < m ∧ W (i + 1) m' σ2 H6 else ∃ m', m' < m ∧ W (i + 1) m' σ2 H4) := by
  refine ⟨CW xs.length Pv, ⟨xs.length, rfl, Nat.zero_le _, h0⟩, ?_⟩
  rintro i m σ' H' ⟨rfl, hi, p⟩
  have q := hl i σ' H' hi p
  by_cases hlt : i < xs.length
  · refine .inr ⟨⟨xs, xs[i], q, by simp [hlt]⟩, fun x H2 y => ?_⟩
    obtain ⟨e, y⟩ := y
    subst e
    exact hs i x σ' _ (y xs q) p
  · have e : i = xs.length := by omega
    subst e
    exact .inl ⟨⟨xs, q, Nat.le_refl _⟩, hd σ' H' p⟩
theorem comp_rngQ {lo : Int} {n : Nat} {D : Addr} {σ0 : St} {H1 : Hp} {Qd : Hp → Prop} {g : TG} {tc : TT} {te : TE} (Pv : Nat → St → Hp → Prop) (h0 : Pv 0 σ0 (upd H1 D (.lst [])))
    (hs : ∀ i σ' H', i < n → Pv i σ' H' → g (.int (lo + i)) σ' H' fun σ2 H3 => tc σ2 H3 fun b H4 => if b = true then te σ2 H4 fun v H5 => rAppend (.ref D) [v] H5 fun _ H6 => ∃ m', m' < n - i ∧ CW n Pv (i + 1) m' σ2 H6 else ∃ m', m' < n - i ∧ CW n Pv (i + 1) m' σ2 H4)
    (hd : ∀ σ' H', Pv n σ' H' → Qd H') :
    ∃ W : Nat → Nat → St → Hp → Prop, (∃ m, W 0 m σ0 (upd H1 D (.lst []))) ∧ ∀ i m σ' H', W i m σ' H' → ((Itr lo n).stop i H' ∧ Qd H') ∨ ((Itr lo n).go i H' ∧ ∀ x H2, (Itr lo n).yld i H' x H2 → g x σ' H2 fun σ2 H3 => tc σ2 H3 fun b H4 =>
      if b = true then te σ2 H4 fun v H5 => rAppend (.ref D) [v] H5 fun _ H6 => ∃ m', m' < m ∧ W (i + 1) m' σ2 H6 else ∃ m', m' < m ∧ W (i + 1) m' σ2 H4) :=
  comp_rng (Q := fun _ H => Qd H) Pv h0 hs hd
theorem comp_lstQ {K : Frag} {a : Addr} {xs : List V} {D : Addr} {σ0 : St} {H1 : Hp} {Qd : Hp → Prop} {g : TG} {tc : TT} {te : TE} (Pv : Nat → St → Hp → Prop) (h0 : Pv 0 σ0 (upd H1 D (.lst []))) (hl : ∀ i σ H, i ≤ xs.length → Pv i σ H → SqL K H a xs)
    (hs : ∀ i x σ' H', xs[i]? = some x → Pv i σ' H' → g x σ' H' fun σ2 H3 => tc σ2 H3 fun b H4 => if b = true then te σ2 H4 fun v H5 => rAppend (.ref D) [v] H5 fun _ H6 => ∃ m', m' < xs.length - i ∧ CW xs.length Pv (i + 1) m' σ2 H6 else ∃ m', m' < xs.length - i ∧ CW xs.length Pv (i + 1) m' σ2 H4)
    (hd : ∀ σ' H', Pv xs.length σ' H' → Qd H') :
    ∃ W : Nat → Nat → St → Hp → Prop, (∃ m, W 0 m σ0 (upd H1 D (.lst []))) ∧ ∀ i m σ' H', W i m σ' H' → ((Itl K a).stop i H' ∧ Qd H') ∨ ((Itl K a).go i H' ∧ ∀ x H2, (Itl K a).yld i H' x H2 → g x σ' H2 fun σ2 H3 => tc σ2 H3 fun b H4 =>
      if b = true then te σ2 H4 fun v H5 => rAppend (.ref D) [v] H5 fun _ H6 => ∃ m', m' < m ∧ W (i + 1) m' σ2 H6 else ∃ m', m' < m ∧ W (i + 1) m' σ2 H4) :=
  comp_lst (Q := fun _ H => Qd H) Pv h0 hl hs hd
theorem comp_tupQ {K : Frag} {a : Addr} {xs : List V} {D : Addr} {σ0 : St} {H1 : Hp} {Qd : Hp → Prop} {g : TG} {tc : TT} {te : TE} (Pv : Nat → St → Hp → Prop) (h0 : Pv 0 σ0 (upd H1 D (.lst []))) (hl : ∀ i σ H, i ≤ xs.length → Pv i σ H → SqT K H a xs)
    (hs : ∀ i x σ' H', xs[i]? = some x → Pv i σ' H' → g x σ' H' fun σ2 H3 => tc σ2 H3 fun b H4 => if b = true then te σ2 H4 fun v H5 => rAppend (.ref D) [v] H5 fun _ H6 => ∃ m', m' < xs.length - i ∧ CW xs.length Pv (i + 1) m' σ2 H6 else ∃ m', m' < xs.length - i ∧ CW xs.length Pv (i + 1) m' σ2 H4)
    (hd : ∀ σ' H', Pv xs.length σ' H' → Qd H') :
    ∃ W : Nat → Nat → St → Hp → Prop, (∃ m, W 0 m σ0 (upd H1 D (.lst []))) ∧ ∀ i m σ' H', W i m σ' H' → ((Itt K a).stop i H' ∧ Qd H') ∨ ((Itt K a).go i H' ∧ ∀ x H2, (Itt K a).yld i H' x H2 → g x σ' H2 fun σ2 H3 => tc σ2 H3 fun b H4 =>
      if b = true then te σ2 H4 fun v H5 => rAppend (.ref D) [v] H5 fun _ H6 => ∃ m', m' < m ∧ W (i + 1) m' σ2 H6 else ∃ m', m' < m ∧ W (i + 1) m' σ2 H4) :=
  comp_tup (Q := fun _ H => Qd H) Pv h0 hl hs hd
end L2
set_option Elab.async false
set_option linter.all false
set_option maxRecDepth 100000
set_option maxHeartbeats 4000000
namespace PH
open PySem L2 PySem.W
theorem boot_tuple' : bootBuiltins "tuple" = some (.type "tuple") := by decide +kernel
structure ExR (K : Frag) (cP cN c1 c2 c3 c4 c5 c6 : Addr) : Prop where
  m : mroIn K cN (.ref cP) = some true
  v : kitOne K (.ref cN) (.type "ValueError") = some true
  o : kitAny K (.ref cN) [.ref c1, .ref c2, .ref c3, .ref c4, .ref c5, .ref c6] = some false
theorem cut_two (ns : List Int) (i j : Nat) : cutV (ns.map V.int) (some (i : Int)) (some (j : Int)) = ((ns.drop i).take (j - i)).map V.int := by
  unfold cutV
  rw [HT.sIx_nat, HT.sIx_nat, List.length_map, ← List.map_drop, ← List.map_take]
  congr 1
  rcases Nat.le_total i ns.length with h | h
  · rw [Nat.min_eq_left h]
    rcases Nat.le_total j ns.length with h2 | h2
    · rw [Nat.min_eq_left h2]
    · rw [Nat.min_eq_right h2, List.take_of_length_le (by rw [List.length_drop]; exact Nat.le_refl _), List.take_of_length_le (by rw [List.length_drop]; omega)]
  · rw [Nat.min_eq_right h, List.drop_of_length_le (Nat.le_refl _), List.drop_of_length_le h, List.take_nil, List.take_nil]
end PH
namespace PH
end PH
set_option Elab.async false
set_option linter.all false
namespace L2
open PySem PySem.Spec PyProof.Rows
section
variable {X : Cx}
end
end L2
set_option Elab.async false
set_option linter.all false
set_option maxRecDepth 100000
set_option maxHeartbeats 4000000
namespace PH
open PySem L2 PySem.W
theorem boot_min' : bootBuiltins "min" = some (.builtin "min") := by decide +kernel
structure Bls (mg : Str → Option Value) : Prop where
  isi : mg "isinstance" = none
  list : mg "list" = none
  int : mg "int" = none
  bool : mg "bool" = none
  len : mg "len" = none
  range : mg "range" = none
  max : mg "max" = none
  ve : mg "ValueError" = none
  tuple : mg "tuple" = none
  min : mg "min" = none
  sorted : mg "sorted" = none
  all : mg "all" = none
  dict : mg "dict" = none
theorem Bls.bl {mg : Str → Option Value} (B : Bls mg) : Bl mg := ⟨B.isi, B.list, B.int, B.bool, B.len, B.range, B.max, B.ve⟩
theorem same_upd {H H' : Hp} (s : Same H H') {q : Addr} (u : HO) (hq : H q = none) : Same H (upd H' q u) := fun b w e => by
  rw [upd_ne (ne_of_none e hq)]; exact s b w e
theorem lsI_app1 (a : List Int) (z : Int) : (.lst (a.map V.int ++ [V.int z]) : HO) = lsI (a ++ [z]) := by unfold lsI; rw [List.map_append]; rfl
end PH
set_option Elab.async false
set_option linter.all false
set_option maxRecDepth 100000
set_option maxHeartbeats 4000000
namespace PH
open PySem L2 PySem.W
structure Dks (ps : List Addr) (D : Addr) (H : Hp) : Prop where
  at_ : H D = some (.lst (ps.map V.ref))
  each : ∀ p ∈ ps, p ≠ D ∧ ∃ a b c, H p = some (deckO a b c)
theorem Dks.same {ps : List Addr} {D : Addr} {H H' : Hp} (h : Dks ps D H) (s : Same H H') : Dks ps D H' := ⟨s _ _ h.at_, fun p hp => by
  obtain ⟨e, a, b, c, q⟩ := h.each p hp
  exact ⟨e, a, b, c, s _ _ q⟩⟩
theorem Dks.other {ps : List Addr} {D q : Addr} {H : Hp} {o : HO} (h : Dks ps D H) (h1 : D ≠ q) (h2 : ∀ p ∈ ps, p ≠ q) : Dks ps D (upd H q o) := ⟨by rw [upd_ne h1]; exact h.at_, fun p hp => by
  obtain ⟨e, a, b, c, z⟩ := h.each p hp
  exact ⟨e, a, b, c, by rw [upd_ne (h2 p hp)]; exact z⟩⟩
theorem Dks.of {ps : List Addr} {D : Addr} {H H' : Hp} (hD : H' D = some (.lst (ps.map V.ref))) (h : ∀ p ∈ ps, H p = none ∧ p ≠ D ∧ ∃ a b c, H' p = some (deckO a b c)) : Dks ps D H' := ⟨hD, fun p hp => (h p hp).2⟩
theorem Dks.ne {ps : List Addr} {D q : Addr} {H : Hp} (h : Dks ps D H) (hq : H q = none) : (∀ p ∈ ps, p ≠ q) ∧ D ≠ q := ⟨fun p hp => by
  obtain ⟨_, _, _, _, z⟩ := h.each p hp
  exact ne_of_none z hq, ne_of_none h.at_ hq⟩
end PH
set_option Elab.async false
set_option linter.all false
set_option maxRecDepth 100000
namespace L2
open PySem PySem.Spec PyProof.Rows PySem.W
end L2
set_option Elab.async false
set_option linter.all false
set_option maxRecDepth 100000
namespace L2
open PySem PySem.Spec PyProof.Rows
section
variable {κ : Type} [DecidableEq κ]
def valV (kvs : List (κ × V)) (k : κ) : Option V := (kvs.find? fun kv => decide (kv.1 = k)).map (·.2)
def putK (kvs : List (κ × V)) (k : κ) (v : V) : List (κ × V) :=
  if (kvs.any fun kv => decide (kv.1 = k)) = true then kvs.map (fun kv => if kv.1 = k then (kv.1, v) else kv) else kvs ++ [(k, v)]
def dropK (kvs : List (κ × V)) (k : κ) : List (κ × V) := kvs.filter fun kv => decide (kv.1 ≠ k)
theorem valV_pos {p : κ × V} {r : List (κ × V)} {k : κ} (e : p.1 = k) : valV (p :: r) k = some p.2 := by simp [valV, List.find?_cons, e]
theorem valV_neg {p : κ × V} {r : List (κ × V)} {k : κ} (e : ¬ p.1 = k) : valV (p :: r) k = valV r k := by simp [valV, List.find?_cons, e]
theorem valV_any (k : κ) : ∀ kvs : List (κ × V), (kvs.any fun kv => decide (kv.1 = k)) = (valV kvs k).isSome
  | [] => rfl
  | p :: r => by
    rw [List.any_cons]
    by_cases e : p.1 = k
    · simp only [valV_pos e, decide_eq_true e, Bool.true_or, Option.isSome_some]
    · rw [valV_neg e, decide_eq_false e, Bool.false_or]; exact valV_any k r
theorem length_putK (kvs : List (κ × V)) (k : κ) (v : V) : (putK kvs k v).length ≤ kvs.length + 1 := by
  unfold putK
  split
  · rw [List.length_map]; omega
  · rw [List.length_append, List.length_cons, List.length_nil]; omega
theorem RelO.isSome_eq {o : Option V} {u : Option Value} (r : RelO o u) : o.isSome = u.isSome := by
  cases o with
  | none => cases u with
    | none => rfl
    | some _ => exact (show False from r).elim
  | some _ => cases u with
    | none => exact (show False from r).elim
    | some _ => rfl
theorem RelO.getD {o : Option V} {u : Option Value} {d : V} {d' : Value} (r : RelO o u) (rd : RelV d d') : RelV (o.getD d) (u.getD d') := by
  cases o with
  | none => cases u with
    | none => exact rd
    | some _ => exact (show False from r).elim
  | some _ => cases u with
    | none => exact (show False from r).elim
    | some _ => exact r
theorem KV.val {kvs : List (κ × V)} {vs : List (κ × Value)} (r : KV kvs vs) (k : κ) : RelO (valV kvs k) (valueAt vs k) := by
  unfold KV at r
  induction r with
  | nil => exact True.intro
  | @cons p q ps qs h t ih =>
    obtain ⟨h1, h2⟩ := h
    by_cases e : p.1 = k
    · have e' : q.1 = k := h1.symm.trans e
      have b : valueAt (q :: qs) k = some q.2 := by simp [valueAt, List.find?_cons, e']
      rw [valV_pos e, b]; exact h2
    · have e' : ¬ q.1 = k := fun z => e (h1.trans z)
      have b : valueAt (q :: qs) k = valueAt qs k := by simp [valueAt, List.find?_cons, e']
      rw [valV_neg e, b]; exact ih
theorem KV.any {kvs : List (κ × V)} {vs : List (κ × Value)} (r : KV kvs vs) (k : κ) : (kvs.any fun kv => decide (kv.1 = k)) = vs.any fun kv => decide (kv.1 = k) := by
  unfold KV at r
  induction r with
  | nil => rfl
  | cons h t ih => rw [List.any_cons, List.any_cons, ih, h.1]
theorem KV.repl {kvs : List (κ × V)} {vs : List (κ × Value)} (r : KV kvs vs) (k : κ) {y : V} {u : Value} (ry : RelV y u) :
    KV (kvs.map fun kv => if kv.1 = k then (kv.1, y) else kv) (vs.map fun kv => if kv.1 = k then (kv.1, u) else kv) := by
  unfold KV at r ⊢
  induction r with
  | nil => exact .nil
  | @cons p q ps qs h t ih =>
    rw [List.map_cons, List.map_cons]
    refine .cons ?_ ih
    obtain ⟨h1, h2⟩ := h
    by_cases e : p.1 = k
    · rw [if_pos e, if_pos (h1.symm.trans e)]; exact ⟨h1, ry⟩
    · rw [if_neg e, if_neg (fun z => e (h1.trans z))]; exact ⟨h1, h2⟩
theorem KV.put {kvs : List (κ × V)} {vs : List (κ × Value)} (r : KV kvs vs) (k : κ) {y : V} {u : Value} (ry : RelV y u) : KV (putK kvs k y) (stored vs k u) := by
  unfold putK stored
  rw [r.any k]
  by_cases e : (vs.any fun kv => decide (kv.1 = k)) = true
  · rw [if_pos e, if_pos e]; exact r.repl k ry
  · rw [if_neg e, if_neg e]; exact Paired.snoc r ⟨rfl, ry⟩
theorem KV.drop {kvs : List (κ × V)} {vs : List (κ × Value)} (r : KV kvs vs) (k : κ) : KV (dropK kvs k) (without vs k) := by
  unfold KV at r ⊢
  unfold dropK without
  induction r with
  | nil => exact .nil
  | @cons p q ps qs h t ih =>
    obtain ⟨h1, h2⟩ := h
    rw [List.filter_cons, List.filter_cons]
    by_cases e : p.1 = k
    · have a : ¬ decide (p.1 ≠ k) = true := by simp [e]
      have b : ¬ decide (q.1 ≠ k) = true := by simp [h1.symm.trans e]
      rw [if_neg a, if_neg b]; exact ih
    · have e' : ¬ q.1 = k := fun z => e (h1.trans z)
      have a : decide (p.1 ≠ k) = true := by simp [e]
      have b : decide (q.1 ≠ k) = true := by simp [e']
      rw [if_pos a, if_pos b]; exact .cons ⟨h1, h2⟩ ih
theorem KV.keys {kvs : List (κ × V)} {vs : List (κ × Value)} (r : KV kvs vs) : kvs.map (·.1) = vs.map (·.1) := by
  unfold KV at r
  induction r with
  | nil => rfl
  | cons h t ih => rw [List.map_cons, List.map_cons, ih, h.1]
theorem KV.length {kvs : List (κ × V)} {vs : List (κ × Value)} (r : KV kvs vs) : kvs.length = vs.length := Paired.length r
end
theorem kV_is {P : Program} {w : World} {k : Key} {u : Value} (r : RelV (kV k) u) : (mixKind P w).is k u = true := by
  cases k with
  | inl i => obtain ⟨t, e⟩ := (show ∃ t, u = Value.int i t from r); subst e; exact mixKind_int P w i t
  | inr x => obtain ⟨t, e⟩ := (show ∃ t, u = Value.str x t from r); subst e; exact mixKind_str P w x t
theorem items_are {P : Program} {w : World} : ∀ {ks : List Key} {us : List Value}, Vals (ks.map kV) us → ItemsAre (mixKind P w) ks us
  | [], _, r => by rw [List.map_nil] at r; cases r; exact .nil
  | k :: ks, _, r => by
    rw [List.map_cons] at r
    cases r with
    | cons h t => exact .cons (kV_is h) (items_are t)
abbrev KT (H : Hp) : List (List Key × V) → List (List Key × Addr × Value) → Prop := Paired fun p q => p.1 = q.1 ∧ H q.2.1 = some (.tup (p.1.map kV)) ∧ RelV p.2 q.2.2
theorem KT.val {H : Hp} {kvs : List (List Key × V)} {xs : List (List Key × Addr × Value)} (r : KT H kvs xs) (k : List Key) : RelO (valV kvs k) ((atKey xs k).map (·.2)) := by
  induction r with
  | nil => exact True.intro
  | @cons p q ps qs h t ih =>
    obtain ⟨h1, _, h2⟩ := h
    by_cases e : p.1 = k
    · have e' : q.1 = k := h1.symm.trans e
      have b : atKey (q :: qs) k = some q.2 := by simp [atKey, List.find?_cons, e']
      rw [valV_pos e, b]; exact h2
    · have e' : ¬ q.1 = k := fun z => e (h1.trans z)
      have b : atKey (q :: qs) k = atKey qs k := by simp [atKey, List.find?_cons, e']
      rw [valV_neg e, b]; exact ih
theorem KT.repl {H : Hp} {kvs : List (List Key × V)} {xs : List (List Key × Addr × Value)} (r : KT H kvs xs) (k : List Key) {y : V} {u : Value} (ry : RelV y u) :
    KT H (kvs.map fun kv => if kv.1 = k then (kv.1, y) else kv) (xs.map (putAt k u)) := by
  induction r with
  | nil => exact .nil
  | @cons p q ps qs h t ih =>
    rw [List.map_cons, List.map_cons]
    refine .cons ?_ ih
    obtain ⟨h1, h2, h3⟩ := h
    unfold putAt
    by_cases e : p.1 = k
    · rw [if_pos e, if_pos (h1.symm.trans e)]; exact ⟨h1, h2, ry⟩
    · rw [if_neg e, if_neg (fun z => e (h1.trans z))]; exact ⟨h1, h2, h3⟩
theorem KT.put {H : Hp} {kvs : List (List Key × V)} {xs : List (List Key × Addr × Value)} (r : KT H kvs xs) (k : List Key) {b : Addr} {y : V} {u : Value} (hb : H b = some (.tup (k.map kV))) (ry : RelV y u) :
    KT H (putK kvs k y) (storedH xs k b u) := by
  have e : (kvs.any fun kv => decide (kv.1 = k)) = (atKey xs k).isSome := by
    rw [valV_any, (r.val k).isSome_eq, Option.isSome_map]
  unfold putK storedH
  rw [e]
  by_cases q : (atKey xs k).isSome = true
  · rw [if_pos q, if_pos q]; exact r.repl k ry
  · rw [if_neg q, if_neg q]; exact Paired.snoc r ⟨rfl, hb, ry⟩
theorem KT.keeps {H H' : Hp} {kvs : List (List Key × V)} {xs : List (List Key × Addr × Value)} (r : KT H kvs xs) (ht : ∀ b ys, H b = some (.tup ys) → H' b = some (.tup ys)) : KT H' kvs xs :=
  Paired.mapP r fun _ _ z => ⟨z.1, ht _ _ z.2.1, z.2.2⟩
section
variable {P : Program} {w : World} {H : Hp} {h : Heap} {a : Addr}
theorem rd_of {u : HO} (ok : HOk P w H h) (e : Rd H a u) : ObjOk P w H h a u := e.ok ok
theorem dk_rd {kvs : List (Key × V)} (ok : HOk P w H h) (e : Rd H a (.dK kvs)) : kvs.length ≤ sizeLine ∧ (a == sysModules) = false ∧ ∃ vs, KV kvs vs ∧ h.DictOf (mixKind P w) a vs :=
  show ObjOk P w H h a (.dK kvs) from rd_of ok e
theorem dk_of {kvs : List (Key × V)} (ok : HOk P w H h) (e : H a = some (.dK kvs)) : kvs.length ≤ sizeLine ∧ (a == sysModules) = false ∧ ∃ vs, KV kvs vs ∧ h.DictOf (mixKind P w) a vs := dk_rd ok (.inl e)
theorem key_of {ks : List Key} (ok : HOk P w H h) (e : H a = some (.tup (ks.map kV))) : (tupleKind (mixKind P w)).is h ks a := by
  obtain ⟨_, its, r, o, h1, h2, n, h3⟩ := (show ObjOk P w H h a (.tup (ks.map kV)) from ok a _ e)
  exact ⟨o, its.toArray, n, h1, h2, h3, by simpa using items_are r⟩
theorem dt_rd {kvs : List (List Key × V)} (ok : HOk P w H h) (e : Rd H a (.dT kvs)) : kvs.length ≤ sizeLine ∧ (a == sysModules) = false ∧
    ∃ xs, KT H kvs xs ∧ h.DictOfH (tupleKind (mixKind P w)) a xs := by
  obtain ⟨z, y, xs, r, o, es, ep, h1, h2, h3, h4, h5⟩ := (show ObjOk P w H h a (.dT kvs) from rd_of ok e)
  refine ⟨z, y, xs, r, o, es, ep, h1, h2, h3, h4, fun x hx => ?_, h5⟩
  have all : ∀ {l : List (List Key × V)} {m : List (List Key × Addr × Value)}, KT H l m → ∀ x ∈ m, (tupleKind (mixKind P w)).is h x.1 x.2.1 := by
    intro l m q
    induction q with
    | nil => intro x hx; exact nomatch hx
    | @cons p q ps qs hq t ih =>
      intro x hx
      rcases List.mem_cons.mp hx with e | hx
      · subst e
        exact key_of ok (by rw [← hq.1]; exact hq.2.1)
      · exact ih x hx
  exact all r x hx
theorem dt_of {kvs : List (List Key × V)} (ok : HOk P w H h) (e : H a = some (.dT kvs)) : kvs.length ≤ sizeLine ∧ (a == sysModules) = false ∧
    ∃ xs, KT H kvs xs ∧ h.DictOfH (tupleKind (mixKind P w)) a xs := dt_rd ok (.inl e)
end
def DGet (H : Hp) (a : Addr) (y : V) (r : Option V) : Prop :=
  (∃ kvs k, Rd H a (.dK kvs) ∧ y = kV k ∧ r = valV kvs k) ∨ ∃ kvs k b, Rd H a (.dT kvs) ∧ y = .ref b ∧ H b = some (.tup (k.map kV)) ∧ r = valV kvs k
def DPut (H : Hp) (a : Addr) (y v : V) (H' : Hp) : Prop :=
  (∃ kvs k, H a = some (.dK kvs) ∧ y = kV k ∧ kvs.length < sizeLine ∧ H' = upd H a (.dK (putK kvs k v))) ∨
  ∃ kvs k b, H a = some (.dT kvs) ∧ y = .ref b ∧ H b = some (.tup (k.map kV)) ∧ kvs.length < sizeLine ∧ H' = upd H a (.dT (putK kvs k v))
theorem DGet.k {H : Hp} {a : Addr} {kvs : List (Key × V)} {k : Key} (e : H a = some (.dK kvs)) : DGet H a (kV k) (valV kvs k) := .inl ⟨kvs, k, .inl e, rfl, rfl⟩
theorem DGet.t {H : Hp} {a b : Addr} {kvs : List (List Key × V)} {k : List Key} (e : H a = some (.dT kvs)) (eb : H b = some (.tup (k.map kV))) : DGet H a (.ref b) (valV kvs k) := .inr ⟨kvs, k, b, .inl e, rfl, eb, rfl⟩
theorem DPut.k {H : Hp} {a : Addr} {kvs : List (Key × V)} {k : Key} {v : V} (e : H a = some (.dK kvs)) (hl : kvs.length < sizeLine) : DPut H a (kV k) v (upd H a (.dK (putK kvs k v))) := .inl ⟨kvs, k, e, rfl, hl, rfl⟩
theorem DPut.t {H : Hp} {a b : Addr} {kvs : List (List Key × V)} {k : List Key} {v : V} (e : H a = some (.dT kvs)) (eb : H b = some (.tup (k.map kV))) (hl : kvs.length < sizeLine) :
    DPut H a (.ref b) v (upd H a (.dT (putK kvs k v))) := .inr ⟨kvs, k, b, e, rfl, eb, hl, rfl⟩
section
variable {X : Cx} {pins : List (Addr × Obj)} {σ : St} {H : Hp} {s : Shared} {a : Addr} {y v : V} {u r : Value} {o : Option V} {A : Around} {E : Value → Shared → Prop}
theorem Inv.big (I : Inv X pins σ H s) : sysModules < s.heap.objs.size := by
  have h : mainGlobals < s.heap.objs.size := (I.mod.glob.keeps I.bk).lt
  exact Nat.lt_trans (by decide) h
theorem d_getItem {Q : Value → Shared → Prop} (hu : A.units + 1 < cLine) (I : Inv X pins σ H s) (g : DGet H a y (some v)) (ry : RelV y u) (h : ∀ w' s', Inv X pins σ H s' → RelV v w' → Q w' s') :
    wpAny (model X.prog X.w) A (getItem (.ref a) u) Q E s := by
  rcases g with ⟨kvs, k, e, ey, l⟩ | ⟨kvs, k, b, e, ey, eb, l⟩
  · subst ey
    obtain ⟨z, hd, vs, rel, dd⟩ := dk_rd I.hok e
    obtain ⟨w', hw, rw'⟩ := RelO.some_of (v := v) (o := valueAt vs k) (by rw [l]; exact rel.val k)
    exact wpAny_getItem_of (kV_is ry) dd.mapOf hw (h w' _ (I.tok _) rw')
  · subst ey
    cases (show u = Value.ref b from ry)
    obtain ⟨z, hd, xs, rel, dd⟩ := dt_rd I.hok e
    obtain ⟨w', hw, rw'⟩ := RelO.some_of (v := v) (o := (atKey xs k).map (·.2)) (by rw [l]; exact rel.val k)
    obtain ⟨p, hp, hp2⟩ := Option.map_eq_some_iff.mp hw
    refine wpAny_getItem_heap (tupleKind_room_in1 hu) (key_of I.hok eb) dd hp ?_
    rw [hp2]
    exact h w' _ (I.tok _) rw'
theorem d_write {h' : Heap} {t' : Nat} {ob : HO} (I : Inv X pins σ H s) (mu : Mut (H a)) (hs : Heap.SameBut a s.heap h') (he : ∃ q, h'.get? a = some q) (new : ObjOk X.prog X.w (upd H a ob) h' a ob) :
    Inv X pins σ (upd H a ob) { s with heap := h', toks := t' } :=
  I.write (x := a) (e := a) mu (.inl rfl) (fun b q hb z => (hs.2 b hb).trans z) he new
theorem dk_new {P : Program} {w : World} {H' : Hp} {h' : Heap} {kvs : List (Key × V)} {vs : List (Key × Value)} (z : kvs.length ≤ sizeLine) (hd : (a == sysModules) = false) (rel : KV kvs vs) (dd : h'.DictOf (mixKind P w) a vs) :
    ObjOk P w H' h' a (.dK kvs) := ⟨z, hd, vs, rel, dd⟩
theorem d_setItem {H' : Hp} {Q : Unit → Shared → Prop} (hu : A.units + 1 < cLine) (I : Inv X pins σ H s) (g : DPut H a y v H') (ry : RelV y u) (rv : RelV v r) (h : ∀ s', Inv X pins σ H' s' → Q () s') :
    wpAny (model X.prog X.w) A (setItem (.ref a) u r) Q E s := by
  rcases g with ⟨kvs, k, e, ey, l, eH⟩ | ⟨kvs, k, b, e, ey, eb, l, eH⟩
  · subst ey eH
    obtain ⟨z, hd, vs, rel, dd⟩ := dk_of I.hok e
    have hz : vs.length ≤ sizeLine := by rw [← rel.length]; exact z
    have hl : (putK kvs k v).length ≤ sizeLine := by have := length_putK kvs k v; omega
    refine wpAny_setItem_pairs (hsz := hz) (kV_is ry) dd fun h' dd' hs => h _ ?_
    have he : ∃ q, h'.get? a = some q := let ⟨q, _, _, hq, _⟩ := dd'; ⟨q, hq⟩
    exact d_write I (by rw [e]; exact True.intro) hs he (dk_new hl hd (rel.put k rv) dd')
  · subst ey eH
    cases (show u = Value.ref b from ry)
    obtain ⟨z, hd, xs, rel, dd⟩ := dt_of I.hok e
    have hz : xs.length ≤ sizeLine := by rw [← Paired.length rel]; exact z
    have hl : (putK kvs k v).length ≤ sizeLine := by have := length_putK kvs k v; omega
    refine wpAny_setItem_heap (hsz := hz) (tupleKind_room_in1 hu) (key_of I.hok eb) dd fun h' dd' hs => h _ ?_
    obtain ⟨q, es, ep, hq, h2, h3, h4, _, h5⟩ := dd'
    refine d_write I (by rw [e]; exact True.intro) hs ⟨q, hq⟩ ⟨hl, hd, _, (rel.put k eb rv).keeps fun c ys ec => ?_, q, es, ep, hq, h2, h3, h4, h5⟩
    rw [upd_ne (ne_of ec e (fun z => nomatch z))]
    exact ec
end
section
variable {X : Cx} {pins : List (Addr × Obj)} {σ : St} {H : Hp} {s : Shared} {a : Addr} {kvs : List (Key × V)} {k : Key} {u : Value} {A : Around} {E : Value → Shared → Prop}
end
def NoSl (i : Expr) : Prop := ∀ ov iv, subscripted i false ov iv = operate [ov, iv] (getItem ov iv)
theorem subD_of {prog : Program} {w : World} {A : Around} {E : Value → Shared → Prop} {s : Shared} {env : Env} {value slice : Expr} {pos : Pos} {T id : String} {Q : Value → Shared → Prop}
    (hl : typeLookup (.type T) "__getitem__" = pure (some (.builtin id))) (hs : NoSl slice)
    (h : wpAny (model prog w) A (eval value env) (fun o s₁ => wpAny (model prog w) A (eval slice env) (fun i s₂ => s₂.TypeIs o T ∧ wpAny (model prog w) A (getItem o i) Q E s₂) E s₁) E s) :
    wpAny (model prog w) A (eval (.Subscript value slice pos) env) Q E s := by
  refine Subscript_ (wpAny_mono h (fun o s₁ h₁ => wpAny_mono h₁ (fun i s₂ h₂ => ?_) fun _ _ x => x) fun _ _ x => x)
  obtain ⟨hT, h₂⟩ := h₂
  unfold subscriptTail
  refine wpAny_bind ?_
  rw [getitemInPython_of_ne hT.not_modules]
  refine wpAny_bind (wpAny_specialOf hT hl ?_)
  have fin : wpAny (model prog w) A (subscripted slice false o i) (fun r s₃ => wpAny (model prog w) A (letTemporaryGo value o r >>= fun _ => pure r) Q E s₃) E s₂ := by
    rw [hs o i]
    exact wpAny_operating (wpAny_mono h₂ (fun r s₃ h₃ => wpAny_bind (wpAny_letTemporaryGo (wpAny_pure h₃))) fun _ _ x => x)
  first
    | exact wpAny_pure (wpAny_bind fin)
    | exact wpAny_bind (wpAny_pure (wpAny_bind fin))
    | exact wpAny_bind fin
theorem dict_typeIs {X : Cx} {pins : List (Addr × Obj)} {σ : St} {H : Hp} {s : Shared} {a : Addr} {y : V} {o : Option V} (I : Inv X pins σ H s) (g : DGet H a y o) : s.TypeIs (.ref a) "dict" := by
  rcases g with ⟨kvs, k, e, _, _⟩ | ⟨kvs, k, b, e, _, _, _⟩
  · obtain ⟨_, _, vs, _, dd⟩ := dk_rd I.hok e
    exact dd.typeIs
  · obtain ⟨_, _, xs, _, dd⟩ := dt_rd I.hok e
    exact dd.typeIs
def tDGet (td ty : TE) : TE := fun σ H Q => td σ H fun x H1 => ty σ H1 fun y H2 => ∃ a v, x = .ref a ∧ DGet H2 a y (some v) ∧ Q v H2
def sDPut (td ty tv : TE) : TS := fun D σ H => tv σ H fun v H1 => td σ H1 fun x H2 => ty σ H2 fun y H3 => ∃ a H4, x = .ref a ∧ DPut H3 a y v H4 ∧ D.nx σ H4
section
variable {X : Cx} {o i e value : Expr} {pos pos' tpos : Pos} {td ty tv : TE}
theorem pe_dget (hu : X.A.units + 1 < cLine) (ho : PE X o td) (hi : PE X i ty) (hs : NoSl i) : PE X (.Subscript o i pos) (tDGet td ty) := by
  intro pins s σ H Q I h
  refine subD_of PySem.F.slot_dict_getitem.lookup hs (thn (ho pins s σ H _ I h) fun u s1 ⟨x, H1, I1, rx, q1⟩ => thn (hi pins s1 σ H1 _ I1 q1) fun iv s2 ⟨y, H2, I2, ry, a, v, ex, g, q2⟩ => ?_)
  subst ex
  obtain rfl : u = Value.ref a := rx
  exact ⟨dict_typeIs I2 g, d_getItem hu I2 g ry fun w' s3 I3 rw' => ⟨v, H2, I3, rw', q2⟩⟩
theorem ps_dput (hu : X.A.units + 1 < cLine) (ho : PE X o td) (hi : PE X i ty) (hv : PE X value tv) (hs : swapsWith value (some (.Subscript o i pos')) pos.line X.env = pure false) :
    PS X (.Assign [.Subscript o i pos'] value pos) (sDPut td ty tv) := by
  intro pins s σ H D I h
  refine wpAny_Assign_Subscript (thn (hv pins s σ H _ I h) fun r s1 ⟨v, H1, I1, rv, q1⟩ => thn (ho pins s1 σ H1 _ I1 q1) fun u s2 ⟨x, H2, I2, rx, q2⟩ => thn (hi pins s2 σ H2 _ I2 q2) fun iv s3 ⟨y, H3, I3, ry, a, H4, ex, g, q3⟩ => ?_) hs
  subst ex
  obtain rfl : u = Value.ref a := rx
  exact d_setItem hu I3 g ry rv fun s4 I4 => ⟨σ, H4, I4, q3⟩
end
theorem dt_empty {P : Program} {w : World} {H : Hp} (h : Heap) (hb : sysModules < h.objs.size) : ObjOk P w H (h.push { cls := .type "dict", data := .dict #[] }) h.objs.size (.dT []) :=
  ⟨Nat.zero_le _, beq_eq_false_iff_ne.mpr (Ne.symm (Nat.ne_of_lt hb)), [], .nil, _, #[], 0, Heap.get?_push_size _ rfl, ⟨rfl, rfl, rfl⟩, rfl, rfl, List.nodup_nil⟩
def tDNewT : TE := fun _ H Q => ∀ p, H p = none → Q (.ref p) (upd H p (.dT []))
section
variable {X : Cx} {pos : Pos}
theorem pe_dnewT : PE X (.Dict [] [] pos) tDNewT := fun pins s σ H Q I h =>
  wpAny_Dict_empty ⟨.ref s.heap.objs.size, _, I.laid (a := s.heap.objs.size) (o := .dT []) (t' := s.toks) (fun _ _ q => Heap.get?_push_of_some _ q) (Nat.le_refl _) (dt_empty s.heap I.big), rfl, h _ (I.hok.fresh (Nat.le_refl _))⟩
end
structure M1 (X : Cx) (o : Expr) (m : Str) (apos : Pos) (e : Expr) (cpos : Pos) : Prop where
  base : attributeBase o m X.env (eval o X.env) = eval o X.env
  few : ((backTo cpos (starEach [e] X.env)).all (fun x => !x.1) && (backToKw cpos (keywordEach [] X.env)).all (fun x => x.1.isSome)
    && decide (([e] : List Expr).length + ([] : List Keyword).length + (if ([] : List Keyword).isEmpty then 0 else 1) < 30)) = true
  line : (apos.endLine == cpos.line) = true
  trees : backTo cpos (starEach [e] X.env) = [(false, eval e X.env)]
structure M2 (X : Cx) (o : Expr) (m : Str) (apos : Pos) (e f : Expr) (cpos : Pos) : Prop where
  base : attributeBase o m X.env (eval o X.env) = eval o X.env
  few : ((backTo cpos (starEach [e, f] X.env)).all (fun x => !x.1) && (backToKw cpos (keywordEach [] X.env)).all (fun x => x.1.isSome)
    && decide (([e, f] : List Expr).length + ([] : List Keyword).length + (if ([] : List Keyword).isEmpty then 0 else 1) < 30)) = true
  line : (apos.endLine == cpos.line) = true
  trees : backTo cpos (starEach [e, f] X.env) = [(false, eval e X.env), (false, eval f X.env)]
def IsD (H : Hp) (a : Addr) : Prop := (∃ kvs, Rd H a (.dK kvs)) ∨ ∃ kvs, Rd H a (.dT kvs)
theorem isD_at {X : Cx} {pins : List (Addr × Obj)} {σ : St} {H : Hp} {s : Shared} {a : Addr} (I : Inv X pins σ H s) (d : IsD H a) :
    s.TypeIs (.ref a) "dict" ∧ (∀ b, Value.ref a = .ref b → ∃ ob, s.heap.get? b = some ob ∧ ob.dict = none) ∧ (a == sysModules) = false := by
  rcases d with ⟨kvs, e⟩ | ⟨kvs, e⟩
  · obtain ⟨_, hd, vs, _, dd⟩ := dk_rd I.hok e
    refine ⟨dd.typeIs, fun b q => ?_, hd⟩
    cases q
    obtain ⟨ob, _, _, h1, h2, _⟩ := dd
    exact ⟨ob, h1, h2.2.1⟩
  · obtain ⟨_, hd, xs, _, dd⟩ := dt_rd I.hok e
    refine ⟨dd.typeIs, fun b q => ?_, hd⟩
    cases q
    obtain ⟨ob, _, _, h1, h2, _⟩ := dd
    exact ⟨ob, h1, h2.2.1⟩
section
variable {X : Cx} {pins : List (Addr × Obj)} {σ : St} {H : Hp} {s : Shared} {a : Addr} {y d : V} {u r : Value} {o : Option V} {A : Around} {E : Value → Shared → Prop}
theorem d_get2 {Q : Value → Shared → Prop} (hu : A.units + 1 < cLine) (I : Inv X pins σ H s) (g : DGet H a y o) (ry : RelV y u) (rd : RelV d r) (h : ∀ w' s', Inv X pins σ H s' → RelV (o.getD d) w' → Q w' s') :
    wpAny (model X.prog X.w) A (call (.builtin "dict.get") [.ref a, u, r]) Q E s := by
  rcases g with ⟨kvs, k, e, ey, l⟩ | ⟨kvs, k, b, e, ey, eb, l⟩
  · subst ey
    obtain ⟨z, hd, vs, rel, dd⟩ := dk_rd I.hok e
    refine call_meetsIn PySem.F.slot_dict_get dd.typeIs PySem.F.entry_dict_get (PySem.F.args_dict_get_3 _ _ _) (meets_dict_get_default (mixKind X.prog X.w) a (kV_is ry) hd r) ⟨_, dd.mapOf, h _ _ (I.tok _) ?_⟩
    rw [l]
    exact (rel.val k).getD rd
  · subst ey
    cases (show u = Value.ref b from ry)
    obtain ⟨z, hd, xs, rel, dd⟩ := dt_rd I.hok e
    refine call_meetsIn PySem.F.slot_dict_get dd.typeIs PySem.F.entry_dict_get (PySem.F.args_dict_get_3 _ _ _) (meetsH_dict_get_default (tupleKind (mixKind X.prog X.w)) a b hd r) ⟨tupleKind_room_in1 hu, k, xs, key_of I.hok eb, dd, h _ _ (I.tok _) ?_⟩
    rw [l]
    exact (rel.val k).getD rd
end
def tDGet2 (td ty tx : TE) : TE := fun σ H Q => td σ H fun x H1 => ∃ a, x = .ref a ∧ IsD H1 a ∧ ty σ H1 fun y H2 => tx σ H2 fun z H3 => ∃ o, DGet H3 a y o ∧ Q (o.getD z) H3
section
variable {X : Cx} {o e f : Expr} {apos cpos : Pos} {td ty tx : TE}
theorem pe_dget2 (hu : X.A.units + 1 < cLine) (ho : PE X o td) (he : PE X e ty) (hf : PE X f tx) (m : M2 X o "get" apos e f cpos) : PE X (.Call (.Attribute o "get" apos) [e, f] [] cpos) (tDGet2 td ty tx) := by
  intro pins s σ H Q I h
  refine wpAny_Call_method m.base m.few m.line PySem.F.plainAttrs_dict PySem.F.slot_dict_get PySem.F.type_dict_get (thn (ho pins s σ H _ I h) fun u s1 ⟨x, H1, I1, rx, a, ex, d, q1⟩ => ?_)
  subst ex
  obtain rfl : u = Value.ref a := rx
  obtain ⟨t1, t2, _⟩ := isD_at I1 d
  refine ⟨t1, t2, ?_⟩
  rw [m.trees]
  refine Calls.callWith_builtin rfl (Calls.evalArgs_plain (Calls.spliced_cons (thn (he pins s1 σ H1 _ I1 q1) fun iv s2 ⟨y, H2, I2, ry, q2⟩ =>
    Calls.spliced_cons (thn (hf pins s2 σ H2 _ I2 q2) fun fv s3 ⟨z, H3, I3, rz, ov, g, q3⟩ => Calls.spliced_nil ?_))))
  exact d_get2 hu I3 g ry rz fun w' s4 I4 rw' => ⟨_, H3, I4, rw', q3⟩
end
section
variable {X : Cx} {pins : List (Addr × Obj)} {σ : St} {H : Hp} {s : Shared} {a : Addr} {kvs : List (Key × V)} {A : Around} {E : Value → Shared → Prop}
end
section
variable {X : Cx} {pins : List (Addr × Obj)} {σ : St} {H : Hp} {s : Shared} {a : Addr} {y : V} {u : Value} {A : Around} {E : Value → Shared → Prop}
end
end L2
namespace L2
open PySem PySem.Spec PyProof.Rows
section
variable {X : Cx}
end
section
variable {κ : Type} [DecidableEq κ]
end
end L2
set_option linter.all false
namespace TS
open PySem PyProof.Rows
section
variable {prog : Program} {w : World} {A : Around} {E : Value → Shared → Prop} {s : Shared}
structure Cmp (prog : Program) (w : World) (A : Around) (s : Shared) (kd : SortKind) (O : KeyOrd) (ky : Keyed → O.α) (S : Keyed → Prop) : Prop where
  lt : ∀ p q, S p → S q → ∀ {E : Value → Shared → Prop} {Q : Bool → Shared → Prop}, Q (O.blt (ky p) (ky q)) s → wpAny (model prog w) A (keyLt' kd p.1 q.1) Q E s
variable {kd : SortKind} {O : KeyOrd} {ky : Keyed → O.α} {S : Keyed → Prop}
end
end TS
set_option linter.all false
namespace TS
open PySem PyProof.Rows
section
variable (O : KeyOrd) (ky : Keyed → O.α)
def R (p q : Keyed) : Prop := O.kle (ky p) (ky q)
def Srt (l : List Keyed) : Prop := l.Pairwise (R O ky)
structure MI (a b out : Array Keyed) (ia ib : Nat) : Prop where
  ha : ia ≤ a.size
  hb : ib ≤ b.size
  perm : out.toList.Perm (a.toList.take ia ++ b.toList.take ib)
  srt : Srt O ky out.toList
  ra : ∀ x ∈ out.toList, ∀ y ∈ a.toList.drop ia, R O ky x y
  rb : ∀ x ∈ out.toList, ∀ y ∈ b.toList.drop ib, R O ky x y
def Good (a b o : Array Keyed) : Prop := o.toList.Perm (a.toList ++ b.toList) ∧ Srt O ky o.toList
variable {O ky} {a b out o : Array Keyed} {ia ib : Nat}
theorem drop_srt {l : List Keyed} (h : Srt O ky l) (k : Nat) : Srt O ky (l.drop k) := List.Pairwise.sublist (List.drop_sublist k l) h
theorem take_srt {l : List Keyed} (h : Srt O ky l) (k : Nat) : Srt O ky (l.take k) := List.Pairwise.sublist (List.take_sublist k l) h
theorem ext_all (x : Array Keyed) (i : Nat) : (x.extract i x.size).toList = x.toList.drop i := by simp [List.extract, List.take_of_length_le]
theorem MI.done (h : MI O ky a b out ia ib) (sa : Srt O ky a.toList) (sb : Srt O ky b.toList) (hor : ia = a.size ∨ ib = b.size) : Good O ky a b (out ++ a.extract ia a.size ++ b.extract ib b.size) := by
  unfold Good Srt
  rw [Array.toList_append, Array.toList_append, ext_all, ext_all]
  refine ⟨?_, ?_⟩
  · have e1 := List.take_append_drop ia a.toList
    have e2 := List.take_append_drop ib b.toList
    conv => rhs; rw [← e1, ← e2]
    rw [List.append_assoc]
    refine (h.perm.append_right _).trans ?_
    rw [List.append_assoc, List.append_assoc]
    refine List.Perm.append_left _ ?_
    rw [← List.append_assoc, ← List.append_assoc]
    exact List.perm_append_comm.append_right _
  · rw [List.pairwise_append, List.pairwise_append]
    refine ⟨⟨h.srt, drop_srt sa _, h.ra⟩, drop_srt sb _, fun x hx y hy => ?_⟩
    rcases List.mem_append.mp hx with hx | hx
    · exact h.rb x hx y hy
    · rcases hor with q | q
      · rw [q, List.drop_of_length_le (by simp)] at hx; cases hx
      · rw [q, List.drop_of_length_le (by simp)] at hy; cases hy
theorem MI.last (h : MI O ky a b out ia ib) (sa : Srt O ky a.toList) (sb : Srt O ky b.toList) (hl : ∀ y ∈ b.toList, ∀ x ∈ a.toList.drop ia, R O ky y x) : Good O ky a b (out ++ b.extract ib b.size ++ a.extract ia a.size) := by
  unfold Good Srt
  rw [Array.toList_append, Array.toList_append, ext_all, ext_all]
  refine ⟨?_, ?_⟩
  · have e1 := List.take_append_drop ia a.toList
    have e2 := List.take_append_drop ib b.toList
    conv => rhs; rw [← e1, ← e2]
    rw [List.append_assoc]
    refine (h.perm.append_right _).trans ?_
    rw [List.append_assoc, List.append_assoc]
    refine List.Perm.append_left _ ?_
    rw [← List.append_assoc]
    exact List.perm_append_comm
  · rw [List.pairwise_append, List.pairwise_append]
    refine ⟨⟨h.srt, drop_srt sb _, h.rb⟩, drop_srt sa _, fun x hx y hy => ?_⟩
    rcases List.mem_append.mp hx with hx | hx
    · exact h.ra x hx y hy
    · exact hl x (List.mem_of_mem_drop hx) y hy
structure MH (O : KeyOrd) (ky : Keyed → O.α) (a b out : Array Keyed) (na nb : Nat) : Prop where
  ha : na ≤ a.size
  hb : nb ≤ b.size
  perm : out.toList.Perm (a.toList.drop na ++ b.toList.drop nb)
  srt : out.toList.Pairwise fun x y => R O ky y x
  ra : ∀ x ∈ out.toList, ∀ y ∈ a.toList.take na, R O ky y x
  rb : ∀ x ∈ out.toList, ∀ y ∈ b.toList.take nb, R O ky y x
theorem ext0 (x : Array Keyed) (k : Nat) : (x.extract 0 k).toList = x.toList.take k := by simp [List.extract]
theorem MH.done {na nb : Nat} (h : MH O ky a b out na nb) (sa : Srt O ky a.toList) (sb : Srt O ky b.toList) (hor : na = 0 ∨ nb = 0) : Good O ky a b (a.extract 0 na ++ b.extract 0 nb ++ out.reverse) := by
  unfold Good Srt
  rw [Array.toList_append, Array.toList_append, ext0, ext0, Array.toList_reverse]
  refine ⟨?_, ?_⟩
  · have e1 := List.take_append_drop na a.toList
    have e2 := List.take_append_drop nb b.toList
    conv => rhs; rw [← e1, ← e2]
    refine (List.Perm.append_left _ ((List.reverse_perm _).trans h.perm)).trans ?_
    rw [List.append_assoc, List.append_assoc]
    refine List.Perm.append_left _ ?_
    rw [← List.append_assoc, ← List.append_assoc]
    exact List.perm_append_comm.append_right _
  · rw [List.pairwise_append, List.pairwise_append, List.pairwise_reverse]
    refine ⟨⟨take_srt sa _, take_srt sb _, fun x hx y hy => ?_⟩, h.srt, fun x hx y hy => ?_⟩
    · rcases hor with q | q
      · rw [q, List.take_zero] at hx; cases hx
      · rw [q, List.take_zero] at hy; cases hy
    · rcases List.mem_append.mp hx with hx | hx
      · exact h.ra y (List.mem_reverse.mp hy) x hx
      · exact h.rb y (List.mem_reverse.mp hy) x hx
theorem MH.first {na nb : Nat} (h : MH O ky a b out na nb) (sa : Srt O ky a.toList) (sb : Srt O ky b.toList) (hl : ∀ x ∈ b.toList.take nb, ∀ y ∈ a.toList, R O ky x y) : Good O ky a b (b.extract 0 nb ++ a.extract 0 na ++ out.reverse) := by
  unfold Good Srt
  rw [Array.toList_append, Array.toList_append, ext0, ext0, Array.toList_reverse]
  refine ⟨?_, ?_⟩
  · have e1 := List.take_append_drop na a.toList
    have e2 := List.take_append_drop nb b.toList
    conv => rhs; rw [← e1, ← e2]
    refine (List.Perm.append_left _ ((List.reverse_perm _).trans h.perm)).trans ?_
    refine (List.perm_append_comm.append_right _).trans ?_
    rw [List.append_assoc, List.append_assoc]
    refine List.Perm.append_left _ ?_
    rw [← List.append_assoc, ← List.append_assoc]
    exact List.perm_append_comm.append_right _
  · rw [List.pairwise_append, List.pairwise_append, List.pairwise_reverse]
    refine ⟨⟨take_srt sb _, take_srt sa _, fun x hx y hy => hl x hx y (List.mem_of_mem_take hy)⟩, h.srt, fun x hx y hy => ?_⟩
    rcases List.mem_append.mp hx with hx | hx
    · exact h.rb y (List.mem_reverse.mp hy) x hx
    · exact h.ra y (List.mem_reverse.mp hy) x hx
end
end TS
set_option linter.all false
namespace TS
open PySem PyProof.Rows
structure SameSt (st st' : SortSt) : Prop where
  kind : kindOf st' = kindOf st
  arr : arrOf st' = arrOf st
  pend : pendingOf st' = pendingOf st
  fail : failedOf st' = failedOf st
theorem SameSt.refl (st : SortSt) : SameSt st st := ⟨rfl, rfl, rfl, rfl⟩
theorem SameSt.trans {a b c : SortSt} (h : SameSt a b) (h' : SameSt b c) : SameSt a c := ⟨h'.kind.trans h.kind, h'.arr.trans h.arr, h'.pend.trans h.pend, h'.fail.trans h.fail⟩
def at_ (a : Array Keyed) (i : Nat) : Keyed := (a[i]?).getD (.none, .none)
section
variable {O : KeyOrd} {ky : Keyed → O.α}
end
section
variable {prog : Program} {w : World} {A : Around} {E : Value → Shared → Prop} {s : Shared}
variable {kd : SortKind} {O : KeyOrd} {ky : Keyed → O.α} {S : Keyed → Prop}
end
end TS
set_option linter.all false
namespace TS
open PySem PyProof.Rows
section
variable {O : KeyOrd} {ky : Keyed → O.α}
end
section
variable {prog : Program} {w : World} {A : Around} {E : Value → Shared → Prop} {s : Shared}
variable {kd : SortKind} {O : KeyOrd} {ky : Keyed → O.α} {S : Keyed → Prop}
end
end TS
set_option linter.all false
namespace TS
open PySem PyProof.Rows
structure Chg (lo : Nat) (st st' : SortSt) : Prop where
  kind : kindOf st' = kindOf st
  pend : pendingOf st' = pendingOf st
  fail : failedOf st' = failedOf st
  perm : (arrOf st').Perm (arrOf st)
  low : ∀ i, i < lo → (arrOf st')[i]? = (arrOf st)[i]?
theorem Chg.refl (lo : Nat) (st : SortSt) : Chg lo st st := ⟨rfl, rfl, rfl, Array.Perm.refl _, fun _ _ => rfl⟩
theorem Chg.trans {lo : Nat} {a b c : SortSt} (h : Chg lo a b) (h' : Chg lo b c) : Chg lo a c := ⟨h'.kind.trans h.kind, h'.pend.trans h.pend, h'.fail.trans h.fail, h'.perm.trans h.perm, fun i hi => (h'.low i hi).trans (h.low i hi)⟩
theorem Chg.size {lo : Nat} {a b : SortSt} (h : Chg lo a b) : (arrOf b).size = (arrOf a).size := h.perm.size_eq
theorem Chg.all {lo : Nat} {a b : SortSt} {S : Keyed → Prop} (h : Chg lo a b) (hS : ∀ p ∈ (arrOf a).toList, S p) : ∀ p ∈ (arrOf b).toList, S p := fun p hp => hS p ((Array.perm_iff_toList_perm.mp h.perm).mem_iff.mp hp)
section
variable {prog : Program} {w : World} {A : Around} {E : Value → Shared → Prop} {s : Shared}
variable {kd : SortKind} {O : KeyOrd} {ky : Keyed → O.α} {S : Keyed → Prop}
end
end TS
set_option linter.all false
namespace TS
open PySem PyProof.Rows
def offs : Nat → List (List Keyed) → List (Nat × Nat)
  | _, [] => []
  | o, g :: r => (o, g.length) :: offs (o + g.length) r
theorem offs_append : ∀ (p q : List (List Keyed)) (o : Nat), offs o (p ++ q) = offs o p ++ offs (o + p.flatten.length) q
  | [], q, o => by simp [offs]
  | g :: r, q, o => by
    show (o, g.length) :: offs (o + g.length) (r ++ q) = (o, g.length) :: offs (o + g.length) r ++ _
    rw [offs_append r q, List.cons_append, List.flatten_cons, List.length_append, Nat.add_assoc]
def two (p : Nat × Nat × Nat) : Nat × Nat := (p.1, p.2.1)
structure Stk (O : KeyOrd) (ky : Keyed → O.α) (kd : SortKind) (a0 : Array Keyed) (st : SortSt) (segs : List (List Keyed)) (rest : List Keyed) : Prop where
  kind : kindOf st = kd
  fail : failedOf st = none
  arr : (arrOf st).toList = segs.flatten ++ rest
  perm : (arrOf st).Perm a0
  pend : (pendingOf st).toList.map two = offs 0 segs
  each : ∀ g ∈ segs, g ≠ [] ∧ Srt O ky g
section
variable {O : KeyOrd} {ky : Keyed → O.α}
end
section
variable {prog : Program} {w : World} {A : Around} {E : Value → Shared → Prop} {s : Shared}
variable {kd : SortKind} {O : KeyOrd} {ky : Keyed → O.α} {S : Keyed → Prop} {a0 : Array Keyed}
end
end TS
set_option linter.all false
namespace TS
open PySem PyProof.Rows
section
variable {prog : Program} {w : World} {A : Around} {E : Value → Shared → Prop} {s : Shared}
variable {kd : SortKind} {O : KeyOrd} {ky : Keyed → O.α} {S : Keyed → Prop} {a0 : Array Keyed}
theorem Stk.push {st : SortSt} {segs : List (List Keyed)} {rest : List Keyed} {lo n : Nat} (h : Stk O ky kd a0 st segs rest) (hl : segs.flatten.length = lo) (h1 : 1 ≤ n) (hn : n ≤ rest.length) (hs : Srt O ky (rest.take n)) {st' : SortSt} (k1 : kindOf st' = kindOf st) (k2 : failedOf st' = failedOf st) (k3 : arrOf st' = arrOf st) (k4 : (pendingOf st').toList.map two = (pendingOf st).toList.map two ++ [(lo, n)]) :
    Stk O ky kd a0 st' (segs ++ [rest.take n]) (rest.drop n) := by
  have hln : (rest.take n).length = n := by rw [List.length_take]; omega
  refine ⟨k1.trans h.kind, k2.trans h.fail, ?_, by rw [k3]; exact h.perm, ?_, fun g hg => ?_⟩
  · rw [k3, h.arr]; simp
  · rw [k4, h.pend, offs_append, Nat.zero_add, hl]
    show _ = _ ++ [(lo, (rest.take n).length)]
    rw [hln]
  · rcases List.mem_append.mp hg with hg | hg
    · exact h.each g hg
    · have : g = rest.take n := by simpa using hg
      subst this
      refine ⟨fun z => ?_, hs⟩
      rw [z] at hln
      simp at hln
      omega
end
end TS
set_option linter.all false
set_option maxRecDepth 100000
namespace TS
open PySem PyProof.Rows
section
variable {prog : Program} {w : World} {A : Around} {E : Value → Shared → Prop} {s : Shared}
variable {kd : SortKind} {O : KeyOrd} {ky : Keyed → O.α} {S : Keyed → Prop}
end
end TS
set_option Elab.async false
set_option linter.all false
set_option maxRecDepth 100000
namespace L2
open PySem PySem.Spec PyProof.Rows PySem.W
theorem vals_intsAre : ∀ {ns : List Int} {us : List Value}, Vals (ns.map V.int) us → IntsAre us ns
  | [], _, r => by
    rw [List.map_nil] at r
    cases r; exact .nil
  | n :: ns, _, r => by
    rw [List.map_cons] at r
    cases r with
    | cons h t =>
      obtain ⟨t', rfl⟩ := (show ∃ t, _ = Value.int n t from h)
      exact .cons n t' (vals_intsAre t)
section
variable {X : Cx}
end
end L2
set_option Elab.async false
set_option linter.all false
set_option maxRecDepth 100000
namespace L2
open PySem PySem.Spec PyProof.Rows PySem.W
section
variable {X : Cx} {pins : List (Addr × Obj)} {σ : St} {H : Hp} {s : Shared}
theorem KV.get {κ : Type} [DecidableEq κ] {kvs : List (κ × V)} {vs : List (κ × Value)} (r : KV kvs vs) {i : Nat} {k : κ} {x : V} (h : kvs[i]? = some (k, x)) : ∃ u, vs[i]? = some (k, u) := by
  have e := congrArg (fun l => l[i]?) r.keys
  simp only [List.getElem?_map, h, Option.map_some] at e
  cases q : vs[i]? with
  | none => rw [q] at e; cases e
  | some p =>
    rw [q] at e
    obtain ⟨p1, p2⟩ := p
    have : k = p1 := Option.some.inj e
    subst this
    exact ⟨p2, rfl⟩
end
end L2
set_option Elab.async false
set_option linter.all false
set_option maxRecDepth 100000
set_option maxHeartbeats 4000000
namespace PH
open PySem L2 PySem.W
structure Prs (H : Hp) (p : Addr) (zs : List (Addr × Int × Int)) : Prop where
  at_ : H p = some (.lst (zs.map fun z => V.ref z.1))
  each : ∀ z ∈ zs, H z.1 = some (.tup [.int z.2.1, .int z.2.2])
theorem Prs.same {H H' : Hp} {p : Addr} {zs : List (Addr × Int × Int)} (h : Prs H p zs) (s : Same H H') : Prs H' p zs := ⟨s _ _ h.at_, fun z hz => s _ _ (h.each z hz)⟩
theorem ref_at {zs : List (Addr × Int × Int)} {i : Nat} {y : V} (h : (zs.map fun z => V.ref z.1)[i]? = some y) : ∃ z, zs[i]? = some z ∧ y = V.ref z.1 := by
  rw [List.getElem?_map] at h
  cases e : zs[i]? with
  | none => rw [e] at h; cases h
  | some z => rw [e] at h; exact ⟨z, rfl, (Option.some.inj h).symm⟩
end PH
set_option Elab.async false
set_option linter.all false
set_option maxRecDepth 100000
namespace L2
open PySem PySem.Spec PyProof.Rows PySem.W
section
variable {X : Cx}
def lexB (a b : Int × Int) : Bool := decide (a.1 < b.1) || (decide (a.1 = b.1) && decide (a.2 < b.2))
def PairAt (h : Heap) (z : Addr × Int × Int) : Prop := ∃ o n t u, h.get? z.1 = some o ∧ o.cls = .type "tuple" ∧ o.data = .seq #[.int z.2.1 t, .int z.2.2 u] n
theorem PairAt.keeps {h h' : Heap} {z : Addr × Int × Int} (p : PairAt h z) (k : ∀ b o, h.get? b = some o → h'.get? b = some o) : PairAt h' z := by
  obtain ⟨o, n, t, u, e, r⟩ := p
  exact ⟨o, n, t, u, k _ _ e, r⟩
end
end L2
set_option linter.all false
namespace PH
open L2
def srt (T : List (Int × Int)) : List (Int × Int) := T.mergeSort fun a b => !lexB b a
def things (js : List (Int × Int)) : List Int := js.flatMap fun p => [p.1, p.2]
end PH
set_option Elab.async false
set_option linter.all false
set_option maxRecDepth 100000
set_option maxHeartbeats 4000000
namespace PH
open PySem L2 PySem.W
theorem Prs.len {H : Hp} {p : Addr} {zs : List (Addr × Int × Int)} (h : Prs H p zs) : True := True.intro
theorem Prs.ne {H : Hp} {p : Addr} {zs : List (Addr × Int × Int)} (h : Prs H p zs) {q : Addr} {xs : List V} (hq : H q = some (.lst xs)) : ∀ z ∈ zs, z.1 ≠ q := fun z hz e => by
  have := h.each z hz
  rw [e, hq] at this
  cases this
theorem Prs.app {H : Hp} {p t : Addr} {zs : List (Addr × Int × Int)} {a b : Int} (h : Prs H p zs) (ht : H t = some (.tup [.int a, .int b])) : Prs (upd H p (.lst ((zs.map fun z => V.ref z.1) ++ [V.ref t]))) p (zs ++ [(t, a, b)]) := by
  have n1 := h.ne h.at_
  have n2 : t ≠ p := fun e => by rw [e, h.at_] at ht; cases ht
  refine ⟨by rw [upd_same, List.map_append]; rfl, fun z hz => ?_⟩
  rcases List.mem_append.mp hz with q | q
  · rw [upd_ne (n1 z q)]; exact h.each z q
  · have : z = (t, a, b) := by simpa using q
    subst this
    rw [upd_ne n2]; exact ht
theorem Prs.other {H : Hp} {p q : Addr} {zs : List (Addr × Int × Int)} {xs ys : List V} (h : Prs H p zs) (hq : H q = some (.lst xs)) (hne : p ≠ q) : Prs (upd H q (.lst ys)) p zs := ⟨by rw [upd_ne hne]; exact h.at_, fun z hz => by rw [upd_ne (h.ne hq z hz)]; exact h.each z hz⟩
end PH
set_option Elab.async false
set_option linter.all false
set_option maxRecDepth 100000
set_option maxHeartbeats 4000000
namespace PH
open PySem L2 PySem.W
def ab : Int → List (Int × Int) → Int → Option Int
  | _, [], _ => none
  | n, (i, j) :: r, x => match ab (n + 1) r x with
    | some y => some y
    | none => if x = i ∨ x = j then some n else none
end PH
set_option Elab.async false
set_option linter.all false
set_option maxRecDepth 100000
namespace L2
open PySem PySem.Spec PyProof.Rows
theorem ps_setC {X : Cx} {elt tg iter : Expr} {ifs : List Expr} {scope : Scope} {pos : Pos} {N : List Str} {js : List (Option Nat)} {wi : TI} {g : TG} {tc : TT} {te : TE} {y : Str} {iy : Nat} {py spos : Pos} (hN : X.N.Nodup) (hiy : X.N[iy]? = some y) (hy : X.env.scope.names.lookup y = some .local) (hcalm : X.calm = true) (S : CompScope X N js scope)
    (hi : PI X tg iter wi) (hg : ∀ C s H fp, PG (compCx X N scope C s H fp) tg g) (ht : ∀ C s H fp, PIfs (compCx X N scope C s H fp) ifs tc) (he : ∀ C s H fp, PE (compCx X N scope C s H fp) elt te)
    (hs : ∀ x, foldedSetIterable iter X.env x = pure x := by intro _; rfl) (hsw : swapsWith (.ListComp elt [⟨tg, iter, ifs, 0⟩] scope pos) (some (.Name y py)) spos.line X.env = pure true := by rfl) :
    PS X (.Assign [.Name y py] (.ListComp elt [⟨tg, iter, ifs, 0⟩] scope pos) spos) (tAsg (tComp js wi g tc te) (gName iy)) := by
  intro pins s σ H ED I h
  have hc : ∀ x ∈ scope.names, x.2 = .free → ∃ c, X.env.cells.lookup x.1 = some c := fun x hx e => I.ok.has _ (S.free x hx e)
  rw [exec_Assign_Name_used _ _ _ _ hsw]
  refine wpAny_bind (wpAny_standAt (wpAny_bind ?_))
  show wpAny _ X.A (do let _ ← comprehension (.ListComp elt [⟨tg, iter, ifs, 0⟩] scope pos) scope X.env _ (newList []) false (eval iter X.env) (some (assign (.Name y py) X.env))) _ _ s
  refine wpAny_bind (wpAny_mono (Q := fun _ s' => SP X pins ED .next s') ?_ (fun _ s' hq => wpAny_pure (wpAny_pure hq)) fun _ _ e => e)
  refine wpAny_comprehension_free (use := some (assign (.Name y py) X.env)) rfl hs (clos_eq hc) S.kind S.locs (thn (hi pins s σ H _ I h) fun v s1 h1 => thn h1 fun itv s2 h2 => ?_)
  obtain ⟨it, fp, tn, J, H2, e, I2, T, st2, f2, q⟩ := h2
  subst e
  refine wpAny_newObj_type (wpAny_newFunctionEnv S.nocell (by intro y hy; simp at hy) (fun h₁ hns₁ hsb₁ => ?_) S.kind)
  dsimp only at hns₁ hsb₁ ⊢
  generalize hH2 : s2.heap.push { cls := .type "list", dict := none, data := .seq ([] : List Value).toArray } = G2 at hns₁ hsb₁ ⊢
  have hC : G2.objs.size = s2.heap.objs.size + 1 := by rw [← hH2, Heap.size_push]
  have hDC : s2.heap.objs.size ≠ G2.objs.size := by rw [hC]; exact Nat.ne_of_lt (Nat.lt_succ_self _)
  have hC0 : s2.heap.objs.size ≤ G2.objs.size := by rw [hC]; exact Nat.le_succ _
  have below : ∀ b, b < s2.heap.objs.size → b ≠ G2.objs.size := fun b hb => by rw [hC]; exact Nat.ne_of_lt (Nat.lt_succ_of_lt hb)
  have old : ∀ b o, s2.heap.get? b = some o → h₁.get? b = some o := fun b o e => hsb₁.extBut b o (below b (Heap.lt_size e)) (Heap.get?_push_of_some _ (hH2 ▸ Heap.get?_push_of_some _ e))
  have hacc : h₁.get? s2.heap.objs.size = some { cls := .type "list", data := .seq ([] : List Value).toArray } := hsb₁.extBut _ _ hDC (Heap.get?_push_of_some _ (hH2 ▸ Heap.get?_push_size _ rfl))
  have hfp : ∀ b ∈ fp, b < s2.heap.objs.size := fun b hb => by obtain ⟨o, e, _⟩ := T.obj 0 _ st2 b hb; exact Heap.lt_size e
  obtain ⟨W, ⟨m0, w0⟩, turn⟩ := q s2.heap.objs.size (I2.hok.fresh (Nat.le_refl _))
  have stat : ∀ {H' : Hp}, (∀ b ∈ fp, H' b = none) → ∀ b ∈ fp, FpOk (compCx X N scope G2.objs.size s2 H2 fp) [] H' b := fun {H'} hn b hb =>
    ⟨hn b hb, below b (hfp b hb), fun z => by
      rcases List.mem_cons.mp (I2.stkSub b z) with q | q
      · exact (f2 b hb).2.1 q
      · exact (f2 b hb).2.2.1 q, .inl hb, fun x c e => (f2 b hb).2.2.2.2.1 x c (clos_sub _ _ (fun _ _ z => by simp at z) e), fun p hp => absurd hp (by simp [compCx])⟩
  have loop : ∀ s3 : Shared, s3 = { s2 with heap := h₁, toks := s2.toks + ([] : List (Str × Value)).length } →
      codeAny (model X.prog X.w) X.A (.compLoop (.ListComp elt [⟨tg, iter, ifs, 0⟩] scope pos) 0 (.ref it) (.ref s2.heap.objs.size) (compEnvC scope (clos X.env.cells scope.names []) G2.objs.size X.env))
        (compPost (model X.prog X.w) X.A X.xe (some (assign (.Name y py) X.env)) (fun _ s' => SP X pins ED .next s') (.ref s2.heap.objs.size) G2.objs.size) s3 := by
    rintro s3 rfl
    have I3 : Inv (compCx X N scope G2.objs.size s2 H2 fp) [] (innerSt js σ) (upd H2 s2.heap.objs.size (.lst [])) { s2 with heap := h₁, toks := s2.toks + ([] : List (Str × Value)).length } :=
      inv_comp S I2 f2 hfp old (Nat.le_refl _) hC0 hDC ⟨_, hacc⟩ hns₁
    refine compLoop_gen (fun n s' => ∃ i σ' H', Inv (compCx X N scope G2.objs.size s2 H2 fp) [] σ' H' s' ∧ tn i s'.heap ∧ (∀ b ∈ fp, H' b = none) ∧ W i n σ' H') ?_ m0
      ⟨0, _, _, I3, T.keep 0 _ _ st2 fun b _ o e => old b o e, fun b hb => by rw [upd_ne (Nat.ne_of_lt (hfp b hb))]; exact (f2 b hb).1, w0⟩
    rintro n s4 ⟨i, σ4, H4, I4, st4, fr4, w4⟩
    rcases turn i n σ4 H4 w4 with ⟨stop, qn⟩ | ⟨go, step⟩
    · refine thn (T.done (compCx X N scope G2.objs.size s2 H2 fp) rfl rfl rfl hcalm i [] s4 σ4 H4 (fun _ _ => False) I4 (stat fr4) st4 stop) fun r s5 ⟨hr, I5⟩ => ?_
      subst hr
      obtain ⟨m5, n5, _⟩ := I5.loc
      have hos : s5.os = s2.os := I5.os
      obtain ⟨hh, gg, dd, tt, os5⟩ := s5
      obtain rfl : os5 = s2.os := hos
      have sb : Heap.SameBut G2.objs.size hh hh := ⟨rfl, fun _ _ => rfl⟩
      have un : Un (frs X.stack) fp H2 H4 s2.heap hh := by
        have u := I5.base
        have nC : ∀ b o, s2.heap.get? b = some o → b ≠ G2.objs.size := fun b o e => below b (Heap.lt_size e)
        exact ⟨fun b o e n hf hx => sb.extBut b o (nC b o e) (u.keep b o e n hf hx), fun b o e n hf hx => by
            obtain ⟨sl, z⟩ := u.slot b o e n hf hx
            exact ⟨sl, sb.extBut b _ (nC b o e) z⟩, u.free, fun b o e hx => by
            obtain ⟨o', z⟩ := u.there b o e hx
            exact ⟨o', sb.extBut b _ (nC b o e) z⟩, u.tups, u.frzs, u.tbls⟩
      have hok : HOk X.prog X.w H4 hh := fun b ob e => (I5.hok b ob e).stay (fun c v hcv z => sb.extBut c v (fun q => by
        rcases hcv with hcv | hcv
        · rw [← hcv, q] at e
          have := I5.free
          have this' : H4 G2.objs.size = none := this
          rw [e] at this'; cases this'
        · rw [q] at hcv
          have this' : H4 G2.objs.size = none := I5.free
          rw [hcv] at this'; cases this') z) (fun _ z => z) fun _ _ z => z
      have IE := I2.call (h' := hh) (g' := gg) (d' := dd) (t' := tt) (ch := fp) un hok I5.bare fun b hb => ⟨(f2 b hb).2.2.2.1, (f2 b hb).2.1, (f2 b hb).2.2.2.2.1, (f2 b hb).2.2.2.2.2⟩
      have hCf : H4 G2.objs.size = none := I5.free
      have hCL : G2.objs.size ≠ X.env.locals := Ne.symm (below _ I2.lt)
      have hCc : ∀ x c, X.env.cells.lookup x = some c → c ≠ G2.objs.size := fun x c e => by
        obtain ⟨v', o', e', _⟩ := I2.cell x c e
        exact below _ (Heap.lt_size e')
      refine wpAny_assign_Name (store_ok2 IE hN hiy (.inl hy) (show RelV (.ref s2.heap.objs.size) (.ref s2.heap.objs.size) from rfl) (fun s6 I6 ⟨a6, sb6, ha6⟩ => ?_) (.inr hy))
      have nea : G2.objs.size ≠ a6 := by
        rcases ha6 with z | z
        · rw [z]; exact hCL
        · exact Ne.symm (hCc _ _ z)
      refine ⟨m5, n5.sameBut sb6 nea, fun h' sb' => ⟨_, H4, ?_, qn⟩⟩
      have := I6.turned (h' := h') (t' := s6.toks) (it := G2.objs.size) (fun b o ne e => (sb'.2 b ne).trans e) hCf hCL (.inr (Nat.le_trans I2.sz hC0)) hCc (fun p hp => below _ (Heap.lt_size (I2.pin p hp).1))
      exact this
    · refine thn (T.item (compCx X N scope G2.objs.size s2 H2 fp) rfl rfl rfl hcalm i [] s4 σ4 H4 (fun _ _ => False) I4 (stat fr4) st4 go) fun r s5 ⟨u, hr, h5⟩ => ?_
      subst hr
      refine thn h5 fun _ s6 ⟨x, H6, I6, r6, y6, st6, fr6⟩ => ?_
      have I6' := I6.pinned (stat fr6) (T.obj _ _ st6)
      refine thn (hg _ _ _ _ _ s6 σ4 H6 x u _ I6' r6 (step x H6 y6)) fun _ s7 ⟨σ7, H7, I7, q7⟩ => ?_
      refine thn (ht _ _ _ _ _ s7 σ7 H7 _ I7 q7) fun b s8 ⟨H8, I8, q8⟩ => ?_
      have again : ∀ {s9 : Shared} {H9 : Hp}, Inv (compCx X N scope G2.objs.size s2 H2 fp) ([] ++ pinsAt fp s6.heap) σ7 H9 s9 → (∃ m', m' < n ∧ W (i + 1) m' σ7 H9) → ∃ m, m < n ∧ ∃ i σ' H', Inv (compCx X N scope G2.objs.size s2 H2 fp) [] σ' H' s9 ∧ tn i s9.heap ∧ (∀ b ∈ fp, H' b = none) ∧ W i m σ' H' := fun {s9 H9} I9 ⟨m', hm, w9⟩ => by
        refine ⟨m', hm, i + 1, σ7, H9, I9.unpinned, T.keep _ _ _ st6 fun b hb o e => (I9.pin (b, o) (List.mem_append_right _ (List.mem_append_right _ (mem_pinsAt hb e)))).1, fun b hb => ?_, w9⟩
        obtain ⟨o, e, d⟩ := T.obj _ _ st6 b hb
        exact (I9.pin (b, o) (List.mem_append_right _ (List.mem_append_right _ (mem_pinsAt hb e)))).2.1
      cases b with
      | false =>
        rw [if_neg Bool.false_ne_true] at q8 ⊢
        exact again I8 q8
      | true =>
        rw [if_pos rfl] at q8 ⊢
        refine thn (he _ _ _ _ _ s8 σ7 H8 _ I8 q8) fun xv s9 ⟨xx, H9, I9, r9, q9⟩ => ?_
        refine thn (mt_append _ s9 σ7 H9 (.ref s2.heap.objs.size) [xx] (.ref s2.heap.objs.size) [xv] _ I9 rfl (.cons r9 .nil) q9) fun _ s10 ⟨_, H10, I10, _, q10⟩ => ?_
        exact again I10 q10
  exact codeAny_compStart_list (loop _ rfl) (T.self _ _ _ _ _ (T.keep 0 _ _ st2 fun b _ o e => old b o e) (loop _ rfl))
end L2
set_option Elab.async false
set_option linter.all false
set_option maxRecDepth 100000
namespace L2
open PySem PySem.Spec PyProof.Rows PySem.W
section
variable {X : Cx}
theorem boot_all' : bootBuiltins "all" = some (.builtin "all") := by decide +kernel
def rAll (K : Frag) : List V → Hp → VK → Prop := fun xs H Q => ∃ (p : Addr) (bs : List Bool), xs = [.ref p] ∧ SqL K H p (bs.map V.bl) ∧ Q (.bl (bs.all id)) H
theorem bl_at {bs : List Bool} {us : List Value} (r : Vals (bs.map V.bl) us) : us = bs.map Value.bool := by
  induction bs generalizing us with
  | nil => cases r; rfl
  | cons b t ih =>
    cases r with
    | cons h t' =>
      rw [ih t']
      cases h
      rfl
theorem range_allB : ∀ (bs : List Bool), ((List.range bs.length).all fun i => (bs[i]?).getD true) = bs.all id := fun bs => by
  rw [Bool.eq_iff_iff, List.all_eq_true, List.all_eq_true]
  constructor
  · intro h b hb
    obtain ⟨i, hi, e⟩ := List.mem_iff_getElem.mp hb
    have := h i (List.mem_range.mpr hi)
    rw [List.getElem?_eq_getElem hi, e] at this
    exact this
  · intro h i hi
    have hi := List.mem_range.mp hi
    rw [List.getElem?_eq_getElem hi]
    exact h _ (List.getElem_mem hi)
theorem call_allL (hc : X.calm = true) : CallR X (.builtin "all") (rAll X.K) := by
  intro pins s σ H xs us Q I r h
  obtain ⟨p, bs, rfl, hs, q⟩ := h
  obtain ⟨u, rfl, ru⟩ := r.one
  cases ru
  obtain ⟨its, rv, pl, hz⟩ := I.list hs
  have e := bl_at rv
  subst e
  have hl := pl.isList
  have hlt : p < s.heap.objs.size := by obtain ⟨_, e, _⟩ := hl; exact Heap.lt_size e
  refine call_all_walk (wpAny_pyIter_list hl ?_)
  refine ⟨s.heap.objs.size, [s.heap.objs.size, p], [s.heap.objs.size], (bs.map Value.bool).toArray.size, _, _, fun i => (bs[i]?).getD true, rfl, Walks.list (A := X.A.in1) (I.ok.hd hc) _ p (Nat.ne_of_lt hlt) (bs.map Value.bool).toArray,
    ⟨⟨_, Heap.get?_push_size _ rfl, rfl, rfl⟩, hl.push _⟩, fun i v s' Q' E' hP hQ => ?_, fun h' tk hk => ?_⟩
  · have hP' : (bs.map Value.bool)[i]? = some v := by simpa using hP
    rw [List.getElem?_map] at hP'
    cases eb : bs[i]? with
    | none => rw [eb] at hP'; cases hP'
    | some b =>
      rw [eb] at hP'
      cases hP'
      simp only [eb, Option.getD_some] at hQ
      exact wpAny_truthy_bool hQ
  · have e : ((List.range (bs.map Value.bool).toArray.size).all fun i => (bs[i]?).getD true) = bs.all id := by
      rw [List.size_toArray, List.length_map]; exact range_allB bs
    rw [e]
    exact ⟨.bl _, H, I.kept (h' := h') (t' := tk) (fun b x e => hk b x (fun hm => by rw [List.mem_singleton.mp hm] at e; exact Nat.lt_irrefl _ (Heap.lt_size e)) (Heap.get?_push_of_some _ e)), rfl, q⟩
end
end L2
set_option Elab.async false
set_option linter.all false
set_option maxRecDepth 100000
namespace L2
open PySem PySem.Spec PyProof.Rows PySem.W
section
variable {X : Cx}
end
theorem atI_neg {α : Type} {xs : List α} {d : Nat} {i : Int} {v : α} (hi : i = -(d : Int)) (h1 : 1 ≤ d) (h2 : d ≤ xs.length) (h : xs[xs.length - d]? = some v) : atI xs i = some v := by
  have e : ixN xs.length i = some (xs.length - d) := by
    unfold ixN
    rw [if_neg (by omega), if_pos (by omega)]
    congr 1
    omega
  unfold atI; rw [e]; exact h
end L2
namespace PH
open PySem L2 PySem.W
end PH
set_option Elab.async false
set_option linter.all false
namespace PH
def lcp : List Int → List Int → Nat
  | x :: a, y :: b => if x = y then lcp a b + 1 else 0
  | _, _ => 0
def tal (t : List Int) (b a : Nat) : Nat := lcp (t.drop b) (t.drop a)
theorem tal_step (t : List Int) (b a : Nat) : tal t b a = (match t[b]?, t[a]? with | some x, some y => if x = y then tal t (b + 1) (a + 1) + 1 else 0 | _, _ => 0) := by
  unfold tal
  cases hb : t[b]? with
  | none =>
    have : t.length ≤ b := List.getElem?_eq_none_iff.mp hb
    rw [List.drop_of_length_le this]
    cases t.drop a <;> rfl
  | some x =>
    obtain ⟨h1, h2⟩ := List.getElem?_eq_some_iff.mp hb
    cases ha : t[a]? with
    | none =>
      have : t.length ≤ a := List.getElem?_eq_none_iff.mp ha
      rw [List.drop_of_length_le this, List.drop_eq_getElem_cons h1]; rfl
    | some y =>
      obtain ⟨h3, h4⟩ := List.getElem?_eq_some_iff.mp ha
      rw [List.drop_eq_getElem_cons h1, List.drop_eq_getElem_cons h3, h2, h4]; rfl
theorem tal_all {t : List Int} : ∀ {k b a : Nat}, k ≤ tal t b a → ∀ j, j < k → ∃ x, t[b + j]? = some x ∧ t[a + j]? = some x
  | 0, _, _, _, _, hj => absurd hj (Nat.not_lt_zero _)
  | k + 1, b, a, h, j, hj => by
    rw [tal_step] at h
    cases hb : t[b]? with
    | none => rw [hb] at h; exact absurd h (Nat.not_succ_le_zero _)
    | some x =>
      cases ha : t[a]? with
      | none => rw [hb, ha] at h; exact absurd h (Nat.not_succ_le_zero _)
      | some y =>
        rw [hb, ha] at h
        dsimp only at h
        by_cases e : x = y
        · rw [if_pos e] at h
          cases j with
          | zero => exact ⟨x, hb, by rw [e]; exact ha⟩
          | succ j =>
            obtain ⟨z, h1, h2⟩ := tal_all (t := t) (k := k) (b := b + 1) (a := a + 1) (by omega) j (by omega)
            exact ⟨z, by rw [show b + (j + 1) = b + 1 + j by omega]; exact h1, by rw [show a + (j + 1) = a + 1 + j by omega]; exact h2⟩
        · rw [if_neg e] at h
          exact absurd h (Nat.not_succ_le_zero _)
def lng (t : List Int) (a : Nat) : Nat → Nat × Nat
  | 0 => (a, 0)
  | n + 1 => if (lng t a n).2 ≤ tal t n a then (n, tal t n a) else lng t a n
theorem lng_max (t : List Int) (a : Nat) : ∀ (n b : Nat), b < n → tal t b a ≤ (lng t a n).2
  | 0, _, h => absurd h (Nat.not_lt_zero _)
  | n + 1, b, h => by
    show tal t b a ≤ (if (lng t a n).2 ≤ tal t n a then (n, tal t n a) else lng t a n).2
    by_cases hc : (lng t a n).2 ≤ tal t n a
    · rw [if_pos hc]
      by_cases e : b = n
      · subst e; exact Nat.le_refl _
      · have := lng_max t a n b (by omega)
        show tal t b a ≤ tal t n a
        omega
    · rw [if_neg hc]
      by_cases e : b = n
      · subst e; omega
      · exact lng_max t a n b (by omega)
def cpl (t : List Int) (a : Nat) : Nat := (lng t a a).2
theorem cpl_max {t : List Int} {a b : Nat} (h : b < a) : tal t b a ≤ cpl t a := lng_max t a a b h
def rch (t : List Int) (a : Nat) : Nat := max 1 (cpl t a)
theorem rch_pos (t : List Int) (a : Nat) : 1 ≤ rch t a := Nat.le_max_left _ _
end PH
set_option Elab.async false
set_option linter.all false
set_option maxRecDepth 100000
set_option maxHeartbeats 4000000
namespace PH
open PySem L2 PySem.W
theorem gNz {i : Nat} {v v' : V} {σ : St} {H : Hp} {Q : St → Hp → Prop} (e : v' = v) (h : gName i v' σ H Q) : gName i v σ H Q := by
  subst e; exact h
theorem at_intsZ {ns : List Int} {i : Nat} {z : Int} (h : ns[i]? = some z) : atI (ns.map V.int) (i : Int) = some (.int z) := atI_nat (by rw [List.getElem?_map, h]; rfl)
inductive Pce where
  | sg (s : Int)
  | cp (b n : Int)
def pO : Pce → HO
  | .sg s => .tup [.str "sign", .int s]
  | .cp b n => .tup [.str "copy", .int b, .int n]
structure Tel (H : Hp) (p : Addr) (zs : List (Addr × Pce)) : Prop where
  at_ : H p = some (.lst (zs.map fun z => V.ref z.1))
  each : ∀ z ∈ zs, H z.1 = some (pO z.2)
theorem Tel.same {H H' : Hp} {p : Addr} {zs : List (Addr × Pce)} (h : Tel H p zs) (s : Same H H') : Tel H' p zs := ⟨s _ _ h.at_, fun z hz => s _ _ (h.each z hz)⟩
theorem Tel.ne {H : Hp} {p : Addr} {zs : List (Addr × Pce)} (h : Tel H p zs) : ∀ z ∈ zs, z.1 ≠ p := fun z hz e => by
  have h1 := h.each z hz
  rw [e, h.at_] at h1
  cases hz2 : z.2 <;> rw [hz2] at h1 <;> cases h1
theorem Tel.app {H : Hp} {p t : Addr} {zs : List (Addr × Pce)} {c : Pce} (h : Tel H p zs) (ht : H t = some (pO c)) : Tel (upd H p (.lst ((zs.map fun z => V.ref z.1) ++ [V.ref t]))) p (zs ++ [(t, c)]) := by
  have hne : ∀ z ∈ zs ++ [(t, c)], z.1 ≠ p := fun z hz => by
    rcases List.mem_append.mp hz with q | q
    · exact h.ne z q
    · have : z = (t, c) := by simpa using q
      subst this
      intro e
      have e' : t = p := e
      rw [e', h.at_] at ht
      cases c <;> cases ht
  refine ⟨by rw [upd_same, List.map_append]; rfl, fun z hz => ?_⟩
  rw [upd_ne (hne z hz)]
  rcases List.mem_append.mp hz with q | q
  · exact h.each z q
  · have : z = (t, c) := by simpa using q
    subst this
    exact ht
def pce (t : List Int) (a : Nat) : Pce := if 0 < cpl t a then .cp ((a : Int) - ((lng t a a).1 : Int)) (cpl t a : Int) else .sg (t[a]?.getD 0)
def gts (t : List Int) : Nat → Nat → List Pce
  | 0, _ => []
  | f + 1, a => if a < t.length then pce t a :: gts t f (a + rch t a) else []
def gt (t : List Int) (a : Nat) : List Pce := gts t (t.length - a) a
def spWh : Sp := fun vs H Q _ => ∃ n : Int, vs = [.int n] ∧ Q (.bl true) H
def spCellAt (K : Frag) : Sp := fun vs H Q _ => ∃ (a : Addr) (ns : List Int) (k : Nat), vs = [.ref a, .int (k : Int)] ∧ SqL K H a (ns.map V.int) ∧ ∀ x : Int, Q (.int x) H
def spStir : Sp := fun vs H Q _ => ∃ (c : Int) (k : Nat), vs = [.int c, .int (k : Int)] ∧ k ≤ 1000 ∧ ∀ n : Int, 0 ≤ n → Q (.int n) H
end PH
set_option Elab.async false
set_option linter.all false
namespace PH
end PH
set_option Elab.async false
set_option linter.all false
set_option maxRecDepth 100000
set_option maxHeartbeats 4000000
namespace PH
open PySem L2 PySem.W
theorem sgs_app {fs : List Int} {x : Int} (h : ∀ y ∈ fs, 0 ≤ y ∧ y ≤ 255) (h0 : 0 ≤ x) (h1 : x ≤ 255) : ∀ y ∈ fs ++ [x], 0 ≤ y ∧ y ≤ 255 := fun y hy => by
  rcases List.mem_append.mp hy with q | q
  · exact h y q
  · have : y = x := by simpa using q
    omega
def spTextS (K : Frag) : Sp := fun vs H Q _ => ∃ (a : Addr) (ns : List Int) (most : Nat), vs = [.ref a, .int (most : Int)] ∧ SqL K H a (ns.map V.int) ∧ ns.length ≤ 63 ∧ 60 ≤ most ∧ most ≤ 400 ∧
  ∀ (T : Addr) (ts : List Int) (H' : Hp), Same H H' → H T = none → H' T = some (lsI ts) → ts.length ≤ most → (∀ y ∈ ts, 0 ≤ y ∧ y ≤ 255) → Q (.ref T) H'
end PH
set_option Elab.async false
set_option linter.all false
set_option maxRecDepth 100000
namespace L2
open PySem PySem.Spec PyProof.Rows PySem.W
section
variable {X : Cx}
end
end L2
namespace L2
open PySem PySem.Spec PyProof.Rows PySem.W
section
variable {prog : Program} {w : World} {A : Around} {E : Value → Shared → Prop} {s : Shared}
end
section
variable {X : Cx} {pos : Pos}
end
end L2
set_option Elab.async false
set_option linter.all false
set_option maxRecDepth 100000
set_option maxHeartbeats 4000000
namespace PH
open PySem L2 PySem.W
def Stp (t : List Int) (a : Nat) : Pce → Nat → Prop
  | .sg s, a' => t[a]? = some s ∧ a' = a + 1
  | .cp b n, a' => ∃ k m : Nat, b = (k : Int) ∧ n = (m : Int) ∧ 1 ≤ k ∧ k ≤ a ∧ 1 ≤ m ∧ m ≤ tal t (a - k) a ∧ a' = a + m
def Chn (t : List Int) : Nat → List Pce → Prop
  | a, [] => a = t.length
  | a, p :: r => ∃ a', Stp t a p a' ∧ Chn t a' r
def nx : Pce → Nat
  | .sg _ => 0
  | .cp _ n => n.toNat
theorem Stp.le {t : List Int} {a a' : Nat} {p : Pce} (h : Stp t a p a') : a < a' ∧ a' ≤ t.length ∧ a' = a + max 1 (nx p) ∧ a' ≤ a + rch t a := by
  cases p with
  | sg s =>
    obtain ⟨h1, h2⟩ := h
    have := (List.getElem?_eq_some_iff.mp h1).1
    have hr := rch_pos t a
    exact ⟨by omega, by omega, by show a' = a + max 1 0; omega, by omega⟩
  | cp b n =>
    obtain ⟨k, m, rfl, rfl, h1, h2, h3, h4, h5⟩ := h
    obtain ⟨x, e1, e2⟩ := tal_all (t := t) (k := m) (b := a - k) (a := a) h4 (m - 1) (by omega)
    have := (List.getElem?_eq_some_iff.mp e2).1
    have hc := cpl_max (t := t) (a := a) (b := a - k) (by omega)
    refine ⟨by omega, by omega, ?_, by unfold rch; omega⟩
    show a' = a + max 1 ((m : Int).toNat)
    rw [Int.toNat_natCast]; omega
def lgB (t : List Int) : Nat → List Pce → Bool
  | _, [] => true
  | _, [_] => true
  | a, p :: q :: r => decide (cpl t a ≤ nx p) && lgB t (a + max 1 (nx p)) (q :: r)
def MSg (mg : Str → Option Value) : Prop := ∃ u, mg "MOST_SIGNS" = some u ∧ RelV (.int 400) u
def LSg (mg : Str → Option Value) : Prop := ∃ u, mg "LAST_SIGN" = some u ∧ RelV (.int 255) u
structure Sofar (t : List Int) (a : Nat) (ps : List Pce) (lg : Bool) : Prop where
  ch : ∀ r, Chn t a r → Chn t 0 (ps ++ r)
  on : a < t.length → ∀ q r, lgB t 0 (ps ++ q :: r) = (lg && lgB t a (q :: r))
  en : a = t.length → lgB t 0 ps = lg
theorem Sofar.nil (t : List Int) : Sofar t 0 [] true := ⟨fun _ h => h, fun _ _ _ => rfl, fun _ => rfl⟩
theorem Sofar.step {t : List Int} {a a' : Nat} {ps : List Pce} {lg : Bool} {p : Pce} (h : Sofar t a ps lg) (hs : Stp t a p a') : Sofar t a' (ps ++ [p]) (if nx p < cpl t a ∧ a' < t.length then false else lg) := by
  have hle := hs.le
  refine ⟨fun r hr => ?_, fun ha q r => ?_, fun ha => ?_⟩
  · rw [List.append_assoc]
    exact h.ch _ ⟨a', hs, hr⟩
  · rw [List.append_assoc]
    show lgB t 0 (ps ++ p :: (q :: r)) = _
    rw [h.on (by omega)]
    show (lg && (decide (cpl t a ≤ nx p) && lgB t (a + max 1 (nx p)) (q :: r))) = _
    rw [← hle.2.2.1]
    by_cases hc : nx p < cpl t a
    · rw [if_pos ⟨hc, ha⟩, decide_eq_false (show ¬ cpl t a ≤ nx p by omega), Bool.false_and, Bool.and_false]
    · rw [if_neg (fun z => hc z.1), decide_eq_true (show cpl t a ≤ nx p by omega), Bool.true_and]
  · rw [h.on (by omega), if_neg (by omega)]
    show (lg && true) = lg
    rw [Bool.and_true]
end PH
set_option Elab.async false
set_option linter.all false
set_option maxRecDepth 100000
namespace L2
open PySem PySem.Spec PyProof.Rows PySem.W
section
variable {X : Cx} {pins : List (Addr × Obj)} {σ : St} {H : Hp} {s : Shared}
theorem Inv.turned2L {h' : Heap} {t' : Nat} {i1 i2 a : Addr} {o : HO} (I : Inv X pins σ H s) (k : ∀ b o, b ≠ i1 → b ≠ i2 → s.heap.get? b = some o → h'.get? b = some o) (f1 : FpOk X pins H i1) (f2 : FpOk X pins H i2)
    (hp : s.heap.objs.size ≤ a) (new : ObjOk X.prog X.w (upd H a o) h' a o) : Inv X pins σ (upd H a o) { s with heap := h', toks := t' } := by
  obtain ⟨a0, a1, a2, a3, a4, a5⟩ := f1
  obtain ⟨b0, b1, b2, b3, b4, b5⟩ := f2
  have n1 : ∀ b u, H b = some u → b ≠ i1 := fun b u e z => by rw [z, a0] at e; cases e
  have n2 : ∀ b u, H b = some u → b ≠ i2 := fun b u e z => by rw [z, b0] at e; cases e
  have hn : H a = none := I.hok.fresh hp
  refine I.step (g' := s.gens) (d' := s.drawn) (ch := [i1, i2]) (fun b hb => ?_) (fun b o _ _ hc e _ => k b o (fun z => hc (by simp [z])) (fun z => hc (by simp [z])) e) (fun b o _ _ hc e _ => ⟨o.slots, k b o (fun z => hc (by simp [z])) (fun z => hc (by simp [z])) e⟩) (fun b u _ q n => ?_)
    (fun b o hc e => ⟨o, k b o (fun z => hc (by simp [z])) (fun z => hc (by simp [z])) e⟩) (fun b xs q => by rw [upd_ne (ne_of_none q hn)]; exact q) (fun b u xs q => by rw [upd_ne (ne_of_none q hn)]; exact q) (fun b ps q => ⟨#[], by rw [upd_ne (ne_of_none q hn), q]; simp⟩) (fun m hm => ?_) (fun b u e => ?_) I.bare
  · have e : b = i1 ∨ b = i2 := by simpa using hb
    rcases e with e | e
    · subst e
      exact ⟨a3, a1, a4, a5⟩
    · subst e
      exact ⟨b3, b1, b4, b5⟩
  · rw [upd_ne (Nat.ne_of_lt (Nat.lt_of_lt_of_le (Heap.lt_size q) hp))]; exact n
  · obtain ⟨o, es, ep, ho, r⟩ := hm
    exact ⟨o, es, ep, k _ o (Ne.symm a1) (Ne.symm b1) ho, r⟩
  · by_cases hb : b = a
    · subst hb
      rw [upd_same] at e
      cases e
      exact new
    · rw [upd_ne hb] at e
      refine (I.hok b u e).stay (fun c v hc q => k c v ?_ ?_ q) (fun c q => by rw [upd_ne (ne_of_none q hn)]; exact q) fun c xs q => by rw [upd_ne (ne_of_none q hn)]; exact q
      · rcases hc with z | z
        · rw [z]; exact n1 b u e
        · exact n1 c _ z
      · rcases hc with z | z
        · rw [z]; exact n2 b u e
        · exact n2 c _ z
def Ite (K : Frag) (a : Addr) : It :=
  ⟨fun i H => ∃ xs x, SqL K H a xs ∧ xs[i]? = some x, fun i H x H' => ∃ t y, x = .ref t ∧ H t = none ∧ H' = upd H t (.tup [.int (i : Nat), y]) ∧ ∀ xs, SqL K H a xs → xs[i]? = some y, fun i H => ∃ xs, SqL K H a xs ∧ xs.length ≤ i⟩
theorem turn_enum {P : Program} {w : World} {K : Frag} {elts : List Expr} {x1} {pos : Pos} (a e it : Addr) : Turn P w K (.Tuple elts x1 pos) (Ite K a) [e, it] e (fun i h => (∃ old, IsEnum h e it ((i : Nat) : Int) old) ∧ h.IsListIter it a i ∧ e ≠ it) where
  mem := by simp
  obj := fun i h st b hb => by
    obtain ⟨⟨old, he⟩, ⟨o, ho, c, d⟩, _⟩ := st
    have e' : b = e ∨ b = it := by simpa using hb
    rcases e' with rfl | rfl
    · exact ⟨_, he, fun v z => by cases z⟩
    · exact ⟨o, ho, fun v z => by rw [d] at z; cases z⟩
  keep := fun i h h' st k => by
    obtain ⟨⟨old, he⟩, hi, hne⟩ := st
    exact ⟨⟨old, k e (by simp) _ he⟩, hi.at fun o q => k it (by simp) o q, hne⟩
  item := by
    intro X hP hw hK hc i pins s σ H E I hf st hg
    subst hP hw hK
    obtain ⟨xs, x, hq, hx⟩ := hg
    obtain ⟨⟨old, he⟩, hi, hne⟩ := st
    obtain ⟨its, rv, p, hz⟩ := I.list hq
    obtain ⟨u, hu, ru⟩ := rv.get hx
    have fe := hf e (by simp)
    have fi := hf it (by simp)
    have hel : e < s.heap.objs.size := Heap.lt_size he
    have hil : it < s.heap.objs.size := by obtain ⟨_, q, _⟩ := id hi; exact Heap.lt_size q
    refine wpAny_pyNext_enum_item he hi p.isList (x := u) (by simpa using hu) hne fun h' ho hi' hT hsz hk => ?_
    refine ⟨_, rfl, wpAny_letOwnedTupleGo_enum ho fun h2 he2 hs2 => ?_⟩
    have hfr : H s.heap.objs.size = none := I.hok.fresh (Nat.le_refl _)
    have hT2 : h2.get? s.heap.objs.size = some { cls := .type "tuple", data := .seq #[.int i s.toks, u] } := (hs2.2 _ (Nat.ne_of_gt hel)).trans hT
    have k2 : ∀ b o, b ≠ e → b ≠ it → s.heap.get? b = some o → h2.get? b = some o := fun b o n1 n2 q => (hs2.2 b n1).trans (hk b o n1 n2 q)
    have I2 : Inv X pins σ (upd H s.heap.objs.size (.tup [.int (i : Nat), x])) { s with heap := h2, toks := s.toks + 1 } :=
      I.turned2L k2 fe fi (Nat.le_refl _) (show ObjOk X.prog X.w _ h2 _ (.tup [.int (i : Nat), x]) from ⟨by show 2 ≤ sizeLine; decide, [.int i s.toks, u], .cons ⟨_, rfl⟩ (.cons ru .nil), ⟨_, hT2, rfl, _, rfl⟩⟩)
    refine ⟨.ref s.heap.objs.size, _, I2, rfl, ⟨_, x, rfl, hfr, rfl, fun ys hy => by rw [I.list_inj hy hq]; exact hx⟩, ⟨⟨_, by simpa using he2⟩, hi'.at fun o q => (hs2.2 it hne.symm).trans q, hne⟩, fun b hb => ?_⟩
    have e' : b = e ∨ b = it := by simpa using hb
    rcases e' with rfl | rfl
    · rw [upd_ne (Nat.ne_of_lt hel)]; exact fe.1
    · rw [upd_ne (Nat.ne_of_lt hil)]; exact fi.1
  done := by
    intro X hP hw hK hc i pins s σ H E I hf st hg
    subst hP hw hK
    obtain ⟨xs, hq, hx⟩ := hg
    obtain ⟨⟨old, he⟩, hi, hne⟩ := st
    obtain ⟨its, rv, p, hz⟩ := I.list hq
    obtain ⟨f0, f1, f2, f3, f4, f5⟩ := hf it (by simp)
    have hl := rv.length
    exact wpAny_pyNext_enum_end (I.ok.hd hc) he hi p.isList (by simp; omega) fun h' eb => ⟨rfl, I.turned (t' := s.toks) (fun b o hb e => eb b o hb e) f0 f1 f3 f4 f5⟩
  self := fun _ _ _ _ _ st h => by
    obtain ⟨⟨old, he⟩, _⟩ := st
    exact wpAny_pyIter_enum he h
def iEnum (K : Frag) (ta : TA) : TI := fun σ H R => ta σ H fun vs H1 => ∃ a, vs = [.ref a] ∧ (∃ xs, SqL K H1 a xs) ∧ R (Ite K a) H1
theorem pi_enum {elts : List Expr} {x1} {p' : Pos} {a : Expr} {ta : TA} {p pos : Pos} (hg : Gl X "enumerate") (hm : X.mg "enumerate" = none) (ha : PA X [a] ta) (hs : starEach [a] X.env = [(false, eval a X.env)] := by rfl) :
    PI X (.Tuple elts x1 p') (.Call (.Name "enumerate" p) [a] [] pos) (iEnum X.K ta) := by
  intro pins s σ H R I h
  refine Call_ (ld_blt I hg hm boot_enumerate (PyProof.Rows.callWith_type1 (thn (ha pos pins s σ H _ I h) fun us s1 ⟨vs, H1, I1, r1, q1⟩ => ?_) hs rfl))
  obtain ⟨a, e, ⟨xs, hq⟩, q⟩ := q1
  subst e
  cases r1 with
  | cons r rr =>
    cases rr
    cases r
    obtain ⟨its, rv, p, hz⟩ := I1.list hq
    refine call_enumerate_list p.isList fun h' he hit hsz hk => ?_
    refine wpAny_pyIter_enum he ?_
    refine ⟨_, [s1.heap.objs.size + 1, s1.heap.objs.size], _, Ite X.K a, H1, rfl, I1.kept (t' := s1.toks) hk, turn_enum a _ _, ⟨⟨_, he⟩, hit, Nat.succ_ne_self _⟩, fun b hb => ?_, q⟩
    have e : b = s1.heap.objs.size + 1 ∨ b = s1.heap.objs.size := by simpa using hb
    have hle : s1.heap.objs.size ≤ b := by
      rcases e with e | e
      · rw [e]; exact Nat.le_succ _
      · rw [e]; exact Nat.le_refl _
    exact I1.fpOk hle (I1.hok.fresh hle)
theorem vals_of : ∀ {xs : List V} {us : List Value}, xs.length = us.length → (∀ (i : Nat) x u, xs[i]? = some x → us[i]? = some u → RelV x u) → Vals xs us
  | [], [], _, _ => .nil
  | [], _ :: _, h, _ => by cases h
  | _ :: _, [], h, _ => by cases h
  | x :: xs, u :: us, h, r => .cons (r 0 x u rfl rfl) (vals_of (Nat.succ.inj h) fun i y w e1 e2 => r (i + 1) y w e1 e2)
end
end L2
set_option Elab.async false
set_option linter.all false
set_option maxRecDepth 100000
namespace L2
open PySem PySem.Spec PyProof.Rows PySem.W PySem.Calls Att
open PySem.Builtin.Int (intBits)
section
variable {X : Cx}
end
end L2
set_option Elab.async false
set_option linter.all false
set_option maxRecDepth 100000
namespace HT
open PySem PyProof.Rows
open AutoSeq1 (wpAny_loadPart')
open MeetsSeq MeetsSeq3 SeqAt
section
variable {prog : Program} {w : World} {A : Around} {E : Value → Shared → Prop} {s : Shared}
end
end HT
namespace L2
open PySem PySem.Spec PyProof.Rows PySem.W
section
variable {X : Cx}
end
end L2
set_option Elab.async false
set_option linter.all false
set_option maxRecDepth 100000
namespace L2
open PySem PySem.Spec PyProof.Rows PySem.W
section
variable {X : Cx}
end
end L2
set_option Elab.async false
set_option linter.all false
set_option maxRecDepth 100000
set_option maxHeartbeats 4000000
namespace PH
open PySem L2 PySem.W
end PH
set_option Elab.async false
set_option linter.all false
set_option maxRecDepth 100000
namespace L2
open PySem PySem.Spec PyProof.Rows PySem.W
section
variable {X : Cx}
end
end L2
set_option Elab.async false
set_option linter.all false
set_option maxRecDepth 100000
set_option maxHeartbeats 4000000
namespace L2
open PySem PySem.Spec PyProof.Rows PySem.W
section
variable {X : Cx}
def rSum (K : Frag) : List V → Hp → VK → Prop := fun xs H Q => ∃ (p : Addr) (ns : List Int), xs = [.ref p] ∧ SqL K H p (ns.map V.int) ∧ Q (.int ns.sum) H
theorem call_sum (hc : X.calm = true) : CallR X (.builtin "sum") (rSum X.K) := by
  intro pins s σ H xs us Q I r h
  obtain ⟨p, ns, rfl, hs, q⟩ := h
  obtain ⟨u, rfl, rx⟩ := vals1 r
  cases rx
  obtain ⟨its, r', pl, hz⟩ := I.list hs
  have hi := vals_intsAre r'
  have hn := hi.numsOf
  obtain ⟨ys, hy⟩ := hi.allInts.items
  refine sum_intListG (I.ok.hd hc) (l := p) (xs := ys) (by rw [← hy]; exact pl.isList) fun h' tk t' hk => ?_
  have e : preSum (numAt ys) ys.size = ns.sum := by
    have e1 := nums_intItems (xs := ys)
    rw [← hy] at e1
    rw [preSum_eq, List.take_of_length_le (by simp)]
    rw [← hn]
    exact congrArg List.sum e1.symm
  rw [e]
  exact ⟨.int ns.sum, H, I.kept hk, ⟨_, rfl⟩, q⟩
end
end L2
namespace PH
open PySem L2 PySem.W
theorem boot_sum' : bootBuiltins "sum" = some (.builtin "sum") := by decide +kernel
structure ExK (K : Frag) (cN c1 c2 c3 c4 c5 c6 : Addr) : Prop where
  k1 : kitOne K (.ref cN) (.ref c1) = some false
  k2 : kitOne K (.ref cN) (.ref c2) = some false
  k3 : kitOne K (.ref cN) (.ref c3) = some false
  k4 : kitOne K (.ref cN) (.ref c4) = some false
  k5 : kitOne K (.ref cN) (.ref c5) = some false
  k6 : kitOne K (.ref cN) (.ref c6) = some false
end PH
set_option Elab.async false
set_option linter.all false
set_option maxRecDepth 100000
set_option maxHeartbeats 4000000
namespace PH
open PySem L2 PySem.W
def ext (t : List Int) (k : Nat) : Nat → List Int
  | 0 => t
  | m + 1 => ext t k m ++ [((ext t k m)[t.length + m - k]?).getD 0]
end PH
set_option Elab.async false
set_option linter.all false
set_option maxRecDepth 100000
namespace L2
open PySem PySem.Spec PyProof.Rows PySem.W
end L2
set_option Elab.async false
set_option linter.all false
set_option maxRecDepth 100000
set_option maxHeartbeats 4000000
namespace PH
open PySem L2 PySem.W
def okB : Pce → Bool
  | .sg s => decide (0 ≤ s) && decide (s ≤ 255)
  | .cp b n => decide (1 ≤ b) && decide (1 ≤ n)
def tb (most : Nat) : List Int → List Pce → Option (List Int)
  | t, [] => some t
  | t, .sg s :: r => if okB (.sg s) = true ∧ t.length + 1 ≤ most then tb most (t ++ [s]) r else none
  | t, .cp b n :: r => if okB (.cp b n) = true ∧ (t.length : Int) + n ≤ most ∧ b ≤ t.length then tb most (ext t b.toNat n.toNat) r else none
theorem Tel.set {H : Hp} {p t : Addr} {zs : List (Addr × Pce)} {c : Pce} {j : Nat} (h : Tel H p zs) (ht : H t = some (pO c)) : Tel (upd H p (.lst ((zs.map fun z => V.ref z.1).set j (V.ref t)))) p (zs.set j (t, c)) := by
  have hne : ∀ z ∈ zs.set j (t, c), z.1 ≠ p ∧ H z.1 = some (pO z.2) := fun z hz => by
    rcases List.mem_or_eq_of_mem_set hz with q | q
    · exact ⟨h.ne z q, h.each z q⟩
    · subst q
      refine ⟨fun e => ?_, ht⟩
      have e' : t = p := e
      rw [e', h.at_] at ht
      cases c <;> cases ht
  refine ⟨by rw [upd_same, List.map_set], fun z hz => ?_⟩
  rw [upd_ne (hne z hz).1]
  exact (hne z hz).2
theorem Tel.part {H : Hp} {p q : Addr} {zs ys : List (Addr × Pce)} (h : Tel H p zs) (hq : H q = none) (hs : ∀ y ∈ ys, y ∈ zs) : Tel (upd H q (.lst (ys.map fun z => V.ref z.1))) q ys := ⟨upd_same, fun z hz => (same_new hq _) _ _ (h.each z (hs z hz))⟩
end PH
set_option Elab.async false
set_option linter.all false
set_option maxRecDepth 100000
set_option maxHeartbeats 4000000
namespace PH
open PySem L2 PySem.W
theorem iteNT {c A B : Prop} [Decidable c] (hc : ¬ c) (h : A) : if (!decide c) = true then A else B := by
  rw [decide_eq_false hc]
  exact h
theorem Tel.one {H : Hp} {q t : Addr} {c : Pce} (ht : H t = some (pO c)) (hq : H q = none) : Tel (upd H q (.lst [V.ref t])) q [(t, c)] :=
  ⟨upd_same, fun z hz => by
    rw [List.mem_singleton.mp hz]
    exact (same_new hq _) _ _ ht⟩
theorem Tel.two {H : Hp} {q t t2 : Addr} {c c2 : Pce} (ht : H t = some (pO c)) (ht2 : H t2 = some (pO c2)) (hq : H q = none) : Tel (upd H q (.lst [V.ref t, V.ref t2])) q [(t, c), (t2, c2)] :=
  ⟨upd_same, fun z hz => by
    rcases List.mem_cons.mp hz with e | e
    · rw [e]; exact (same_new hq _) _ _ ht
    · rw [List.mem_singleton.mp e]; exact (same_new hq _) _ _ ht2⟩
theorem ixN_at {n j : Nat} (h : j < n) : ixN n (j : Int) = some j := by
  unfold ixN
  rw [if_pos (by omega), if_pos (by omega), Int.toNat_natCast]
end PH
set_option Elab.async false
set_option linter.all false
set_option maxRecDepth 100000
namespace L2
open PySem PySem.Spec PyProof.Rows PySem.W
theorem lriLen : typeLookup (.type "list_reverseiterator") "__len__" = pure none := by
  rw [typeLookup_type, builtinLookup_eq_fast]
  kernel_rfl
theorem lriHint : typeLookup (.type "list_reverseiterator") "__length_hint__" = pure (some (.builtin "list_reverseiterator.__length_hint__")) := by
  rw [typeLookup_type, builtinLookup_eq_fast]
  kernel_rfl
theorem lriSub : isSubtype (.type "list_reverseiterator") (.type "list_reverseiterator") = pure true := by
  rw [isSubtype_type]
  kernel_rfl
section
variable {pg : Program} {w : World} {B : Around} {E : Value → Shared → Prop} {s : Shared}
theorem hintRev {r l : Addr} {i : Int} {Q : Bool → Shared → Prop} (y : s.heap.IsRevIter r l i) (q : Q false s) : wpAny (model pg w) B (Builtin.List.listLengthHint (.ref r)) Q E s := by
  unfold Builtin.List.listLengthHint
  refine wpAny_bind (wpAny_specialOf y.typeIs lriLen ?_)
  show wpAny _ B (specialOf (Value.ref r) (Str.ofString "__length_hint__") >>= _) _ _ s
  refine wpAny_bind (wpAny_specialOf y.typeIs lriHint ?_)
  generalize e0 : ("list_reverseiterator.__length_hint__" : String) = nm
  wp_delta
  rw [show splitId nm = some ("list_reverseiterator", "__length_hint__") from by subst e0; decide +kernel]
  subst e0
  refine wpAny_bind (wpAny_isInstance (T := "list_reverseiterator") (b := true) y.typeIs lriSub ?_)
  refine wpAny_ite_split (fun c => absurd c (by decide)) (fun _ => ?_)
  refine wpAny_ite_split (fun _ => ?_) (fun c => absurd (by decide +kernel) c)
  refine wpAny_ite_split (fun c => absurd c (by decide +kernel)) (fun _ => ?_)
  exact wpAny_pure q
def RevAt (items : Array Value) : Nat → Value → Prop := fun j x => items[items.size - 1 - j]? = some x
theorem extRev {R : Result → Shared → Prop} {r l D : Addr} {items : Array Value} {out : Value} {c0 : Nat} (hB : B.handled = none) (y : s.heap.IsRevIter r l ((items.size : Int) - 1)) (hl : s.heap.IsList l items) (n1 : l ≠ r) (n2 : D ≠ r) (n3 : D ≠ l)
    (hz : items.size ≤ sizeLine) (hD : s.heap.get? D = some { cls := .type "list", data := .seq #[] c0 })
    (k : ∀ s2 ys c2, Moved (D :: [r]) (fun a b => b = a) s s2 → s2.heap.get? D = some { cls := .type "list", dict := none, data := .seq ys c2, slots := #[] } → ItemsOf (RevAt items) ys items.size → R (.ok (.ret out)) s2) :
    wpAny (model pg w) B.in1 (Builtin.List.listExtendWith (.ref D) (.ref r) out)
      (fun z s2 => match z with | .done f => R (.ok f) s2 | .again d => d.quiet = true ∧ codeAny (model pg w) B d R s2) (fun e s2 => R (.error e) s2) s := by
  have WS := (Walks.listRev (prog := pg) (w := w) (A := B.in1) hB r l n1 items).toS
  have off : D ∉ [r, l] := fun m => by
    rcases List.mem_cons.mp m with e | m
    · exact n2 e
    · exact n3 (List.mem_singleton.mp m)
  unfold Builtin.List.listExtendWith
  refine wpAny_bind (wpAny_typeOf y.typeIs ?_)
  have f1 : Builtin.List.listSameRef (.ref D) (.ref r) = false := by simp [Builtin.List.listSameRef, n2]
  have f2 : (Value.type "list_reverseiterator" == Value.type "list") = false := by decide
  have f3 : (Value.type "list_reverseiterator" == Value.type "tuple") = false := by decide
  simp only [f1, f2, f3, Bool.or_false, Bool.false_eq_true, if_false]
  refine wpAny_bind (wpAny_pyIter_revIter y ?_)
  refine wpAny_bind (wpAny_holding (hintRev y ?_))
  refine wpAny_ite_split (fun c => absurd c (by decide +kernel)) (fun _ => ?_)
  refine wpAny_pure ⟨plainId_quiet F.plain_extend_loop _, ?_⟩
  refine codeAny_extend_loopS WS hz D off out items.size 0 _ #[] c0 rfl (Nat.zero_le _) ⟨Nat.zero_le _, ?_, hl⟩ hD (ItemsOf.nil _) fun s2 ys c2 m g it => k s2 ys c2 m g it
  rw [show (items.size : Int) - 1 - ((0 : Nat) : Int) = (items.size : Int) - 1 by omega]
  exact y
theorem initRev {R : Result → Shared → Prop} {r l D : Addr} {items : Array Value} (hB : B.handled = none) (y : s.heap.IsRevIter r l ((items.size : Int) - 1)) (hl : s.heap.IsList l items) (n1 : l ≠ r) (n2 : D ≠ r) (n3 : D ≠ l)
    (hz : items.size ≤ sizeLine) (hD : s.heap.get? D = some { cls := .type "list", data := .seq #[] })
    (k : ∀ s2 ys c2, (∀ b o, b ≠ D → b ≠ r → s.heap.get? b = some o → s2.heap.get? b = some o) → s2 = { s with heap := s2.heap, toks := s2.toks } → s2.heap.get? D = some { cls := .type "list", dict := none, data := .seq ys c2, slots := #[] } → ItemsOf (RevAt items) ys items.size → R (.ok (.ret .none)) s2) :
    wpAny (model pg w) B.in1 (Builtin.«list.__init__» ⟨[.ref D, .ref r], []⟩)
      (fun z s2 => match z with | .done f => R (.ok f) s2 | .again d => d.quiet = true ∧ codeAny (model pg w) B d R s2) (fun e s2 => R (.error e) s2) s := by
  show wpAny _ B.in1 (do let was ← Builtin.List.listItems (.ref D); Builtin.List.listUpdate (.ref D) (fun _ => #[]); letGo was.toList.reverse; Builtin.List.listExtendWith (.ref D) (.ref r) .none) _ _ s
  refine wpAny_bind ?_
  unfold Builtin.List.listItems
  refine wpAny_bind (wpAny_seqItems hD rfl (wpAny_pure ?_))
  show wpAny _ B.in1 (updateSeq D (fun _ => #[]) >>= fun _ => letGo (#[] : Array Value).toList.reverse >>= fun _ => Builtin.List.listExtendWith (.ref D) (.ref r) .none) _ _ s
  refine wpAny_bind (wpAny_updateSeq hD rfl ?_)
  have hD2 := Heap.get?_update_self (Obj.mapSeq (fun _ => (#[] : Array Value))) hD rfl
  have keep : ∀ b o, b ≠ D → s.heap.get? b = some o → (s.heap.update D (Obj.mapSeq (fun _ => (#[] : Array Value)))).get? b = some o :=
    fun b o ne g => (Heap.get?_update_other _ _ ne.symm).trans g
  refine wpAny_bind (wpAny_letGo ?_)
  refine extRev hB (y.at fun o g => keep r o n2.symm g) (hl.at fun o g => keep l o n3.symm g) n1 n2 n3 hz hD2 fun s2 ys c2 m g it => ?_
  refine k s2 ys c2 (fun b o a1 a2 g1 => m.heap b o (fun mm => ?_) (keep b o a1 g1)) m.eq_with g it
  rcases List.mem_cons.mp mm with e | mm
  · exact a1 e
  · exact a2 (List.mem_singleton.mp mm)
theorem listRev {Q : Value → Shared → Prop} {r l : Addr} {items : Array Value} (hB : B.handled = none) (y : s.heap.IsRevIter r l ((items.size : Int) - 1)) (hl : s.heap.IsList l items) (n1 : l ≠ r) (hz : items.size ≤ sizeLine)
    (k : ∀ h2 t2 ys c2, (∀ b o, b ≠ r → s.heap.get? b = some o → h2.get? b = some o) → h2.get? s.heap.objs.size = some { cls := .type "list", dict := none, data := .seq ys c2, slots := #[] } → ItemsOf (RevAt items) ys items.size → Q (.ref s.heap.objs.size) { s with heap := h2, toks := t2 }) :
    wpAny (model pg w) B (call (.type "list") [.ref r]) Q E s := by
  refine callType_codes (Q₁ := fun v s1 => v = .ref s.heap.objs.size ∧ s1 = { s with heap := s.heap.push { cls := .type "list", data := .seq #[] } }) F.called_list (F.typeCall_list_1 _) F.entry_list_init
    (code_list_new _ ⟨rfl, rfl⟩) fun v s1 e1 => ?_
  obtain ⟨rfl, rfl⟩ := e1
  have hD : (s.heap.push { cls := .type "list", data := .seq #[] }).get? s.heap.objs.size = some { cls := .type "list", data := .seq #[] } := Heap.get?_push_size _ rfl
  obtain ⟨o1, g1, _, _⟩ := id y
  obtain ⟨o2, g2, _, _⟩ := id hl
  refine ⟨⟨_, hD, rfl⟩, F.args_list_init_2 _ _, initRev (B := B.in1) hB (y.at fun o g => Heap.get?_push_of_some _ g) (hl.at fun o g => Heap.get?_push_of_some _ g) n1 (Nat.ne_of_gt (Heap.lt_size g1)) (Nat.ne_of_gt (Heap.lt_size g2)) hz hD fun s2 ys c2 kp e g it => ?_⟩
  refine ⟨rfl, ?_⟩
  have := k s2.heap s2.toks ys c2 (fun b o nb gb => kp b o (Nat.ne_of_lt (Heap.lt_size gb)) nb (Heap.get?_push_of_some _ gb)) g it
  rw [e]
  exact this
end
end L2
namespace L2
open PySem PySem.Spec PyProof.Rows PySem.W
section
variable {X : Cx} {pins : List (Addr × Obj)} {σ : St} {H : Hp} {s : Shared}
def tLRev (ta : TA) : TE := fun σ H Q => ta σ H fun vs H1 => ∃ (p : Addr) (xs : List V), vs = [.ref p] ∧ H1 p = some (.lst xs) ∧ ∀ l, H1 l = none → Q (.ref l) (upd H1 l (.lst xs.reverse))
theorem pe_listrev {a : Expr} {ta : TA} {p p2 pos pos2 : Pos} (hg : Gl X "reversed") (hm : X.mg "reversed" = none) (hg2 : Gl X "list") (hm2 : X.mg "list" = none) (hc : X.calm = true) (ha : PA X [a] ta) (hs : starEach [a] X.env = [(false, eval a X.env)] := by rfl)
    (hs2 : starEach [.Call (.Name "reversed" p) [a] [] pos] X.env = [(false, eval (.Call (.Name "reversed" p) [a] [] pos) X.env)] := by rfl) :
    PE X (.Call (.Name "list" p2) [.Call (.Name "reversed" p) [a] [] pos] [] pos2) (tLRev ta) := by
  intro pins s σ H Q I h
  refine wpAny_Call_Name_kw (ld_blt I hg2 hm2 (show bootBuiltins "list" = some (.type "list") by decide +kernel) ?_)
  refine PyProof.Rows.callWith_type1 ?_ hs2 rfl
  rw [hs2]
  show wpAny _ _ (spliced ((false, eval (.Call (.Name "reversed" p) [a] [] pos) X.env) :: backTo pos2 [])) _ _ s
  refine Calls.spliced_cons ?_
  refine Call_ (ld_blt I hg hm (show bootBuiltins "reversed" = some (.type "reversed") by decide +kernel) (PyProof.Rows.callWith_type1 (thn (ha pos pins s σ H _ I h) fun us s1 ⟨vs, H1, I1, r1, q1⟩ => ?_) hs rfl))
  obtain ⟨l, xs, e, hl, q⟩ := q1
  subst e
  cases r1 with
  | cons r rr =>
    cases rr
    cases r
    obtain ⟨its, n, rv, ho, hz⟩ := I1.lst hl
    have isl : s1.heap.IsList l its.toArray := ⟨_, ho, rfl, n, rfl⟩
    refine call_reversed_list isl ?_
    refine Calls.spliced_nil ?_
    have hsz : its.toArray.size = its.length := List.size_toArray
    have hll := rv.length
    refine listRev (r := s1.heap.objs.size) (l := l) (items := its.toArray) (I1.ok.hd hc) ⟨_, Heap.get?_push_size _ rfl, rfl, rfl⟩ (isl.at fun o g => Heap.get?_push_of_some _ g) (Nat.ne_of_lt (Heap.lt_size ho)) (by omega) fun h2 t2 ys c2 kp g it => ?_
    have hv : Vals xs.reverse ys.toList := by
      refine vals_of (by have h1 := it.1; have h2 : ys.toList.length = ys.size := Array.length_toList; rw [List.length_reverse]; omega) fun i x u e1 e2 => ?_
      have hi : i < xs.length := by
        have := (List.getElem?_eq_some_iff.mp e1).1
        rw [List.length_reverse] at this
        exact this
      rw [List.getElem?_reverse hi] at e1
      have e3 := it.2 i u (by rw [← Array.getElem?_toList]; exact e2)
      have e4 : its[xs.length - 1 - i]? = some u := by
        have e5 : its.toArray[its.toArray.size - 1 - i]? = some u := e3
        rw [hsz, ← hll, List.getElem?_toArray] at e5
        exact e5
      obtain ⟨u', g1, g2⟩ := rv.get e1
      rw [e4] at g1
      rw [Option.some.inj g1]
      exact g2
    have hbig : xs.reverse.length ≤ sizeLine := by rw [List.length_reverse]; exact hz
    have kk : ∀ b o, s1.heap.get? b = some o → h2.get? b = some o := fun b o gb => kp b o (Nat.ne_of_lt (Heap.lt_size gb)) (Heap.get?_push_of_some _ gb)
    exact ⟨.ref _, _, I1.laid (t' := t2) kk (by rw [Heap.size_push]; omega) (show ObjOk X.prog X.w _ h2 _ (.lst xs.reverse) from ⟨hbig, ys.toList, c2, hv, g⟩), rfl, q _ (I1.hok.fresh (by rw [Heap.size_push]; omega))⟩
theorem comp_enumQ {K : Frag} {a : Addr} {xs : List V} {D : Addr} {σ0 : St} {H1 : Hp} {Qd : Hp → Prop} {g : TG} {tc : TT} {te : TE} (Pv : Nat → St → Hp → Prop) (h0 : Pv 0 σ0 (upd H1 D (.lst []))) (hl : ∀ i σ H, i ≤ xs.length → Pv i σ H → SqL K H a xs)
    (hs : ∀ i x t σ' H', xs[i]? = some x → Pv i σ' H' → H' t = none → g (.ref t) σ' (upd H' t (.tup [.int (i : Nat), x])) fun σ2 H3 => tc σ2 H3 fun b H4 => if b = true then te σ2 H4 fun v H5 => rAppend (.ref D) [v] H5 fun _ H6 => ∃ m', m' < xs.length - i ∧ CW xs.length Pv (i + 1) m' σ2 H6 else ∃ m', m' < xs.length - i ∧ CW xs.length Pv (i + 1) m' σ2 H4)
    (hd : ∀ σ' H', Pv xs.length σ' H' → Qd H') :
    ∃ W : Nat → Nat → St → Hp → Prop, (∃ m, W 0 m σ0 (upd H1 D (.lst []))) ∧ ∀ i m σ' H', W i m σ' H' → ((Ite K a).stop i H' ∧ Qd H') ∨ ((Ite K a).go i H' ∧ ∀ x H2, (Ite K a).yld i H' x H2 → g x σ' H2 fun σ2 H3 => tc σ2 H3 fun b H4 =>
      if b = true then te σ2 H4 fun v H5 => rAppend (.ref D) [v] H5 fun _ H6 => ∃ m', m' < m ∧ W (i + 1) m' σ2 H6 else ∃ m', m' < m ∧ W (i + 1) m' σ2 H4) := by
  refine ⟨CW xs.length Pv, ⟨xs.length, rfl, Nat.zero_le _, h0⟩, ?_⟩
  rintro i m σ' H' ⟨rfl, hi, p⟩
  have q := hl i σ' H' hi p
  by_cases hlt : i < xs.length
  · refine .inr ⟨⟨xs, xs[i], q, by simp [hlt]⟩, fun x H2 y => ?_⟩
    obtain ⟨t, y', rfl, hn, rfl, y⟩ := y
    exact hs i y' t σ' _ (y xs q) p hn
  · have e : i = xs.length := by omega
    subst e
    exact .inl ⟨⟨xs, q, Nat.le_refl _⟩, hd σ' H' p⟩
end
end L2
set_option Elab.async false
set_option linter.all false
set_option maxRecDepth 100000
namespace PH
def gx0 : List (List Int) := (List.range 256).map fun k : Nat => [(k : Int)]
def gst (T : List (List Int)) (r : Nat × Nat) : List (List Int) := T ++ [(T[r.1]?).getD [] ++ (T[r.2]?).getD []]
def gx (rs : List (Nat × Nat)) : List (List Int) := rs.foldl gst gx0
def ex (rs : List (Nat × Nat)) (k : Nat) : List Int := ((gx rs)[k]?).getD []
def exs (rs : List (Nat × Nat)) (row : List Nat) : List Int := (row.map (ex rs)).flatten
def GrOk (rs : List (Nat × Nat)) : Prop := ∀ i r, rs[i]? = some r → r.1 < 256 + i ∧ r.2 < 256 + i
theorem gx0_len : gx0.length = 256 := by unfold gx0; rw [List.length_map, List.length_range]
theorem gx0_at {k : Nat} (h : k < 256) : gx0[k]? = some [(k : Int)] := by
  unfold gx0
  rw [List.getElem?_map, List.getElem?_range h]
  rfl
theorem fold_len : ∀ (rs : List (Nat × Nat)) (T : List (List Int)), (rs.foldl gst T).length = T.length + rs.length
  | [], T => rfl
  | r :: rs, T => by
    show (rs.foldl gst (gst T r)).length = _
    rw [fold_len rs (gst T r)]
    unfold gst
    rw [List.length_append, List.length_singleton, List.length_cons]
    omega
theorem gx_len (rs : List (Nat × Nat)) : (gx rs).length = 256 + rs.length := by
  unfold gx
  rw [fold_len, gx0_len]
theorem fold_pre : ∀ (rs : List (Nat × Nat)) (T : List (List Int)) (k : Nat), k < T.length → (rs.foldl gst T)[k]? = T[k]?
  | [], T, k, h => rfl
  | r :: rs, T, k, h => by
    show (rs.foldl gst (gst T r))[k]? = _
    have hl : (gst T r).length = T.length + 1 := by unfold gst; rw [List.length_append]; rfl
    rw [fold_pre rs (gst T r) k (by omega)]
    unfold gst
    rw [List.getElem?_append_left h]
theorem gx_low {rs : List (Nat × Nat)} {k : Nat} (h : k < 256) : (gx rs)[k]? = some [(k : Int)] := by
  unfold gx
  rw [fold_pre rs gx0 k (by rw [gx0_len]; exact h)]
  exact gx0_at h
theorem ex_low {rs : List (Nat × Nat)} {k : Nat} (h : k < 256) : ex rs k = [(k : Int)] := by
  unfold ex
  rw [gx_low h]
  rfl
theorem gx_snoc (rs : List (Nat × Nat)) (r : Nat × Nat) : gx (rs ++ [r]) = gx rs ++ [ex rs r.1 ++ ex rs r.2] := by
  unfold gx
  rw [List.foldl_append]
  rfl
theorem gx_pre {rs qs : List (Nat × Nat)} {k : Nat} (h : k < 256 + rs.length) : (gx (rs ++ qs))[k]? = (gx rs)[k]? := by
  unfold gx
  rw [List.foldl_append]
  exact fold_pre qs _ k (by have := gx_len rs; unfold gx at this; omega)
theorem ex_pre {rs qs : List (Nat × Nat)} {k : Nat} (h : k < 256 + rs.length) : ex (rs ++ qs) k = ex rs k := by
  unfold ex
  rw [gx_pre h]
theorem ex_rule {rs : List (Nat × Nat)} (ok : GrOk rs) {i : Nat} {r : Nat × Nat} (h : rs[i]? = some r) : ex rs (256 + i) = ex rs r.1 ++ ex rs r.2 := by
  obtain ⟨hi, he⟩ := List.getElem?_eq_some_iff.mp h
  have hb := ok i r h
  have e : rs = rs.take i ++ [r] ++ rs.drop (i + 1) := by
    have h1 : rs.take (i + 1) = rs.take i ++ [r] := by rw [List.take_succ, h]; rfl
    rw [← h1, List.take_append_drop]
  have hl : (rs.take i).length = i := by rw [List.length_take]; omega
  have e1 : ∀ k, k < 256 + i → ex rs k = ex (rs.take i) k := fun k hk => by
    have := ex_pre (rs := rs.take i) (qs := [r] ++ rs.drop (i + 1)) (k := k) (by omega)
    rw [← List.append_assoc, ← e] at this
    exact this
  have e2 : ex rs (256 + i) = ex (rs.take i ++ [r]) (256 + i) := by
    have := ex_pre (rs := rs.take i ++ [r]) (qs := rs.drop (i + 1)) (k := 256 + i) (by rw [List.length_append, List.length_singleton]; omega)
    rw [← e] at this
    exact this
  rw [e2, e1 _ hb.1, e1 _ hb.2]
  unfold ex
  rw [gx_snoc, List.getElem?_append_right (by rw [gx_len]; omega), gx_len, show 256 + i - (256 + (rs.take i).length) = 0 by omega]
  rfl
theorem ex_pos {rs : List (Nat × Nat)} (ok : GrOk rs) : ∀ k, k < 256 + rs.length → 1 ≤ (ex rs k).length
  | k, h => by
    by_cases hk : k < 256
    · rw [ex_low hk]; exact Nat.le_refl _
    · obtain ⟨r, hr⟩ : ∃ r, rs[k - 256]? = some r := ⟨_, List.getElem?_eq_getElem (by omega)⟩
      have hb := ok _ _ hr
      have e := ex_rule ok hr
      rw [show 256 + (k - 256) = k by omega] at e
      rw [e, List.length_append]
      have := ex_pos ok r.1 (by omega)
      omega
def glen (rs : List (Nat × Nat)) : List Int := (gx rs).map fun t => (t.length : Int)
theorem glen_at {rs : List (Nat × Nat)} {k : Nat} (h : k < 256 + rs.length) : (glen rs)[k]? = some ((ex rs k).length : Int) := by
  have hk : k < (gx rs).length := by rw [gx_len]; exact h
  have e : (gx rs)[k]? = some (gx rs)[k] := List.getElem?_eq_getElem hk
  unfold glen ex
  rw [List.getElem?_map, e]
  rfl
theorem exs_cons (rs : List (Nat × Nat)) (k : Nat) (row : List Nat) : exs rs (k :: row) = ex rs k ++ exs rs row := rfl
theorem exs_app (rs : List (Nat × Nat)) (a b : List Nat) : exs rs (a ++ b) = exs rs a ++ exs rs b := by
  unfold exs
  rw [List.map_append, List.flatten_append]
theorem exs_len (rs : List (Nat × Nat)) : ∀ row : List Nat, ((exs rs row).length : Int) = (row.map fun k => ((ex rs k).length : Int)).sum
  | [] => rfl
  | k :: row => by
    rw [exs_cons, List.length_append, List.map_cons, List.sum_cons, ← exs_len rs row]
    omega
def gms (rs : List (Nat × Nat)) (row : List Nat) : Nat := (row.map fun k => 2 * (ex rs k).length - 1).sum
theorem gms_cons (rs : List (Nat × Nat)) (k : Nat) (row : List Nat) : gms rs (k :: row) = (2 * (ex rs k).length - 1) + gms rs row := rfl
theorem gms_split {rs : List (Nat × Nat)} (ok : GrOk rs) {i : Nat} {r : Nat × Nat} (h : rs[i]? = some r) (row : List Nat) : gms rs (r.1 :: r.2 :: row) < gms rs ((256 + i) :: row) ∧ exs rs (r.1 :: r.2 :: row) = exs rs ((256 + i) :: row) := by
  have hi := (List.getElem?_eq_some_iff.mp h).1
  have hb := ok i r h
  have e := ex_rule ok h
  have p1 := ex_pos ok r.1 (by omega)
  have p2 := ex_pos ok r.2 (by omega)
  constructor
  · rw [gms_cons, gms_cons, gms_cons, e, List.length_append]
    omega
  · rw [exs_cons, exs_cons, exs_cons, e, List.append_assoc]
end PH
set_option Elab.async false
set_option linter.all false
set_option maxRecDepth 100000
set_option maxHeartbeats 4000000
namespace L2
open PySem PySem.Spec PyProof.Rows PySem.W
def iOr (w1 w2 : TI) : TI := fun σ H R => w1 σ H R ∨ w2 σ H R
theorem pi_or {X : Cx} {tg it : Expr} {w1 w2 : TI} (h1 : PI X tg it w1) (h2 : PI X tg it w2) : PI X tg it (iOr w1 w2) := by
  intro pins s σ H R I h
  rcases h with h | h
  · exact h1 pins s σ H R I h
  · exact h2 pins s σ H R I h
end L2
namespace PH
open PySem L2 PySem.W
def FRg (mg : Str → Option Value) : Prop := ∃ u, mg "FIRST_RULE" = some u ∧ RelV (.int 256) u
def rn (zs : List (Addr × Int × Int)) : List (Nat × Nat) := zs.map fun z => (z.2.1.toNat, z.2.2.toNat)
def GrZ (zs : List (Addr × Int × Int)) : Prop := ∀ (i : Nat) (z : Addr × Int × Int), zs[i]? = some z → 0 ≤ z.2.1 ∧ z.2.1 < (256 : Int) + (i : Int) ∧ 0 ≤ z.2.2 ∧ z.2.2 < (256 : Int) + (i : Int)
def RwZ (n : Nat) (row : List Int) : Prop := ∀ y ∈ row, 0 ≤ y ∧ y < (256 : Int) + (n : Int)
theorem GrZ.ok {zs : List (Addr × Int × Int)} (h : GrZ zs) : GrOk (rn zs) := fun i r e => by
  unfold rn at e
  rw [List.getElem?_map] at e
  cases e1 : zs[i]? with
  | none => rw [e1] at e; cases e
  | some z =>
    rw [e1] at e
    have e2 : (z.2.1.toNat, z.2.2.toNat) = r := Option.some.inj e
    have := h i z e1
    rw [← e2]
    exact ⟨by show z.2.1.toNat < _; omega, by show z.2.2.toNat < _; omega⟩
theorem rn_len (zs : List (Addr × Int × Int)) : (rn zs).length = zs.length := List.length_map _
def rwN (row : List Int) : List Nat := row.map Int.toNat
theorem _root_.L2.Same.sqT {K : Frag} {H H' : Hp} {a : Addr} {xs : List V} (e : Same H H') (h : SqT K H a xs) : SqT K H' a xs := by
  rcases h with (h | ⟨o, h⟩) | h
  · exact .inl (.inl (e _ _ h))
  · exact .inl (.inr ⟨o, e _ _ h⟩)
  · exact .inr h
theorem glen_nil : glen [] = List.replicate 256 1 := by
  unfold glen gx gx0
  rw [List.foldl_nil, List.map_map]
  show (List.range 256).map (fun _ => ((1 : Nat) : Int)) = _
  rw [List.map_const', List.length_range]
  rfl
theorem glen_snoc (rs : List (Nat × Nat)) (r : Nat × Nat) : glen (rs ++ [r]) = glen rs ++ [((ex rs r.1).length : Int) + ((ex rs r.2).length : Int)] := by
  unfold glen
  rw [gx_snoc, List.map_append]
  show _ ++ [(((ex rs r.1 ++ ex rs r.2).length : Nat) : Int)] = _
  rw [List.length_append, Int.natCast_add]
theorem all_rep (n : Nat) : (List.replicate n true).all id = true := by
  rw [List.all_eq_true]
  intro x hx
  exact List.eq_of_mem_replicate hx
theorem rep_snoc (n : Nat) : (List.replicate n true).map V.bl ++ [V.bl true] = (List.replicate (n + 1) true).map V.bl := by
  rw [List.replicate_succ', List.map_append]
  rfl
def spSyms (K : Frag) : Sp := fun vs H Q _ => ∃ (p : Addr) (ns : List Int) (n : Nat), vs = [.ref p, .int (n : Int)] ∧ (SqL K H p (ns.map V.int) ∨ SqT K H p (ns.map V.int)) ∧ RwZ n ns ∧ ns.length ≤ 100000 ∧ ∀ H', Same H H' → Q (.bl true) H'
def spIsRule : Sp := fun vs H Q _ => ∃ (t : Addr) (x y : Int) (n : Nat), vs = [.ref t, .int (n : Int)] ∧ H t = some (.tup [.int x, .int y]) ∧ RwZ n [x, y] ∧ ∀ H', Same H H' → Q (.bl true) H'
def spIsGr : Sp := fun vs H Q _ => ∃ (p q : Addr) (zs : List (Addr × Int × Int)) (row : List Int), vs = [.ref p, .ref q] ∧ Prs H p zs ∧ GrZ zs ∧ H q = some (lsI row) ∧ RwZ zs.length row ∧ zs.length ≤ 10000 ∧ row.length ≤ 100000 ∧ ∀ H', Same H H' → Q (.bl true) H'
def spNoGr : Sp := fun vs H Q _ => ∃ (p q : Addr) (zs : List (Addr × Int × Int)) (row : List Int), vs = [.ref p, .ref q] ∧ Prs H p zs ∧ GrZ zs ∧ H q = some (lsI row) ∧ RwZ zs.length row ∧ zs.length ≤ 10000 ∧ row.length ≤ 100000 ∧ ∀ H', Same H H' → Q .non H'
def spLens : Sp := fun vs H Q _ => ∃ (p : Addr) (zs : List (Addr × Int × Int)), vs = [.ref p] ∧ Prs H p zs ∧ GrZ zs ∧ zs.length ≤ 10000 ∧ ∀ (D : Addr) (H' : Hp), Same H H' → H D = none → H' D = some (lsI (glen (rn zs))) → Q (.ref D) H'
def spGLen : Sp := fun vs H Q _ => ∃ (p q : Addr) (zs : List (Addr × Int × Int)) (row : List Int), vs = [.ref p, .ref q] ∧ Prs H p zs ∧ GrZ zs ∧ H q = some (lsI row) ∧ RwZ zs.length row ∧ zs.length ≤ 10000 ∧ row.length ≤ 100000 ∧ ∀ H', Same H H' → Q (.int ((exs (rn zs) (rwN row)).length : Nat)) H'
def spBetween : Sp := fun vs H Q _ => ∃ (p q : Addr) (zs : List (Addr × Int × Int)) (row : List Int) (a b : Nat), vs = [.ref p, .ref q, .int (a : Int), .int (b : Int)] ∧ Prs H p zs ∧ GrZ zs ∧ H q = some (lsI row) ∧ RwZ zs.length row ∧ zs.length ≤ 10000 ∧ row.length ≤ 100000 ∧
  a ≤ b ∧ b ≤ (exs (rn zs) (rwN row)).length ∧ b ≤ a + 1000000 ∧
  ∀ (D : Addr) (H' : Hp), Same H H' → H D = none → H' D = some (lsI (((exs (rn zs) (rwN row)).take b).drop a)) → Q (.ref D) H'
def spGText (cB : Addr) : Sp := fun vs H Q E => ∃ (p q : Addr) (zs : List (Addr × Int × Int)) (row : List Int), vs = [.ref p, .ref q] ∧ Prs H p zs ∧ GrZ zs ∧ H q = some (lsI row) ∧ RwZ zs.length row ∧ zs.length ≤ 10000 ∧ row.length ≤ 100000 ∧
  (400 < (exs (rn zs) (rwN row)).length → ∀ H', Same H H' → E (.ref cB) none H') ∧
  ((exs (rn zs) (rwN row)).length ≤ 400 → ∀ (D : Addr) (H' : Hp), Same H H' → H D = none → H' D = some (lsI (exs (rn zs) (rwN row))) → Q (.ref D) H')
theorem RwZ.at {n : Nat} {row : List Int} {i : Nat} {y : Int} (h : RwZ n row) (e : row[i]? = some y) : 0 ≤ y ∧ y < (256 : Int) + (n : Int) := h y (List.mem_of_getElem? e)
theorem gl_at {zs : List (Addr × Int × Int)} {y : Int} (h0 : 0 ≤ y) (h1 : y < (256 : Int) + (zs.length : Int)) : (glen (rn zs))[y.toNat]? = some ((ex (rn zs) y.toNat).length : Int) := glen_at (by rw [rn_len]; omega)
theorem rwN_back {n : Nat} {row : List Int} (h : RwZ n row) : HO.lst (row.map V.int).reverse = lsI ((rwN row).reverse.map fun k : Nat => (k : Int)) := by
  unfold lsI rwN
  have e : (row.map Int.toNat).map (fun k : Nat => (k : Int)) = row := by
    rw [List.map_map]
    have : ∀ y ∈ row, ((fun k : Nat => (k : Int)) ∘ Int.toNat) y = id y := fun y hy => by
      have := (h y hy).1
      show ((y.toNat : Nat) : Int) = y
      omega
    rw [List.map_congr_left this, List.map_id]
  rw [List.map_reverse, e, ← List.map_reverse]
def Stk (B : Nat) : List Nat → Prop
  | [] => True
  | k :: r => r.length + 1 + k ≤ B ∧ Stk B r
theorem Stk.len {B : Nat} : ∀ {l : List Nat}, Stk B l → l.length ≤ B
  | [], _ => Nat.zero_le _
  | k :: r, h => by have := h.1; rw [List.length_cons]; omega
theorem Stk.first {n m : Nat} : ∀ {l : List Nat}, (∀ k ∈ l, k < 256 + n) → l.length ≤ m → Stk (m + 256 + n) l
  | [], _, _ => trivial
  | k :: r, h, hl => by
    have := h k List.mem_cons_self
    rw [List.length_cons] at hl
    exact ⟨by omega, Stk.first (fun x hx => h x (List.mem_cons_of_mem _ hx)) (by omega)⟩
theorem Stk.split {B k x y : Nat} {r : List Nat} (h : Stk B (k :: r)) (hx : x < k) (hy : y < k) : Stk B (x :: y :: r) := by
  have := h.1
  exact ⟨by rw [List.length_cons]; omega, by omega, h.2⟩
theorem exs_ne {rs : List (Nat × Nat)} {l : List Nat} (h : exs rs l ≠ []) : ∃ k r, l = k :: r := by
  cases l with
  | nil => exact absurd rfl h
  | cons k r => exact ⟨k, r, rfl⟩
end PH
namespace PH
open PySem L2 PySem.W
end PH
set_option Elab.async false
set_option linter.all false
set_option maxRecDepth 100000
set_option maxHeartbeats 4000000
namespace PH
open PySem L2 PySem.W
theorem ex_new (rs : List (Nat × Nat)) (r : Nat × Nat) : ex (rs ++ [r]) (256 + rs.length) = ex rs r.1 ++ ex rs r.2 := by
  unfold ex
  rw [gx_snoc, List.getElem?_append_right (by rw [gx_len]; omega), gx_len, Nat.sub_self]
  rfl
structure Txs (H : Hp) (X : Addr) (as : List Addr) (f : Nat → List Int) : Prop where
  at_ : H X = some (.lst (as.map V.ref))
  each : ∀ j a, as[j]? = some a → a ≠ X ∧ H a = some (lsI (f j))
theorem Txs.same {H H' : Hp} {X : Addr} {as : List Addr} {f : Nat → List Int} (h : Txs H X as f) (s : Same H H') : Txs H' X as f := ⟨s _ _ h.at_, fun j a e => ⟨(h.each j a e).1, s _ _ (h.each j a e).2⟩⟩
theorem Txs.app {H : Hp} {X l : Addr} {as : List Addr} {f f2 : Nat → List Int} {t : List Int} (h : Txs H X as f) (hl : H l = some (lsI t)) (hn : l ≠ X) (e1 : ∀ j, j < as.length → f2 j = f j) (e2 : f2 as.length = t) : Txs (upd H X (.lst (as.map V.ref ++ [V.ref l]))) X (as ++ [l]) f2 := by
  refine ⟨by rw [upd_same, List.map_append]; rfl, fun j a e => ?_⟩
  by_cases hj : j < as.length
  · rw [List.getElem?_append_left hj] at e
    have := h.each j a e
    exact ⟨this.1, by rw [upd_ne this.1, e1 j hj]; exact this.2⟩
  · have hj2 : j = as.length := by
      have := (List.getElem?_eq_some_iff.mp e).1
      rw [List.length_append, List.length_singleton] at this
      omega
    subst hj2
    rw [List.getElem?_append_right (Nat.le_refl _), Nat.sub_self] at e
    have ea : l = a := Option.some.inj e
    subst ea
    exact ⟨hn, by rw [upd_ne hn, e2]; exact hl⟩
theorem at_refsA {as : List Addr} {j : Nat} {a : Addr} (h : as[j]? = some a) : atI (as.map V.ref) (j : Int) = some (.ref a) := atI_nat (by rw [List.getElem?_map, h]; rfl)
theorem exs_take {rs : List (Nat × Nat)} {row : List Int} {i : Nat} {y : Int} (h : row[i]? = some y) : exs rs (rwN (row.take (i + 1))) = exs rs (rwN (row.take i)) ++ ex rs y.toNat := by
  rw [take_at h]
  unfold rwN
  rw [List.map_append, exs_app]
  show _ ++ (ex rs y.toNat ++ []) = _
  rw [List.append_nil]
end PH
set_option Elab.async false
set_option linter.all false
set_option maxRecDepth 100000
set_option maxHeartbeats 4000000
namespace PH
open PySem L2 PySem.W
structure Gsn (H : Hp) (P S : Addr) (most : Nat) (zs : List (Addr × Int × Int)) : Prop where
  pr : Prs H P zs
  sz : H S = some (lsI ((glen (rn zs)).drop 256))
  gr : GrZ zs
  few : zs.length ≤ 300
  bd : ∀ k, k < 256 + zs.length → (ex (rn zs) k).length ≤ most
theorem Gsn.same {H H' : Hp} {P S : Addr} {most : Nat} {zs : List (Addr × Int × Int)} (h : Gsn H P S most zs) (s : Same H H') : Gsn H' P S most zs := ⟨h.pr.same s, s _ _ h.sz, h.gr, h.few, h.bd⟩
theorem rn_app (zs : List (Addr × Int × Int)) (t : Addr) (x y : Int) : rn (zs ++ [(t, x, y)]) = rn zs ++ [(x.toNat, y.toNat)] := by
  unfold rn
  rw [List.map_append]
  rfl
theorem GrZ.app {zs : List (Addr × Int × Int)} {t : Addr} {x y : Int} (h : GrZ zs) (x0 : 0 ≤ x) (x1 : x < (256 : Int) + (zs.length : Int)) (y0 : 0 ≤ y) (y1 : y < (256 : Int) + (zs.length : Int)) : GrZ (zs ++ [(t, x, y)]) := fun i z e => by
  by_cases hi : i < zs.length
  · rw [List.getElem?_append_left hi] at e
    exact h i z e
  · have hi2 : i = zs.length := by
      have := (List.getElem?_eq_some_iff.mp e).1
      rw [List.length_append, List.length_singleton] at this
      omega
    subst hi2
    rw [List.getElem?_append_right (Nat.le_refl _), Nat.sub_self] at e
    have ez : (t, x, y) = z := Option.some.inj e
    subst ez
    exact ⟨x0, x1, y0, y1⟩
theorem sz_app (zs : List (Addr × Int × Int)) (t : Addr) (x y : Int) : (glen (rn (zs ++ [(t, x, y)]))).drop 256 = (glen (rn zs)).drop 256 ++ [((ex (rn zs) x.toNat).length : Int) + ((ex (rn zs) y.toNat).length : Int)] := by
  rw [rn_app, glen_snoc, List.drop_append_of_le_length]
  unfold glen
  rw [List.length_map, gx_len]
  omega
theorem bd_app {zs : List (Addr × Int × Int)} {t : Addr} {x y : Int} {most : Nat} (h : ∀ k, k < 256 + zs.length → (ex (rn zs) k).length ≤ most) (hs : (ex (rn zs) x.toNat).length + (ex (rn zs) y.toNat).length ≤ most) : ∀ k, k < 256 + (zs ++ [(t, x, y)]).length → (ex (rn (zs ++ [(t, x, y)])) k).length ≤ most := fun k hk => by
  rw [List.length_append, List.length_singleton] at hk
  rw [rn_app]
  by_cases h1 : k < 256 + zs.length
  · rw [ex_pre (by rw [rn_len]; exact h1)]
    exact h k h1
  · have e : k = 256 + (rn zs).length := by rw [rn_len]; omega
    rw [e, ex_new, List.length_append]
    exact hs
theorem Gsn.nil {H : Hp} {P S : Addr} {most : Nat} (hP : H P = some (.lst [])) (hS : H S = some (.lst [])) (hm : 1 ≤ most) : Gsn H P S most [] :=
  ⟨⟨hP, fun _ z => by cases z⟩, (by rw [hS]; show _ = some (lsI ((glen []).drop 256)); rw [glen_nil, List.drop_replicate]; rfl), (fun i z e => by cases e), Nat.zero_le _, fun k hk => by
    have hk' : k < 256 := hk
    rw [ex_low hk']
    exact hm⟩
theorem Gsn.app {H : Hp} {P S t : Addr} {most : Nat} {zs : List (Addr × Int × Int)} {x y : Int} (h : Gsn H P S most zs) (hPS : P ≠ S) (ht : H t = none) (hn : zs.length < 300) (x0 : 0 ≤ x) (x1 : x < (256 : Int) + (zs.length : Int)) (y0 : 0 ≤ y) (y1 : y < (256 : Int) + (zs.length : Int))
    (hs : (ex (rn zs) x.toNat).length + (ex (rn zs) y.toNat).length ≤ most) :
    ∀ H1, H1 = upd H S (lsI ((glen (rn zs)).drop 256 ++ [((ex (rn zs) x.toNat).length : Int) + ((ex (rn zs) y.toNat).length : Int)])) → H1 t = none →
      Gsn (upd (upd H1 t (.tup [.int x, .int y])) P (.lst ((zs.map fun z => V.ref z.1) ++ [V.ref t]))) P S most (zs ++ [(t, x, y)]) := by
  rintro H1 rfl ht1
  have st := same_new ht1 (.tup [.int x, .int y])
  have p1 : Prs (upd H S (lsI ((glen (rn zs)).drop 256 ++ [((ex (rn zs) x.toNat).length : Int) + ((ex (rn zs) y.toNat).length : Int)]))) P zs := h.pr.other h.sz hPS
  refine ⟨(p1.same st).app upd_same, ?_, h.gr.app x0 x1 y0 y1, by rw [List.length_append, List.length_singleton]; omega, bd_app h.bd hs⟩
  rw [upd_ne hPS.symm, st _ _ upd_same, sz_app]
end PH
namespace PH
open PySem L2 PySem.W
end PH
set_option Elab.async false
set_option linter.all false
set_option maxRecDepth 100000
set_option maxHeartbeats 4000000
namespace PH
open PySem L2 PySem.W
theorem Gsn.other {H : Hp} {P S W : Addr} {most : Nat} {zs : List (Addr × Int × Int)} {xs ys : List V} (h : Gsn H P S most zs) (hW : H W = some (.lst xs)) (hP : P ≠ W) (hS : S ≠ W) : Gsn (upd H W (.lst ys)) P S most zs :=
  ⟨h.pr.other hW hP, by rw [upd_ne hS]; exact h.sz, h.gr, h.few, h.bd⟩
theorem RwZ.rep {n : Nat} {row : List Int} (h : RwZ n row) (m : Nat) : RwZ n (List.replicate m row).flatten := fun y hy => by
  obtain ⟨l, hl, hy2⟩ := List.mem_flatten.mp hy
  rw [List.eq_of_mem_replicate hl] at hy2
  exact h y hy2
end PH
set_option Elab.async false
set_option linter.all false
set_option maxRecDepth 100000
set_option maxHeartbeats 4000000
namespace L2
open PySem PySem.Spec PyProof.Rows PySem.W
def tSlS (K : Frag) (te : TE) (tl tu ts : TO) : TE := fun σ H Q => te σ H fun x H1 => tl σ H1 fun l H2 => tu σ H2 fun u H3 => ts σ H3 fun k H4 => k ≠ some 0 ∧ ∃ (a : Addr) (ns : List Int), x = .ref a ∧ SqL K H4 a (ns.map V.int) ∧
  ∀ (p : Addr) (ms : List Int), H4 p = none → (∀ y ∈ ms, y ∈ ns) → ms.length ≤ ns.length → Q (.ref p) (upd H4 p (.lst (ms.map V.int)))
theorem vals_memI : ∀ {ns : List Int} {its : List Value}, Vals (ns.map V.int) its → ∀ u ∈ its, ∃ y ∈ ns, RelV (.int y) u
  | [], _, .nil, u, h => by cases h
  | n :: ns, _, .cons h t, u, hu => by
    rcases List.mem_cons.mp hu with e | hu
    · exact ⟨n, List.mem_cons_self, by rw [e]; exact h⟩
    · obtain ⟨y, hy, hr⟩ := vals_memI t u hu
      exact ⟨y, List.mem_cons_of_mem _ hy, hr⟩
theorem vals_picked {ns : List Int} {its : List Value} (r : Vals (ns.map V.int) its) : ∀ us : List Value, (∀ u ∈ us, u ∈ its) → ∃ ms : List Int, Vals (ms.map V.int) us ∧ (∀ y ∈ ms, y ∈ ns) ∧ ms.length = us.length
  | [], _ => ⟨[], .nil, (fun _ h => by cases h), rfl⟩
  | u :: us, h => by
    obtain ⟨ms, h1, h2, h3⟩ := vals_picked r us fun x hx => h x (List.mem_cons_of_mem _ hx)
    obtain ⟨y, hy, hr⟩ := vals_memI r u (h u List.mem_cons_self)
    refine ⟨y :: ms, .cons hr h1, fun x hx => ?_, by rw [List.length_cons, List.length_cons, h3]⟩
    rcases List.mem_cons.mp hx with e | hx
    · rw [e]; exact hy
    · exact h2 x hx
variable {X : Cx}
theorem pe_sliceS {e st : Expr} {lo hi : Option Expr} {te : TE} {tl tu ts : TO} {pos p2 : Pos} (he : PE X e te) (hl : PO X lo tl) (hu : PO X hi tu) (hst : PO X (some st) ts) : PE X (.Subscript e (.Slice lo hi (some st) p2) pos) (tSlS X.K te tl tu ts) := by
  intro pins s σ H Q I h
  refine Subscript_ (thn (he pins s σ H _ I h) fun v s1 ⟨x, H1, I1, r1, q1⟩ => ?_)
  refine wpAny_Slice (thn (hl pins s1 σ H1 _ I1 q1) fun vl s2 ⟨l, H2, I2, pl, q2⟩ => thn (hu pins s2 σ H2 _ I2 q2) fun vu s3 ⟨u, H3, I3, pu, q3⟩ => ?_)
  refine thn (hst pins s3 σ H3 _ I3 q3) fun vk s4 ⟨o, H4, I4, pk, q4⟩ => ?_
  obtain ⟨ho, a, ns, rfl, hx, q⟩ := q4
  cases r1
  have I5 : Inv X pins σ H4 { s4 with heap := s4.heap.push { cls := .type "slice", data := .fields #[vl, vu, vk] } } := I4.kept (t' := s4.toks) fun b ob q => Heap.get?_push_of_some _ q
  obtain ⟨its, r, ht, hz⟩ := I5.list hx
  have hlen := r.length
  show wpAny (model X.prog X.w) X.A (subscriptTail e (.Slice lo hi (some st) p2) (.ref a) (.ref s4.heap.objs.size)) (EP X pins σ Q) X.xe { s4 with heap := s4.heap.push { cls := .type "slice", data := .fields #[vl, vu, vk] } }
  refine tail_any (ops := [.ref a, .ref s4.heap.objs.size]) ht.isList.typeIs slot_list_getitem.lookup ?_ (by with_unfolding_all rfl)
  refine wpAny_getItem_list_slice ht.isList (Heap.IsSliceOf.new ..) pl pu pk ho ?_ (by rw [List.size_toArray] <;> omega)
  have hsz := slicePick_size_le its.toArray l u o
  obtain ⟨us, eus, hus⟩ : ∃ us : List Value, slicePick its.toArray l u o = us.toArray ∧ ∀ w ∈ us, w ∈ its := by
    refine ⟨_, rfl, fun w hw => ?_⟩
    obtain ⟨i, _, hi⟩ := List.mem_filterMap.mp hw
    have := Array.mem_of_getElem? hi
    simpa using this
  rw [eus, List.size_toArray, List.size_toArray] at hsz
  obtain ⟨ms, hv, hm, hml⟩ := vals_picked r us hus
  rw [List.length_map] at hlen
  rw [eus]
  refine ⟨.ref _, _, I5.laid (t' := s4.toks) (o := .lst (ms.map V.int)) (fun b ob q => Heap.get?_push_of_some _ q) (Nat.le_refl _) ?_, rfl, q _ ms (I5.hok.fresh (Nat.le_refl _)) hm (by omega)⟩
  rw [List.length_map] at hz
  exact ⟨by rw [List.length_map]; omega, us, 0, hv, Heap.get?_push_size _ rfl⟩
end L2
set_option Elab.async false
set_option linter.all false
set_option maxRecDepth 100000
set_option maxHeartbeats 4000000
namespace PH
open PySem L2 PySem.W
def spNoStr (cP : Addr) : Sp := fun vs H Q E => ∃ (a b n : Int), vs = [.int a, .int b, .int n] ∧ (¬ (0 ≤ a ∧ a ≤ b ∧ b ≤ n) → E (.ref cP) none H) ∧ ((0 ≤ a ∧ a ≤ b ∧ b ≤ n) → Q .non H)
def spGStr (cP : Addr) : Sp := fun vs H Q E => ∃ (p q : Addr) (zs : List (Addr × Int × Int)) (row : List Int) (a b : Int), vs = [.ref p, .ref q, .int a, .int b] ∧ Prs H p zs ∧ GrZ zs ∧ H q = some (lsI row) ∧ RwZ zs.length row ∧ zs.length ≤ 10000 ∧ row.length ≤ 100000 ∧
  (¬ (0 ≤ a ∧ a ≤ b ∧ b ≤ ((exs (rn zs) (rwN row)).length : Nat)) → ∀ H', Same H H' → E (.ref cP) none H') ∧
  ((0 ≤ a ∧ a ≤ b ∧ b ≤ ((exs (rn zs) (rwN row)).length : Nat)) → b ≤ a + 1000000 ∧ ∀ (D : Addr) (H' : Hp), Same H H' → H D = none → H' D = some (lsI (((exs (rn zs) (rwN row)).take b.toNat).drop a.toNat)) → Q (.ref D) H')
theorem rwN_cons (y : Int) (row : List Int) : rwN (y :: row) = y.toNat :: rwN row := rfl
theorem drop_at {α : Type} {l : List α} {k : Nat} {x : α} (h : l[k]? = some x) : l.drop k = x :: l.drop (k + 1) := by
  obtain ⟨hk, e⟩ := List.getElem?_eq_some_iff.mp h
  rw [List.drop_eq_getElem_cons hk, e]
theorem bounded_at {α : Type} {l : List α} {k : Nat} (h : k < l.length) : ∃ x, l[k]? = some x := ⟨_, List.getElem?_eq_getElem h⟩
def dp (s0 s1 : Int) (sg : Nat → Int) : Nat → List (Int × Int)
  | 0 => [(s0, s1)]
  | k + 1 => dp s0 s1 sg k ++ [(256 + (k : Int), sg k)]
theorem list_at3 {a b c : Int} {p : Int → Prop} (ha : p a) (hb : p b) (hc : p c) {k : Int} (h0 : 0 ≤ k) (h3 : k < 3) : ∃ x, atI [V.int a, V.int b, V.int c] k = some (.int x) ∧ p x := by
  have h : k = 0 ∨ k = 1 ∨ k = 2 := by omega
  rcases h with h | h | h <;> rw [h]
  · exact ⟨a, rfl, ha⟩
  · exact ⟨b, rfl, hb⟩
  · exact ⟨c, rfl, hc⟩
end PH
set_option Elab.async false
set_option linter.all false
set_option maxRecDepth 100000
set_option maxHeartbeats 4000000
namespace PH
def cnt (w : List Int) : List Int → Nat
  | [] => 0
  | x :: t => (if (x :: t).take w.length = w then 1 else 0) + cnt w t
def crs (w : List Int) : List Int → List Int → Nat
  | [], _ => 0
  | x :: t, u => (if (x :: t).length < w.length ∧ ((x :: t) ++ u).take w.length = w then 1 else 0) + crs w t u
def hdw (w t : List Int) : List Int := t.take (w.length - 1)
def tlw (w t : List Int) : List Int := t.drop (t.length - (w.length - 1))
theorem cnt_short {w : List Int} : ∀ {t : List Int}, t.length < w.length → cnt w t = 0
  | [], _ => rfl
  | x :: t, h => by
    unfold cnt
    rw [if_neg, cnt_short (t := t) (by rw [List.length_cons] at h; omega)]
    intro e
    have := congrArg List.length e
    rw [List.length_take] at this
    omega
theorem cnt_cons (w : List Int) (x : Int) (t : List Int) : cnt w (x :: t) = (if (x :: t).take w.length = w then 1 else 0) + cnt w t := rfl
theorem crs_cons (w : List Int) (x : Int) (t u : List Int) : crs w (x :: t) u = (if (x :: t).length < w.length ∧ ((x :: t) ++ u).take w.length = w then 1 else 0) + crs w t u := rfl
theorem cnt_app (w : List Int) : ∀ t u : List Int, cnt w (t ++ u) = cnt w t + cnt w u + crs w t u
  | [], u => by show cnt w u = 0 + cnt w u + 0; omega
  | x :: t, u => by
    have ih := cnt_app w t u
    rw [List.cons_append, cnt_cons, cnt_cons, crs_cons, ih, List.cons_append]
    by_cases h : (x :: t).length < w.length
    · have h1 : ¬ (x :: t).take w.length = w := fun e => by
        have := congrArg List.length e
        rw [List.length_take] at this
        omega
      rw [if_neg h1]
      by_cases h2 : (x :: (t ++ u)).take w.length = w
      · have e1 : (if (x :: t).length < w.length ∧ (x :: (t ++ u)).take w.length = w then 1 else 0) = 1 := if_pos ⟨h, h2⟩
        have e2 : (if (x :: (t ++ u)).take w.length = w then 1 else 0) = 1 := if_pos h2
        rw [e1, e2]
        omega
      · have e1 : (if (x :: t).length < w.length ∧ (x :: (t ++ u)).take w.length = w then 1 else 0) = 0 := if_neg (fun z => h2 z.2)
        have e2 : (if (x :: (t ++ u)).take w.length = w then 1 else 0) = 0 := if_neg h2
        rw [e1, e2]
        omega
    · have e : (x :: (t ++ u)).take w.length = (x :: t).take w.length := by
        rw [← List.cons_append, List.take_append_of_le_length (by omega)]
      have e1 : (if (x :: t).length < w.length ∧ (x :: t).take w.length = w then 1 else 0) = 0 := if_neg (fun z => h z.1)
      rw [e, e1]
      omega
theorem crs_tl {w : List Int} : ∀ t u : List Int, crs w t u = crs w (tlw w t) u
  | [], u => by unfold tlw; rw [List.drop_nil]
  | x :: t, u => by
    by_cases h : (x :: t).length ≤ w.length - 1
    · unfold tlw
      rw [show (x :: t).length - (w.length - 1) = 0 by omega, List.drop_zero]
    · have e : tlw w (x :: t) = tlw w t := by
        unfold tlw
        rw [List.length_cons] at h ⊢
        rw [show t.length + 1 - (w.length - 1) = (t.length - (w.length - 1)) + 1 by omega, List.drop_succ_cons]
      rw [e, ← crs_tl t u]
      show (if _ then 1 else 0) + crs w t u = _
      rw [if_neg (fun z => by have := z.1; omega)]
      omega
theorem take_hd {s u : List Int} {m : Nat} (hs : 1 ≤ s.length) : (s ++ u).take m = (s ++ u.take (m - 1)).take m := by
  rw [List.take_append, List.take_append, List.take_take]
  congr 2
  omega
theorem crs_hd {w : List Int} : ∀ t u : List Int, crs w t u = crs w t (hdw w u)
  | [], _ => rfl
  | x :: t, u => by
    unfold crs
    rw [← crs_hd t u]
    unfold hdw
    rw [← take_hd (by rw [List.length_cons]; omega)]
theorem hdw_len (w t : List Int) : (hdw w t).length ≤ w.length - 1 := by unfold hdw; rw [List.length_take]; omega
theorem tlw_len (w t : List Int) : (tlw w t).length ≤ w.length - 1 := by unfold tlw; rw [List.length_drop]; omega
theorem cnt_meet {w : List Int} (hw : 1 ≤ w.length) (t u : List Int) : cnt w (t ++ u) = cnt w t + cnt w u + cnt w (tlw w t ++ hdw w u) := by
  have h1 := hdw_len w u
  have h2 := tlw_len w t
  rw [cnt_app, cnt_app w (tlw w t), cnt_short (t := tlw w t) (by omega), cnt_short (t := hdw w u) (by omega), ← crs_hd, ← crs_tl]
  omega
theorem hdw_app (w t u : List Int) : hdw w (t ++ u) = (hdw w t ++ hdw w u).take (w.length - 1) := by
  unfold hdw
  rw [List.take_append, List.take_append, List.take_take, List.take_take, List.length_take, Nat.min_self]
  congr 2
  omega
theorem tlw_app (w t u : List Int) : tlw w (t ++ u) = (tlw w t ++ tlw w u).drop ((tlw w t ++ tlw w u).length - (w.length - 1)) := by
  have h2 := tlw_len w t
  have h3 : (tlw w t).length = t.length - (t.length - (w.length - 1)) := by unfold tlw; rw [List.length_drop]
  by_cases h : w.length - 1 ≤ u.length
  · have h1 : (tlw w u).length = w.length - 1 := by unfold tlw; rw [List.length_drop]; omega
    rw [List.length_append, h1, Nat.add_sub_cancel, List.drop_left' rfl]
    unfold tlw
    rw [List.length_append, List.drop_append, List.drop_of_length_le (by omega), List.nil_append]
    congr 1
    omega
  · have h1 : tlw w u = u := by unfold tlw; rw [show u.length - (w.length - 1) = 0 by omega, List.drop_zero]
    rw [h1, List.length_append, List.drop_append_of_le_length (by omega)]
    unfold tlw at h2 h3 ⊢
    rw [List.length_append, List.drop_append_of_le_length (by omega), List.drop_drop]
    congr 2
    omega
def ctw (w t : List Int) : Nat → Nat
  | 0 => 0
  | i + 1 => ctw w t i + (if (t.drop i).take w.length = w then 1 else 0)
theorem ctw_cons (w : List Int) (x : Int) (t : List Int) : ∀ i, ctw w (x :: t) (i + 1) = (if (x :: t).take w.length = w then 1 else 0) + ctw w t i
  | 0 => by show 0 + _ = _ + 0; rw [List.drop_zero]; omega
  | i + 1 => by
    have := ctw_cons w x t i
    show ctw w (x :: t) (i + 1) + _ = _ + (ctw w t i + _)
    rw [this, List.drop_succ_cons]
    omega
theorem ctw_len (w : List Int) : ∀ t : List Int, ctw w t t.length = cnt w t
  | [] => rfl
  | x :: t => by
    rw [List.length_cons, ctw_cons, ctw_len w t]
    rfl
theorem ctw_more {w t : List Int} {i : Nat} (hw : 1 ≤ w.length) (hi : t.length < i + w.length) : ∀ j, ctw w t (i + j) = ctw w t i
  | 0 => rfl
  | j + 1 => by
    have e3 : ctw w t (i + (j + 1)) = ctw w t (i + j) + (if (t.drop (i + j)).take w.length = w then 1 else 0) := rfl
    rw [e3, ctw_more hw hi j, if_neg]
    · rfl
    · intro e
      have := congrArg List.length e
      rw [List.length_take, List.length_drop] at this
      omega
theorem ctw_all {w t : List Int} (hw : 1 ≤ w.length) : ctw w t (t.length + 1 - w.length) = cnt w t := by
  rw [← ctw_len]
  by_cases h : t.length + 1 < w.length
  · rw [show t.length + 1 - w.length = 0 by omega]
    have := ctw_more (w := w) (t := t) (i := 0) hw (by omega) t.length
    rw [Nat.zero_add] at this
    exact this.symm
  · have := ctw_more (w := w) (t := t) (i := t.length + 1 - w.length) hw (by omega) (w.length - 1)
    rw [show t.length + 1 - w.length + (w.length - 1) = t.length by omega] at this
    exact this.symm
theorem cnt_one {w : List Int} (hw : 1 ≤ w.length) (x : Int) : cnt w [x] = if w = [x] then 1 else 0 := by
  show (if [x].take w.length = w then 1 else 0) + 0 = _
  rw [List.take_of_length_le (by rw [List.length_singleton]; exact hw), Nat.add_zero]
  by_cases h : w = [x]
  · rw [if_pos h.symm, if_pos h]
  · rw [if_neg (fun e => h e.symm), if_neg h]
theorem tl_hd_one (w : List Int) (x : Int) : tlw w [x] = hdw w [x] := by
  unfold tlw hdw
  cases h : w.length - 1 with
  | zero => rw [List.take_zero]; rfl
  | succ n => rw [List.take_of_length_le (by rw [List.length_singleton]; omega), List.length_singleton, show 1 - (n + 1) = 0 by omega, List.drop_zero]
end PH
set_option Elab.async false
set_option linter.all false
set_option maxRecDepth 100000
set_option maxHeartbeats 4000000
namespace PH
open PySem L2 PySem.W
def spTimes : Sp := fun vs H Q _ => ∃ (T Wd : Addr) (t w : List Int), vs = [.ref T, .ref Wd] ∧ H T = some (lsI t) ∧ H Wd = some (lsI w) ∧ 1 ≤ w.length ∧ w.length ≤ 1000 ∧ t.length ≤ 100000 ∧ ∀ H', Same H H' → Q (.int (cnt w t : Nat)) H'
def PartA (H : Hp) (a : Addr) (w t : List Int) : Prop := ∃ h1 h2 : Addr, H a = some (.tup [.int (cnt w t : Nat), .ref h1, .ref h2]) ∧ H h1 = some (lsI (hdw w t)) ∧ H h2 = some (lsI (tlw w t))
theorem PartA.same {H H' : Hp} {a : Addr} {w t : List Int} (h : PartA H a w t) (s : Same H H') : PartA H' a w t := by
  obtain ⟨h1, h2, e1, e2, e3⟩ := h
  exact ⟨h1, h2, s _ _ e1, s _ _ e2, s _ _ e3⟩
def spPSign : Sp := fun vs H Q _ => ∃ (x : Int) (Wd : Addr) (w : List Int), vs = [.int x, .ref Wd] ∧ H Wd = some (lsI w) ∧ 1 ≤ w.length ∧ w.length ≤ 1000 ∧
  ∀ (a h1 h2 : Addr) (H' : Hp), Same H H' → H h1 = none → H h2 = none → H' a = some (.tup [.int (cnt w [x] : Nat), .ref h1, .ref h2]) → H' h1 = some (lsI (hdw w [x])) → H' h2 = some (lsI (tlw w [x])) → Q (.ref a) H'
def spPBoth : Sp := fun vs H Q _ => ∃ (o p Wd : Addr) (w t u : List Int), vs = [.ref o, .ref p, .ref Wd] ∧ PartA H o w t ∧ PartA H p w u ∧ H Wd = some (lsI w) ∧ 1 ≤ w.length ∧ w.length ≤ 1000 ∧
  ∀ (a h1 h2 : Addr) (H' : Hp), Same H H' → H h1 = none → H h2 = none → H' a = some (.tup [.int (cnt w (t ++ u) : Nat), .ref h1, .ref h2]) → H' h1 = some (lsI (hdw w (t ++ u))) → H' h2 = some (lsI (tlw w (t ++ u))) → Q (.ref a) H'
def spGCnt : Sp := fun vs H Q _ => ∃ (p q Wd : Addr) (zs : List (Addr × Int × Int)) (row w : List Int), vs = [.ref p, .ref q, .ref Wd] ∧ Prs H p zs ∧ GrZ zs ∧ H q = some (lsI row) ∧ RwZ zs.length row ∧ zs.length ≤ 10000 ∧ row.length ≤ 100000 ∧ H Wd = some (lsI w) ∧ 1 ≤ w.length ∧ w.length ≤ 1000 ∧
  ∀ H', Same H H' → Q (.int (cnt w (exs (rn zs) (rwN row)) : Nat)) H'
structure Pts (H : Hp) (X : Addr) (as : List Addr) (w : List Int) (f : Nat → List Int) : Prop where
  at_ : H X = some (.lst (as.map V.ref))
  each : ∀ j a, as[j]? = some a → ∃ h1 h2 : Addr, h1 ≠ X ∧ h2 ≠ X ∧ H a = some (.tup [.int (cnt w (f j) : Nat), .ref h1, .ref h2]) ∧ H h1 = some (lsI (hdw w (f j))) ∧ H h2 = some (lsI (tlw w (f j)))
theorem Pts.part {H : Hp} {X a : Addr} {as : List Addr} {w : List Int} {f : Nat → List Int} (h : Pts H X as w f) {j : Nat} (e : as[j]? = some a) : PartA H a w (f j) := by
  obtain ⟨h1, h2, _, _, e1, e2, e3⟩ := h.each j a e
  exact ⟨h1, h2, e1, e2, e3⟩
theorem Pts.same {H H' : Hp} {X : Addr} {as : List Addr} {w : List Int} {f : Nat → List Int} (h : Pts H X as w f) (s : Same H H') : Pts H' X as w f := ⟨s _ _ h.at_, fun j a e => by
  obtain ⟨h1, h2, n1, n2, e1, e2, e3⟩ := h.each j a e
  exact ⟨h1, h2, n1, n2, s _ _ e1, s _ _ e2, s _ _ e3⟩⟩
theorem Pts.nil {H : Hp} {X : Addr} {w : List Int} {f : Nat → List Int} (h : H X = some (.lst [])) : Pts H X [] w f := ⟨h, fun j a e => by cases e⟩
theorem Pts.app {H : Hp} {X l h1 h2 : Addr} {as : List Addr} {w : List Int} {f f2 : Nat → List Int} {t : List Int} (h : Pts H X as w f) (hl : H l = some (.tup [.int (cnt w t : Nat), .ref h1, .ref h2])) (e1 : H h1 = some (lsI (hdw w t))) (e2 : H h2 = some (lsI (tlw w t))) (n1 : h1 ≠ X) (n2 : h2 ≠ X)
    (g1 : ∀ j, j < as.length → f2 j = f j) (g2 : f2 as.length = t) : Pts (upd H X (.lst (as.map V.ref ++ [V.ref l]))) X (as ++ [l]) w f2 := by
  refine ⟨by rw [upd_same, List.map_append]; rfl, fun j a e => ?_⟩
  have hup : ∀ (b : Addr) (o : List V), H b = some (.tup o) → upd H X (.lst (as.map V.ref ++ [V.ref l])) b = some (.tup o) := fun b o hb => by
    rw [upd_ne (fun z => by rw [z, h.at_] at hb; cases hb)]; exact hb
  by_cases hj : j < as.length
  · rw [List.getElem?_append_left hj] at e
    obtain ⟨k1, k2, m1, m2, q1, q2, q3⟩ := h.each j a e
    rw [g1 j hj]
    exact ⟨k1, k2, m1, m2, hup _ _ q1, by rw [upd_ne m1]; exact q2, by rw [upd_ne m2]; exact q3⟩
  · have hj2 : j = as.length := by
      have := (List.getElem?_eq_some_iff.mp e).1
      rw [List.length_append, List.length_singleton] at this
      omega
    subst hj2
    rw [List.getElem?_append_right (Nat.le_refl _), Nat.sub_self] at e
    have ea : l = a := Option.some.inj e
    subst ea
    rw [g2]
    exact ⟨h1, h2, n1, n2, hup _ _ hl, by rw [upd_ne n1]; exact e1, by rw [upd_ne n2]; exact e2⟩
theorem sum_ones : ∀ n : Nat, (List.replicate n (1 : Int)).sum = (n : Int)
  | 0 => rfl
  | n + 1 => by rw [List.replicate_succ, List.sum_cons, sum_ones n]; omega
theorem ctw_yes {w t : List Int} {i : Nat} (h : (t.drop i).take w.length = w) : ctw w t (i + 1) = ctw w t i + 1 := by
  show ctw w t i + (if (t.drop i).take w.length = w then 1 else 0) = _
  rw [if_pos h]
theorem ctw_no {w t : List Int} {i : Nat} (h : ¬ (t.drop i).take w.length = w) : ctw w t (i + 1) = ctw w t i := by
  show ctw w t i + (if (t.drop i).take w.length = w then 1 else 0) = _
  rw [if_neg h]
  rfl
theorem cut_from' (ns : List Int) (k : Nat) : HO.lst (cutV (ns.map V.int) (some (k : Int)) none) = lsI (ns.drop k) := congrArg HO.lst (cut_from ns k)
theorem cut_to' (ns : List Int) (k : Nat) : HO.lst (cutV (ns.map V.int) none (some (k : Int))) = lsI (ns.take k) := congrArg HO.lst (cut_to (α := Int) (f := V.int) ns k)
theorem cut_step' (ns : List Int) (i m : Nat) : HO.lst (cutV (ns.map V.int) (some (i : Int)) (some ((i : Int) + (m : Int)))) = lsI ((ns.drop i).take m) := by
  rw [show (i : Int) + (m : Int) = ((i + m : Nat) : Int) by omega, cut_two, Nat.add_sub_cancel_left]
  rfl
theorem lsI_cat (a b : List Int) : HO.lst (a.map V.int ++ b.map V.int) = lsI (a ++ b) := by unfold lsI; rw [List.map_append]
theorem ctw_le (w t : List Int) : ∀ i, ctw w t i ≤ i
  | 0 => Nat.le_refl _
  | i + 1 => by
    have := ctw_le w t i
    show ctw w t i + (if _ then 1 else 0) ≤ _
    split <;> omega
end PH
namespace PH
open PySem L2 PySem.W
def Kn (H : Hp) (a h1 h2 : Addr) (w t : List Int) : Prop := H a = some (.tup [.ref h1, .ref h2, .int (cnt w t : Nat), .int (t.length : Nat)]) ∧ H h1 = some (lsI (hdw w t)) ∧ H h2 = some (lsI (tlw w t))
theorem Kn.same {H H' : Hp} {a h1 h2 : Addr} {w t : List Int} (h : Kn H a h1 h2 w t) (s : Same H H') : Kn H' a h1 h2 w t := ⟨s _ _ h.1, s _ _ h.2.1, s _ _ h.2.2⟩
structure Kns (H : Hp) (X : Addr) (as : List Addr) (w : List Int) (f : Nat → List Int) : Prop where
  at_ : H X = some (.lst (as.map V.ref))
  each : ∀ j a, as[j]? = some a → ∃ h1 h2 : Addr, h1 ≠ X ∧ h2 ≠ X ∧ Kn H a h1 h2 w (f j)
theorem Kns.same {H H' : Hp} {X : Addr} {as : List Addr} {w : List Int} {f : Nat → List Int} (h : Kns H X as w f) (s : Same H H') : Kns H' X as w f := ⟨s _ _ h.at_, fun j a e => by
  obtain ⟨h1, h2, n1, n2, k⟩ := h.each j a e
  exact ⟨h1, h2, n1, n2, k.same s⟩⟩
theorem Kns.nil {H : Hp} {X : Addr} {w : List Int} {f : Nat → List Int} (h : H X = some (.lst [])) : Kns H X [] w f := ⟨h, fun j a e => by cases e⟩
theorem Kns.app {H : Hp} {X l h1 h2 : Addr} {as : List Addr} {w : List Int} {f f2 : Nat → List Int} {t : List Int} (h : Kns H X as w f) (hk : Kn H l h1 h2 w t) (n1 : h1 ≠ X) (n2 : h2 ≠ X)
    (g1 : ∀ j, j < as.length → f2 j = f j) (g2 : f2 as.length = t) : Kns (upd H X (.lst (as.map V.ref ++ [V.ref l]))) X (as ++ [l]) w f2 := by
  refine ⟨by rw [upd_same, List.map_append]; rfl, fun j a e => ?_⟩
  have hup : ∀ (b : Addr) (o : List V), H b = some (.tup o) → upd H X (.lst (as.map V.ref ++ [V.ref l])) b = some (.tup o) := fun b o hb => by
    rw [upd_ne (fun z => by rw [z, h.at_] at hb; cases hb)]; exact hb
  by_cases hj : j < as.length
  · rw [List.getElem?_append_left hj] at e
    obtain ⟨k1, k2, m1, m2, q1, q2, q3⟩ := h.each j a e
    rw [g1 j hj]
    exact ⟨k1, k2, m1, m2, hup _ _ q1, by rw [upd_ne m1]; exact q2, by rw [upd_ne m2]; exact q3⟩
  · have hj2 : j = as.length := by
      have := (List.getElem?_eq_some_iff.mp e).1
      rw [List.length_append, List.length_singleton] at this
      omega
    subst hj2
    rw [List.getElem?_append_right (Nat.le_refl _), Nat.sub_self] at e
    have ea : l = a := Option.some.inj e
    subst ea
    rw [g2]
    exact ⟨h1, h2, n1, n2, hup _ _ hk.1, by rw [upd_ne n1]; exact hk.2.1, by rw [upd_ne n2]; exact hk.2.2⟩
end PH
set_option Elab.async false
set_option linter.all false
set_option maxRecDepth 100000
set_option maxHeartbeats 4000000
namespace PH
open PySem L2 PySem.W
structure GrL (H : Hp) (L P q : Addr) (zs : List (Addr × Int × Int)) (row : List Int) : Prop where
  at_ : H L = some (.lst [.ref P, .ref q])
  pr : Prs H P zs
  gr : GrZ zs
  rw_ : H q = some (lsI row)
  rz : RwZ zs.length row
  zl : zs.length ≤ 1000
  rl : row.length ≤ 1000
theorem GrL.same {H H' : Hp} {L P q : Addr} {zs : List (Addr × Int × Int)} {row : List Int} (h : GrL H L P q zs row) (s : Same H H') : GrL H' L P q zs row := ⟨s _ _ h.at_, h.pr.same s, h.gr, s _ _ h.rw_, h.rz, h.zl, h.rl⟩
theorem RwZ.take {n : Nat} {row : List Int} (h : RwZ n row) (k : Nat) : RwZ n (row.take k) := fun y hy => h y (List.mem_of_mem_take hy)
theorem RwZ.drop {n : Nat} {row : List Int} (h : RwZ n row) (k : Nat) : RwZ n (row.drop k) := fun y hy => h y (List.mem_of_mem_drop hy)
theorem RwZ.app {n : Nat} {a b : List Int} (h : RwZ n a) (h2 : RwZ n b) : RwZ n (a ++ b) := fun y hy => by
  rcases List.mem_append.mp hy with hy | hy
  · exact h y hy
  · exact h2 y hy
theorem RwZ.more {n m : Nat} {a : List Int} (h : RwZ n a) (hm : n ≤ m) : RwZ m a := fun y hy => by
  have := h y hy
  omega
theorem exs_one (rs : List (Nat × Nat)) (y : Int) : exs rs (rwN [y]) = ex rs y.toNat := by
  show ex rs y.toNat ++ [] = _
  rw [List.append_nil]
theorem exs_signs {rs : List (Nat × Nat)} : ∀ {l : List Int}, (∀ y ∈ l, 0 ≤ y ∧ y ≤ 255) → exs rs (rwN l) = l
  | [], _ => rfl
  | y :: r, h => by
    have h1 := h y List.mem_cons_self
    rw [rwN_cons, exs_cons, ex_low (by omega), exs_signs fun x hx => h x (List.mem_cons_of_mem _ hx)]
    show ((y.toNat : Nat) : Int) :: r = y :: r
    rw [show ((y.toNat : Nat) : Int) = y by omega]
structure Wds (H : Hp) (X : Addr) (as : List Addr) (ws : List (List Int)) : Prop where
  at_ : H X = some (.lst (as.map V.ref))
  len : as.length = ws.length
  each : ∀ (j : Nat) (a : Addr) (w : List Int), as[j]? = some a → ws[j]? = some w → H a = some (lsI w) ∧ 1 ≤ w.length ∧ w.length ≤ 100
theorem Wds.same {H H' : Hp} {X : Addr} {as : List Addr} {ws : List (List Int)} (h : Wds H X as ws) (s : Same H H') : Wds H' X as ws := ⟨s _ _ h.at_, h.len, fun j a w e1 e2 => ⟨s _ _ (h.each j a w e1 e2).1, (h.each j a w e1 e2).2⟩⟩
end PH
set_option Elab.async false
set_option linter.all false
set_option maxRecDepth 100000
namespace L2
open PySem PySem.Spec PyProof.Rows
section
variable {X : Cx}
end
end L2
set_option Elab.async false
set_option linter.all false
set_option maxRecDepth 100000
namespace L2
open PySem PySem.Spec PyProof.Rows PySem.W
section
variable {prog : Program} {w : World} {A : Around} {E : Value → Shared → Prop} {s : Shared} {a it : Addr} {es : Array DictEntry} {ep i : Nat}
def RawD (h : Heap) (a : Addr) (es : Array DictEntry) (ep : Nat) : Prop := ∃ o, h.get? a = some o ∧ o.ExactDict ∧ o.data = .dict es ep
theorem iter_raw {Q : Value → Shared → Prop} (hs : (a == sysModules) = false) (x : RawD s.heap a es ep)
    (q : Q (.ref s.heap.objs.size) { s with heap := s.heap.push { cls := .type "dict_keyiterator", data := .fields #[.ref a, .int 0 0, .int es.size 0, .int ep 0] } }) : wpAny (model prog w) A (pyIter (.ref a)) Q E s := by
  obtain ⟨o, ho, hc, dat⟩ := x
  have T : s.TypeIs (.ref a) "dict" := ⟨o, ho, hc.1⟩
  refine wpAny_pyIter_slot T F.slot_dict_iter (wpAny_call_entry F.slot_dict_iter T F.entry_dict_iter ?_ (F.args_dict_iter_1 _))
  unfold Builtin.«dict.__iter__»
  refine wpAny_bind ?_
  unfold Builtin.Dict.dictSlotNone
  refine wpAny_bind (wpAny_notOrdered_dict T ?_)
  show wpAny _ _ (pure (Value.ref a)) _ _ s
  refine wpAny_pure ?_
  show wpAny _ _ (Builtin.Dict.showsAll a >>= _) _ _ s
  unfold Builtin.Dict.showsAll
  rw [if_neg (by rw [hs]; exact Bool.false_ne_true)]
  refine wpAny_bind (wpAny_pure (wpAny_bind (wpAny_dictEntries ho dat (wpAny_bind (wpAny_dictEpoch ho dat ?_)))))
  refine wpAny_bind (wpAny_newObj_type (wpAny_pure ?_))
  refine ⟨_, rfl, "dict_keyiterator", _, ⟨_, Heap.get?_push_size _ rfl, rfl⟩, F.slot_dict_keyiterator_next.lookup, ?_⟩
  simpa [rawInt] using q
theorem next_raw {Q : Option Value → Shared → Prop} (k : s.heap.IsKeyIter it a i es.size ep) (x : RawD s.heap a es ep) (hi : i < es.size)
    (q : ∀ h', h'.IsKeyIter it a (i + 1) es.size ep → Heap.SameBut it s.heap h' → Q (some es[i].key) { s with heap := h' }) : wpAny (model prog w) A (pyNext (.ref it)) Q E s := by
  obtain ⟨o, ho, hc, dat⟩ := id k
  obtain ⟨od, hod, _, dd⟩ := x
  have T := k.typeIs
  unfold pyNext
  refine wpAny_bind (wpAny_attempt (wpAny_callSpecial?_slot (name := Str.ofString "__next__") T F.slot_dict_keyiterator_next (wpAny_call_entry F.slot_dict_keyiterator_next T F.entry_dict_keyiterator_next ?_ (F.args_dict_keyiterator_next_1 _))))
  refine wpAny_bind (wpAny_pure (wpAny_bind (wpAny_bind ?_)))
  first
    | refine wpAny_bind (wpAny_typeNameOfWhole_keyiter T (wpAny_pure ?_))
    | refine wpAny_bind (wpAny_typeNameOf_keyiter T (wpAny_pure ?_))
  refine wpAny_bind (wpAny_fieldsOf ho dat ?_)
  have ow : Builtin.Dict_items.ownsTuple "dict_keyiterator" = false := by decide
  simp only [ow, Bool.false_eq_true, if_false]
  show wpAny _ _ (if (Value.ref a == Value.none) = true then _ else _) _ _ s
  rw [if_neg (show ¬ ((Value.ref a == Value.none) = true) from Bool.false_ne_true)]
  refine wpAny_bind (wpAny_pure (wpAny_bind (wpAny_dictEntries hod dd ?_)))
  rw [if_neg (by simp)]
  refine wpAny_bind (wpAny_pure (wpAny_bind (wpAny_dictEpoch hod dd ?_)))
  rw [if_neg (by simp)]
  refine wpAny_pure ?_
  simp only [show ¬ ((i : Int) < 0) from by omega, if_false, Int.toNat_natCast, Array.getElem?_eq_getElem hi]
  refine wpAny_bind ?_
  first
    | refine wpAny_bind (wpAny_typeNameOfWhole_keyiter T (wpAny_pure ?_))
    | refine wpAny_bind (wpAny_typeNameOf_keyiter T (wpAny_pure ?_))
  refine wpAny_bind (wpAny_isOneOf_keyiter T ?_)
  show wpAny _ _ (setField (.ref it) 1 (rawInt ((i : Int) + 1)) >>= fun _ => _) _ _ s
  refine wpAny_bind (wpAny_setField ho dat (by simp) ?_)
  have k' : (s.heap.update it (Obj.mapFields (·.setIfInBounds 1 (rawInt ((i : Int) + 1))))).IsKeyIter it a (i + 1) es.size ep := by
    refine ⟨_, Heap.get?_update_self _ ho (Obj.isFreed_of_fields (Obj.data_mapFields dat _)), (Obj.cls_mapFields ..).trans hc, ?_⟩
    rw [Obj.data_mapFields dat]; simp [rawInt]
  refine wpAny_bind (wpAny_holding (wpAny_bind ?_))
  refine wpAny_isOneOf_keyiter (s := { s with heap := s.heap.update it (Obj.mapFields (·.setIfInBounds 1 (rawInt ((i : Int) + 1)))) }) k'.typeIs ?_
  show wpAny _ _ (pure es[i].key) _ _ _
  exact wpAny_pure (wpAny_pure ⟨_, rfl, wpAny_pure (q _ k' (Heap.SameBut.update ..))⟩)
theorem end_raw {Q : Option Value → Shared → Prop} (hh : A.handled = none) (k : s.heap.IsKeyIter it a i es.size ep) (x : RawD s.heap a es ep) (hi : es.size ≤ i)
    (q : ∀ h', Heap.ExtBut it s.heap h' → Q none { s with heap := h' }) : wpAny (model prog w) A (pyNext (.ref it)) Q E s := by
  obtain ⟨o, ho, hc, dat⟩ := id k
  obtain ⟨od, hod, _, dd⟩ := x
  have T := k.typeIs
  unfold pyNext
  refine wpAny_bind (wpAny_attempt (wpAny_callSpecial?_slot (name := Str.ofString "__next__") T F.slot_dict_keyiterator_next (wpAny_call_entry F.slot_dict_keyiterator_next T F.entry_dict_keyiterator_next ?_ (F.args_dict_keyiterator_next_1 _))))
  refine wpAny_bind (wpAny_pure (wpAny_bind (wpAny_bind ?_)))
  first
    | refine wpAny_bind (wpAny_typeNameOfWhole_keyiter T (wpAny_pure ?_))
    | refine wpAny_bind (wpAny_typeNameOf_keyiter T (wpAny_pure ?_))
  refine wpAny_bind (wpAny_fieldsOf ho dat ?_)
  have ow : Builtin.Dict_items.ownsTuple "dict_keyiterator" = false := by decide
  simp only [ow, Bool.false_eq_true, if_false]
  show wpAny _ _ (if (Value.ref a == Value.none) = true then _ else _) _ _ s
  rw [if_neg (show ¬ ((Value.ref a == Value.none) = true) from Bool.false_ne_true)]
  refine wpAny_bind (wpAny_pure (wpAny_bind (wpAny_dictEntries hod dd ?_)))
  rw [if_neg (by simp)]
  refine wpAny_bind (wpAny_pure (wpAny_bind (wpAny_dictEpoch hod dd ?_)))
  rw [if_neg (by simp)]
  refine wpAny_pure ?_
  simp only [show ¬ ((i : Int) < 0) from by omega, if_false, Int.toNat_natCast, Array.getElem?_eq_none hi]
  refine wpAny_bind ?_
  first
    | refine wpAny_bind (wpAny_typeNameOfWhole_keyiter T (wpAny_pure ?_))
    | refine wpAny_bind (wpAny_typeNameOf_keyiter T (wpAny_pure ?_))
  show wpAny _ _ (setField (.ref it) 0 .none >>= fun _ => _) _ _ s
  refine wpAny_bind (wpAny_setField ho dat (by simp) ?_)
  show wpAny _ _ (newExc (.type "StopIteration") [] >>= fun _ => _) _ _ _
  refine wpAny_bind ?_
  simp only [newExc, newTuple]
  refine wpAny_bind (wpAny_newObj_type ?_ (by size_fits))
  refine wpAny_bind (m := firstArgMember _ _) (wpAny_of_eq (a := Value.none) (by first | rfl | (simp only [firstArgMember]; rfl)) (wpAny_newObj_type ?_ (by size_fits)))
  simp only [raiseNew]
  refine wpAny_bind (wpAny_handled ?_)
  rw [show A.in1.handled = none from hh]
  refine wpAny_bind (wpAny_pure (wpAny_throw ?_))
  refine wpAny_bind (wpAny_isInstance (T := "StopIteration") (b := true) (by exact ⟨_, Heap.get?_push_size _ rfl, rfl⟩) isSubtype_stop ?_)
  exact wpAny_pure (q _ (((Heap.SameBut.update ..).extBut.push _).push _))
end
section
variable {X : Cx} {pins : List (Addr × Obj)} {σ : St} {H : Hp} {s : Shared}
theorem Inv.freezeT {a : Addr} {kvs : List (List Key × V)} (I : Inv X pins σ H s) (e : H a = some (.dT kvs)) : ∃ o, s.heap.get? a = some o ∧ Inv X pins σ (upd H a (.frz o (.dT kvs))) s := by
  have ok := I.hok a _ e
  obtain ⟨o, ho⟩ := ok.obj
  refine ⟨o, ho, ?_⟩
  have := I.write (x := a) (e := a) (o := .frz o (.dT kvs)) (h' := s.heap) (t' := s.toks) (by rw [e]; exact True.intro) (.inl rfl) (fun b u _ q => q) ⟨o, ho⟩ ?_
  · exact this
  · refine ⟨ho, ok.stay (fun b u _ q => q) (fun b q => ?_) fun b xs q => ?_⟩
    · by_cases hb : b = a
      · rw [hb, e] at q; cases q
      · rw [upd_ne hb]; exact q
    · by_cases hb : b = a
      · rw [hb, e] at q; cases q
      · rw [upd_ne hb]; exact q
def ItdT (a : Addr) (o : Obj) (kvs : List (List Key × V)) : It :=
  ⟨fun i H => i < kvs.length ∧ H a = some (.frz o (.dT kvs)), fun i H x H' => H' = H ∧ ∃ k v b, kvs[i]? = some (k, v) ∧ x = .ref b ∧ H b = some (.tup (k.map kV)), fun i H => kvs.length ≤ i ∧ H a = some (.frz o (.dT kvs))⟩
theorem KT.get {kvs : List (List Key × V)} {xs : List (List Key × Addr × Value)} (r : KT H kvs xs) : ∀ {i : Nat} {k : List Key} {v : V}, kvs[i]? = some (k, v) → ∃ q, xs[i]? = some q ∧ H q.2.1 = some (.tup (k.map kV)) := by
  induction r with
  | nil => intro i k v h; simp at h
  | @cons p q ps qs h t ih =>
    intro i k v e
    cases i with
    | zero =>
      have e' : p = (k, v) := by simpa using e
      subst e'
      exact ⟨q, rfl, h.2.1⟩
    | succ i =>
      obtain ⟨q', e1, e2⟩ := ih (i := i) (k := k) (v := v) (by simpa using e)
      exact ⟨q', by simpa using e1, e2⟩
theorem frzT_at {P : Program} {w : World} {h : Heap} {a : Addr} {o : Obj} {kvs : List (List Key × V)} (ok : HOk P w H h) (e : H a = some (.frz o (.dT kvs))) {es : Array DictEntry} {ep : Nat} (hd : o.data = .dict es ep) :
    ∃ xs, KT H kvs xs ∧ es.toList = xs.map (entryOfKey (tupleKind (mixKind P w))) ∧ RawD h a es ep := by
  obtain ⟨ho, _, _, xs, rel, o', es', ep', h1, h2, h3, h4, _⟩ := ok a _ e
  rw [ho] at h1
  cases h1
  rw [hd] at h3
  cases h3
  exact ⟨xs, rel, h4, o, ho, h2, hd⟩
theorem turn_dictT {P : Program} {w : World} {K : PySem.W.Frag} {tg : Expr} (a it : Addr) (o : Obj) (kvs : List (List Key × V)) {es : Array DictEntry} {ep : Nat} (hd : o.data = .dict es ep) (hsz : es.size = kvs.length) : Turn P w K tg (ItdT a o kvs) [it] it (fun i h => h.IsKeyIter it a i es.size ep) where
  mem := by simp
  obj := fun i h st b hb => by
    have e : b = it := by simpa using hb
    subst e
    obtain ⟨o, e, c, d⟩ := st
    exact ⟨o, e, fun v z => by rw [d] at z; cases z⟩
  keep := fun i h h' st k => by
    obtain ⟨o, e, c⟩ := st
    exact ⟨o, k it (by simp) o e, c⟩
  item := by
    intro X hP hw hK hc i pins s σ H E I hf st hg
    subst hP hw hK
    obtain ⟨hlt, ha⟩ := hg
    obtain ⟨f0, f1, f2, f3, f4, f5⟩ := hf it (by simp)
    obtain ⟨xs, rel, he, raw⟩ := frzT_at I.hok ha hd
    obtain ⟨⟨k, x⟩, hx⟩ : ∃ p, kvs[i]? = some p := ⟨_, List.getElem?_eq_getElem hlt⟩
    obtain ⟨q, hq, hb⟩ := rel.get hx
    have hes := entry_at he i
    rw [hq] at hes
    have hi : i < es.size := by omega
    have hkey : es[i].key = .ref q.2.1 := by
      have h1 := (Array.getElem?_eq_getElem hi).symm.trans hes
      have h2 := Option.some.inj h1
      rw [h2]; rfl
    refine next_raw st raw hi fun h' st' sb => ?_
    rw [hkey]
    have I1 : Inv X pins σ H { s with heap := h' } := I.turned (t' := s.toks) (fun b o hb e => (sb.2 b hb).trans e) f0 f1 f3 f4 f5
    obtain ⟨o, e, c, d⟩ := id st'
    exact ⟨.ref q.2.1, rfl, go_of (s := { s with heap := h' }) e c d (by decide) ⟨.ref q.2.1, H, I1, rfl, ⟨rfl, k, x, q.2.1, hx, rfl, hb⟩, st', fun b hb => (hf b hb).1⟩⟩
  done := by
    intro X hP hw hK hc i pins s σ H E I hf st hg
    subst hP hw hK
    obtain ⟨hle, ha⟩ := hg
    obtain ⟨f0, f1, f2, f3, f4, f5⟩ := hf it (by simp)
    obtain ⟨xs, rel, he, raw⟩ := frzT_at I.hok ha hd
    exact end_raw (I.ok.hd hc) st raw (by omega) fun h' eb => ⟨rfl, I.turned (t' := s.toks) (fun b o hb e => eb b o hb e) f0 f1 f3 f4 f5⟩
  self := fun _ _ _ _ _ st h => wpAny_pyIter_keyiter st h
def iDictT (td : TE) : TI := fun σ H R => td σ H fun x H1 => ∃ a kvs, x = .ref a ∧ H1 a = some (.dT kvs) ∧ ∀ o, R (ItdT a o kvs) (upd H1 a (.frz o (.dT kvs)))
theorem pi_dictT {tg l : Expr} {td : TE} (hl : PE X l td) : PI X tg l (iDictT td) := by
  intro pins s σ H R I h
  refine thn (hl pins s σ H _ I h) fun v s1 ⟨x, H1, I1, r1, q1⟩ => ?_
  obtain ⟨a, kvs, rfl, ha, q⟩ := q1
  cases r1
  obtain ⟨o, ho, I2⟩ := I1.freezeT ha
  obtain ⟨z, hs, xs, rel, o', es, ep, h1, h2, h3, h4, h5⟩ := I1.hok a _ ha
  rw [ho] at h1
  cases h1
  have raw : RawD s1.heap a es ep := ⟨o, ho, h2, h3⟩
  have hsz : es.size = kvs.length := by rw [size_of_entries h4]; exact (Paired.length rel).symm
  refine iter_raw hs raw ?_
  have I3 : Inv X pins σ (upd H1 a (.frz o (.dT kvs))) { s1 with heap := s1.heap.push { cls := .type "dict_keyiterator", data := .fields #[.ref a, .int 0 0, .int es.size 0, .int ep 0] } } := I2.kept (t' := s1.toks) fun b ob q => Heap.get?_push_of_some _ q
  refine ⟨s1.heap.objs.size, [s1.heap.objs.size], _, ItdT a o kvs, _, rfl, I3, turn_dictT a _ o kvs h3 hsz, ⟨_, Heap.get?_push_size _ rfl, rfl, rfl⟩, fun b hb => ?_, q o⟩
  have e : b = s1.heap.objs.size := by simpa using hb
  subst e
  exact I2.fpOk (Nat.le_refl _) (I2.hok.fresh (Nat.le_refl _))
end
theorem for_dictT {a : Addr} {o : Obj} {kvs : List (List Key × V)} {g : TG} {tb : TS} {D : Ends} {σ : St} {H : Hp} (Pv : Nat → St → Hp → Prop) (h0 : Pv 0 σ H) (hl : ∀ i σ H, i ≤ kvs.length → Pv i σ H → H a = some (.frz o (.dT kvs)))
    (hs : ∀ i k v b σ H, kvs[i]? = some (k, v) → Pv i σ H → H b = some (.tup (k.map kV)) → g (.ref b) σ H fun σ2 H2 => tb { D with nx := Pv (i + 1), ct := Pv (i + 1), bk := D.nx } σ2 H2) (hd : ∀ σ H, Pv kvs.length σ H → D.nx σ H) :
    ∃ W : Nat → Nat → St → Hp → Prop, (∃ m, W 0 m σ H) ∧ ∀ i m σ H, W i m σ H →
      ((ItdT a o kvs).stop i H ∧ D.nx σ H) ∨ ((ItdT a o kvs).go i H ∧ ∃ N : St → Hp → Prop, (∀ σ' H', N σ' H' → ∃ m', m' < m ∧ W (i + 1) m' σ' H') ∧ ∀ x H', (ItdT a o kvs).yld i H x H' → g x σ H' fun σ2 H2 => tb { D with nx := N, ct := N, bk := D.nx } σ2 H2) := by
  refine ⟨fun i m σ H => m = kvs.length - i ∧ i ≤ kvs.length ∧ Pv i σ H, ⟨kvs.length, by simp, Nat.zero_le _, h0⟩, ?_⟩
  rintro i m σ H ⟨rfl, hi, p⟩
  have q := hl i σ H hi p
  by_cases hlt : i < kvs.length
  · refine .inr ⟨⟨hlt, q⟩, Pv (i + 1), fun σ' H' p' => ⟨kvs.length - (i + 1), by omega, rfl, hlt, p'⟩, fun x H' y => ?_⟩
    obtain ⟨rfl, k, v, b, e1, rfl, e2⟩ := y
    exact hs i k v b σ _ e1 p e2
  · have e : i = kvs.length := by omega
    subst e
    exact .inl ⟨⟨Nat.le_refl _, q⟩, hd σ H p⟩
theorem mem_putK {κ : Type} [DecidableEq κ] {kvs : List (κ × V)} {k k' : κ} {v v' : V} (h : (k', v') ∈ putK kvs k v) : (k' = k ∧ v' = v) ∨ (k', v') ∈ kvs := by
  unfold putK at h
  split at h
  · obtain ⟨p, hp, e⟩ := List.mem_map.mp h
    split at e
    · rename_i hk
      cases e
      exact .inl ⟨hk, rfl⟩
    · exact .inr (e ▸ hp)
  · rcases List.mem_append.mp h with h | h
    · exact .inr h
    · cases List.mem_singleton.mp h
      exact .inl ⟨rfl, rfl⟩
theorem valV_mem {κ : Type} [DecidableEq κ] {kvs : List (κ × V)} {k : κ} {v : V} (h : valV kvs k = some v) : (k, v) ∈ kvs := by
  unfold valV at h
  obtain ⟨p, hp, e⟩ := Option.map_eq_some_iff.mp h
  have h1 := List.mem_of_find?_eq_some hp
  have h2 := List.find?_some hp
  have h3 : p.1 = k := by simpa using h2
  have h4 : p = (k, v) := Prod.ext h3 e
  rw [← h4]; exact h1
theorem valV_has {κ : Type} [DecidableEq κ] {kvs : List (κ × V)} {k : κ} {v : V} (h : (k, v) ∈ kvs) : ∃ v', valV kvs k = some v' := by
  have h1 := valV_any k kvs
  have h2 : (kvs.any fun kv => decide (kv.1 = k)) = true := List.any_eq_true.mpr ⟨(k, v), h, by simp⟩
  rw [h2] at h1
  exact Option.isSome_iff_exists.mp h1.symm
end L2
set_option Elab.async false
set_option linter.all false
set_option maxRecDepth 100000
set_option maxHeartbeats 4000000
namespace PH
open PySem L2 PySem.W
def wsy (x y s : Int) : List Int → List Int
  | a :: b :: r => if a = x ∧ b = y then s :: wsy x y s r else a :: wsy x y s (b :: r)
  | [a] => [a]
  | [] => []
theorem wsy_nil (x y s : Int) : wsy x y s [] = [] := by rw [wsy]
theorem wsy_one (x y s a : Int) : wsy x y s [a] = [a] := by rw [wsy]
theorem wsy_two (x y s a b : Int) (r : List Int) : wsy x y s (a :: b :: r) = if a = x ∧ b = y then s :: wsy x y s r else a :: wsy x y s (b :: r) := by rw [wsy]
theorem wsy_mem (x y s : Int) : ∀ (l : List Int) (z : Int), z ∈ wsy x y s l → z = s ∨ z ∈ l
  | [], z, h => by rw [wsy_nil] at h; cases h
  | [a], z, h => by rw [wsy_one] at h; exact .inr h
  | a :: b :: r, z, h => by
    rw [wsy_two] at h
    split at h
    · rcases List.mem_cons.mp h with e | h
      · exact .inl e
      · rcases wsy_mem x y s r z h with e | e
        · exact .inl e
        · exact .inr (List.mem_cons_of_mem _ (List.mem_cons_of_mem _ e))
    · rcases List.mem_cons.mp h with e | h
      · exact .inr (e ▸ List.mem_cons_self)
      · rcases wsy_mem x y s (b :: r) z h with e | e
        · exact .inl e
        · exact .inr (List.mem_cons_of_mem _ e)
theorem wsy_le (x y s : Int) : ∀ l : List Int, (wsy x y s l).length ≤ l.length
  | [] => by rw [wsy_nil]; exact Nat.le_refl _
  | [a] => by rw [wsy_one]; exact Nat.le_refl _
  | a :: b :: r => by
    rw [wsy_two]
    have h1 := wsy_le x y s r
    have h2 := wsy_le x y s (b :: r)
    rw [List.length_cons] at h2
    split
    · rw [List.length_cons, List.length_cons, List.length_cons]; omega
    · rw [List.length_cons, List.length_cons, List.length_cons]; omega
theorem wsy_lt (x y s : Int) : ∀ (l : List Int) (i : Nat), l[i]? = some x → l[i + 1]? = some y → (wsy x y s l).length < l.length
  | [], i, h, _ => by cases h
  | [a], i, _, h => by cases h
  | a :: b :: r, i, h, h' => by
    rw [wsy_two]
    have h1 := wsy_le x y s r
    split
    · rw [List.length_cons, List.length_cons, List.length_cons]; omega
    · rename_i hn
      cases i with
      | zero => exact absurd ⟨Option.some.inj h, Option.some.inj h'⟩ hn
      | succ i =>
        have h2 := wsy_lt x y s (b :: r) i h h'
        rw [List.length_cons] at h2
        rw [List.length_cons, List.length_cons, List.length_cons]; omega
theorem wsy_exs {rs : List (Nat × Nat)} {x y : Int} {n : Nat} (hn : n = rs.length) : ∀ l : List Int, (∀ z ∈ l, 0 ≤ z ∧ z < (256 : Int) + (n : Int)) → exs (rs ++ [(x.toNat, y.toNat)]) (rwN (wsy x y (256 + (n : Int)) l)) = exs rs (rwN l)
  | [], _ => by rw [wsy_nil]; rfl
  | [a], h => by
    have ha := h a List.mem_cons_self
    rw [wsy_one, exs_one, exs_one, ex_pre (by omega)]
  | a :: b :: r, h => by
    have ha := h a List.mem_cons_self
    have hb := h b (List.mem_cons_of_mem _ List.mem_cons_self)
    have i1 := wsy_exs hn (x := x) (y := y) r fun z hz => h z (List.mem_cons_of_mem _ (List.mem_cons_of_mem _ hz))
    have i2 := wsy_exs hn (x := x) (y := y) (b :: r) fun z hz => h z (List.mem_cons_of_mem _ hz)
    rw [wsy_two]
    split
    · rename_i e
      rw [rwN_cons, exs_cons, i1, show ((256 : Int) + (n : Int)).toNat = 256 + rs.length by omega, ex_new, rwN_cons, rwN_cons, exs_cons, exs_cons, e.1, e.2, List.append_assoc]
    · rw [rwN_cons, exs_cons, i2, ex_pre (by omega), rwN_cons a, exs_cons]
theorem wsy_yes {x y s : Int} {l : List Int} {k : Nat} (h : (l.drop k).take 2 = [x, y]) : k + 2 ≤ l.length ∧ wsy x y s (l.drop k) = s :: wsy x y s (l.drop (k + 2)) := by
  have hl := congrArg List.length h
  rw [List.length_take, List.length_drop] at hl
  have hl' : min 2 (l.length - k) = 2 := hl
  refine ⟨by omega, ?_⟩
  have e : l.drop k = x :: y :: l.drop (k + 2) := by
    have := (List.take_append_drop 2 (l.drop k)).symm
    rw [h, List.drop_drop] at this
    exact this
  rw [e, wsy_two, if_pos ⟨rfl, rfl⟩]
theorem wsy_no {x y s a : Int} {l : List Int} {k : Nat} (ha : l[k]? = some a) (h : ¬ (l.drop k).take 2 = [x, y]) : wsy x y s (l.drop k) = a :: wsy x y s (l.drop (k + 1)) := by
  have e := drop_at ha
  rw [e] at h ⊢
  cases q : l.drop (k + 1) with
  | nil => rw [wsy_one, wsy_nil]
  | cons b r =>
    rw [q] at h
    rw [wsy_two, if_neg]
    rintro ⟨rfl, rfl⟩
    exact h rfl
def Tml (row : List Int) (kvs : List (List Key × V)) : Prop := ∀ k v, (k, v) ∈ kvs → ∃ (i : Nat) (x y n : Int), k = [.inl x, .inl y] ∧ v = .int n ∧ row[i]? = some x ∧ row[i + 1]? = some y
theorem Tml.put {row : List Int} {kvs : List (List Key × V)} (h : Tml row kvs) {i : Nat} {x y : Int} (hx : row[i]? = some x) (hy : row[i + 1]? = some y) (n : Int) : Tml row (putK kvs [.inl x, .inl y] (.int n)) := fun k v m => by
  rcases mem_putK m with ⟨rfl, rfl⟩ | m
  · exact ⟨i, x, y, n, rfl, rfl, hx, hy⟩
  · exact h k v m
theorem Tml.get {row : List Int} {kvs : List (List Key × V)} (h : Tml row kvs) (k : List Key) (z : Int) : ∃ n : Int, (valV kvs k).getD (.int z) = .int n := by
  cases e : valV kvs k with
  | none => exact ⟨z, rfl⟩
  | some v =>
    obtain ⟨_, _, _, n, _, rfl, _, _⟩ := h k v (valV_mem e)
    exact ⟨n, rfl⟩
def Fnd (H : Hp) (row : List Int) (v : V) : Prop := v = .non ∨ ∃ (t : Addr) (x y : Int) (i : Nat), v = .ref t ∧ H t = some (.tup [.int x, .int y]) ∧ row[i]? = some x ∧ row[i + 1]? = some y
def spPairT : Sp := fun vs H Q _ => ∃ (p : Addr) (row : List Int), vs = [.ref p] ∧ H p = some (lsI row) ∧ row.length ≤ 1000 ∧
  ∀ (D : Addr) (kvs : List (List Key × V)) (H' : Hp), Same H H' → H D = none → H' D = some (.dT kvs) → Tml row kvs → Q (.ref D) H'
def spMost : Sp := fun vs H Q _ => ∃ (d : Addr) (row : List Int) (kvs : List (List Key × V)), vs = [.ref d] ∧ H d = some (.dT kvs) ∧ Tml row kvs ∧
  ∀ (v : V) (H' : Hp), (∀ b u, b ≠ d → H b = some u → H' b = some u) → Fnd H' row v → Q v H'
def spWith : Sp := fun vs H Q _ => ∃ (p t : Addr) (row : List Int) (x y s : Int), vs = [.ref p, .ref t, .int s] ∧ H p = some (lsI row) ∧ H t = some (.tup [.int x, .int y]) ∧ row.length ≤ 1000 ∧
  ∀ (D : Addr) (H' : Hp), Same H H' → H D = none → H' D = some (lsI (wsy x y s row)) → Q (.ref D) H'
def spGrOf : Sp := fun vs H Q _ => ∃ (p : Addr) (ts : List Int), vs = [.ref p] ∧ H p = some (lsI ts) ∧ ts.length ≤ 400 ∧ (∀ y ∈ ts, 0 ≤ y ∧ y ≤ 255) ∧
  ∀ (R P W : Addr) (zs : List (Addr × Int × Int)) (row : List Int) (H' : Hp), Same H H' → H' R = some (.tup [.ref P, .ref W]) → Prs H' P zs → GrZ zs → H' W = some (lsI row) → RwZ zs.length row → zs.length ≤ 400 → row.length ≤ 400 → exs (rn zs) (rwN row) = ts → Q (.ref R) H'
def spWord42 : Sp := fun vs H Q _ => ∃ (T : Addr) (t : List Int) (nu : Int), vs = [.ref T, .int nu] ∧ H T = some (lsI t) ∧ t.length ≤ 400 ∧
  ∀ (W : Addr) (w : List Int) (H' : Hp), Same H H' → H W = none → H' W = some (lsI w) → 1 ≤ w.length → w.length ≤ 400 → Q (.ref W) H'
theorem wsy_rz {x y : Int} {n : Nat} {row : List Int} (h : RwZ n row) : RwZ (n + 1) (wsy x y (256 + (n : Int)) row) := fun z hz => by
  rcases wsy_mem x y _ row z hz with e | e
  · rw [e]; omega
  · have := h z e
    omega
theorem cnt_self {w : List Int} (h : w ≠ []) : cnt w w = 1 := by
  cases w with
  | nil => exact absurd rfl h
  | cons x t => rw [cnt_cons, List.take_length, if_pos rfl, cnt_short (by rw [List.length_cons]; omega)]
theorem rz_signs {n : Nat} {l : List Int} (h : ∀ y ∈ l, 0 ≤ y ∧ y ≤ 255) : RwZ n l := fun y hy => by
  have := h y hy
  omega
end PH
set_option Elab.async false
set_option linter.all false
set_option maxRecDepth 100000
set_option maxHeartbeats 4000000
namespace K42
open PySem L2 PySem.W PH
def top (i : Nat) : Stmt := PySem.Challenge.pw_packhall_k42_whole_texts_and_grammars.main.body.getD i (.Pass ⟨0, 0, 0, 0⟩)
abbrev s_whole : Stmt := top 7
abbrev s_syms : Stmt := top 11
abbrev s_isrule : Stmt := top 12
abbrev s_isgr : Stmt := top 13
abbrev s_nogr : Stmt := top 14
abbrev s_lens : Stmt := top 15
abbrev s_glen : Stmt := top 16
abbrev s_between : Stmt := top 17
abbrev s_nostr : Stmt := top 8
abbrev s_gstr : Stmt := top 18
abbrev s_gtext : Stmt := top 19
abbrev s_times : Stmt := top 20
abbrev s_psign : Stmt := top 21
abbrev s_pboth : Stmt := top 22
abbrev s_gcnt : Stmt := top 23
abbrev s_pairt : Stmt := top 24
abbrev s_most : Stmt := top 25
abbrev s_withs : Stmt := top 26
abbrev s_grof : Stmt := top 27
abbrev s_cellat : Stmt := top 29
abbrev s_stir : Stmt := top 30
abbrev s_text : Stmt := top 31
abbrev s_many : Stmt := top 32
abbrev s_word : Stmt := top 33
abbrev s_law : Stmt := top 34
section
variable {P : Program} {w : World} {K : PySem.W.Frag} {mg : Str → Option Value} {base : Heap}
theorem sc_whole : FnScope ["thing"] ["thing"] (defScope s_whole) := ⟨rfl, rfl, rfl, by decide +kernel, rfl, by decide +kernel, by decide +kernel⟩
theorem ok_whole {f : Addr} {fd : FuncData} (F : Fun K "is_whole" "is_whole" s_whole f fd) (B : Bls mg) : FnOk P w K mg base (CXW P w) 1 f fd ["thing"] (spWh) := by
  refine F.okN sc_whole (fun vs H Q E h => ?_) (fun cdv A outer s H vs Q E hr h => ?_)
  · obtain ⟨n, rfl, _⟩ := h
    rfl
  · obtain ⟨n, rfl, q⟩ := h
    refine ⟨_, (pss_one (ps_ret (pe_and (pe_callB (r := rIsi K) call_isi rfl B.isi boot_isi (pa_cons (pv 0) (pa_cons (pe_bltn (v := .ty "int") rfl B.int boot_int' rfl) pa_nil))) (pe_one (pe_not (pe_callB (r := rIsi K) call_isi rfl B.isi boot_isi (pa_cons (pv 0) (pa_cons (pe_bltn (v := .ty "bool") rfl B.bool boot_bool' rfl) pa_nil)))))))), ?_⟩
    refine ⟨_, rfl, _, _, _, _, true, rfl, .of (.int n), rfl, kit_refl _ _, _, rfl, ?_⟩
    refine iteT ?_
    refine ⟨_, rfl, _, _, _, _, false, rfl, .of (.int n), rfl, kit_ib _, _, rfl, ?_⟩
    exact q
theorem sc_syms : FnScope ["things", "many"] ["things", "many"] (defScope s_syms) := ⟨rfl, rfl, rfl, by decide +kernel, rfl, by decide +kernel, by decide +kernel⟩
theorem ok_syms {f f_whole : Addr} {fd d_whole : FuncData} (F : Fun K "are_symbols" "are_symbols" s_syms f fd) (B : Bls mg) (m_FR : FRg mg) 
    (G_whole : FnOk P w K mg base (CXW P w) 1 f_whole d_whole ["thing"] (spWh)) (b_whole : Binds K d_whole ["thing"] []) (k_whole : keepIn K (.ref f_whole) = true) (m_whole : mg "is_whole" = some (.ref f_whole)) : FnOk P w K mg base (CXW P w) 2 f fd ["things", "many"] (spSyms K) := by
  refine F.okN sc_syms (fun vs H Q E h => ?_) (fun cdv A outer s H vs Q E hr h => ?_)
  · obtain ⟨p, ns, n, rfl, _⟩ := h
    rfl
  · obtain ⟨p, ns, n, rfl, hS, hrz, hl, hQ⟩ := h
    obtain ⟨u_FR, m_v, r_v⟩ := m_FR
    refine ⟨_, (pss_one (ps_ret (pe_callB (call_allL rfl) rfl B.all boot_all' (pa_cons (pe_comp (N := ["thing", "many"]) (js := [none, some 1]) (g := (gName 0)) (tc := tTrue) (te := (tAndV (tCall (spWh) [] E0 (tCons (tVar 0) tNil)) (tChain (rI0 fun i j => .bl (decide (i ≤ j))) (rI0 fun i j => .bl (decide (i < j))) (tC (.int 0)) (tVar 0) (tOp (rI0 fun i j => .int (i + j)) (tC (.int 256)) (tVar 1))))) rfl (comp_scope (osc := defScope s_syms) (XN := ["things", "many"]) rfl rfl rfl (by decide +kernel)) (pi_or (pi_list (pv 0)) (pi_tup (pv 0))) (fun _ _ _ _ => pg_name (i := 0) (show (["thing", "many"] : List Str).Nodup by decide +kernel) rfl (Or.inl rfl)) (fun _ _ _ _ => pif_nil) (fun _ _ _ _ => (pe_and (pe_call G_whole hr rfl m_whole k_whole b_whole .nil passN (pa_cons (pv 0) pa_nil)) (pe_one (pe_chain op_le op_lt pe_int (pv 0) (pe_op op_add (pe_glob (v := .int 256) rfl m_v r_v) (pv 1))))))) pa_nil)))), ?_⟩
    rcases hS with hS | hS
    · skip
      refine Or.inl ⟨_, rfl, p, rfl, ⟨_, hS⟩, fun D hD => ?_⟩
      refine comp_lstQ (K := K) (a := p) (xs := ns.map V.int) (fun i σ' H' => ∃ (v0 : Option V), σ' = [v0, some (.int (n : Int))] ∧ H' D = some (.lst ((List.replicate i true).map V.bl)) ∧ Same H H')
        ⟨none, rfl, upd_same, same_new hD _⟩ (fun i σ' H' _ ⟨_, _, _, e⟩ => e.seq hS) ?_ ?_
      · rintro i y σ' H' hi ⟨v0, rfl, hD', sm⟩
        have hlt : i < (ns.map V.int).length := (List.getElem?_eq_some_iff.mp hi).1
        have hil : i < ns.length := by rw [List.length_map] at hlt; exact hlt
        obtain ⟨z, rfl, hz⟩ := int_at hi
        have hb := hrz.at hz
        refine nameT ?_
        refine ⟨_, rfl, z, rfl, _, rfl, ?_⟩
        refine iteT ?_
        refine ⟨_, rfl, _, _, rfl, rfl, _, rfl, ?_⟩
        rw [decide_eq_true hb.1]
        refine iteT ?_
        refine ⟨_, rfl, _, _, rfl, rfl, _, _, rfl, rfl, ?_⟩
        refine ⟨D, _, _, rfl, rfl, hD', fits_lt (by rw [List.length_map, List.length_replicate]; omega), ?_⟩
        refine CW.next hlt ⟨_, rfl, ?_, same_upd sm _ hD⟩
        rw [upd_same, ← rep_snoc]
        show some (HO.lst (_ ++ [V.bl (decide (z < (256 : Int) + (n : Int)))])) = _
        rw [decide_eq_true hb.2]
      rintro σ' H2 ⟨v0, rfl, hD2, sm2⟩
      refine ⟨D, _, rfl, SqL.of hD2, ?_⟩
      rw [all_rep]
      exact hQ H2 sm2
    · skip
      refine Or.inr ⟨_, rfl, p, rfl, ⟨_, hS⟩, fun D hD => ?_⟩
      refine comp_tupQ (K := K) (a := p) (xs := ns.map V.int) (fun i σ' H' => ∃ (v0 : Option V), σ' = [v0, some (.int (n : Int))] ∧ H' D = some (.lst ((List.replicate i true).map V.bl)) ∧ Same H H')
        ⟨none, rfl, upd_same, same_new hD _⟩ (fun i σ' H' _ ⟨_, _, _, e⟩ => e.sqT hS) ?_ ?_
      · rintro i y σ' H' hi ⟨v0, rfl, hD', sm⟩
        have hlt : i < (ns.map V.int).length := (List.getElem?_eq_some_iff.mp hi).1
        have hil : i < ns.length := by rw [List.length_map] at hlt; exact hlt
        obtain ⟨z, rfl, hz⟩ := int_at hi
        have hb := hrz.at hz
        refine nameT ?_
        refine ⟨_, rfl, z, rfl, _, rfl, ?_⟩
        refine iteT ?_
        refine ⟨_, rfl, _, _, rfl, rfl, _, rfl, ?_⟩
        rw [decide_eq_true hb.1]
        refine iteT ?_
        refine ⟨_, rfl, _, _, rfl, rfl, _, _, rfl, rfl, ?_⟩
        refine ⟨D, _, _, rfl, rfl, hD', fits_lt (by rw [List.length_map, List.length_replicate]; omega), ?_⟩
        refine CW.next hlt ⟨_, rfl, ?_, same_upd sm _ hD⟩
        rw [upd_same, ← rep_snoc]
        show some (HO.lst (_ ++ [V.bl (decide (z < (256 : Int) + (n : Int)))])) = _
        rw [decide_eq_true hb.2]
      rintro σ' H2 ⟨v0, rfl, hD2, sm2⟩
      refine ⟨D, _, rfl, SqL.of hD2, ?_⟩
      rw [all_rep]
      exact hQ H2 sm2
end
end K42
set_option Elab.async false
set_option linter.all false
set_option maxRecDepth 100000
set_option maxHeartbeats 4000000
namespace K42
open PySem L2 PySem.W PH
section
variable {P : Program} {w : World} {K : PySem.W.Frag} {mg : Str → Option Value} {base : Heap}
theorem sc_isrule : FnScope ["thing", "number"] ["thing", "number"] (defScope s_isrule) := ⟨rfl, rfl, rfl, by decide +kernel, rfl, by decide +kernel, by decide +kernel⟩
theorem ok_isrule {f f_syms : Addr} {fd d_syms : FuncData} (F : Fun K "is_rule" "is_rule" s_isrule f fd) (B : Bls mg) 
    (G_syms : FnOk P w K mg base (CXW P w) 2 f_syms d_syms ["things", "many"] (spSyms K)) (b_syms : Binds K d_syms ["things", "many"] []) (k_syms : keepIn K (.ref f_syms) = true) (m_syms : mg "are_symbols" = some (.ref f_syms)) : FnOk P w K mg base (CXW P w) 3 f fd ["thing", "number"] (spIsRule) := by
  refine F.okN sc_isrule (fun vs H Q E h => ?_) (fun cdv A outer s H vs Q E hr h => ?_)
  · obtain ⟨t, x, y, n, rfl, _⟩ := h
    rfl
  · obtain ⟨t, x, y, n, rfl, ht, hrz, hQ⟩ := h
    refine ⟨_, (pss_one (ps_ret (pe_and (pe_callB (r := rIsi K) call_isi rfl B.isi boot_isi (pa_cons (pv 0) (pa_cons (pe_bltn (v := .ty "tuple") rfl B.tuple boot_tuple' rfl) pa_nil))) (pe_and (pe_cmpR op_eq (pe_callB call_len_seq rfl B.len PySem.boot_len (pa_cons (pv 0) pa_nil)) pe_int (nomark _)) (pe_one (pe_call G_syms hr rfl m_syms k_syms b_syms .nil passN (pa_cons (pv 0) (pa_cons (pv 1) pa_nil)))))))), ?_⟩
    have hty : TyX K H (.ref t) (.type "tuple") := .of (.tup ht)
    refine ⟨_, rfl, _, _, _, _, true, rfl, hty, rfl, kit_refl _ _, _, rfl, ?_⟩
    refine iteT ?_
    refine ⟨_, rfl, t, _, rfl, .inr (SqT.of ht), rfl, _, rfl, ?_⟩
    refine iteT ?_
    refine ⟨_, rfl, _, rfl, t, [x, y], n, rfl, .inr (SqT.of ht), hrz, (by show 2 ≤ 100000; decide), fun H' s' => ?_⟩
    exact hQ H' s'
end
end K42
set_option Elab.async false
set_option linter.all false
set_option maxRecDepth 100000
set_option maxHeartbeats 4000000
namespace K42
open PySem L2 PySem.W PH
section
variable {P : Program} {w : World} {K : PySem.W.Frag} {mg : Str → Option Value} {base : Heap}
theorem sc_isgr : FnScope ["rules", "row"] ["rules", "row"] (defScope s_isgr) := ⟨rfl, rfl, rfl, by decide +kernel, rfl, by decide +kernel, by decide +kernel⟩
theorem ok_isgr {f f_syms f_isrule : Addr} {fd d_syms d_isrule : FuncData} (F : Fun K "is_grammar" "is_grammar" s_isgr f fd) (B : Bls mg) (n_enumerate : mg "enumerate" = none) 
    (G_syms : FnOk P w K mg base (CXW P w) 2 f_syms d_syms ["things", "many"] (spSyms K)) (b_syms : Binds K d_syms ["things", "many"] []) (k_syms : keepIn K (.ref f_syms) = true) (m_syms : mg "are_symbols" = some (.ref f_syms)) 
    (G_isrule : FnOk P w K mg base (CXW P w) 3 f_isrule d_isrule ["thing", "number"] (spIsRule)) (b_isrule : Binds K d_isrule ["thing", "number"] []) (k_isrule : keepIn K (.ref f_isrule) = true) (m_isrule : mg "is_rule" = some (.ref f_isrule)) : FnOk P w K mg base (CXW P w) 4 f fd ["rules", "row"] (spIsGr) := by
  refine F.okN sc_isgr (fun vs H Q E h => ?_) (fun cdv A outer s H vs Q E hr h => ?_)
  · obtain ⟨p, q, zs, row, rfl, _⟩ := h
    rfl
  · obtain ⟨p, q, zs, row, rfl, pr, gr, hq, hrw, hzl, hrl, hQ⟩ := h
    refine ⟨_, (pss_cons (ps_if (PW.pt (pw_or (pt_not (pt_val (pe_callB (r := rIsi K) call_isi rfl B.isi boot_isi (pa_cons (pv 0) (pa_cons (pe_bltn (v := .ty "list") rfl B.list boot_list' rfl) pa_nil))))) (pw_or1 (pt_not (pt_val (pe_callB (r := rIsi K) call_isi rfl B.isi boot_isi (pa_cons (pv 1) (pa_cons (pe_bltn (v := .ty "list") rfl B.list boot_list' rfl) pa_nil))))))))
        (pss_one (ps_ret pe_bl))
        pss_nil)
      (pss_cons (ps_if (pt_not (pt_val (pe_callB (call_allL rfl) rfl B.all boot_all' (pa_cons (pe_comp (N := ["number", "rule"]) (js := [none, none]) (g := (gTup K 2 (gCons (gName 0) (gCons (gName 1) gNil)))) (tc := tTrue) (te := (tCall (spIsRule) [] E0 (tCons (tVar 1) (tCons (tVar 0) tNil)))) rfl (comp_scope (osc := defScope s_isgr) (XN := ["rules", "row"]) rfl rfl rfl (by decide +kernel)) (pi_enum rfl n_enumerate (pa_cons (pv 0) pa_nil)) (fun _ _ _ _ => pg_tup rfl (pgs_cons (pg_name (i := 0) (show (["number", "rule"] : List Str).Nodup by decide +kernel) rfl (Or.inl rfl)) (pgs_cons (pg_name (i := 1) (show (["number", "rule"] : List Str).Nodup by decide +kernel) rfl (Or.inl rfl)) pgs_nil))) (fun _ _ _ _ => pif_nil) (fun _ _ _ _ => (pe_call G_isrule hr rfl m_isrule k_isrule b_isrule .nil passN (pa_cons (pv 1) (pa_cons (pv 0) pa_nil))))) pa_nil))))
        (pss_one (ps_ret pe_bl))
        pss_nil)
      (pss_one (ps_ret (pe_call G_syms (hr.mono (show 2 ≤ 3 by decide)) rfl m_syms k_syms b_syms .nil passN (pa_cons (pv 1) (pa_cons (pe_callB call_len_seq rfl B.len PySem.boot_len (pa_cons (pv 0) pa_nil)) pa_nil))))))), ?_⟩
    refine ⟨_, rfl, _, _, _, _, true, rfl, .of (.lst pr.at_), rfl, kit_refl _ _, _, rfl, ?_⟩
    refine iteF ?_
    refine ⟨_, rfl, _, _, _, _, true, rfl, .of (.lst hq), rfl, kit_refl _ _, _, rfl, ?_⟩
    refine iteF ?_
    refine ⟨_, rfl, p, rfl, ⟨_, SqL.of pr.at_⟩, fun D hD => ?_⟩
    refine comp_enumQ (K := K) (a := p) (xs := zs.map fun z => V.ref z.1) (fun i σ' H' => ∃ (v0 v1 : Option V), σ' = [v0, v1] ∧ H' D = some (.lst ((List.replicate i true).map V.bl)) ∧ Same H H')
      ⟨none, none, rfl, upd_same, same_new hD _⟩ (fun i σ' H' _ ⟨_, _, _, _, e⟩ => SqL.of (e _ _ pr.at_)) ?_ ?_
    · rintro i y t σ' H' hi ⟨v0, v1, rfl, hD', sm⟩ ht
      have hlt : i < (zs.map fun z => V.ref z.1).length := (List.getElem?_eq_some_iff.mp hi).1
      have hil : i < zs.length := by rw [List.length_map] at hlt; exact hlt
      obtain ⟨z, hz, rfl⟩ := ref_at hi
      have st := same_new ht (.tup [.int (i : Nat), .ref z.1])
      refine ⟨t, _, rfl, SqT.of upd_same, rfl, _, _, rfl, _, _, rfl, rfl, ?_⟩
      refine ifT ?_
      have hg := gr i z hz
      have hrz : RwZ i [z.2.1, z.2.2] := fun y hy => by
        rcases List.mem_cons.mp hy with e | hy
        · rw [e]; exact ⟨hg.1, hg.2.1⟩
        · rw [List.mem_singleton.mp hy]; exact ⟨hg.2.2.1, hg.2.2.2⟩
      refine ⟨_, rfl, _, rfl, z.1, z.2.1, z.2.2, i, rfl, st _ _ (sm _ _ (pr.each z (List.mem_of_getElem? hz))), hrz, fun H2 s2 => ?_⟩
      refine ⟨D, _, _, rfl, rfl, s2 _ _ (st _ _ hD'), fits_lt (by rw [List.length_map, List.length_replicate]; omega), ?_⟩
      refine CW.next hlt ⟨_, _, rfl, ?_, same_upd (sm.trans (st.trans s2)) _ hD⟩
      rw [upd_same, rep_snoc]
    rintro σ' H2 ⟨v0, v1, rfl, hD2, sm2⟩
    refine ⟨D, _, rfl, SqL.of hD2, _, rfl, ?_⟩
    rw [all_rep]
    refine iteF ?_
    refine ⟨_, rfl, _, rfl, p, _, rfl, .inl (SqL.of (sm2 _ _ pr.at_)), q, row, zs.length, (by show [V.ref q, V.int (((zs.map fun z => V.ref z.1).length : Nat) : Int)] = _; rw [List.length_map]), .inl (SqL.of (sm2 _ _ hq)), hrw, hrl, fun H' s' => ?_⟩
    exact hQ H' (sm2.trans s')
end
end K42
set_option Elab.async false
set_option linter.all false
set_option maxRecDepth 100000
set_option maxHeartbeats 4000000
namespace K42
open PySem L2 PySem.W PH
section
variable {P : Program} {w : World} {K : PySem.W.Frag} {mg : Str → Option Value} {base : Heap}
theorem sc_nogr : FnScope ["rules", "row"] ["rules", "row"] (defScope s_nogr) := ⟨rfl, rfl, rfl, by decide +kernel, rfl, by decide +kernel, by decide +kernel⟩
theorem ok_nogr {f c_Broken f_isgr : Addr} {fd d_isgr : FuncData} (F : Fun K "refuse_no_grammar" "refuse_no_grammar" s_nogr f fd) (B : Bls mg) (X_Broken : Ex K mg "Broken" c_Broken) (m_Broken : mg "Broken" = some (.ref c_Broken)) 
    (G_isgr : FnOk P w K mg base (CXW P w) 4 f_isgr d_isgr ["rules", "row"] (spIsGr)) (b_isgr : Binds K d_isgr ["rules", "row"] []) (k_isgr : keepIn K (.ref f_isgr) = true) (m_isgr : mg "is_grammar" = some (.ref f_isgr)) : FnOk P w K mg base (CXW P w) 5 f fd ["rules", "row"] (spNoGr) := by
  refine F.okX sc_nogr (fun vs H Q E h => ?_) (fun cdv A outer s H vs Q E hr h => ?_)
  · obtain ⟨p, q, zs, row, rfl, _⟩ := h
    rfl
  · obtain ⟨p, q, zs, row, rfl, pr, gr, hq, hrw, hzl, hrl, hQ⟩ := h
    refine ⟨_, (pss_one (ps_if (pt_not (pt_val (pe_call G_isgr hr rfl m_isgr k_isgr b_isgr .nil passW (pa_cons (pv 0) (pa_cons (pv 1) pa_nil)))))
        (pss_one (ps_raise PySem.F.excBase_ValueError X_Broken.ex X_Broken.mg rfl))
        pss_nil)), ?_⟩
    refine ⟨_, rfl, _, rfl, p, q, zs, row, rfl, pr, gr, hq, hrw, hzl, hrl, fun H' s' => ⟨_, rfl, ?_⟩⟩
    refine iteF ?_
    exact hQ H' s'
end
end K42
set_option Elab.async false
set_option linter.all false
set_option maxRecDepth 100000
set_option maxHeartbeats 4000000
namespace K42
open PySem L2 PySem.W PH
section
variable {P : Program} {w : World} {K : PySem.W.Frag} {mg : Str → Option Value} {base : Heap}
theorem sc_lens : FnScope ["rules", "lengths", "a", "b"] ["rules"] (defScope s_lens) := ⟨rfl, rfl, rfl, by decide +kernel, rfl, by decide +kernel, by decide +kernel⟩
theorem ok_lens {f : Addr} {fd : FuncData} (F : Fun K "lengths_by" "lengths_by" s_lens f fd) (B : Bls mg) (m_FR : FRg mg) : FnOk P w K mg base (CXW P w) 1 f fd ["rules"] (spLens) := by
  refine F.okN sc_lens (fun vs H Q E h => ?_) (fun cdv A outer s H vs Q E hr h => ?_)
  · obtain ⟨p, zs, rfl, _⟩ := h
    rfl
  · obtain ⟨p, zs, rfl, pr, gr, hzl, hQ⟩ := h
    obtain ⟨u_FR, m_v, r_v⟩ := m_FR
    refine ⟨_, (pss_cons (ps_set (i := 1) sc_lens.nd rfl (Or.inl rfl) (pe_op op_rep (pe_lst (pa_cons pe_int pa_nil)) (pe_glob (v := .int 256) rfl m_v r_v)))
      (pss_cons (ps_for PassesOwn.never rfl (pi_list (pv 0)) (pg_tup rfl (pgs_cons (pg_name (i := 2) sc_lens.nd rfl (Or.inl rfl)) (pgs_cons (pg_name (i := 3) sc_lens.nd rfl (Or.inl rfl)) pgs_nil)))
        (pss_one (ps_expr (pe_bm PySem.F.plainAttrs_list PySem.F.slot_list_append PySem.F.type_list_append mt_append (pv 1) (pa_cons (pe_op op_add (pe_ix ix_list (pv 1) (pv 2) (fun _ _ => rfl)) (pe_ix ix_list (pv 1) (pv 3) (fun _ _ => rfl))) pa_nil)))))
      (pss_one (ps_ret (pv 1))))), ?_⟩
    refine ⟨(by show 1 ≤ sizeLine; decide), fun l0 h0 => ?_⟩
    have s0 := same_new h0 (.lst [V.int 1])
    refine ⟨l0, 256, [V.int 1], rfl, rfl, upd_same, by decide, by decide, by decide, fun D hD => ?_⟩
    have s1 := s0.trans (same_new hD (.lst ((List.replicate (256 : Int).toNat [V.int 1]).flatten)))
    have hDH : H D = none := s0.free hD
    have e0 : HO.lst ((List.replicate (256 : Int).toNat [V.int 1]).flatten) = lsI (glen (rn (zs.take 0))) := by
      rw [List.take_zero]
      show _ = lsI (glen [])
      rw [glen_nil]
      show HO.lst _ = HO.lst _
      rw [show (256 : Int).toNat = 256 from rfl, List.flatten_replicate_singleton, List.map_replicate]
    refine ⟨_, rfl, p, rfl, ⟨_, SqL.of (s1 _ _ pr.at_)⟩, for_list (K := K) (a := p) (xs := zs.map fun z => V.ref z.1) (fun i σ H' => ∃ (v2 v3 : Option V), σ = [some (.ref p), some (.ref D), v2, v3] ∧ H' D = some (lsI (glen (rn (zs.take i)))) ∧ Same H H')
      ⟨none, none, rfl, by rw [upd_same, e0], s1⟩ (fun i σ H' _ ⟨_, _, _, _, e⟩ => SqL.of (e _ _ pr.at_)) ?_ ?_⟩
    · rintro i y σ H1 hi ⟨v2, v3, rfl, hD1, sm⟩
      obtain ⟨z, hz, rfl⟩ := ref_at hi
      have hil : i < zs.length := (List.getElem?_eq_some_iff.mp hz).1
      have hg := gr i z hz
      have hl : (rn (zs.take i)).length = i := by rw [rn_len, List.length_take]; omega
      have g1 := glen_at (rs := rn (zs.take i)) (k := z.2.1.toNat) (by omega)
      have g2 := glen_at (rs := rn (zs.take i)) (k := z.2.2.toNat) (by omega)
      refine ⟨z.1, _, rfl, SqT.of (sm _ _ (pr.each z (List.mem_of_getElem? hz))), rfl, _, _, rfl, _, _, rfl, rfl, ?_⟩
      refine ⟨_, rfl, .inl ⟨rfl, _, SqL.of hD1⟩, _, rfl, _, rfl, D, _, ((z.2.1.toNat : Nat) : Int), _, rfl, congrArg V.int (by omega), SqL.of hD1, at_intsZ g1, _, rfl, _, rfl, D, _, ((z.2.2.toNat : Nat) : Int), _, rfl, congrArg V.int (by omega), SqL.of hD1, at_intsZ g2, _, _, rfl, rfl, D, _, _, rfl, rfl, hD1, fits_lt (by rw [List.length_map]; unfold PH.glen; rw [List.length_map, gx_len]; omega), ?_⟩
      refine ⟨_, _, rfl, ?_, same_upd sm _ hDH⟩
      rw [upd_same, lsI_app1, take_at hz, show rn (zs.take i ++ [z]) = rn (zs.take i) ++ [(z.2.1.toNat, z.2.2.toNat)] by unfold rn; rw [List.map_append]; rfl, glen_snoc]
    · rintro σ H1 ⟨v2, v3, rfl, hD1, sm⟩
      rw [List.length_map, List.take_length] at hD1
      refine ⟨_, rfl, ?_⟩
      exact hQ D H1 sm hDH hD1
end
end K42
set_option Elab.async false
set_option linter.all false
set_option maxRecDepth 100000
set_option maxHeartbeats 4000000
namespace K42
open PySem L2 PySem.W PH
section
variable {P : Program} {w : World} {K : PySem.W.Frag} {mg : Str → Option Value} {base : Heap}
theorem sc_glen : FnScope ["rules", "row", "lengths"] ["rules", "row"] (defScope s_glen) := ⟨rfl, rfl, rfl, by decide +kernel, rfl, by decide +kernel, by decide +kernel⟩
theorem ok_glen {f f_nogr f_lens : Addr} {fd d_nogr d_lens : FuncData} (F : Fun K "grammar_length" "grammar_length" s_glen f fd) (B : Bls mg) (n_sum : mg "sum" = none) 
    (G_nogr : FnOk P w K mg base (CXW P w) 5 f_nogr d_nogr ["rules", "row"] (spNoGr)) (b_nogr : Binds K d_nogr ["rules", "row"] []) (k_nogr : keepIn K (.ref f_nogr) = true) (m_nogr : mg "refuse_no_grammar" = some (.ref f_nogr)) 
    (G_lens : FnOk P w K mg base (CXW P w) 1 f_lens d_lens ["rules"] (spLens)) (b_lens : Binds K d_lens ["rules"] []) (k_lens : keepIn K (.ref f_lens) = true) (m_lens : mg "lengths_by" = some (.ref f_lens)) : FnOk P w K mg base (CXW P w) 6 f fd ["rules", "row"] (spGLen) := by
  refine F.okN sc_glen (fun vs H Q E h => ?_) (fun cdv A outer s H vs Q E hr h => ?_)
  · obtain ⟨p, q, zs, row, rfl, _⟩ := h
    rfl
  · obtain ⟨p, q, zs, row, rfl, pr, gr, hq, hrw, hzl, hrl, hQ⟩ := h
    refine ⟨_, (pss_cons (ps_expr (pe_call G_nogr hr rfl m_nogr k_nogr b_nogr .nil passN (pa_cons (pv 0) (pa_cons (pv 1) pa_nil))))
      (pss_cons (ps_set (i := 2) sc_glen.nd rfl (Or.inr rfl) (pe_call G_lens (hr.mono (show 1 ≤ 5 by decide)) rfl m_lens k_lens b_lens .nil passN (pa_cons (pv 0) pa_nil)))
      (pss_one (ps_ret (pe_callB (call_sum rfl) rfl n_sum boot_sum' (pa_cons (pe_comp (N := ["symbol", "lengths"]) (js := [none, some 2]) (g := (gName 0)) (tc := tTrue) (te := (tOp (rIxL K) (tVar 1) (tVar 0))) rfl (comp_scope (osc := defScope s_glen) (XN := ["rules", "row", "lengths"]) rfl rfl rfl (by decide +kernel)) (pi_list (pv 1)) (fun _ _ _ _ => pg_name (i := 0) (show (["symbol", "lengths"] : List Str).Nodup by decide +kernel) rfl (Or.inl rfl)) (fun _ _ _ _ => pif_nil) (fun _ _ _ _ => (pe_ix ix_list (pv 1) (pv 0) (fun _ _ => rfl)))) pa_nil)))))), ?_⟩
    refine ⟨_, rfl, _, rfl, p, q, zs, row, rfl, pr, gr, hq, hrw, hzl, hrl, fun H1 s1 => ?_⟩
    refine ⟨_, rfl, p, zs, rfl, pr.same s1, gr, hzl, fun L H2 s2 hL hL2 => ?_⟩
    have s12 := s1.trans s2
    have hq2 := s12 _ _ hq
    refine ⟨_, rfl, q, rfl, ⟨_, SqL.of hq2⟩, fun D hD => ?_⟩
    refine comp_lstQ (K := K) (a := q) (xs := row.map V.int) (fun i σ' H' => ∃ (v0 : Option V), σ' = [v0, some (.ref L)] ∧ H' D = some (lsI ((row.take i).map fun y => ((ex (rn zs) y.toNat).length : Int))) ∧ Same H2 H')
      ⟨none, rfl, upd_same, same_new hD _⟩ (fun i σ' H' _ ⟨_, _, _, e⟩ => SqL.of (e _ _ hq2)) ?_ ?_
    · rintro i y σ' H' hi ⟨v0, rfl, hD', sm⟩
      have hlt : i < (row.map V.int).length := (List.getElem?_eq_some_iff.mp hi).1
      have hil : i < row.length := by rw [List.length_map] at hlt; exact hlt
      obtain ⟨z, rfl, hz⟩ := int_at hi
      have hb := hrw.at hz
      have g1 := gl_at (zs := zs) hb.1 hb.2
      refine nameT ?_
      refine ⟨_, rfl, _, rfl, L, _, ((z.toNat : Nat) : Int), _, rfl, congrArg V.int (by omega), SqL.of (sm _ _ hL2), at_intsZ g1, ?_⟩
      refine ⟨D, _, _, rfl, rfl, hD', fits_lt (by rw [List.length_map, List.length_map, List.length_take]; omega), ?_⟩
      refine CW.next hlt ⟨_, rfl, ?_, same_upd sm _ hD⟩
      rw [upd_same, take_at hz, List.map_append, lsI_app1]; rfl
    rintro σ' H3 ⟨v0, rfl, hD3, sm3⟩
    rw [List.length_map, List.take_length] at hD3
    refine ⟨D, _, rfl, SqL.of hD3, ?_⟩
    have e : (row.map fun y => ((ex (rn zs) y.toNat).length : Int)).sum = ((exs (rn zs) (rwN row)).length : Nat) := by
      rw [exs_len]
      unfold rwN
      rw [List.map_map]
      rfl
    rw [e]
    exact hQ H3 (s12.trans sm3)
end
end K42
set_option Elab.async false
set_option linter.all false
set_option maxRecDepth 100000
set_option maxHeartbeats 4000000
namespace K42
open PySem L2 PySem.W PH
section
variable {P : Program} {w : World} {K : PySem.W.Frag} {mg : Str → Option Value} {base : Heap}
theorem sc_between : FnScope ["rules", "row", "first", "last", "lengths", "text", "at", "left", "symbol", "rule"] ["rules", "row", "first", "last"] (defScope s_between) := ⟨rfl, rfl, rfl, by decide +kernel, rfl, by decide +kernel, by decide +kernel⟩
theorem ok_between {f f_lens : Addr} {fd d_lens : FuncData} (F : Fun K "signs_between" "signs_between" s_between f fd) (B : Bls mg) (m_FR : FRg mg) (m_LS : LSg mg) (n_reversed : mg "reversed" = none) 
    (G_lens : FnOk P w K mg base (CXW P w) 1 f_lens d_lens ["rules"] (spLens)) (b_lens : Binds K d_lens ["rules"] []) (k_lens : keepIn K (.ref f_lens) = true) (m_lens : mg "lengths_by" = some (.ref f_lens)) : FnOk P w K mg base (CXW P w) 2 f fd ["rules", "row", "first", "last"] (spBetween) := by
  refine F.okN sc_between (fun vs H Q E h => ?_) (fun cdv A outer s H vs Q E hr h => ?_)
  · obtain ⟨p, q, zs, row, a, b, rfl, _⟩ := h
    rfl
  · obtain ⟨p, q, zs, row, a, b, rfl, pr, gr, hq, hrw, hzl, hrl, hab, hbl, hbm, hQ⟩ := h
    obtain ⟨u_FR, m_v, r_v⟩ := m_FR
    obtain ⟨u_LS, m_u, r_u⟩ := m_LS
    refine ⟨_, (pss_cons (ps_set (i := 4) sc_between.nd rfl (Or.inl rfl) (pe_call G_lens hr rfl m_lens k_lens b_lens .nil passN (pa_cons (pv 0) pa_nil)))
      (pss_cons (ps_set (i := 5) sc_between.nd rfl (Or.inl rfl) (pe_lst pa_nil))
      (pss_cons (ps_set (i := 6) sc_between.nd rfl (Or.inl rfl) pe_int)
      (pss_cons (ps_set (i := 7) sc_between.nd rfl (Or.inl rfl) (pe_listrev rfl n_reversed rfl B.list rfl (pa_cons (pv 1) pa_nil)))
      (pss_cons (ps_while PassesOwn.never (pt_cmpR op_lt (pv 6) (pv 3) (nomark _))
        (pss_cons (ps_set (i := 8) sc_between.nd rfl (Or.inl rfl) (pe_bm0 PySem.F.plainAttrs_list PySem.F.slot_list_pop PySem.F.type_list_pop mt_pop (pv 7)))
        (pss_one (ps_if (pt_cmpR op_le (pe_op op_add (pv 6) (pe_ix ix_list (pv 4) (pv 8) (fun _ _ => rfl))) (pv 2) (nomark _))
          (pss_one (ps_set (i := 6) sc_between.nd rfl (Or.inl rfl) (pe_op op_add (pv 6) (pe_ix ix_list (pv 4) (pv 8) (fun _ _ => rfl)))))
          (pss_one (ps_if (pt_cmpR op_le (pv 8) (pe_glob (v := .int 255) rfl m_u r_u) (nomark _))
            (pss_cons (ps_expr (pe_bm PySem.F.plainAttrs_list PySem.F.slot_list_append PySem.F.type_list_append mt_append (pv 5) (pa_cons (pv 8) pa_nil)))
            (pss_one (ps_set (i := 6) sc_between.nd rfl (Or.inl rfl) (pe_op op_add (pv 6) pe_int))))
            (pss_cons (ps_set (i := 9) sc_between.nd rfl (Or.inl rfl) (pe_ix ix_list (pv 0) (pe_op op_sub (pv 8) (pe_glob (v := .int 256) rfl m_v r_v)) (fun _ _ => rfl)))
            (pss_one (ps_expr (pe_bm PySem.F.plainAttrs_list PySem.F.slot_list_extend PySem.F.type_list_extend mt_extend (pv 7) (pa_cons (pe_lst (pa_cons (pe_ix ix_tup (pv 9) pe_int (fun _ _ => rfl)) (pa_cons (pe_ix ix_tup (pv 9) pe_int (fun _ _ => rfl)) pa_nil))) pa_nil)))))))))))
      (pss_one (ps_ret (pv 5)))))))), ?_⟩
    refine ⟨_, rfl, p, zs, rfl, pr, gr, hzl, fun L H1 s1 hL hL1 => ?_⟩
    refine ⟨(by show 0 ≤ sizeLine; decide), fun T hT => ?_⟩
    have s2 := s1.trans (same_new hT (.lst []))
    have hTH : H T = none := s1.free hT
    have hL2 := (same_new hT (.lst [])) _ _ hL1
    have hT2 : upd H1 T (.lst []) T = some (.lst []) := upd_same
    generalize upd H1 T (.lst []) = H2 at s2 hL2 hT2 ⊢
    refine ⟨_, rfl, q, _, rfl, s2 _ _ hq, fun F hF => ?_⟩
    have s3 := s2.trans (same_new hF (.lst (row.map V.int).reverse))
    have hFH : H F = none := s2.free hF
    have hnTF : T ≠ F := fun e => by rw [e, hF] at hT2; cases hT2
    have hnLF : L ≠ F := fun e => by rw [e, hF] at hL2; cases hL2
    have hL3 := (same_new hF (.lst (row.map V.int).reverse)) _ _ hL2
    have hT3 := (same_new hF (.lst (row.map V.int).reverse)) _ _ hT2
    have hF3 : upd H2 F (.lst (row.map V.int).reverse) F = some (lsI ((rwN row).reverse.map fun k : Nat => (k : Int))) := by
      rw [upd_same, rwN_back hrw]
    generalize upd H2 F (.lst (row.map V.int).reverse) = H3 at s3 hL3 hT3 hF3 ⊢
    obtain ⟨full, hfull⟩ : ∃ full, full = exs (rn zs) (rwN row) := ⟨_, rfl⟩
    rw [← hfull] at hbl hQ
    have hok := gr.ok
    have hrl2 : (rwN row).length = row.length := List.length_map _
    have hnLT : L ≠ T := fun e => by rw [e, hT] at hL1; cases hL1
    have hsym : ∀ k ∈ rwN row, k < 256 + zs.length := fun k hk => by
      obtain ⟨y, hy, e⟩ := List.mem_map.mp hk
      have := hrw y hy
      omega
    refine ⟨fun mm σ H' => ∃ (pend : List Nat) (c : Nat) (v8 v9 : Option V), mm = gms (rn zs) pend ∧ σ = [some (.ref p), some (.ref q), some (.int (a : Int)), some (.int (b : Int)), some (.ref L), some (.ref T), some (.int (c : Nat)), some (.ref F), v8, v9] ∧ H' F = some (lsI (pend.reverse.map fun k : Nat => (k : Int))) ∧ H' L = some (lsI (PH.glen (rn zs))) ∧ H' T = some (lsI ((full.take c).drop a)) ∧ full.drop c = exs (rn zs) pend ∧ (∀ k ∈ pend, k < 256 + zs.length) ∧ Stk (row.length + 256 + zs.length) pend ∧ c ≤ b ∧ Same H H',
      ⟨_, rwN row, 0, none, none, rfl, rfl, hF3, hL3, by rw [List.take_zero, List.drop_nil]; exact hT3, by rw [List.drop_zero, hfull], hsym, Stk.first hsym (by omega), Nat.zero_le _, s3⟩, ?_⟩
    rintro mm σ H4 ⟨pend, c, v8, v9, rfl, rfl, hF4, hL4, hT4, hdr, hsy, hst, hcb, sm⟩
    refine ⟨_, rfl, _, rfl, _, _, rfl, rfl, _, rfl, ?_⟩
    by_cases hcl : c < b
    rotate_left
    · rw [decide_eq_false (show ¬ ((c : Nat) : Int) < ((b : Nat) : Int) by omega)]
      refine iteF ?_
      refine ⟨_, rfl, ?_⟩
      have e : c = b := by omega
      rw [e] at hT4
      exact hQ T H4 sm hTH hT4
    rw [decide_eq_true (show ((c : Nat) : Int) < ((b : Nat) : Int) by omega)]
    refine iteT ?_
    refine ⟨fun σ' H'' => ∃ m', m' < gms (rn zs) pend ∧ ∃ (pend : List Nat) (c : Nat) (v8 v9 : Option V), m' = gms (rn zs) pend ∧ σ' = [some (.ref p), some (.ref q), some (.int (a : Int)), some (.int (b : Int)), some (.ref L), some (.ref T), some (.int (c : Nat)), some (.ref F), v8, v9] ∧ H'' F = some (lsI (pend.reverse.map fun k : Nat => (k : Int))) ∧ H'' L = some (lsI (PH.glen (rn zs))) ∧ H'' T = some (lsI ((full.take c).drop a)) ∧ full.drop c = exs (rn zs) pend ∧ (∀ k ∈ pend, k < 256 + zs.length) ∧ Stk (row.length + 256 + zs.length) pend ∧ c ≤ b ∧ Same H H'', fun σ' H'' z => z, ?_⟩
    obtain ⟨k, r, rfl⟩ := exs_ne (rs := rn zs) (l := pend) (fun e => by
      have h1 := congrArg List.length (hdr.trans e)
      rw [List.length_drop, List.length_nil] at h1
      omega)
    have hk := hsy k List.mem_cons_self
    have hkr : k < 256 + (rn zs).length := by rw [rn_len]; exact hk
    have hkp := ex_pos hok k hkr
    have hgk := glen_at (rs := rn zs) hkr
    have hF4' : H4 F = some (.lst ((r.reverse.map fun k : Nat => (k : Int)).map V.int ++ [V.int (k : Int)])) := by
      rw [hF4, List.reverse_cons, List.map_append]
      unfold lsI
      rw [List.map_append]
      rfl
    refine ⟨_, rfl, .inl ⟨rfl, _, SqL.of hF4'⟩, F, _, .int (k : Int), rfl, rfl, hF4', (by rw [List.length_append, List.length_singleton, Nat.add_sub_cancel, List.getElem?_append_right (Nat.le_refl _), Nat.sub_self]; rfl), ?_⟩
    rw [List.dropLast_concat]
    have hF5 : upd H4 F (.lst ((r.reverse.map fun k : Nat => (k : Int)).map V.int)) F = some (lsI (r.reverse.map fun k : Nat => (k : Int))) := upd_same
    have hL5 : upd H4 F (.lst ((r.reverse.map fun k : Nat => (k : Int)).map V.int)) L = some (lsI (PH.glen (rn zs))) := by rw [upd_ne hnLF]; exact hL4
    have hT5 : upd H4 F (.lst ((r.reverse.map fun k : Nat => (k : Int)).map V.int)) T = some (lsI ((full.take c).drop a)) := by rw [upd_ne hnTF]; exact hT4
    have sm5 := same_upd sm (.lst ((r.reverse.map fun k : Nat => (k : Int)).map V.int)) hFH
    generalize upd H4 F (.lst ((r.reverse.map fun k : Nat => (k : Int)).map V.int)) = H5 at hF5 hL5 hT5 sm5 ⊢
    have hsr : ∀ x ∈ r, x < 256 + zs.length := fun x hx => hsy x (List.mem_cons_of_mem _ hx)
    refine ⟨_, rfl, _, rfl, _, rfl, L, _, (k : Int), _, rfl, rfl, SqL.of hL5, at_intsZ hgk, _, _, rfl, rfl, _, rfl, _, _, rfl, rfl, _, rfl, ?_⟩
    by_cases hsk : c + (ex (rn zs) k).length ≤ a
    · rw [decide_eq_true (show ((c : Nat) : Int) + (((ex (rn zs) k).length : Nat) : Int) ≤ ((a : Nat) : Int) by omega)]
      refine iteT ?_
      refine ⟨_, rfl, _, rfl, _, rfl, L, _, (k : Int), _, rfl, rfl, SqL.of hL5, at_intsZ hgk, _, _, rfl, rfl, ?_⟩
      have n1 : ∀ m, m ≤ a → (full.take m).drop a = [] := fun m hm => List.drop_eq_nil_of_le (by rw [List.length_take]; omega)
      refine ⟨gms (rn zs) r, by rw [gms_cons]; omega, r, c + (ex (rn zs) k).length, _, _, rfl, rfl, hF5, hL5, ?_, ?_, hsr, hst.2, by omega, sm5⟩
      · rw [n1 _ hsk, ← n1 c (by omega)]; exact hT5
      · rw [← List.drop_drop, hdr, exs_cons, List.drop_left' rfl]
    rw [decide_eq_false (show ¬ ((c : Nat) : Int) + (((ex (rn zs) k).length : Nat) : Int) ≤ ((a : Nat) : Int) by omega)]
    refine iteF ?_
    refine ⟨_, rfl, _, _, rfl, rfl, _, rfl, ?_⟩
    by_cases hks : k ≤ 255
    · rw [decide_eq_true (show ((k : Nat) : Int) ≤ 255 by omega)]
      refine iteT ?_
      have elow := ex_low (rs := rn zs) (k := k) (by omega)
      rw [exs_cons, elow] at hdr
      rw [elow] at hsk
      have hsk' : ¬ c + 1 ≤ a := hsk
      have hcx : full[c]? = some (k : Int) := by
        have := congrArg (fun l : List Int => l[0]?) hdr
        rw [List.getElem?_drop] at this
        exact this
      refine ⟨_, rfl, .inl ⟨rfl, _, SqL.of hT5⟩, _, rfl, T, _, _, rfl, rfl, hT5, fits_lt (by rw [List.length_map, List.length_drop, List.length_take]; omega), ?_⟩
      refine ⟨_, rfl, _, _, rfl, rfl, ?_⟩
      refine ⟨gms (rn zs) r, by rw [gms_cons]; omega, r, c + 1, _, _, rfl, rfl, by rw [upd_ne hnTF.symm]; exact hF5, by rw [upd_ne hnLT]; exact hL5, ?_, ?_, hsr, hst.2, by omega, same_upd sm5 _ hTH⟩
      · rw [upd_same, lsI_app1, take_at hcx, List.drop_append_of_le_length (by rw [List.length_take]; omega)]
      · rw [← List.drop_drop, hdr]; rfl
    rw [decide_eq_false (show ¬ ((k : Nat) : Int) ≤ 255 by omega)]
    refine iteF ?_
    obtain ⟨z, hz⟩ : ∃ z, zs[k - 256]? = some z := ⟨_, List.getElem?_eq_getElem (by omega)⟩
    have hg := gr _ z hz
    have pr5 := pr.same sm5
    have hz5 := pr5.each z (List.mem_of_getElem? hz)
    refine ⟨_, rfl, _, rfl, _, _, rfl, rfl, p, _, ((k - 256 : Nat) : Int), _, rfl, congrArg V.int (by omega), SqL.of pr5.at_, atI_nat (by rw [List.getElem?_map, hz]; rfl), ?_⟩
    refine ⟨_, rfl, .inl ⟨rfl, _, SqL.of hF5⟩, _, rfl, z.1, _, _, _, rfl, rfl, SqT.of hz5, rfl, _, rfl, z.1, _, _, _, rfl, rfl, SqT.of hz5, rfl, (by show 2 ≤ sizeLine; decide), fun l hl => ?_⟩
    have u6 := same_new hl (.lst [V.int z.2.2, V.int z.2.1])
    have hlen := hst.len
    rw [List.length_cons] at hlen
    refine ⟨F, l, _, _, rfl, rfl, u6 _ _ hF5, upd_same, fits (by rw [List.length_map, List.length_map, List.length_reverse]; show _ + 2 ≤ _; omega), ?_⟩
    have hr1 : (rn zs)[k - 256]? = some (z.2.1.toNat, z.2.2.toNat) := by unfold rn; rw [List.getElem?_map, hz]; rfl
    have sp := gms_split hok hr1 r
    rw [show 256 + (k - 256) = k by omega] at sp
    have hlF : ∀ X : Addr, X ≠ F → ∀ o, H5 X = some o → upd (upd H5 l (.lst [V.int z.2.2, V.int z.2.1])) F (.lst ((r.reverse.map fun k : Nat => (k : Int)).map V.int ++ [V.int z.2.2, V.int z.2.1])) X = some o := fun X hX o h => by
      rw [upd_ne hX]
      exact u6 _ _ h
    refine ⟨gms (rn zs) (z.2.1.toNat :: z.2.2.toNat :: r), sp.1, z.2.1.toNat :: z.2.2.toNat :: r, c, _, _, rfl, rfl, ?_, hlF L hnLF _ hL5, hlF T hnTF _ hT5, by rw [hdr]; exact sp.2.symm, ?_, hst.split (by omega) (by omega), hcb, same_upd (sm5.trans u6) _ hFH⟩
    · rw [upd_same]
      unfold lsI
      rw [List.reverse_cons, List.reverse_cons, List.map_append, List.map_append, List.map_append, List.map_append, List.append_assoc]
      show some (HO.lst (_ ++ [V.int z.2.2, V.int z.2.1])) = some (HO.lst (_ ++ [V.int ((z.2.2.toNat : Nat) : Int), V.int ((z.2.1.toNat : Nat) : Int)]))
      rw [show ((z.2.2.toNat : Nat) : Int) = z.2.2 by omega, show ((z.2.1.toNat : Nat) : Int) = z.2.1 by omega]
    · intro x hx
      rcases List.mem_cons.mp hx with e | hx
      · omega
      · rcases List.mem_cons.mp hx with e | hx
        · omega
        · exact hsr x hx
end
end K42
set_option Elab.async false
set_option linter.all false
set_option maxRecDepth 100000
set_option maxHeartbeats 4000000
namespace K42
open PySem L2 PySem.W PH
section
variable {P : Program} {w : World} {K : PySem.W.Frag} {mg : Str → Option Value} {base : Heap}
theorem sc_nostr : FnScope ["first", "last", "length"] ["first", "last", "length"] (defScope s_nostr) := ⟨rfl, rfl, rfl, by decide +kernel, rfl, by decide +kernel, by decide +kernel⟩
theorem ok_nostr {f c_NoPlace : Addr} {fd : FuncData} (F : Fun K "refuse_no_stretch" "refuse_no_stretch" s_nostr f fd) (B : Bls mg) (X_NoPlace : Ex K mg "NoPlace" c_NoPlace) (m_NoPlace : mg "NoPlace" = some (.ref c_NoPlace)) : FnOk P w K mg base (CXW P w) 1 f fd ["first", "last", "length"] (spNoStr c_NoPlace) := by
  refine F.okX sc_nostr (fun vs H Q E h => ?_) (fun cdv A outer s H vs Q E hr h => ?_)
  · obtain ⟨a, b, n, rfl, _⟩ := h
    rfl
  · obtain ⟨a, b, n, rfl, hE, hQ⟩ := h
    refine ⟨_, (pss_one (ps_if (PW.pt (pw_or (pt_cmpR op_lt (pv 0) pe_int (nomark _)) (pw_or (pt_cmpR op_gt (pv 0) (pv 1) (nomark _)) (pw_or1 (pt_cmpR op_gt (pv 1) (pv 2) (nomark _))))))
        (pss_one (ps_raise PySem.F.excBase_ValueError X_NoPlace.ex X_NoPlace.mg rfl))
        pss_nil)), ?_⟩
    refine ⟨_, rfl, _, _, rfl, rfl, _, rfl, ?_⟩
    by_cases h0 : a < 0
    · rw [decide_eq_true h0]
      refine iteT (iteT ?_)
      exact hE (by omega)
    rw [decide_eq_false h0]
    refine iteF ?_
    refine ⟨_, rfl, _, rfl, _, _, rfl, rfl, _, rfl, ?_⟩
    by_cases h1 : b < a
    · rw [decide_eq_true h1]
      refine iteT (iteT ?_)
      exact hE (by omega)
    rw [decide_eq_false h1]
    refine iteF ?_
    refine ⟨_, rfl, _, rfl, _, _, rfl, rfl, _, rfl, ?_⟩
    by_cases h2 : n < b
    · rw [decide_eq_true h2]
      refine iteT ?_
      exact hE (by omega)
    rw [decide_eq_false h2]
    refine iteF ?_
    exact hQ (by omega)
theorem sc_gstr : FnScope ["rules", "row", "first", "last"] ["rules", "row", "first", "last"] (defScope s_gstr) := ⟨rfl, rfl, rfl, by decide +kernel, rfl, by decide +kernel, by decide +kernel⟩
theorem ok_gstr {f c_NoPlace f_glen f_between f_nostr : Addr} {fd d_glen d_between d_nostr : FuncData} (F : Fun K "grammar_stretch" "grammar_stretch" s_gstr f fd) (B : Bls mg) 
    (G_glen : FnOk P w K mg base (CXW P w) 6 f_glen d_glen ["rules", "row"] (spGLen)) (b_glen : Binds K d_glen ["rules", "row"] []) (k_glen : keepIn K (.ref f_glen) = true) (m_glen : mg "grammar_length" = some (.ref f_glen)) 
    (G_between : FnOk P w K mg base (CXW P w) 2 f_between d_between ["rules", "row", "first", "last"] (spBetween)) (b_between : Binds K d_between ["rules", "row", "first", "last"] []) (k_between : keepIn K (.ref f_between) = true) (m_between : mg "signs_between" = some (.ref f_between)) 
    (G_nostr : FnOk P w K mg base (CXW P w) 1 f_nostr d_nostr ["first", "last", "length"] (spNoStr c_NoPlace)) (b_nostr : Binds K d_nostr ["first", "last", "length"] []) (k_nostr : keepIn K (.ref f_nostr) = true) (m_nostr : mg "refuse_no_stretch" = some (.ref f_nostr)) : FnOk P w K mg base (CXW P w) 7 f fd ["rules", "row", "first", "last"] (spGStr c_NoPlace) := by
  refine F.okX sc_gstr (fun vs H Q E h => ?_) (fun cdv A outer s H vs Q E hr h => ?_)
  · obtain ⟨p, q, zs, row, a, b, rfl, _⟩ := h
    rfl
  · obtain ⟨p, q, zs, row, a, b, rfl, pr, gr, hq, hrw, hzl, hrl, hE, hQ⟩ := h
    refine ⟨_, (pss_cons (ps_expr (pe_call G_nostr (hr.mono (show 1 ≤ 6 by decide)) rfl m_nostr k_nostr b_nostr .nil passW (pa_cons (pv 2) (pa_cons (pv 3) (pa_cons (pe_call G_glen hr rfl m_glen k_glen b_glen .nil passW (pa_cons (pv 0) (pa_cons (pv 1) pa_nil))) pa_nil)))))
      (pss_one (ps_ret (pe_call G_between (hr.mono (show 2 ≤ 6 by decide)) rfl m_between k_between b_between .nil passW (pa_cons (pv 0) (pa_cons (pv 1) (pa_cons (pv 2) (pa_cons (pv 3) pa_nil)))))))), ?_⟩
    refine ⟨_, rfl, _, rfl, _, rfl, _, rfl, p, q, zs, row, rfl, pr, gr, hq, hrw, hzl, hrl, fun H1 s1 => ?_⟩
    refine ⟨a, b, _, rfl, (fun hno => hE hno H1 s1), fun hok => ?_⟩
    obtain ⟨hb, hQ⟩ := hQ hok
    obtain ⟨A, eA⟩ : ∃ A : Nat, a = (A : Int) := ⟨a.toNat, by omega⟩
    obtain ⟨B, eB⟩ : ∃ B : Nat, b = (B : Int) := ⟨b.toNat, by omega⟩
    subst eA eB
    refine ⟨_, rfl, _, rfl, _, rfl, _, rfl, p, q, zs, row, A, B, rfl, pr.same s1, gr, s1 _ _ hq, hrw, hzl, hrl, by omega, by omega, by omega, fun D H2 s2 hD hD2 => ?_⟩
    rw [Int.toNat_natCast, Int.toNat_natCast] at hQ
    exact hQ D H2 (s1.trans s2) (s1.free hD) hD2
end
end K42
set_option Elab.async false
set_option linter.all false
set_option maxRecDepth 100000
set_option maxHeartbeats 4000000
namespace K42
open PySem L2 PySem.W PH
section
variable {P : Program} {w : World} {K : PySem.W.Frag} {mg : Str → Option Value} {base : Heap}
theorem sc_gtext : FnScope ["rules", "row", "length"] ["rules", "row"] (defScope s_gtext) := ⟨rfl, rfl, rfl, by decide +kernel, rfl, by decide +kernel, by decide +kernel⟩
theorem ok_gtext {f c_Broken f_glen f_between : Addr} {fd d_glen d_between : FuncData} (F : Fun K "grammar_text" "grammar_text" s_gtext f fd) (B : Bls mg) (X_Broken : Ex K mg "Broken" c_Broken) (m_Broken : mg "Broken" = some (.ref c_Broken)) (m_MS : MSg mg) 
    (G_glen : FnOk P w K mg base (CXW P w) 6 f_glen d_glen ["rules", "row"] (spGLen)) (b_glen : Binds K d_glen ["rules", "row"] []) (k_glen : keepIn K (.ref f_glen) = true) (m_glen : mg "grammar_length" = some (.ref f_glen)) 
    (G_between : FnOk P w K mg base (CXW P w) 2 f_between d_between ["rules", "row", "first", "last"] (spBetween)) (b_between : Binds K d_between ["rules", "row", "first", "last"] []) (k_between : keepIn K (.ref f_between) = true) (m_between : mg "signs_between" = some (.ref f_between)) : FnOk P w K mg base (CXW P w) 7 f fd ["rules", "row"] (spGText c_Broken) := by
  refine F.okX sc_gtext (fun vs H Q E h => ?_) (fun cdv A outer s H vs Q E hr h => ?_)
  · obtain ⟨p, q, zs, row, rfl, _⟩ := h
    rfl
  · obtain ⟨p, q, zs, row, rfl, pr, gr, hq, hrw, hzl, hrl, hE, hQ⟩ := h
    obtain ⟨u_MS, m_s, r_s⟩ := m_MS
    refine ⟨_, (pss_cons (ps_set (i := 2) sc_gtext.nd rfl (Or.inl rfl) (pe_call G_glen hr rfl m_glen k_glen b_glen .nil passW (pa_cons (pv 0) (pa_cons (pv 1) pa_nil))))
      (pss_cons (ps_if (pt_cmpR op_gt (pv 2) (pe_glob (v := .int 400) rfl m_s r_s) (nomark _))
        (pss_one (ps_raise PySem.F.excBase_ValueError X_Broken.ex X_Broken.mg rfl))
        pss_nil)
      (pss_one (ps_ret (pe_call G_between (hr.mono (show 2 ≤ 6 by decide)) rfl m_between k_between b_between .nil passW (pa_cons (pv 0) (pa_cons (pv 1) (pa_cons pe_int (pa_cons (pv 2) pa_nil))))))))), ?_⟩
    refine ⟨_, rfl, _, rfl, p, q, zs, row, rfl, pr, gr, hq, hrw, hzl, hrl, fun H1 s1 => ?_⟩
    refine ⟨_, rfl, _, _, rfl, rfl, _, rfl, ?_⟩
    by_cases h4 : 400 < (exs (rn zs) (rwN row)).length
    · rw [decide_eq_true (show (400 : Int) < (((exs (rn zs) (rwN row)).length : Nat) : Int) by omega)]
      refine iteT ?_
      exact hE h4 H1 s1
    rw [decide_eq_false (show ¬ (400 : Int) < (((exs (rn zs) (rwN row)).length : Nat) : Int) by omega)]
    refine iteF ?_
    refine ⟨_, rfl, _, rfl, _, rfl, p, q, zs, row, 0, (exs (rn zs) (rwN row)).length, rfl, pr.same s1, gr, s1 _ _ hq, hrw, hzl, hrl, Nat.zero_le _, Nat.le_refl _, by omega, fun D H2 s2 hD hD2 => ?_⟩
    rw [List.take_length, List.drop_zero] at hD2
    exact hQ (by omega) D H2 (s1.trans s2) (s1.free hD) hD2
end
end K42
set_option Elab.async false
set_option linter.all false
set_option maxRecDepth 100000
set_option maxHeartbeats 4000000
namespace K42
open PySem L2 PySem.W PH
section
variable {P : Program} {w : World} {K : PySem.W.Frag} {mg : Str → Option Value} {base : Heap}
theorem sc_times : FnScope ["text", "word", "many"] ["text", "word"] (defScope s_times) := ⟨rfl, rfl, rfl, by decide +kernel, rfl, by decide +kernel, by decide +kernel⟩
theorem ok_times {f : Addr} {fd : FuncData} (F : Fun K "times_in" "times_in" s_times f fd) (B : Bls mg) (n_sum : mg "sum" = none) : FnOk P w K mg base (CXW P w) 1 f fd ["text", "word"] (spTimes) := by
  refine F.okN sc_times (fun vs H Q E h => ?_) (fun cdv A outer s H vs Q E hr h => ?_)
  · obtain ⟨T, Wd, t, w, rfl, _⟩ := h
    rfl
  · obtain ⟨T, Wd, t, w, rfl, ht, hw, hw1, hw2, htl, hQ⟩ := h
    refine ⟨_, (pss_cons (ps_set (i := 2) sc_times.nd rfl (Or.inr rfl) (pe_callB call_len_seq rfl B.len PySem.boot_len (pa_cons (pv 1) pa_nil)))
      (pss_one (ps_ret (pe_callB (call_sum rfl) rfl n_sum boot_sum' (pa_cons (pe_comp (N := ["at", "text", "many", "word"]) (js := [none, some 0, some 2, some 1]) (g := (gName 0)) (tc := (tTest (tOp (rEqI K) (tSl (rSlL K) (tVar 1) (tPart (tVar 0)) (tPart (tOp (rI0 fun i j => .int (i + j)) (tVar 0) (tVar 2)))) (tVar 3)))) (te := (tC (.int 1))) rfl (comp_scope (osc := defScope s_times) (XN := ["text", "word", "many"]) rfl rfl rfl (by decide +kernel)) (pi_range1 rfl B.range (pa_cons (pe_op op_add (pe_op op_sub (pe_callB call_len_seq rfl B.len PySem.boot_len (pa_cons (pv 0) pa_nil)) (pv 2)) pe_int) pa_nil)) (fun _ _ _ _ => pg_name (i := 0) (show (["at", "text", "many", "word"] : List Str).Nodup by decide +kernel) rfl (Or.inl rfl)) (fun _ _ _ _ => (pif_one (pt_cmpR (op_eqL (units_of hr)) (pe_slice sl_list (pv 1) (po_some (pv 0)) (po_some (pe_op op_add (pv 0) (pv 2)))) (pv 3) (nomark _)))) (fun _ _ _ _ => pe_int)) pa_nil))))), ?_⟩
    refine ⟨_, rfl, Wd, _, rfl, .inl (SqL.of hw), ?_⟩
    refine gNz (v' := V.int (w.length : Nat)) (by rw [List.length_map]) ?_
    refine ⟨_, rfl, T, _, rfl, .inl (SqL.of ht), _, rfl, _, _, rfl, rfl, _, _, rfl, rfl, ((t.length : Nat) : Int) - (w.length : Nat) + 1, by rw [List.length_map], by omega, by omega, fun D hD => ?_⟩
    rw [show (((t.length : Nat) : Int) - (w.length : Nat) + 1).toNat = t.length + 1 - w.length by omega]
    refine comp_rngQ (fun i σ' H' => ∃ (v0 : Option V), σ' = [v0, some (.ref T), some (.int (w.length : Nat)), some (.ref Wd)] ∧ H' D = some (lsI (List.replicate (ctw w t i) 1)) ∧ Same H H')
      ⟨none, rfl, upd_same, same_new hD _⟩ ?_ ?_
    · rintro i σ' H' hi ⟨v0, rfl, hD', sm⟩
      rw [Int.zero_add]
      refine ⟨_, rfl, _, rfl, _, rfl, _, rfl, _, rfl, _, _, rfl, rfl, _, rfl, T, _, rfl, SqL.of (sm _ _ ht), fun q hq => ?_⟩
      try simp only []
      rw [cut_step']
      have u := same_new hq (lsI ((t.drop i).take w.length))
      have hq' : upd H' q (lsI ((t.drop i).take w.length)) q = some (lsI ((t.drop i).take w.length)) := upd_same
      generalize upd H' q (lsI ((t.drop i).take w.length)) = H2 at u hq' ⊢
      refine ⟨_, rfl, q, Wd, _, _, rfl, rfl, SqL.of hq', SqL.of (u _ _ (sm _ _ hw)), _, rfl, ?_⟩
      have hcl := ctw_le w t i
      by_cases hm : (t.drop i).take w.length = w
      · rw [decide_eq_true hm]
        refine iteT ?_
        refine ⟨D, _, _, rfl, rfl, u _ _ hD', fits_lt (by rw [List.length_map, List.length_replicate]; omega), ?_⟩
        refine CW.next hi ⟨_, rfl, ?_, same_upd (sm.trans u) _ hD⟩
        rw [upd_same, lsI_app1, ctw_yes hm, List.replicate_succ']
      · rw [decide_eq_false hm]
        refine iteF ?_
        exact CW.next hi ⟨_, rfl, by rw [ctw_no hm]; exact u _ _ hD', sm.trans u⟩
    rintro σ' H1 ⟨v0, rfl, hD1, sm⟩
    rw [ctw_all hw1] at hD1
    refine ⟨D, _, rfl, SqL.of hD1, ?_⟩
    rw [sum_ones]
    exact hQ H1 sm
end
end K42
set_option Elab.async false
set_option linter.all false
set_option maxRecDepth 100000
set_option maxHeartbeats 4000000
namespace K42
open PySem L2 PySem.W PH
section
variable {P : Program} {w : World} {K : PySem.W.Frag} {mg : Str → Option Value} {base : Heap}
theorem sc_psign : FnScope ["sign", "word", "ends"] ["sign", "word"] (defScope s_psign) := ⟨rfl, rfl, rfl, by decide +kernel, rfl, by decide +kernel, by decide +kernel⟩
theorem ok_psign {f : Addr} {fd : FuncData} (F : Fun K "part_of_sign" "part_of_sign" s_psign f fd) (B : Bls mg) : FnOk P w K mg base (CXW P w) 1 f fd ["sign", "word"] (spPSign) := by
  refine F.okN sc_psign (fun vs H Q E h => ?_) (fun cdv A outer s H vs Q E hr h => ?_)
  · obtain ⟨x, Wd, w, rfl, _⟩ := h
    rfl
  · obtain ⟨x, Wd, w, rfl, hw, hw1', hw2, hQ⟩ := h
    refine ⟨_, (pss_cons (ps_set (i := 2) sc_psign.nd rfl (Or.inl rfl) (pe_slice sl_list (pe_lst (pa_cons (pv 0) pa_nil)) po_none (po_some (pe_op op_sub (pe_callB call_len_seq rfl B.len PySem.boot_len (pa_cons (pv 1) pa_nil)) pe_int))))
      (pss_one (ps_ret (pe_tup (pa_cons (pe_ifExp (pt_cmpR (op_eqL (units_of hr)) (pv 1) (pe_lst (pa_cons (pv 0) pa_nil)) (nomark _)) pe_int pe_int) (pa_cons (pv 2) (pa_cons (pv 2) pa_nil))))))), ?_⟩
    refine ⟨_, rfl, (by show 1 ≤ sizeLine; decide), fun l hl => ?_⟩
    have u1 := same_new hl (.lst [V.int x])
    have hl1 : upd H l (.lst [V.int x]) l = some (lsI [x]) := upd_same
    generalize upd H l (.lst [V.int x]) = H1 at u1 hl1 ⊢
    have hw1 := u1 _ _ hw
    refine ⟨_, rfl, Wd, _, rfl, .inl (SqL.of hw1), _, _, rfl, rfl, _, rfl, l, _, rfl, SqL.of hl1, fun q hq => ?_⟩
    have ec : HO.lst (cutV ([x].map V.int) none (some (((w.map V.int).length : Int) - 1))) = lsI (hdw w [x]) := by
      rw [List.length_map, show ((w.length : Nat) : Int) - 1 = ((w.length - 1 : Nat) : Int) by omega, cut_to']
      rfl
    try simp only []
    rw [ec]
    have hqH : H q = none := u1.free hq
    have u2 := u1.trans (same_new hq (lsI (hdw w [x])))
    have hq2 : upd H1 q (lsI (hdw w [x])) q = some (lsI (hdw w [x])) := upd_same
    generalize upd H1 q (lsI (hdw w [x])) = H2 at u2 hq2 ⊢
    refine ⟨_, rfl, _, rfl, (by show 1 ≤ sizeLine; decide), fun l2 hl2 => ?_⟩
    have u3 := same_new hl2 (.lst [V.int x])
    have hl3 : upd H2 l2 (.lst [V.int x]) l2 = some (lsI [x]) := upd_same
    generalize upd H2 l2 (.lst [V.int x]) = H3 at u3 hl3 ⊢
    have s3 := u2.trans u3
    have hq3 := u3 _ _ hq2
    refine ⟨Wd, l2, _, _, rfl, rfl, SqL.of (s3 _ _ hw), SqL.of hl3, _, rfl, ?_⟩
    have c1 := cnt_one hw1' x
    by_cases hm : w = [x]
    · rw [decide_eq_true hm]
      refine iteT ?_
      rw [if_pos hm] at c1
      refine ⟨_, rfl, _, rfl, (by show 3 ≤ sizeLine; decide), fun a ha => ?_⟩
      have u4 := same_new ha (.tup [V.int 1, V.ref q, V.ref q])
      exact hQ a q q _ (s3.trans u4) hqH hqH (by rw [upd_same, c1]; rfl) (u4 _ _ hq3) (by rw [tl_hd_one]; exact u4 _ _ hq3)
    · rw [decide_eq_false hm]
      refine iteF ?_
      rw [if_neg hm] at c1
      refine ⟨_, rfl, _, rfl, (by show 3 ≤ sizeLine; decide), fun a ha => ?_⟩
      have u4 := same_new ha (.tup [V.int 0, V.ref q, V.ref q])
      exact hQ a q q _ (s3.trans u4) hqH hqH (by rw [upd_same, c1]; rfl) (u4 _ _ hq3) (by rw [tl_hd_one]; exact u4 _ _ hq3)
end
end K42
set_option Elab.async false
set_option linter.all false
set_option maxRecDepth 100000
set_option maxHeartbeats 4000000
namespace K42
open PySem L2 PySem.W PH
section
variable {P : Program} {w : World} {K : PySem.W.Frag} {mg : Str → Option Value} {base : Heap}
theorem sc_pboth : FnScope ["one", "two", "word", "most", "times", "head", "tail"] ["one", "two", "word"] (defScope s_pboth) := ⟨rfl, rfl, rfl, by decide +kernel, rfl, by decide +kernel, by decide +kernel⟩
theorem ok_pboth {f f_times : Addr} {fd d_times : FuncData} (F : Fun K "part_of_both" "part_of_both" s_pboth f fd) (B : Bls mg) 
    (G_times : FnOk P w K mg base (CXW P w) 1 f_times d_times ["text", "word"] (spTimes)) (b_times : Binds K d_times ["text", "word"] []) (k_times : keepIn K (.ref f_times) = true) (m_times : mg "times_in" = some (.ref f_times)) : FnOk P w K mg base (CXW P w) 2 f fd ["one", "two", "word"] (spPBoth) := by
  refine F.okN sc_pboth (fun vs H Q E h => ?_) (fun cdv A outer s H vs Q E hr h => ?_)
  · obtain ⟨o, p, Wd, w, t, u, rfl, _⟩ := h
    rfl
  · obtain ⟨o, p, Wd, w, t, u, rfl, po, pp, hw, hw1, hw2, hQ⟩ := h
    refine ⟨_, (pss_cons (ps_set (i := 3) sc_pboth.nd rfl (Or.inl rfl) (pe_op op_sub (pe_callB call_len_seq rfl B.len PySem.boot_len (pa_cons (pv 2) pa_nil)) pe_int))
      (pss_cons (ps_set (i := 4) sc_pboth.nd rfl (Or.inl rfl) (pe_op op_add (pe_op op_add (pe_ix ix_tup (pv 0) pe_int (fun _ _ => rfl)) (pe_ix ix_tup (pv 1) pe_int (fun _ _ => rfl))) (pe_call G_times hr rfl m_times k_times b_times .nil passN (pa_cons (pe_op op_cat (pe_ix ix_tup (pv 0) pe_int (fun _ _ => rfl)) (pe_ix ix_tup (pv 1) pe_int (fun _ _ => rfl))) (pa_cons (pv 2) pa_nil)))))
      (pss_cons (ps_set (i := 5) sc_pboth.nd rfl (Or.inl rfl) (pe_op op_cat (pe_ix ix_tup (pv 0) pe_int (fun _ _ => rfl)) (pe_ix ix_tup (pv 1) pe_int (fun _ _ => rfl))))
      (pss_cons (ps_set (i := 6) sc_pboth.nd rfl (Or.inl rfl) (pe_op op_cat (pe_ix ix_tup (pv 0) pe_int (fun _ _ => rfl)) (pe_ix ix_tup (pv 1) pe_int (fun _ _ => rfl))))
      (pss_one (ps_ret (pe_tup (pa_cons (pv 4) (pa_cons (pe_slice sl_list (pv 5) po_none (po_some (pv 3))) (pa_cons (pe_slice sl_list (pv 6) (po_some (pe_callB (call_max2 rfl) rfl B.max boot_max' (pa_cons (pe_op op_sub (pe_callB call_len_seq rfl B.len PySem.boot_len (pa_cons (pv 6) pa_nil)) (pv 3)) (pa_cons pe_int pa_nil)))) po_none) pa_nil)))))))))), ?_⟩
    obtain ⟨o1, o2, eo, eo1, eo2⟩ := po
    obtain ⟨p1, p2, ep, ep1, ep2⟩ := pp
    have l1 := hdw_len w t
    have l2 := tlw_len w t
    have l3 := hdw_len w u
    have l4 := tlw_len w u
    refine ⟨_, rfl, Wd, _, rfl, .inl (SqL.of hw), _, _, rfl, rfl, ?_⟩
    refine gNz (v' := V.int ((w.length - 1 : Nat) : Int)) (congrArg V.int (by rw [List.length_map]; omega)) ?_
    refine ⟨_, rfl, o, _, _, _, rfl, rfl, SqT.of eo, rfl, _, rfl, p, _, _, _, rfl, rfl, SqT.of ep, rfl, _, _, rfl, rfl, _, rfl, o, _, _, _, rfl, rfl, SqT.of eo, rfl, _, rfl, p, _, _, _, rfl, rfl, SqT.of ep, rfl, o2, p1, _, _, rfl, rfl, eo2, ep1, fits (by rw [List.length_map, List.length_map]; omega), fun q hq => ?_⟩
    rw [lsI_cat]
    have u1 := same_new hq (lsI (tlw w t ++ hdw w u))
    have hq1 : upd H q (lsI (tlw w t ++ hdw w u)) q = some (lsI (tlw w t ++ hdw w u)) := upd_same
    generalize upd H q (lsI (tlw w t ++ hdw w u)) = H1 at u1 hq1 ⊢
    refine ⟨_, rfl, q, Wd, tlw w t ++ hdw w u, w, rfl, hq1, u1 _ _ hw, hw1, hw2, by rw [List.length_append]; omega, fun H2 s2 => ?_⟩
    refine ⟨_, _, rfl, rfl, ?_⟩
    have cm := cnt_meet hw1 t u
    refine gNz (v' := V.int (cnt w (t ++ u) : Nat)) (congrArg V.int (by rw [cm]; omega)) ?_
    have s12 := u1.trans s2
    have eo' := s12 _ _ eo
    have ep' := s12 _ _ ep
    refine ⟨_, rfl, o, _, _, _, rfl, rfl, SqT.of eo', rfl, _, rfl, p, _, _, _, rfl, rfl, SqT.of ep', rfl, o1, p1, _, _, rfl, rfl, s12 _ _ eo1, s12 _ _ ep1, fits (by rw [List.length_map, List.length_map]; omega), fun A hA => ?_⟩
    rw [lsI_cat]
    have u3 := same_new hA (lsI (hdw w t ++ hdw w u))
    have hA3 : upd H2 A (lsI (hdw w t ++ hdw w u)) A = some (lsI (hdw w t ++ hdw w u)) := upd_same
    generalize upd H2 A (lsI (hdw w t ++ hdw w u)) = H3 at u3 hA3 ⊢
    have s13 := s12.trans u3
    refine ⟨_, rfl, o, _, _, _, rfl, rfl, SqT.of (s13 _ _ eo), rfl, _, rfl, p, _, _, _, rfl, rfl, SqT.of (s13 _ _ ep), rfl, o2, p2, _, _, rfl, rfl, s13 _ _ eo2, s13 _ _ ep2, fits (by rw [List.length_map, List.length_map]; omega), fun B hB => ?_⟩
    rw [lsI_cat]
    have u4 := same_new hB (lsI (tlw w t ++ tlw w u))
    have hB4 : upd H3 B (lsI (tlw w t ++ tlw w u)) B = some (lsI (tlw w t ++ tlw w u)) := upd_same
    generalize upd H3 B (lsI (tlw w t ++ tlw w u)) = H4 at u4 hB4 ⊢
    have hA4 := u4 _ _ hA3
    have s14 := s13.trans u4
    refine ⟨_, rfl, _, rfl, _, rfl, _, rfl, A, _, rfl, SqL.of hA4, fun q5 hq5 => ?_⟩
    rw [cut_to', ← hdw_app]
    have u5 := same_new hq5 (lsI (hdw w (t ++ u)))
    have hq55 : upd H4 q5 (lsI (hdw w (t ++ u))) q5 = some (lsI (hdw w (t ++ u))) := upd_same
    have hq5H : H q5 = none := s14.free hq5
    generalize upd H4 q5 (lsI (hdw w (t ++ u))) = H5 at u5 hq55 ⊢
    have hB5 := u5 _ _ hB4
    have s15 := s14.trans u5
    refine ⟨_, rfl, _, rfl, B, _, rfl, .inl (SqL.of hB5), _, rfl, _, _, rfl, rfl, _, _, rfl, _, rfl, B, _, rfl, SqL.of hB5, fun q6 hq6 => ?_⟩
    have ed : (if (0 : Int) > ((((tlw w t ++ tlw w u).map V.int).length : Nat) : Int) - ((w.length - 1 : Nat) : Int) then (0 : Int) else ((((tlw w t ++ tlw w u).map V.int).length : Nat) : Int) - ((w.length - 1 : Nat) : Int)) = (((tlw w t ++ tlw w u).length - (w.length - 1) : Nat) : Int) := by
      rw [List.length_map]
      split <;> omega
    try simp only []
    rw [ed, cut_from', ← tlw_app]
    have u6 := same_new hq6 (lsI (tlw w (t ++ u)))
    have hq66 : upd H5 q6 (lsI (tlw w (t ++ u))) q6 = some (lsI (tlw w (t ++ u))) := upd_same
    have hq6H : H q6 = none := s15.free hq6
    generalize upd H5 q6 (lsI (tlw w (t ++ u))) = H6 at u6 hq66 ⊢
    refine ⟨(by show 3 ≤ sizeLine; decide), fun a ha => ?_⟩
    have u7 := same_new ha (.tup [V.int (cnt w (t ++ u) : Nat), V.ref q5, V.ref q6])
    exact hQ a q5 q6 _ (s15.trans (u6.trans u7)) hq5H hq6H upd_same (u7 _ _ (u6 _ _ hq55)) (u7 _ _ hq66)
end
end K42
set_option Elab.async false
set_option linter.all false
set_option maxRecDepth 100000
set_option maxHeartbeats 4000000
namespace K42
open PySem L2 PySem.W PH
section
variable {P : Program} {w : World} {K : PySem.W.Frag} {mg : Str → Option Value} {base : Heap}
theorem sc_gcnt : FnScope ["rules", "row", "word", "length", "parts", "a", "b", "whole", "symbol"] ["rules", "row", "word"] (defScope s_gcnt) := ⟨rfl, rfl, rfl, by decide +kernel, rfl, by decide +kernel, by decide +kernel⟩
theorem ok_gcnt {f f_glen f_psign f_pboth : Addr} {fd d_glen d_psign d_pboth : FuncData} (F : Fun K "grammar_count" "grammar_count" s_gcnt f fd) (B : Bls mg) (m_FR : FRg mg) 
    (G_glen : FnOk P w K mg base (CXW P w) 6 f_glen d_glen ["rules", "row"] (spGLen)) (b_glen : Binds K d_glen ["rules", "row"] []) (k_glen : keepIn K (.ref f_glen) = true) (m_glen : mg "grammar_length" = some (.ref f_glen)) 
    (G_psign : FnOk P w K mg base (CXW P w) 1 f_psign d_psign ["sign", "word"] (spPSign)) (b_psign : Binds K d_psign ["sign", "word"] []) (k_psign : keepIn K (.ref f_psign) = true) (m_psign : mg "part_of_sign" = some (.ref f_psign)) 
    (G_pboth : FnOk P w K mg base (CXW P w) 2 f_pboth d_pboth ["one", "two", "word"] (spPBoth)) (b_pboth : Binds K d_pboth ["one", "two", "word"] []) (k_pboth : keepIn K (.ref f_pboth) = true) (m_pboth : mg "part_of_both" = some (.ref f_pboth)) : FnOk P w K mg base (CXW P w) 7 f fd ["rules", "row", "word"] (spGCnt) := by
  refine F.okN sc_gcnt (fun vs H Q E h => ?_) (fun cdv A outer s H vs Q E hr h => ?_)
  · obtain ⟨p, q, Wd, zs, row, w, rfl, _⟩ := h
    rfl
  · obtain ⟨p, q, Wd, zs, row, w, rfl, pr, gr, hq, hrw, hzl, hrl, hw, hwl, hwm, hQ⟩ := h
    obtain ⟨u_FR, m_v, r_v⟩ := m_FR
    refine ⟨_, (pss_cons (ps_set (i := 3) sc_gcnt.nd rfl (Or.inl rfl) (pe_call G_glen hr rfl m_glen k_glen b_glen .nil passN (pa_cons (pv 0) (pa_cons (pv 1) pa_nil))))
      (pss_cons (ps_if (pt_cmpR op_eq (pe_callB call_len_seq rfl B.len PySem.boot_len (pa_cons (pv 2) pa_nil)) pe_int (nomark _))
        (pss_one (ps_ret (pe_op op_add (pv 3) pe_int)))
        pss_nil)
      (pss_cons (ps_setC (iy := 4) (N := ["sign", "word"]) (js := [none, some 2]) (g := (gName 0)) (tc := tTrue) (te := (tCall (spPSign) [] E0 (tCons (tVar 0) (tCons (tVar 1) tNil)))) sc_gcnt.nd rfl rfl rfl (comp_scope (osc := defScope s_gcnt) (XN := ["rules", "row", "word", "length", "parts", "a", "b", "whole", "symbol"]) rfl rfl rfl (by decide +kernel)) (pi_range1 rfl B.range (pa_cons (pe_glob (v := .int 256) rfl m_v r_v) pa_nil)) (fun _ _ _ _ => pg_name (i := 0) (show (["sign", "word"] : List Str).Nodup by decide +kernel) rfl (Or.inl rfl)) (fun _ _ _ _ => pif_nil) (fun _ _ _ _ => (pe_call G_psign (hr.mono (show 1 ≤ 6 by decide)) rfl m_psign k_psign b_psign .nil passN (pa_cons (pv 0) (pa_cons (pv 1) pa_nil)))))
      (pss_cons (ps_for PassesOwn.never rfl (pi_list (pv 0)) (pg_tup rfl (pgs_cons (pg_name (i := 5) sc_gcnt.nd rfl (Or.inl rfl)) (pgs_cons (pg_name (i := 6) sc_gcnt.nd rfl (Or.inl rfl)) pgs_nil)))
        (pss_one (ps_expr (pe_bm PySem.F.plainAttrs_list PySem.F.slot_list_append PySem.F.type_list_append mt_append (pv 4) (pa_cons (pe_call G_pboth (hr.mono (show 2 ≤ 6 by decide)) rfl m_pboth k_pboth b_pboth .nil passN (pa_cons (pe_ix ix_list (pv 4) (pv 5) (fun _ _ => rfl)) (pa_cons (pe_ix ix_list (pv 4) (pv 6) (fun _ _ => rfl)) (pa_cons (pv 2) pa_nil)))) pa_nil)))))
      (pss_cons (ps_set (i := 7) sc_gcnt.nd rfl (Or.inl rfl) (pe_tup (pa_cons pe_int (pa_cons (pe_lst pa_nil) (pa_cons (pe_lst pa_nil) pa_nil)))))
      (pss_cons (ps_for PassesOwn.never rfl (pi_list (pv 1)) (pg_name (i := 8) sc_gcnt.nd rfl (Or.inl rfl))
        (pss_one (ps_set (i := 7) sc_gcnt.nd rfl (Or.inl rfl) (pe_call G_pboth (hr.mono (show 2 ≤ 6 by decide)) rfl m_pboth k_pboth b_pboth .nil passN (pa_cons (pv 7) (pa_cons (pe_ix ix_list (pv 4) (pv 8) (fun _ _ => rfl)) (pa_cons (pv 2) pa_nil)))))))
      (pss_one (ps_ret (pe_ix ix_tup (pv 7) pe_int (fun _ _ => rfl)))))))))), ?_⟩
    refine ⟨_, rfl, _, rfl, p, q, zs, row, rfl, pr, gr, hq, hrw, hzl, hrl, fun H1 s1 => ?_⟩
    have hw1 := s1 _ _ hw
    refine ⟨_, rfl, Wd, _, rfl, .inl (SqL.of hw1), rfl, _, rfl, ?_⟩
    rw [decide_eq_false (show ¬ V.int ((w.map V.int).length : Nat) = V.int 0 from fun e => by have := V.int.inj e; rw [List.length_map] at this; omega)]
    refine iteF ?_
    refine ⟨256, rfl, by decide, by decide, fun X hX => ?_⟩
    have hXH : H X = none := s1.free hX
    refine comp_rngQ (fun i σ' H' => ∃ (v0 : Option V) (as : List Addr), σ' = [v0, some (.ref Wd)] ∧ as.length = i ∧ Pts H' X as w (fun k => [(k : Int)]) ∧ Same H1 H')
      ⟨none, [], rfl, rfl, Pts.nil upd_same, same_new hX _⟩ ?_ ?_
    · rintro i σ' H' hi ⟨v0, as, rfl, hal, pt, sm⟩
      have hi6 : i < 256 := hi
      rw [Int.zero_add]
      refine nameT ?_
      refine ⟨_, rfl, _, rfl, (i : Int), Wd, w, rfl, sm _ _ hw1, hwl, hwm, fun a h1 h2 H2 s2 n1 n2 ea e1 e2 => ?_⟩
      have pt2 := pt.same s2
      refine ⟨X, _, _, rfl, rfl, pt2.at_, fits_lt (by rw [List.length_map]; omega), ?_⟩
      exact CW.next hi ⟨_, as ++ [a], rfl, by rw [List.length_append, hal]; rfl, pt2.app ea e1 e2 (fun z => by rw [z, pt.at_] at n1; cases n1) (fun z => by rw [z, pt.at_] at n2; cases n2) (fun _ _ => rfl) (by rw [hal]), same_upd (sm.trans s2) _ hX⟩
    rintro σ' H2 ⟨v0, as0, rfl, hal0, pt0, sm2⟩
    have hal0' : as0.length = 256 := hal0
    have pt0' : Pts H2 X as0 w (ex (rn (zs.take 0))) := ⟨pt0.at_, fun j a e => by
      rw [ex_low (by have := (List.getElem?_eq_some_iff.mp e).1; omega)]
      exact pt0.each j a e⟩
    have s2 := s1.trans sm2
    refine ⟨_, rfl, p, rfl, ⟨_, SqL.of (s2 _ _ pr.at_)⟩, for_list (K := K) (a := p) (xs := zs.map fun z => V.ref z.1) (fun i σ H' => ∃ (v5 v6 : Option V) (as : List Addr), σ = [some (.ref p), some (.ref q), some (.ref Wd), some (.int ((exs (rn zs) (rwN row)).length : Nat)), some (.ref X), v5, v6, none, none] ∧ as.length = 256 + i ∧ Pts H' X as w (ex (rn (zs.take i))) ∧ Same H H')
      ⟨none, none, as0, rfl, by omega, pt0', s2⟩ (fun i σ H' _ ⟨_, _, _, _, _, _, e⟩ => SqL.of (e _ _ pr.at_)) ?_ ?_⟩
    · rintro i y σ H3 hi ⟨v5, v6, as, rfl, hal, pt, sm⟩
      obtain ⟨z, hz, rfl⟩ := ref_at hi
      have hil : i < zs.length := (List.getElem?_eq_some_iff.mp hz).1
      have hg := gr i z hz
      have hl : (rn (zs.take i)).length = i := by rw [rn_len, List.length_take]; omega
      obtain ⟨a1, ha1⟩ : ∃ a, as[z.2.1.toNat]? = some a := ⟨_, List.getElem?_eq_getElem (by omega)⟩
      obtain ⟨a2, ha2⟩ : ∃ a, as[z.2.2.toNat]? = some a := ⟨_, List.getElem?_eq_getElem (by omega)⟩
      refine ⟨z.1, _, rfl, SqT.of (sm _ _ (pr.each z (List.mem_of_getElem? hz))), rfl, _, _, rfl, _, _, rfl, rfl, ?_⟩
      refine ⟨_, rfl, .inl ⟨rfl, _, SqL.of pt.at_⟩, _, rfl, _, rfl, X, _, ((z.2.1.toNat : Nat) : Int), _, rfl, congrArg V.int (by omega), SqL.of pt.at_, at_refsA ha1, _, rfl, _, rfl, X, _, ((z.2.2.toNat : Nat) : Int), _, rfl, congrArg V.int (by omega), SqL.of pt.at_, at_refsA ha2, _, rfl, a1, a2, Wd, w, _, _, rfl, pt.part ha1, pt.part ha2, sm _ _ hw, hwl, hwm, fun a h1 h2 H4 s4 n1 n2 ea e1 e2 => ?_⟩
      have pt4 := pt.same s4
      refine ⟨X, _, _, rfl, rfl, pt4.at_, fits_lt (by rw [List.length_map]; omega), ?_⟩
      have er : rn (zs.take (i + 1)) = rn (zs.take i) ++ [(z.2.1.toNat, z.2.2.toNat)] := by rw [take_at hz]; unfold rn; rw [List.map_append]; rfl
      refine ⟨_, _, as ++ [a], rfl, by rw [List.length_append, hal]; rfl, pt4.app ea e1 e2 (fun z => by rw [z, pt.at_] at n1; cases n1) (fun z => by rw [z, pt.at_] at n2; cases n2) (fun j hj => by rw [er, ex_pre (by omega)]) ?_, same_upd (sm.trans s4) _ hXH⟩
      have := ex_new (rn (zs.take i)) (z.2.1.toNat, z.2.2.toNat)
      rw [hl] at this
      rw [hal, er]
      exact this
    rintro σ H3 ⟨v5, v6, as, rfl, hal, pt, sm⟩
    rw [List.length_map] at hal
    rw [List.length_map, List.take_length] at pt
    refine ⟨(by show 0 ≤ sizeLine; decide), fun b1 hb1 => ?_⟩
    have u1 := same_new hb1 (.lst [])
    have eb1 : upd H3 b1 (.lst []) b1 = some (lsI []) := upd_same
    generalize upd H3 b1 (.lst []) = H4 at u1 eb1 ⊢
    refine ⟨(by show 0 ≤ sizeLine; decide), fun b2 hb2 => ?_⟩
    have u2 := same_new hb2 (.lst [])
    have eb2 : upd H4 b2 (.lst []) b2 = some (lsI []) := upd_same
    generalize upd H4 b2 (.lst []) = H5 at u2 eb2 ⊢
    refine ⟨(by show 3 ≤ sizeLine; decide), fun w0 hw0 => ?_⟩
    have u3 := same_new hw0 (.tup [V.int 0, V.ref b1, V.ref b2])
    have ew0 : upd H5 w0 (.tup [V.int 0, V.ref b1, V.ref b2]) w0 = some (.tup [V.int 0, V.ref b1, V.ref b2]) := upd_same
    generalize upd H5 w0 (.tup [V.int 0, V.ref b1, V.ref b2]) = H6 at u3 ew0 ⊢
    have s36 := u1.trans (u2.trans u3)
    have pt6 := pt.same s36
    have sm6 := sm.trans s36
    have pw0 : PartA H6 w0 w (exs (rn zs) (rwN (row.take 0))) := ⟨b1, b2, ew0, by rw [(u2.trans u3) _ _ eb1, List.take_zero]; show some (lsI []) = some (lsI (hdw w [])); unfold hdw; rw [List.take_nil], by rw [u3 _ _ eb2, List.take_zero]; show some (lsI []) = some (lsI (tlw w [])); unfold tlw; rw [List.drop_nil]⟩
    refine ⟨_, rfl, q, rfl, ⟨_, SqL.of (sm6 _ _ hq)⟩, for_list (K := K) (a := q) (xs := row.map V.int) (fun i σ H' => ∃ (v8 : Option V) (wa : Addr), σ = [some (.ref p), some (.ref q), some (.ref Wd), some (.int ((exs (rn zs) (rwN row)).length : Nat)), some (.ref X), v5, v6, some (.ref wa), v8] ∧ PartA H' wa w (exs (rn zs) (rwN (row.take i))) ∧ Pts H' X as w (ex (rn zs)) ∧ Same H H')
      ⟨none, w0, rfl, pw0, pt6, sm6⟩ (fun i σ H' _ ⟨_, _, _, _, _, e⟩ => SqL.of (e _ _ hq)) ?_ ?_⟩
    · rintro i y σ H7 hi ⟨v8, wa, rfl, pw, pt7, sm7⟩
      obtain ⟨z, rfl, hz⟩ := int_at hi
      have hb := hrw.at hz
      obtain ⟨a1, ha1⟩ : ∃ a, as[z.toNat]? = some a := ⟨_, List.getElem?_eq_getElem (by omega)⟩
      refine ⟨_, rfl, _, rfl, _, rfl, X, _, ((z.toNat : Nat) : Int), _, rfl, congrArg V.int (by omega), SqL.of pt7.at_, at_refsA ha1, _, rfl, wa, a1, Wd, w, _, _, rfl, pw, pt7.part ha1, sm7 _ _ hw, hwl, hwm, fun a h1 h2 H8 s8 n1 n2 ea e1 e2 => ?_⟩
      exact ⟨_, a, rfl, by rw [exs_take hz]; exact ⟨h1, h2, ea, e1, e2⟩, pt7.same s8, sm7.trans s8⟩
    · rintro σ H7 ⟨v8, wa, rfl, pw, pt7, sm7⟩
      rw [List.length_map, List.take_length] at pw
      obtain ⟨h1, h2, ea, _, _⟩ := pw
      refine ⟨_, rfl, wa, _, _, _, rfl, rfl, SqT.of ea, rfl, ?_⟩
      exact hQ H7 sm7
end
end K42
set_option Elab.async false
set_option linter.all false
set_option maxRecDepth 100000
set_option maxHeartbeats 4000000
namespace K42
open PySem L2 PySem.W PH
section
variable {P : Program} {w : World} {K : PySem.W.Frag} {mg : Str → Option Value} {base : Heap}
theorem sc_pairt : FnScope ["row", "times", "behind", "at", "pair"] ["row"] (defScope s_pairt) := ⟨rfl, rfl, rfl, by decide +kernel, rfl, by decide +kernel, by decide +kernel⟩
theorem ok_pairt {f : Addr} {fd : FuncData} (F : Fun K "pair_times" "pair_times" s_pairt f fd) (B : Bls mg) : FnOk P w K mg base (CXW P w) 1 f fd ["row"] (spPairT) := by
  refine F.okN sc_pairt (fun vs H Q E h => ?_) (fun cdv A outer s H vs Q E hr h => ?_)
  · obtain ⟨p, row, rfl, _⟩ := h
    rfl
  · obtain ⟨p, row, rfl, hp, hl, hQ⟩ := h
    refine ⟨_, (pss_cons (ps_set (i := 1) sc_pairt.nd rfl (Or.inl rfl) pe_dnewT)
      (pss_cons (ps_set (i := 2) sc_pairt.nd rfl (Or.inl rfl) pe_dnewT)
      (pss_cons (ps_for PassesOwn.never rfl (pi_range1 rfl B.range (pa_cons (pe_op op_sub (pe_callB call_len_seq rfl B.len PySem.boot_len (pa_cons (pv 0) pa_nil)) pe_int) pa_nil)) (pg_name (i := 3) sc_pairt.nd rfl (Or.inl rfl))
        (pss_cons (ps_set (i := 4) sc_pairt.nd rfl (Or.inl rfl) (pe_tup (pa_cons (pe_ix ix_list (pv 0) (pv 3) (fun _ _ => rfl)) (pa_cons (pe_ix ix_list (pv 0) (pe_op op_add (pv 3) pe_int) (fun _ _ => rfl)) pa_nil))))
        (pss_one (ps_if (pt_cmpR op_le (pe_dget2 (hu_of hr) (pv 2) (pv 4) pe_int ⟨rfl, rfl, rfl, rfl⟩) (pv 3) (nomark _))
          (pss_cons (ps_dput (hu_of hr) (pv 1) (pv 4) (pe_op op_add (pe_dget2 (hu_of hr) (pv 1) (pv 4) pe_int ⟨rfl, rfl, rfl, rfl⟩) pe_int) rfl)
          (pss_one (ps_dput (hu_of hr) (pv 2) (pv 4) (pe_op op_add (pv 3) pe_int) rfl)))
          pss_nil))))
      (pss_one (ps_ret (pv 1)))))), ?_⟩
    intro Td hTd
    have s1 := same_new hTd (.dT [])
    have hT1 : upd H Td (.dT []) Td = some (.dT []) := upd_same
    generalize upd H Td (.dT []) = H1 at s1 hT1 ⊢
    intro Bd hBd
    have u2 := same_new hBd (.dT [])
    have hB2 : upd H1 Bd (.dT []) Bd = some (.dT []) := upd_same
    have hT2 := u2 _ _ hT1
    have hTB : Td ≠ Bd := fun e => by rw [e, hBd] at hT1; cases hT1
    have hBH : H Bd = none := s1.free hBd
    have s2 := s1.trans u2
    generalize upd H1 Bd (.dT []) = H2 at u2 s2 hB2 hT2 ⊢
    refine ⟨_, rfl, p, _, rfl, .inl (SqL.of (s2 _ _ hp)), _, _, rfl, rfl, ((row.length : Nat) : Int) - 1, by rw [List.length_map], by omega, by omega, ?_⟩
    rw [show (((row.length : Nat) : Int) - 1).toNat = row.length - 1 by omega]
    refine for_range (n := row.length - 1) (fun i σ H' => ∃ (kt kb : List (List Key × V)) (v3 v4 : Option V), σ = [some (.ref p), some (.ref Td), some (.ref Bd), v3, v4] ∧ H' Td = some (.dT kt) ∧ H' Bd = some (.dT kb) ∧ Tml row kt ∧ Tml row kb ∧ kt.length ≤ i ∧ kb.length ≤ i ∧ Same H H')
      ⟨[], [], none, none, rfl, hT2, hB2, (fun _ _ h => by cases h), (fun _ _ h => by cases h), Nat.le_refl _, Nat.le_refl _, s2⟩ ?_ ?_
    · rintro i σ H' hi ⟨kt, kb, v3, v4, rfl, hT, hB, tt, tb, lt, lb, sm⟩
      rw [Int.zero_add]
      obtain ⟨x, hx⟩ := bounded_at (l := row) (k := i) (by omega)
      obtain ⟨y, hy⟩ := bounded_at (l := row) (k := i + 1) (by omega)
      have hp' := sm _ _ hp
      refine ⟨_, rfl, _, rfl, p, _, _, _, rfl, rfl, SqL.of hp', at_intsZ hx, _, rfl, _, rfl, _, _, rfl, rfl, p, _, ((i + 1 : Nat) : Int), _, rfl, rfl, SqL.of hp', at_intsZ hy, (by show 2 ≤ sizeLine; decide), fun t ht => ?_⟩
      have u3 := same_new ht (.tup [V.int x, V.int y])
      have et : upd H' t (.tup [V.int x, V.int y]) t = some (.tup [V.int x, V.int y]) := upd_same
      generalize upd H' t (.tup [V.int x, V.int y]) = H3 at u3 et ⊢
      have sm3 := sm.trans u3
      have hT3 := u3 _ _ hT
      have hB3 := u3 _ _ hB
      obtain ⟨nb, enb⟩ := tb.get [.inl x, .inl y] 0
      refine ⟨_, rfl, Bd, rfl, .inr ⟨kb, .inl hB3⟩, _, rfl, _, DGet.t (k := [.inl x, .inl y]) hB3 et, _, rfl, nb, _, enb, rfl, _, rfl, ?_⟩
      by_cases hle : nb ≤ (i : Int)
      rotate_left
      · rw [decide_eq_false hle]
        refine iteF ?_
        exact ⟨kt, kb, _, _, rfl, hT3, hB3, tt, tb, by omega, by omega, sm3⟩
      rw [decide_eq_true hle]
      refine iteT ?_
      obtain ⟨nt, ent⟩ := tt.get [.inl x, .inl y] 0
      refine ⟨_, rfl, Td, rfl, .inr ⟨kt, .inl hT3⟩, _, rfl, _, DGet.t (k := [.inl x, .inl y]) hT3 et, nt, _, ent, rfl, _, rfl, _, rfl, Td, _, rfl, DPut.t (k := [.inl x, .inl y]) hT3 et (fits_lt (by omega)), ?_⟩
      have hnT : t ≠ Td := fun e => by rw [e] at et; rw [et] at hT3; cases hT3
      try simp only []
      have tt4' := tt.put hx hy (nt + 1)
      have lt4' := length_putK kt ([Sum.inl x, Sum.inl y] : List Key) (V.int (nt + 1))
      generalize putK kt ([Sum.inl x, Sum.inl y] : List Key) (V.int (nt + 1)) = kt' at tt4' lt4' ⊢
      have hT4 : upd H3 Td (.dT kt') Td = some (.dT kt') := upd_same
      have hB4 : upd H3 Td (.dT kt') Bd = some (.dT kb) := by rw [upd_ne (Ne.symm hTB)]; exact hB3
      have et4 : upd H3 Td (.dT kt') t = some (.tup [V.int x, V.int y]) := by rw [upd_ne hnT]; exact et
      have sm4 := same_upd sm3 (.dT kt') hTd
      generalize upd H3 Td (.dT kt') = H4 at hT4 hB4 et4 sm4 ⊢
      refine ⟨_, rfl, _, _, rfl, rfl, _, rfl, _, rfl, Bd, _, rfl, DPut.t (k := [.inl x, .inl y]) hB4 et4 (fits_lt (by omega)), ?_⟩
      exact ⟨kt', _, _, _, rfl, by rw [upd_ne hTB]; exact hT4, upd_same, tt4', tb.put hx hy _, by omega, Nat.le_trans (length_putK kb _ _) (by omega), same_upd sm4 _ hBH⟩
    · rintro σ H' ⟨kt, kb, v3, v4, rfl, hT, hB, tt, tb, lt, lb, sm⟩
      refine ⟨_, rfl, ?_⟩
      exact hQ Td kt H' sm hTd hT tt
end
end K42
set_option Elab.async false
set_option linter.all false
set_option maxRecDepth 100000
set_option maxHeartbeats 4000000
namespace K42
open PySem L2 PySem.W PH
section
variable {P : Program} {w : World} {K : PySem.W.Frag} {mg : Str → Option Value} {base : Heap}
theorem sc_most : FnScope ["times", "found", "pair"] ["times"] (defScope s_most) := ⟨rfl, rfl, rfl, by decide +kernel, rfl, by decide +kernel, by decide +kernel⟩
theorem ok_most {f : Addr} {fd : FuncData} (F : Fun K "most_frequent" "most_frequent" s_most f fd) (B : Bls mg) : FnOk P w K mg base (CXW P w) 1 f fd ["times"] (spMost) := by
  refine F.okN sc_most (fun vs H Q E h => ?_) (fun cdv A outer s H vs Q E hr h => ?_)
  · obtain ⟨d, row, kvs, rfl, _⟩ := h
    rfl
  · obtain ⟨d, row, kvs, rfl, hd, tm, hQ⟩ := h
    refine ⟨_, (pss_cons (ps_set (i := 1) sc_most.nd rfl (Or.inl rfl) pe_non)
      (pss_cons (ps_for PassesOwn.never rfl (pi_dictT (pv 0)) (pg_name (i := 2) sc_most.nd rfl (Or.inl rfl))
        (pss_one (ps_if (PW.pt (pw_and (pt_cmpR op_gt (pe_dget (hu_of hr) (pv 0) (pv 2) (fun _ _ => rfl)) pe_int (nomark _)) (pw_and1 (PW.pt (pw_or (pt_cmp (pc_isN (pv 1))) (pw_or1 (pt_cmpR op_gt (pe_dget (hu_of hr) (pv 0) (pv 2) (fun _ _ => rfl)) (pe_dget (hu_of hr) (pv 0) (pv 1) (fun _ _ => rfl)) (nomark _))))))))
          (pss_one (ps_set (i := 1) sc_most.nd rfl (Or.inl rfl) (pv 2)))
          pss_nil)))
      (pss_one (ps_ret (pv 1))))), ?_⟩
    refine ⟨_, rfl, d, kvs, rfl, hd, fun o => ?_⟩
    have kb0 : ∀ b u, b ≠ d → H b = some u → upd H d (.frz o (.dT kvs)) b = some u := fun b u hb e => by rw [upd_ne hb]; exact e
    have hf0 : upd H d (.frz o (.dT kvs)) d = some (.frz o (.dT kvs)) := upd_same
    generalize upd H d (.frz o (.dT kvs)) = H1 at kb0 hf0 ⊢
    refine for_dictT (a := d) (o := o) (kvs := kvs) (fun i σ H' => ∃ (f : V) (v2 : Option V), σ = [some (.ref d), some f, v2] ∧ H' = H1 ∧ (f = .non ∨ ∃ (t : Addr) (x y : Int) (j : Nat) (n : Int), f = .ref t ∧ H1 t = some (.tup [.int x, .int y]) ∧ row[j]? = some x ∧ row[j + 1]? = some y ∧ valV kvs [.inl x, .inl y] = some (.int n)))
      ⟨_, none, rfl, rfl, .inl rfl⟩ (fun i σ H' _ ⟨_, _, _, e, _⟩ => by rw [e]; exact hf0) ?_ ?_
    · rintro i k v b σ H' hi ⟨f, v2, rfl, rfl, hf⟩ hb
      obtain ⟨j, x, y, n, rfl, rfl, hx, hy⟩ := tm k v (List.mem_of_getElem? hi)
      obtain ⟨v', hv'⟩ := valV_has (List.mem_of_getElem? hi)
      obtain ⟨j', x', y', n', ek', rfl, _, _⟩ := tm _ _ (valV_mem hv')
      refine ⟨_, rfl, _, rfl, d, _, rfl, .inr ⟨kvs, [.inl x, .inl y], b, .inr ⟨o, hf0⟩, rfl, hb, hv'.symm⟩, _, _, rfl, rfl, _, rfl, ?_⟩
      by_cases h1 : (1 : Int) < n'
      rotate_left
      · rw [decide_eq_false h1]
        refine iteF (iteF ?_)
        exact ⟨f, _, rfl, rfl, hf⟩
      rw [decide_eq_true h1]
      refine iteT ?_
      rcases hf with rfl | ⟨t, x2, y2, j2, n2, rfl, ht, hx2, hy2, hv2⟩
      · refine ⟨_, rfl, _, rfl, ?_⟩
        refine iteT (iteT ?_)
        refine ⟨_, rfl, ?_⟩
        exact ⟨_, _, rfl, rfl, .inr ⟨b, x, y, j, n', rfl, hb, hx, hy, hv'⟩⟩
      · refine ⟨_, rfl, _, rfl, ?_⟩
        refine iteF ?_
        refine ⟨_, rfl, _, rfl, d, _, rfl, .inr ⟨kvs, [.inl x, .inl y], b, .inr ⟨o, hf0⟩, rfl, hb, hv'.symm⟩, _, rfl, _, rfl, d, _, rfl, .inr ⟨kvs, [.inl x2, .inl y2], t, .inr ⟨o, hf0⟩, rfl, ht, hv2.symm⟩, _, _, rfl, rfl, _, rfl, ?_⟩
        refine ite2 (fun _ => ?_) (fun _ => ?_)
        · refine ⟨_, rfl, ?_⟩
          exact ⟨_, _, rfl, rfl, .inr ⟨b, x, y, j, n', rfl, hb, hx, hy, hv'⟩⟩
        · exact ⟨_, _, rfl, rfl, .inr ⟨t, x2, y2, j2, n2, rfl, ht, hx2, hy2, hv2⟩⟩
    · rintro σ H' ⟨f, v2, rfl, rfl, hf⟩
      refine ⟨_, rfl, ?_⟩
      rcases hf with rfl | ⟨t, x2, y2, j2, n2, rfl, ht, hx2, hy2, hv2⟩
      · exact hQ _ H' kb0 (.inl rfl)
      · exact hQ _ H' kb0 (.inr ⟨t, x2, y2, j2, rfl, ht, hx2, hy2⟩)
end
end K42
set_option Elab.async false
set_option linter.all false
set_option maxRecDepth 100000
set_option maxHeartbeats 4000000
namespace K42
open PySem L2 PySem.W PH
section
variable {P : Program} {w : World} {K : PySem.W.Frag} {mg : Str → Option Value} {base : Heap}
theorem sc_withs : FnScope ["row", "pair", "symbol", "made", "at"] ["row", "pair", "symbol"] (defScope s_withs) := ⟨rfl, rfl, rfl, by decide +kernel, rfl, by decide +kernel, by decide +kernel⟩
theorem ok_withs {f : Addr} {fd : FuncData} (F : Fun K "with_symbol" "with_symbol" s_withs f fd) (B : Bls mg) : FnOk P w K mg base (CXW P w) 1 f fd ["row", "pair", "symbol"] (spWith) := by
  refine F.okN sc_withs (fun vs H Q E h => ?_) (fun cdv A outer s H vs Q E hr h => ?_)
  · obtain ⟨p, t, row, x, y, s, rfl, _⟩ := h
    rfl
  · obtain ⟨p, t, row, x, y, s, rfl, hp, ht, hl, hQ⟩ := h
    refine ⟨_, (pss_cons (ps_set (i := 3) sc_withs.nd rfl (Or.inl rfl) (pe_lst pa_nil))
      (pss_cons (ps_set (i := 4) sc_withs.nd rfl (Or.inl rfl) pe_int)
      (pss_cons (ps_while PassesOwn.never (pt_cmpR op_lt (pv 4) (pe_callB call_len_seq rfl B.len PySem.boot_len (pa_cons (pv 0) pa_nil)) (nomark _))
        (pss_one (ps_if (pt_cmpR (op_eqL (units_of hr)) (pe_slice sl_list (pv 0) (po_some (pv 4)) (po_some (pe_op op_add (pv 4) pe_int))) (pe_lst (pa_cons (pe_ix ix_tup (pv 1) pe_int (fun _ _ => rfl)) (pa_cons (pe_ix ix_tup (pv 1) pe_int (fun _ _ => rfl)) pa_nil))) (nomark _))
          (pss_cons (ps_expr (pe_bm PySem.F.plainAttrs_list PySem.F.slot_list_append PySem.F.type_list_append mt_append (pv 3) (pa_cons (pv 2) pa_nil)))
          (pss_one (ps_set (i := 4) sc_withs.nd rfl (Or.inl rfl) (pe_op op_add (pv 4) pe_int))))
          (pss_cons (ps_expr (pe_bm PySem.F.plainAttrs_list PySem.F.slot_list_append PySem.F.type_list_append mt_append (pv 3) (pa_cons (pe_ix ix_list (pv 0) (pv 4) (fun _ _ => rfl)) pa_nil)))
          (pss_one (ps_set (i := 4) sc_withs.nd rfl (Or.inl rfl) (pe_op op_add (pv 4) pe_int)))))))
      (pss_one (ps_ret (pv 3)))))), ?_⟩
    refine ⟨(by show 0 ≤ sizeLine; decide), fun W hW => ?_⟩
    have s1 := same_new hW (.lst [])
    have hW1 : upd H W (.lst []) W = some (lsI []) := upd_same
    generalize upd H W (.lst []) = H1 at s1 hW1 ⊢
    refine ⟨fun mm σ H' => ∃ (k : Nat) (ms : List Int), mm = row.length - k ∧ σ = [some (.ref p), some (.ref t), some (.int s), some (.ref W), some (.int (k : Nat))] ∧ k ≤ row.length ∧ H' W = some (lsI ms) ∧ ms ++ wsy x y s (row.drop k) = wsy x y s row ∧ ms.length ≤ k ∧ Same H H',
      ⟨_, 0, [], rfl, rfl, Nat.zero_le _, hW1, by rw [List.drop_zero]; rfl, Nat.le_refl _, s1⟩, ?_⟩
    rintro mm σ H' ⟨k, ms, rfl, rfl, hk, hW', hms, hml, sm⟩
    refine ⟨_, rfl, _, rfl, p, _, rfl, .inl (SqL.of (sm _ _ hp)), _, _, rfl, rfl, _, rfl, ?_⟩
    rw [List.length_map]
    by_cases hkl : k < row.length
    rotate_left
    · rw [decide_eq_false (show ¬ ((k : Nat) : Int) < ((row.length : Nat) : Int) by omega)]
      refine iteF ?_
      refine ⟨_, rfl, ?_⟩
      have e : row.drop k = [] := List.drop_eq_nil_of_le (by omega)
      rw [e, wsy_nil, List.append_nil] at hms
      rw [hms] at hW'
      exact hQ W H' sm hW hW'
    rw [decide_eq_true (show ((k : Nat) : Int) < ((row.length : Nat) : Int) by omega)]
    refine iteT ?_
    refine ⟨fun σ' H'' => ∃ m', m' < row.length - k ∧ ∃ (k : Nat) (ms : List Int), m' = row.length - k ∧ σ' = [some (.ref p), some (.ref t), some (.int s), some (.ref W), some (.int (k : Nat))] ∧ k ≤ row.length ∧ H'' W = some (lsI ms) ∧ ms ++ wsy x y s (row.drop k) = wsy x y s row ∧ ms.length ≤ k ∧ Same H H'', fun σ' H'' z => z, ?_⟩
    refine ⟨_, rfl, _, rfl, _, rfl, _, rfl, _, _, rfl, rfl, _, rfl, p, _, rfl, SqL.of (sm _ _ hp), fun c hc => ?_⟩
    have ecut : HO.lst (cutV (row.map V.int) (some (k : Int)) (some ((k : Int) + 2))) = lsI ((row.drop k).take 2) := cut_step' row k 2
    try simp only []
    rw [ecut]
    have uc := same_new hc (lsI ((row.drop k).take 2))
    have ec : upd H' c (lsI ((row.drop k).take 2)) c = some (lsI ((row.drop k).take 2)) := upd_same
    generalize upd H' c (lsI ((row.drop k).take 2)) = H2 at uc ec ⊢
    have ht2 := uc _ _ (sm _ _ ht)
    refine ⟨_, rfl, t, _, _, _, rfl, rfl, SqT.of ht2, rfl, _, rfl, t, _, _, _, rfl, rfl, SqT.of ht2, rfl, (by show 2 ≤ sizeLine; decide), fun l hl2 => ?_⟩
    have ul := same_new hl2 (.lst [V.int x, V.int y])
    have el : upd H2 l (.lst [V.int x, V.int y]) l = some (.lst [V.int x, V.int y]) := upd_same
    generalize upd H2 l (.lst [V.int x, V.int y]) = H3 at ul el ⊢
    have el' : H3 l = some (lsI [x, y]) := el
    have sH3 := sm.trans (uc.trans ul)
    have hW3 := ul _ _ (uc _ _ hW')
    refine ⟨c, l, _, [x, y], rfl, rfl, SqL.of (ul _ _ ec), SqL.of el', _, rfl, ?_⟩
    by_cases hm : (row.drop k).take 2 = [x, y]
    · rw [decide_eq_true hm]
      refine iteT ?_
      obtain ⟨h2, e2⟩ := wsy_yes (s := s) hm
      refine ⟨_, rfl, .inl ⟨rfl, _, SqL.of hW3⟩, _, rfl, W, _, _, rfl, rfl, hW3, fits_lt (by rw [List.length_map]; omega), ?_⟩
      refine ⟨_, rfl, _, _, rfl, rfl, ?_⟩
      refine gNz (v' := V.int ((k + 2 : Nat) : Int)) (congrArg V.int (by omega)) ?_
      exact ⟨row.length - (k + 2), by omega, k + 2, ms ++ [s], rfl, rfl, h2, by rw [upd_same, lsI_app1], by rw [List.append_assoc, ← hms, e2]; rfl, by rw [List.length_append, List.length_singleton]; omega, same_upd sH3 _ hW⟩
    · rw [decide_eq_false hm]
      refine iteF ?_
      obtain ⟨z, hz⟩ := bounded_at hkl
      have e1 := wsy_no (x := x) (y := y) (s := s) hz hm
      refine ⟨_, rfl, .inl ⟨rfl, _, SqL.of hW3⟩, _, rfl, _, rfl, p, _, _, _, rfl, rfl, SqL.of (sH3 _ _ hp), at_intsZ hz, W, _, _, rfl, rfl, hW3, fits_lt (by rw [List.length_map]; omega), ?_⟩
      refine ⟨_, rfl, _, _, rfl, rfl, ?_⟩
      refine gNz (v' := V.int ((k + 1 : Nat) : Int)) (congrArg V.int (by omega)) ?_
      exact ⟨row.length - (k + 1), by omega, k + 1, ms ++ [z], rfl, rfl, by omega, by rw [upd_same, lsI_app1], by rw [List.append_assoc, ← hms, e1]; rfl, by rw [List.length_append, List.length_singleton]; omega, same_upd sH3 _ hW⟩
end
end K42
set_option Elab.async false
set_option linter.all false
set_option maxRecDepth 100000
set_option maxHeartbeats 4000000
namespace K42
open PySem L2 PySem.W PH
section
variable {P : Program} {w : World} {K : PySem.W.Frag} {mg : Str → Option Value} {base : Heap}
theorem sc_grof : FnScope ["text", "rules", "row", "pair"] ["text"] (defScope s_grof) := ⟨rfl, rfl, rfl, by decide +kernel, rfl, by decide +kernel, by decide +kernel⟩
theorem ok_grof {f f_pairt f_most f_withs : Addr} {fd d_pairt d_most d_withs : FuncData} (F : Fun K "grammar_of" "grammar_of" s_grof f fd) (B : Bls mg) (m_FR : FRg mg) 
    (G_pairt : FnOk P w K mg base (CXW P w) 1 f_pairt d_pairt ["row"] (spPairT)) (b_pairt : Binds K d_pairt ["row"] []) (k_pairt : keepIn K (.ref f_pairt) = true) (m_pairt : mg "pair_times" = some (.ref f_pairt)) 
    (G_most : FnOk P w K mg base (CXW P w) 1 f_most d_most ["times"] (spMost)) (b_most : Binds K d_most ["times"] []) (k_most : keepIn K (.ref f_most) = true) (m_most : mg "most_frequent" = some (.ref f_most)) 
    (G_withs : FnOk P w K mg base (CXW P w) 1 f_withs d_withs ["row", "pair", "symbol"] (spWith)) (b_withs : Binds K d_withs ["row", "pair", "symbol"] []) (k_withs : keepIn K (.ref f_withs) = true) (m_withs : mg "with_symbol" = some (.ref f_withs)) : FnOk P w K mg base (CXW P w) 2 f fd ["text"] (spGrOf) := by
  refine F.okN sc_grof (fun vs H Q E h => ?_) (fun cdv A outer s H vs Q E hr h => ?_)
  · obtain ⟨p, ts, rfl, _⟩ := h
    rfl
  · obtain ⟨p, ts, rfl, hp, hl, hsg, hQ⟩ := h
    obtain ⟨u_FR, m_v, r_v⟩ := m_FR
    refine ⟨_, (pss_cons (ps_set (i := 1) sc_grof.nd rfl (Or.inl rfl) (pe_lst pa_nil))
      (pss_cons (ps_set (i := 2) sc_grof.nd rfl (Or.inl rfl) (pe_callTy call_list_of rfl B.list boot_list' (pa_cons (pv 0) pa_nil)))
      (pss_cons (ps_set (i := 3) sc_grof.nd rfl (Or.inl rfl) (pe_call G_most hr rfl m_most k_most b_most .nil passN (pa_cons (pe_call G_pairt hr rfl m_pairt k_pairt b_pairt .nil passN (pa_cons (pv 2) pa_nil)) pa_nil)))
      (pss_cons (ps_while PassesOwn.never (pt_cmp (pc_notN (pv 3)))
        (pss_cons (ps_set (i := 2) sc_grof.nd rfl (Or.inl rfl) (pe_call G_withs hr rfl m_withs k_withs b_withs .nil passN (pa_cons (pv 2) (pa_cons (pv 3) (pa_cons (pe_op op_add (pe_glob (v := .int 256) rfl m_v r_v) (pe_callB call_len_seq rfl B.len PySem.boot_len (pa_cons (pv 1) pa_nil))) pa_nil)))))
        (pss_cons (ps_expr (pe_bm PySem.F.plainAttrs_list PySem.F.slot_list_append PySem.F.type_list_append mt_append (pv 1) (pa_cons (pv 3) pa_nil)))
        (pss_one (ps_set (i := 3) sc_grof.nd rfl (Or.inl rfl) (pe_call G_most hr rfl m_most k_most b_most .nil passN (pa_cons (pe_call G_pairt hr rfl m_pairt k_pairt b_pairt .nil passN (pa_cons (pv 2) pa_nil)) pa_nil)))))))
      (pss_one (ps_ret (pe_tup (pa_cons (pv 1) (pa_cons (pv 2) pa_nil))))))))), ?_⟩
    refine ⟨(by show 0 ≤ sizeLine; decide), fun P hP => ?_⟩
    have uP := same_new hP (.lst [])
    have eP : upd H P (.lst []) P = some (.lst []) := upd_same
    generalize upd H P (.lst []) = H1 at uP eP ⊢
    have pr1 : Prs H1 P [] := ⟨eP, fun z hz => by cases hz⟩
    refine ⟨_, rfl, p, _, rfl, .inl (SqL.of (uP _ _ hp)), fun W hW => ?_⟩
    have uW := same_new hW (.lst (ts.map V.int))
    have eW : upd H1 W (.lst (ts.map V.int)) W = some (.lst (ts.map V.int)) := upd_same
    generalize upd H1 W (.lst (ts.map V.int)) = H2 at uW eW ⊢
    have s2 := uP.trans uW
    refine ⟨_, rfl, W, ts, rfl, eW, by omega, fun D kvs H3 s3 hD hD3 tm => ?_⟩
    refine ⟨D, ts, kvs, rfl, hD3, tm, fun v H4 k4 fd => ?_⟩
    have k24 : Same H2 H4 := fun b o e => k4 _ _ (fun z => by rw [z] at e; rw [e] at hD; cases hD) (s3 _ _ e)
    refine ⟨fun mm σ H' => ∃ (W : Addr) (zs : List (Addr × Int × Int)) (row : List Int) (v : V), mm = row.length ∧ σ = [some (.ref p), some (.ref P), some (.ref W), some v] ∧ Prs H' P zs ∧ GrZ zs ∧ H' W = some (lsI row) ∧ RwZ zs.length row ∧ zs.length + row.length ≤ 400 ∧ exs (rn zs) (rwN row) = ts ∧ Fnd H' row v ∧ Same H H',
      ⟨_, W, [], ts, v, rfl, rfl, (pr1.same uW).same k24, (fun i z e => by cases e), k24 _ _ eW, rz_signs hsg, by rw [List.length_nil]; omega, exs_signs hsg, fd, s2.trans k24⟩, ?_⟩
    clear fd k24 k4 hD3 tm hD s3 eW s2 uW hW pr1 eP uP kvs
    rintro mm σ H5 ⟨W, zs, row, v, rfl, rfl, pr, gr, hW, rz, hl4, hex, fd, sm⟩
    refine ⟨_, rfl, _, rfl, ?_⟩
    rcases fd with rfl | ⟨t, x, y, i, rfl, ht, hx, hy⟩
    · refine iteF ?_
      refine ⟨_, rfl, _, rfl, (by show 2 ≤ sizeLine; decide), fun R hR => ?_⟩
      have u := same_new hR (.tup [V.ref P, V.ref W])
      exact hQ R P W zs row _ (sm.trans u) upd_same (pr.same u) gr (u _ _ hW) rz (by omega) (by omega) hex
    refine iteT ?_
    refine ⟨fun σ' H'' => ∃ m', m' < row.length ∧ ∃ (W : Addr) (zs : List (Addr × Int × Int)) (row : List Int) (v : V), m' = row.length ∧ σ' = [some (.ref p), some (.ref P), some (.ref W), some v] ∧ Prs H'' P zs ∧ GrZ zs ∧ H'' W = some (lsI row) ∧ RwZ zs.length row ∧ zs.length + row.length ≤ 400 ∧ exs (rn zs) (rwN row) = ts ∧ Fnd H'' row v ∧ Same H H'', fun σ' H'' z => z, ?_⟩
    refine ⟨_, rfl, _, rfl, _, rfl, P, _, rfl, .inl (SqL.of pr.at_), _, _, rfl, rfl, W, t, row, x, y, _, rfl, hW, ht, by omega, fun W2 H6 s6 hW2n hW2 => ?_⟩
    rw [List.length_map] at hW2
    have pr6 := pr.same s6
    have ht6 := s6 _ _ ht
    have bx := rz.at hx
    have by_ := rz.at hy
    have hW2P : W2 ≠ P := fun e => by rw [e, pr.at_] at hW2n; cases hW2n
    refine ⟨_, rfl, .inl ⟨rfl, _, SqL.of pr6.at_⟩, _, rfl, P, _, _, rfl, rfl, pr6.at_, fits_lt (by rw [List.length_map]; omega), ?_⟩
    have pr7 := pr6.app ht6
    have hW7 : upd H6 P (.lst ((zs.map fun z => V.ref z.1) ++ [V.ref t])) W2 = some (lsI (wsy x y (256 + ((zs.length : Nat) : Int)) row)) := by rw [upd_ne hW2P]; exact hW2
    have sm7 := same_upd (sm.trans s6) (.lst ((zs.map fun z => V.ref z.1) ++ [V.ref t])) hP
    generalize upd H6 P (.lst ((zs.map fun z => V.ref z.1) ++ [V.ref t])) = H7 at pr7 hW7 sm7 ⊢
    have hlt := wsy_lt x y (256 + ((zs.length : Nat) : Int)) row i hx hy
    refine ⟨_, rfl, W2, _, rfl, hW7, by omega, fun D kvs H8 s8 hD hD8 tm => ?_⟩
    refine ⟨D, _, kvs, rfl, hD8, tm, fun v H9 k9 fd9 => ?_⟩
    have k79 : Same H7 H9 := fun b o e => k9 _ _ (fun z => by rw [z] at e; rw [e] at hD; cases hD) (s8 _ _ e)
    have hzl : (zs ++ [(t, x, y)]).length = zs.length + 1 := by rw [List.length_append]; rfl
    refine ⟨_, hlt, W2, zs ++ [(t, x, y)], wsy x y (256 + ((zs.length : Nat) : Int)) row, v, rfl, rfl, pr7.same k79, gr.app bx.1 bx.2 by_.1 by_.2, k79 _ _ hW7, ?_, by omega, ?_, fd9, sm7.trans k79⟩
    · rw [hzl]; exact wsy_rz rz
    · rw [rn_app, wsy_exs (rn_len zs).symm row rz, hex]
end
end K42
set_option Elab.async false
set_option linter.all false
set_option maxRecDepth 100000
set_option maxHeartbeats 4000000
namespace K42
open PySem L2 PySem.W PH
section
variable {P : Program} {w : World} {K : PySem.W.Frag} {mg : Str → Option Value} {base : Heap}
theorem sc_cellat : FnScope ["script", "k"] ["script", "k"] (defScope s_cellat) := ⟨rfl, rfl, rfl, by decide +kernel, rfl, by decide +kernel, by decide +kernel⟩
theorem ok_cellat {f : Addr} {fd : FuncData} (F : Fun K "_law_cell_at" "_law_cell_at" s_cellat f fd) (B : Bls mg) : FnOk P w K mg base (CXW P w) 1 f fd ["script", "k"] (spCellAt K) := by
  refine F.okN sc_cellat (fun vs H Q E h => ?_) (fun cdv A outer s H vs Q E hr h => ?_)
  · obtain ⟨a, ns, k, rfl, _⟩ := h
    rfl
  · obtain ⟨a, ns, k, rfl, hS, hQ⟩ := h
    refine ⟨_, (pss_cons (ps_if (pt_cmpR op_lt (pv 1) (pe_callB call_len_seq rfl B.len PySem.boot_len (pa_cons (pv 0) pa_nil)) (nomark _))
        (pss_one (ps_ret (pe_ix ix_list (pv 0) (pv 1) (fun _ _ => rfl))))
        pss_nil)
      (pss_one (ps_ret pe_int))), ?_⟩
    refine ⟨_, rfl, _, rfl, a, _, rfl, .inl hS, _, _, rfl, rfl, _, rfl, ?_⟩
    refine ite2 (fun c => ?_) (fun c => ?_)
    · have hlt : k < ns.length := by
        have := of_decide_eq_true c
        rw [List.length_map] at this
        omega
      obtain ⟨x, hx⟩ : ∃ x, ns[k]? = some x := ⟨_, List.getElem?_eq_getElem hlt⟩
      refine ⟨_, rfl, _, rfl, a, _, _, .int x, rfl, rfl, hS, at_intsZ hx, ?_⟩
      exact hQ x
    · exact hQ 0
theorem sc_stir : FnScope ["cell", "k", "number"] ["cell", "k"] (defScope s_stir) := ⟨rfl, rfl, rfl, by decide +kernel, rfl, by decide +kernel, by decide +kernel⟩
theorem ok_stir {f : Addr} {fd : FuncData} (F : Fun K "_law_stir" "_law_stir" s_stir f fd) (B : Bls mg) : FnOk P w K mg base (CXW P w) 1 f fd ["cell", "k"] (spStir) := by
  refine F.okN sc_stir (fun vs H Q E h => ?_) (fun cdv A outer s H vs Q E hr h => ?_)
  · obtain ⟨c, k, rfl, _⟩ := h
    rfl
  · obtain ⟨c, k, rfl, hk, hQ⟩ := h
    refine ⟨_, (pss_cons (ps_set (i := 2) sc_stir.nd rfl (Or.inl rfl) (pe_op op_mod (pe_op op_add (pe_op op_add (pe_op op_mul (pe_op op_mod (pv 0) (pe_op op_pow pe_int pe_int)) pe_int) (pe_op op_mul pe_int (pv 1))) pe_int) pe_int))
      (pss_cons (ps_set (i := 2) sc_stir.nd rfl (Or.inl rfl) (pe_op op_mod (pe_op op_add (pe_op op_mul (pv 2) (pv 2)) (pe_op op_mul pe_int (pv 2))) pe_int))
      (pss_one (ps_ret (pe_op op_add (pe_op op_mod (pe_op op_mul (pv 2) (pv 2)) pe_int) (pv 2)))))), ?_⟩
    refine ⟨_, rfl, _, _, rfl, rfl, ⟨by decide, by decide, by decide⟩, _, _, rfl, rfl, (by show (0 : Int) < 10 ^ (15 : Int).toNat; decide), _, _, rfl, rfl, .inr ⟨by decide, by decide⟩, _, rfl, _, _, rfl, rfl, .inl ⟨by decide, by decide⟩, _, _, rfl, rfl, _, _, rfl, rfl, _, _, rfl, rfl, (by show (0 : Int) < 2147483647; decide), ?_⟩
    obtain ⟨m1, e1, b10, b11⟩ : ∃ m1 : Int, m1 = (c % 10 ^ (15 : Int).toNat * 48271 + 104729 * (k : Int) + 7) % 2147483647 ∧ 0 ≤ m1 ∧ m1 < 2147483647 := ⟨_, rfl, Int.emod_nonneg _ (by decide), Int.emod_lt_of_pos _ (by decide)⟩
    refine gNz (v' := V.int m1) (by rw [e1]) ?_
    refine ⟨_, rfl, _, rfl, _, _, rfl, rfl, .inl ⟨?_, ?_⟩, _, rfl, _, _, rfl, rfl, .inl ⟨by decide, by decide⟩, _, _, rfl, rfl, _, _, rfl, rfl, (by show (0 : Int) < 2147483629; decide), ?_⟩
    · show -(2 ^ 64) < m1
      omega
    · show m1 < 2 ^ 64
      omega
    obtain ⟨m2, e2, b20, b21⟩ : ∃ m2 : Int, m2 = (m1 * m1 + 7919 * m1) % 2147483629 ∧ 0 ≤ m2 ∧ m2 < 2147483629 := ⟨_, rfl, Int.emod_nonneg _ (by decide), Int.emod_lt_of_pos _ (by decide)⟩
    refine gNz (v' := V.int m2) (by rw [e2]) ?_
    refine ⟨_, rfl, _, rfl, _, _, rfl, rfl, .inl ⟨?_, ?_⟩, _, _, rfl, rfl, (by show (0 : Int) < 2147483587; decide), _, rfl, _, _, rfl, rfl, ?_⟩
    · show -(2 ^ 64) < m2
      omega
    · show m2 < 2 ^ 64
      omega
    have h := Int.emod_nonneg (m2 * m2) (show (2147483587 : Int) ≠ 0 by decide)
    exact hQ _ (by omega)
end
end K42
set_option Elab.async false
set_option linter.all false
set_option maxRecDepth 100000
set_option maxHeartbeats 4000000
namespace K42
open PySem L2 PySem.W PH
section
variable {P : Program} {w : World} {K : PySem.W.Frag} {mg : Str → Option Value} {base : Heap}
theorem sc_text : FnScope ["script", "most", "first", "base", "found", "cell", "k", "number", "back", "j"] ["script", "most"] (defScope s_text) := ⟨rfl, rfl, rfl, by decide +kernel, rfl, by decide +kernel, by decide +kernel⟩
theorem ok_text {f f_cellat f_stir : Addr} {fd d_cellat d_stir : FuncData} (F : Fun K "_law_text" "_law_text" s_text f fd) (B : Bls mg) 
    (G_cellat : FnOk P w K mg base (CXW P w) 1 f_cellat d_cellat ["script", "k"] (spCellAt K)) (b_cellat : Binds K d_cellat ["script", "k"] []) (k_cellat : keepIn K (.ref f_cellat) = true) (m_cellat : mg "_law_cell_at" = some (.ref f_cellat)) 
    (G_stir : FnOk P w K mg base (CXW P w) 1 f_stir d_stir ["cell", "k"] (spStir)) (b_stir : Binds K d_stir ["cell", "k"] []) (k_stir : keepIn K (.ref f_stir) = true) (m_stir : mg "_law_stir" = some (.ref f_stir)) : FnOk P w K mg base (CXW P w) 2 f fd ["script", "most"] (spTextS K) := by
  refine F.okN sc_text (fun vs H Q E h => ?_) (fun cdv A outer s H vs Q E hr h => ?_)
  · obtain ⟨a, ns, most, rfl, _⟩ := h
    rfl
  · obtain ⟨a, ns, most, rfl, hS, h63, hm0, hm4, hQ⟩ := h
    refine ⟨_, (pss_cons (ps_set (i := 2) sc_text.nd rfl (Or.inl rfl) (pe_call G_cellat hr rfl m_cellat k_cellat b_cellat .nil passN (pa_cons (pv 0) (pa_cons pe_int pa_nil))))
      (pss_cons (ps_set (i := 3) sc_text.nd rfl (Or.inl rfl) (pe_ix ix_list (pe_lst (pa_cons pe_int (pa_cons pe_int (pa_cons pe_int (pa_cons pe_int pa_nil))))) (pe_op op_mod (pe_op op_fdiv (pv 2) pe_int) pe_int) (fun _ _ => rfl)))
      (pss_cons (ps_set (i := 4) sc_text.nd rfl (Or.inl rfl) (pe_lst pa_nil))
      (pss_cons (ps_if (pt_cmpR op_eq (pe_op op_mod (pv 2) pe_int) pe_int (nomark _))
        (pss_cons (ps_set (i := 5) sc_text.nd rfl (Or.inl rfl) (pe_call G_cellat hr rfl m_cellat k_cellat b_cellat .nil passN (pa_cons (pv 0) (pa_cons pe_int pa_nil))))
        (pss_cons (ps_for PassesOwn.never rfl (pi_range1 rfl B.range (pa_cons (pe_op op_mod (pe_op op_fdiv (pv 2) pe_int) pe_int) pa_nil)) (pg_name (i := 6) sc_text.nd rfl (Or.inl rfl))
          (pss_cons (ps_expr (pe_bm PySem.F.plainAttrs_list PySem.F.slot_list_append PySem.F.type_list_append mt_append (pv 4) (pa_cons (pe_op op_mod (pv 5) (pv 3)) pa_nil)))
          (pss_one (ps_set (i := 5) sc_text.nd rfl (Or.inl rfl) (pe_op op_fdiv (pv 5) (pv 3))))))
        (pss_one (ps_ret (pv 4)))))
        pss_nil)
      (pss_cons (ps_for PassesOwn.never rfl (pi_range2 rfl B.range (pa_cons pe_int (pa_cons (pe_callB (call_min2 rfl) rfl B.min boot_min' (pa_cons (pe_callB call_len_seq rfl B.len PySem.boot_len (pa_cons (pv 0) pa_nil)) (pa_cons pe_int pa_nil))) pa_nil))) (pg_name (i := 6) sc_text.nd rfl (Or.inl rfl))
        (pss_cons (ps_set (i := 7) sc_text.nd rfl (Or.inl rfl) (pe_call G_stir hr rfl m_stir k_stir b_stir .nil passN (pa_cons (pe_ix ix_list (pv 0) (pv 6) (fun _ _ => rfl)) (pa_cons (pv 6) pa_nil))))
        (pss_one (ps_if (PW.pt (pw_and (pt_cmpR (op_neL (units_of hr)) (pv 4) (pe_lst pa_nil) (nomark _)) (pw_and1 (pt_cmpR op_gt (pe_op op_mod (pv 7) pe_int) pe_int (nomark _)))))
          (pss_cons (ps_set (i := 8) sc_text.nd rfl (Or.inl rfl) (pe_op op_add pe_int (pe_op op_mod (pe_op op_fdiv (pv 7) pe_int) (pe_callB call_len_seq rfl B.len PySem.boot_len (pa_cons (pv 4) pa_nil)))))
          (pss_one (ps_for PassesOwn.never rfl (pi_range1 rfl B.range (pa_cons (pe_op op_add pe_int (pe_op op_mod (pe_op op_fdiv (pv 7) pe_int) (pe_ix ix_list (pe_lst (pa_cons pe_int (pa_cons pe_int (pa_cons pe_int pa_nil)))) (pe_op op_mod (pe_op op_fdiv (pv 7) pe_int) pe_int) (fun _ _ => rfl)))) pa_nil)) (pg_name (i := 9) sc_text.nd rfl (Or.inl rfl))
            (pss_one (ps_expr (pe_bm PySem.F.plainAttrs_list PySem.F.slot_list_append PySem.F.type_list_append mt_append (pv 4) (pa_cons (pe_ix ix_list (pv 4) (pe_op op_sub pe_int (pv 8)) (fun _ _ => rfl)) pa_nil)))))))
          (pss_one (ps_expr (pe_bm PySem.F.plainAttrs_list PySem.F.slot_list_append PySem.F.type_list_append mt_append (pv 4) (pa_cons (pe_op op_mod (pe_op op_fdiv (pv 7) pe_int) (pv 3)) pa_nil))))))))
      (pss_one (ps_ret (pe_slice sl_list (pv 4) po_none (po_some (pv 1)))))))))), ?_⟩
    refine ⟨_, rfl, a, ns, 0, rfl, hS, fun x => ?_⟩
    obtain ⟨bs, hbs, bs0, bs1⟩ : ∃ bs : Int, atI [V.int 2, V.int 3, V.int 16, V.int 256] (x / 2 % 4) = some (.int bs) ∧ 0 < bs ∧ bs ≤ 256 := by
      have hr : x / 2 % 4 = 0 ∨ x / 2 % 4 = 1 ∨ x / 2 % 4 = 2 ∨ x / 2 % 4 = 3 := by omega
      rcases hr with h | h | h | h <;> rw [h] <;> exact ⟨_, rfl, by decide, by decide⟩
    refine ⟨(by show 4 ≤ sizeLine; decide), fun l1 hl1 => ?_⟩
    have s1 := same_new hl1 (.lst [V.int 2, V.int 3, V.int 16, V.int 256])
    refine ⟨_, rfl, _, _, rfl, rfl, ⟨by decide, by decide⟩, _, _, rfl, rfl, (by show (0 : Int) < 4; decide), l1, _, _, _, rfl, rfl, SqL.of upd_same, hbs, ?_⟩
    refine ⟨(by show 0 ≤ sizeLine; decide), fun F hF => ?_⟩
    have s2 := s1.trans (same_new hF (.lst []))
    have hFH : H F = none := s1.free hF
    have hF2 : upd (upd H l1 (.lst [V.int 2, V.int 3, V.int 16, V.int 256])) F (.lst []) F = some (lsI []) := upd_same
    generalize upd (upd H l1 (.lst [V.int 2, V.int 3, V.int 16, V.int 256])) F (.lst []) = H2 at s2 hF2 ⊢
    refine ⟨_, rfl, _, _, rfl, rfl, (by show (0 : Int) < 2; decide), rfl, _, rfl, ?_⟩
    refine ite2 (fun _ => ?_) (fun _ => ?_)
    · refine ⟨_, rfl, a, ns, 1, rfl, s2.seq hS, fun c0 => ?_⟩
      obtain ⟨m, hm, hm6⟩ : ∃ m : Nat, x / 8 % 61 = (m : Int) ∧ m ≤ 60 := ⟨(x / 8 % 61).toNat, by omega, by omega⟩
      refine ⟨_, rfl, _, _, rfl, rfl, ⟨by decide, by decide⟩, _, _, rfl, rfl, (by show (0 : Int) < 61; decide), (m : Int), congrArg (fun y => [V.int y]) hm, by omega, by omega, ?_⟩
      rw [Int.toNat_natCast]
      refine for_range (n := m) (fun i σ H' => ∃ (c : Int) (fs : List Int) (v6 : Option V), σ = [some (.ref a), some (.int (most : Int)), some (.int x), some (.int bs), some (.ref F), some (.int c), v6, none, none, none] ∧ H' F = some (lsI fs) ∧ fs.length = i ∧ (∀ y ∈ fs, 0 ≤ y ∧ y ≤ 255) ∧ Same H H')
        ⟨c0, [], none, rfl, hF2, rfl, (fun _ z => by cases z), s2⟩ ?_ ?_
      · rintro i σ H' hi ⟨c, fs, v6, rfl, hF', hfl, hsg, sm⟩
        refine ⟨_, rfl, .inl ⟨rfl, _, SqL.of hF'⟩, _, rfl, _, rfl, _, _, rfl, rfl, bs0, F, _, _, rfl, rfl, hF', fits_lt (by rw [List.length_map]; omega), ?_⟩
        refine ⟨_, rfl, _, rfl, _, _, rfl, rfl, ⟨bs0, by omega⟩, ?_⟩
        exact ⟨_, fs ++ [c % bs], _, rfl, by rw [upd_same, lsI_app1], by rw [List.length_append, hfl]; rfl, sgs_app hsg (Int.emod_nonneg _ (by omega)) (by have := Int.emod_lt_of_pos c bs0; omega), same_upd sm _ hFH⟩
      · rintro σ H' ⟨c, fs, v6, rfl, hF', hfl, hsg, sm⟩
        refine ⟨_, rfl, ?_⟩
        exact hQ F fs H' sm hFH hF' (by omega) hsg
    · obtain ⟨hi0, ehi, hh0, hh1, hh2⟩ : ∃ hi : Int, hi = (if (63 : Int) < ((ns.map V.int).length : Int) then 63 else ((ns.map V.int).length : Int)) ∧ 0 ≤ hi ∧ hi ≤ 63 ∧ hi ≤ ns.length := by
        refine ⟨_, rfl, ?_⟩
        rw [List.length_map]
        split <;> omega
      refine ⟨_, rfl, a, _, rfl, .inl (s2.seq hS), _, _, rfl, 1, hi0, by rw [ehi], ⟨by omega, by omega, by omega, by omega⟩, ?_⟩
      refine for_range (n := (hi0 - 1).toNat) (fun i σ H' => ∃ (fs : List Int) (v6 v7 v8 v9 : Option V), σ = [some (.ref a), some (.int (most : Int)), some (.int x), some (.int bs), some (.ref F), none, v6, v7, v8, v9] ∧ H' F = some (lsI fs) ∧ fs.length ≤ 60 * i ∧ (∀ y ∈ fs, 0 ≤ y ∧ y ≤ 255) ∧ Same H H')
        ⟨[], none, none, none, none, rfl, hF2, Nat.le_refl _, (fun _ z => by cases z), s2⟩ ?_ ?_
      · rintro i σ H' hi ⟨fs, v6, v7, v8, v9, rfl, hF', hfl, hsg, sm⟩
        rw [show (1 : Int) + (i : Int) = ((i + 1 : Nat) : Int) by omega]
        have hil : i + 1 < ns.length := by omega
        obtain ⟨c, hc⟩ : ∃ c, ns[i + 1]? = some c := ⟨_, List.getElem?_eq_getElem hil⟩
        refine ⟨_, rfl, _, rfl, a, _, _, .int c, rfl, rfl, sm.seq hS, at_intsZ hc, _, rfl, c, i + 1, rfl, by omega, fun nu nu0 => ?_⟩
        refine ⟨_, rfl, (by show 0 ≤ sizeLine; decide), fun e he => ?_⟩
        have se := same_new he (.lst [])
        refine ⟨F, e, fs, [], rfl, rfl, SqL.of (se _ _ hF'), SqL.of upd_same, _, rfl, ?_⟩
        have hFe := se _ _ hF'
        have sme := sm.trans se
        generalize upd H' e (.lst []) = H3 at se hFe sme ⊢
        by_cases hne : fs = []
        · rw [decide_eq_true hne]
          refine iteF (iteF ?_)
          refine ⟨_, rfl, .inl ⟨rfl, _, SqL.of hFe⟩, _, rfl, _, _, rfl, rfl, ⟨by decide, by decide⟩, _, rfl, _, _, rfl, rfl, bs0, F, _, _, rfl, rfl, hFe, fits_lt (by rw [List.length_map]; omega), ?_⟩
          exact ⟨fs ++ [nu / 3 % bs], _, _, _, _, rfl, by rw [upd_same, lsI_app1], by rw [List.length_append, List.length_singleton]; omega, sgs_app hsg (Int.emod_nonneg _ (by omega)) (by have := Int.emod_lt_of_pos (nu / 3) bs0; omega), same_upd sme _ hFH⟩
        · rw [decide_eq_false hne]
          refine iteT ?_
          have hf0 : 0 < fs.length := List.length_pos_iff.mpr hne
          refine ⟨_, rfl, _, _, rfl, rfl, (by show (0 : Int) < 3; decide), _, _, rfl, rfl, _, rfl, ?_⟩
          refine ite2 (fun _ => ?_) (fun _ => ?_)
          · refine ⟨_, rfl, _, _, rfl, rfl, ⟨by decide, by decide⟩, _, rfl, F, _, rfl, .inl (SqL.of hFe), _, _, rfl, rfl, ?_, _, _, rfl, rfl, ?_⟩
            · show (0 : Int) < ((fs.map V.int).length : Int)
              rw [List.length_map]
              omega
            obtain ⟨bk, ebk, bk1, bk2⟩ : ∃ bk : Nat, ((bk : Nat) : Int) = 1 + nu / 3 % ((fs.map V.int).length : Int) ∧ 1 ≤ bk ∧ bk ≤ fs.length := by
              have h1 := Int.emod_nonneg (nu / 3) (show ((fs.map V.int).length : Int) ≠ 0 by rw [List.length_map]; omega)
              have h2 := Int.emod_lt_of_pos (nu / 3) (show 0 < ((fs.map V.int).length : Int) by rw [List.length_map]; omega)
              rw [List.length_map] at h1 h2 ⊢
              exact ⟨(1 + nu / 3 % (fs.length : Int)).toNat, by omega, by omega, by omega⟩
            refine gNz (v' := V.int (bk : Nat)) (by rw [ebk]) ?_
            obtain ⟨wd, hwd, wd0, wd1⟩ : ∃ wd : Int, atI [V.int 4, V.int 16, V.int 60] (nu / 11 % 3) = some (.int wd) ∧ 0 < wd ∧ wd ≤ 60 := by
              have hr : nu / 11 % 3 = 0 ∨ nu / 11 % 3 = 1 ∨ nu / 11 % 3 = 2 := by omega
              rcases hr with h | h | h <;> rw [h] <;> exact ⟨_, rfl, by decide, by decide⟩
            refine ⟨_, rfl, _, _, rfl, rfl, ⟨by decide, by decide⟩, (by show 3 ≤ sizeLine; decide), fun l2 hl2 => ?_⟩
            have sl := same_new hl2 (.lst [V.int 4, V.int 16, V.int 60])
            obtain ⟨M, hM, hM6⟩ : ∃ M : Nat, 1 + nu / 30011 % wd = (M : Int) ∧ M ≤ 60 := by
              have h1 := Int.emod_nonneg (nu / 30011) (show wd ≠ 0 by omega)
              have h2 := Int.emod_lt_of_pos (nu / 30011) wd0
              exact ⟨(1 + nu / 30011 % wd).toNat, by omega, by omega⟩
            refine ⟨_, rfl, _, _, rfl, rfl, ⟨by decide, by decide⟩, _, _, rfl, rfl, (by show (0 : Int) < 3; decide), l2, _, _, _, rfl, rfl, SqL.of upd_same, hwd, _, _, rfl, rfl, wd0, _, _, rfl, rfl, (M : Int), congrArg (fun y => [V.int y]) hM, by omega, by omega, ?_⟩
            rw [Int.toNat_natCast]
            have hFl := sl _ _ hFe
            have sml := sme.trans sl
            refine for_range (n := M) (fun j σ H' => ∃ (gs : List Int) (v9 : Option V), σ = [some (.ref a), some (.int (most : Int)), some (.int x), some (.int bs), some (.ref F), none, some (.int ((i + 1 : Nat) : Int)), some (.int nu), some (.int (bk : Nat)), v9] ∧ H' F = some (lsI gs) ∧ gs.length = fs.length + j ∧ (∀ y ∈ gs, 0 ≤ y ∧ y ≤ 255) ∧ Same H H')
              ⟨fs, _, rfl, hFl, rfl, hsg, sml⟩ ?_ ?_
            · rintro j σ H4 hj ⟨gs, w9, rfl, hF4, hgl, hgs, sm4⟩
              obtain ⟨y, hy⟩ : ∃ y, gs[gs.length - bk]? = some y := ⟨_, List.getElem?_eq_getElem (by omega)⟩
              have hat : atI (gs.map V.int) (0 - (bk : Int)) = some (.int y) := atI_neg (d := bk) (by omega) bk1 (by rw [List.length_map]; omega) (by rw [List.length_map, List.getElem?_map, hy]; rfl)
              refine ⟨_, rfl, .inl ⟨rfl, _, SqL.of hF4⟩, _, rfl, _, rfl, _, _, rfl, rfl, F, _, _, .int y, rfl, rfl, SqL.of hF4, hat, F, _, _, rfl, rfl, hF4, fits_lt (by rw [List.length_map]; omega), ?_⟩
              exact ⟨gs ++ [y], _, rfl, by rw [upd_same, lsI_app1], by rw [List.length_append, List.length_singleton]; omega, sgs_app hgs (hgs y (List.mem_of_getElem? hy)).1 (hgs y (List.mem_of_getElem? hy)).2, same_upd sm4 _ hFH⟩
            · rintro σ H4 ⟨gs, w9, rfl, hF4, hgl, hgs, sm4⟩
              exact ⟨gs, _, _, _, _, rfl, hF4, by omega, hgs, sm4⟩
          · refine ⟨_, rfl, .inl ⟨rfl, _, SqL.of hFe⟩, _, rfl, _, _, rfl, rfl, ⟨by decide, by decide⟩, _, rfl, _, _, rfl, rfl, bs0, F, _, _, rfl, rfl, hFe, fits_lt (by rw [List.length_map]; omega), ?_⟩
            exact ⟨fs ++ [nu / 3 % bs], _, _, _, _, rfl, by rw [upd_same, lsI_app1], by rw [List.length_append, List.length_singleton]; omega, sgs_app hsg (Int.emod_nonneg _ (by omega)) (by have := Int.emod_lt_of_pos (nu / 3) bs0; omega), same_upd sme _ hFH⟩
      · rintro σ H' ⟨fs, v6, v7, v8, v9, rfl, hF', hfl, hsg, sm⟩
        refine ⟨_, rfl, _, rfl, _, rfl, F, _, rfl, SqL.of hF', fun T hT => ?_⟩
        rw [cut_to (α := Int)]
        exact hQ T (fs.take most) _ (sm.trans (same_new hT _)) (sm.free hT) upd_same (by rw [List.length_take]; omega) (fun y hy => hsg y (List.mem_of_mem_take hy))
end
end K42
set_option Elab.async false
set_option linter.all false
set_option maxRecDepth 100000
set_option maxHeartbeats 4000000
namespace K42
open PySem L2 PySem.W PH
section
variable {P : Program} {w : World} {K : PySem.W.Frag} {mg : Str → Option Value} {base : Heap}
theorem sc_many : FnScope ["text", "word"] ["text", "word"] (defScope s_many) := ⟨rfl, rfl, rfl, by decide +kernel, rfl, by decide +kernel, by decide +kernel⟩
theorem ok_many {f : Addr} {fd : FuncData} (F : Fun K "_law_many" "_law_many" s_many f fd) (B : Bls mg) : FnOk P w K mg base (CXW P w) 1 f fd ["text", "word"] (spTimes) := by
  refine F.okN sc_many (fun vs H Q E h => ?_) (fun cdv A outer s H vs Q E hr h => ?_)
  · obtain ⟨T, Wd, t, w, rfl, _⟩ := h
    rfl
  · obtain ⟨T, Wd, t, w, rfl, ht, hw, hw1, hw2, htl, hQ⟩ := h
    refine ⟨_, (pss_one (ps_ret (pe_callB call_len_seq rfl B.len PySem.boot_len (pa_cons (pe_comp (N := ["k", "text", "word"]) (js := [none, some 0, some 1]) (g := (gName 0)) (tc := (tTest (tOp (rEqI K) (tSl (rSlL K) (tVar 1) (tPart (tVar 0)) (tPart (tOp (rI0 fun i j => .int (i + j)) (tVar 0) (tCB (rLen K) (tCons (tVar 2) tNil))))) (tVar 2)))) (te := (tVar 0)) rfl (comp_scope (osc := defScope s_many) (XN := ["text", "word"]) rfl rfl rfl (by decide +kernel)) (pi_range1 rfl B.range (pa_cons (pe_op op_add (pe_op op_sub (pe_callB call_len_seq rfl B.len PySem.boot_len (pa_cons (pv 0) pa_nil)) (pe_callB call_len_seq rfl B.len PySem.boot_len (pa_cons (pv 1) pa_nil))) pe_int) pa_nil)) (fun _ _ _ _ => pg_name (i := 0) (show (["k", "text", "word"] : List Str).Nodup by decide +kernel) rfl (Or.inl rfl)) (fun _ _ _ _ => (pif_one (pt_cmpR (op_eqL (units_of hr)) (pe_slice sl_list (pv 1) (po_some (pv 0)) (po_some (pe_op op_add (pv 0) (pe_callB call_len_seq rfl B.len PySem.boot_len (pa_cons (pv 2) pa_nil))))) (pv 2) (nomark _)))) (fun _ _ _ _ => (pv 0))) pa_nil)))), ?_⟩
    refine ⟨_, rfl, T, _, rfl, .inl (SqL.of ht), _, rfl, Wd, _, rfl, .inl (SqL.of hw), _, _, rfl, rfl, _, _, rfl, rfl, ((t.length : Nat) : Int) - (w.length : Nat) + 1, by rw [List.length_map, List.length_map], by omega, by omega, fun D hD => ?_⟩
    rw [show (((t.length : Nat) : Int) - (w.length : Nat) + 1).toNat = t.length + 1 - w.length by omega]
    refine comp_rngQ (fun i σ' H' => ∃ (v0 : Option V) (ks : List Int), σ' = [v0, some (.ref T), some (.ref Wd)] ∧ ks.length = ctw w t i ∧ H' D = some (lsI ks) ∧ Same H H')
      ⟨none, [], rfl, rfl, upd_same, same_new hD _⟩ ?_ ?_
    · rintro i σ' H' hi ⟨v0, ks, rfl, hks, hD', sm⟩
      rw [Int.zero_add]
      refine ⟨_, rfl, _, rfl, _, rfl, _, rfl, _, rfl, Wd, _, rfl, .inl (SqL.of (sm _ _ hw)), _, _, rfl, rfl, _, rfl, T, _, rfl, SqL.of (sm _ _ ht), fun q hq => ?_⟩
      try simp only []
      rw [List.length_map, cut_step']
      have u := same_new hq (lsI ((t.drop i).take w.length))
      have hq' : upd H' q (lsI ((t.drop i).take w.length)) q = some (lsI ((t.drop i).take w.length)) := upd_same
      generalize upd H' q (lsI ((t.drop i).take w.length)) = H2 at u hq' ⊢
      refine ⟨_, rfl, q, Wd, _, _, rfl, rfl, SqL.of hq', SqL.of (u _ _ (sm _ _ hw)), _, rfl, ?_⟩
      have hcl := ctw_le w t i
      by_cases hm : (t.drop i).take w.length = w
      · rw [decide_eq_true hm]
        refine iteT ?_
        refine ⟨_, rfl, D, _, _, rfl, rfl, u _ _ hD', fits_lt (by rw [List.length_map]; omega), ?_⟩
        refine CW.next hi ⟨_, ks ++ [(i : Int)], rfl, by rw [List.length_append, ctw_yes hm, hks]; rfl, ?_, same_upd (sm.trans u) _ hD⟩
        rw [upd_same, lsI_app1]
      · rw [decide_eq_false hm]
        refine iteF ?_
        exact CW.next hi ⟨_, ks, rfl, by rw [ctw_no hm]; exact hks, u _ _ hD', sm.trans u⟩
    rintro σ' H1 ⟨v0, ks, rfl, hks, hD1, sm⟩
    rw [ctw_all hw1] at hks
    refine ⟨D, _, rfl, .inl (SqL.of hD1), ?_⟩
    rw [List.length_map, hks]
    exact hQ H1 sm
end
end K42
set_option Elab.async false
set_option linter.all false
set_option maxRecDepth 100000
set_option maxHeartbeats 4000000
namespace K42
open PySem L2 PySem.W PH
section
variable {P : Program} {w : World} {K : PySem.W.Frag} {mg : Str → Option Value} {base : Heap}
theorem sc_word : FnScope ["text", "number", "at", "word"] ["text", "number"] (defScope s_word) := ⟨rfl, rfl, rfl, by decide +kernel, rfl, by decide +kernel, by decide +kernel⟩
theorem ok_word {f : Addr} {fd : FuncData} (F : Fun K "_law_word" "_law_word" s_word f fd) (B : Bls mg) : FnOk P w K mg base (CXW P w) 1 f fd ["text", "number"] (spWord42) := by
  refine F.okN sc_word (fun vs H Q E h => ?_) (fun cdv A outer s H vs Q E hr h => ?_)
  · obtain ⟨T, t, nu, rfl, _⟩ := h
    rfl
  · obtain ⟨T, t, nu, rfl, ht, htl, hQ⟩ := h
    refine ⟨_, (pss_cons (ps_set (i := 2) sc_word.nd rfl (Or.inl rfl) (pe_op op_mod (pe_op op_fdiv (pv 1) pe_int) (pe_op op_add (pe_callB call_len_seq rfl B.len PySem.boot_len (pa_cons (pv 0) pa_nil)) pe_int)))
      (pss_cons (ps_set (i := 3) sc_word.nd rfl (Or.inl rfl) (pe_slice sl_list (pv 0) (po_some (pv 2)) (po_some (pe_op op_add (pe_op op_add (pv 2) pe_int) (pe_op op_mod (pe_op op_fdiv (pv 1) pe_int) (pe_ix ix_list (pe_lst (pa_cons pe_int (pa_cons pe_int (pa_cons pe_int pa_nil)))) (pe_op op_mod (pv 1) pe_int) (fun _ _ => rfl)))))))
      (pss_cons (ps_if (PW.pt (pw_and (pt_cmpR (op_neL (units_of hr)) (pv 3) (pe_lst pa_nil) (nomark _)) (pw_and1 (pt_cmpR op_eq (pe_op op_mod (pe_op op_fdiv (pv 1) pe_int) pe_int) pe_int (nomark _)))))
        (pss_cons (ps_set (i := 2) sc_word.nd rfl (Or.inl rfl) (pe_op op_mod (pe_op op_fdiv (pv 1) pe_int) (pe_callB call_len_seq rfl B.len PySem.boot_len (pa_cons (pv 3) pa_nil))))
        (pss_one (ps_asg (pe_op op_mod (pe_op op_add (pe_op op_add (pe_ix ix_list (pv 3) (pv 2) (fun _ _ => rfl)) pe_int) (pe_op op_mod (pe_op op_fdiv (pv 1) pe_int) pe_int)) pe_int) (pg_sub (pv 3) (pv 2) set_list))))
        pss_nil)
      (pss_cons (ps_if (pt_cmpR (op_eqL (units_of hr)) (pv 3) (pe_lst pa_nil) (nomark _))
        (pss_one (ps_set (i := 3) sc_word.nd rfl (Or.inl rfl) (pe_lst (pa_cons (pe_op op_mod (pe_op op_fdiv (pv 1) pe_int) pe_int) (pa_cons (pe_op op_mod (pe_op op_fdiv (pv 1) pe_int) pe_int) pa_nil)))))
        pss_nil)
      (pss_one (ps_ret (pv 3))))))), ?_⟩
    obtain ⟨A, eA, hA⟩ : ∃ A : Nat, nu / 3 % (((t.length : Nat) : Int) + 1) = (A : Int) ∧ A ≤ t.length := by
      have r1 := Int.emod_nonneg (nu / 3) (show ((t.length : Nat) : Int) + 1 ≠ 0 by omega)
      have r2 := Int.emod_lt_of_pos (nu / 3) (show 0 < ((t.length : Nat) : Int) + 1 by omega)
      exact ⟨(nu / 3 % (((t.length : Nat) : Int) + 1)).toNat, by omega, by omega⟩
    refine ⟨_, rfl, _, _, rfl, rfl, ⟨by decide, by decide⟩, _, rfl, T, _, rfl, .inl (SqL.of ht), _, _, rfl, rfl, _, _, rfl, rfl, (by rw [List.length_map]; omega), ?_⟩
    refine gNz (v' := V.int (A : Int)) (congrArg V.int (by rw [List.length_map, eA])) ?_
    refine ⟨_, rfl, _, rfl, _, rfl, _, rfl, _, _, rfl, rfl, _, rfl, _, _, rfl, rfl, ⟨by decide, by decide⟩, (by show 3 ≤ sizeLine; decide), fun l hl3 => ?_⟩
    have ul := same_new hl3 (.lst [V.int 3, V.int 30, V.int 200])
    have el : upd H l (.lst [V.int 3, V.int 30, V.int 200]) l = some (.lst [V.int 3, V.int 30, V.int 200]) := upd_same
    generalize upd H l (.lst [V.int 3, V.int 30, V.int 200]) = H1 at ul el ⊢
    obtain ⟨fi, hfi, f0, f1⟩ := list_at3 (a := 3) (b := 30) (c := 200) (p := fun y => 0 < y ∧ y ≤ 200) (k := nu % 3) (by omega) (by omega) (by omega) (by omega) (by omega)
    obtain ⟨M, eM, hM⟩ : ∃ M : Nat, nu / 1201 % fi = (M : Int) ∧ M < 200 := by
      have r1 := Int.emod_nonneg (nu / 1201) (show fi ≠ 0 by omega)
      have r2 := Int.emod_lt_of_pos (nu / 1201) f0
      exact ⟨(nu / 1201 % fi).toNat, by omega, by omega⟩
    refine ⟨_, rfl, _, _, rfl, rfl, (by show (0 : Int) < 3; decide), l, _, _, _, rfl, rfl, SqL.of el, hfi, _, _, rfl, rfl, f0, _, _, rfl, rfl, _, rfl, T, _, rfl, SqL.of (ul _ _ ht), fun W hW => ?_⟩
    have hWH : H W = none := ul.free hW
    have ecut : HO.lst (cutV (t.map V.int) (some (A : Int)) (some ((A : Int) + 1 + nu / 1201 % fi))) = lsI ((t.drop A).take (M + 1)) := by
      rw [show (A : Int) + 1 + nu / 1201 % fi = (A : Int) + ((M + 1 : Nat) : Int) by omega, cut_step']
    try simp only []
    rw [ecut]
    obtain ⟨wd, ewd⟩ : ∃ wd, wd = (t.drop A).take (M + 1) := ⟨_, rfl⟩
    have hwl : wd.length ≤ 200 := by rw [ewd, List.length_take]; omega
    rw [← ewd]
    clear ewd ecut
    have uW := same_new hW (lsI wd)
    have eW : upd H1 W (lsI wd) W = some (lsI wd) := upd_same
    generalize upd H1 W (lsI wd) = H2 at uW eW ⊢
    have s2 := ul.trans uW
    refine ⟨_, rfl, (by show 0 ≤ sizeLine; decide), fun e0 he0 => ?_⟩
    have ue0 := same_new he0 (.lst [])
    have ee0 : upd H2 e0 (.lst []) e0 = some (.lst []) := upd_same
    generalize upd H2 e0 (.lst []) = H3 at ue0 ee0 ⊢
    have s3 := s2.trans ue0
    have hW3 := ue0 _ _ eW
    refine ⟨W, e0, _, [], rfl, rfl, SqL.of hW3, SqL.of ee0, _, rfl, ?_⟩
    by_cases hnil : wd = []
    · refine iteNS hnil (iteF ?_)
      refine ⟨_, rfl, (by show 0 ≤ sizeLine; decide), fun z0 hz0 => ?_⟩
      have uz0 := same_new hz0 (.lst [])
      have ez0 : upd H3 z0 (.lst []) z0 = some (.lst []) := upd_same
      generalize upd H3 z0 (.lst []) = H4 at uz0 ez0 ⊢
      refine ⟨W, z0, _, [], rfl, rfl, SqL.of (uz0 _ _ hW3), SqL.of ez0, _, rfl, ?_⟩
      rw [decide_eq_true hnil]
      refine iteT ?_
      refine ⟨_, rfl, _, _, rfl, rfl, ⟨by decide, by decide⟩, _, _, rfl, rfl, (by show (0 : Int) < 256; decide), _, rfl, _, _, rfl, rfl, ⟨by decide, by decide⟩, _, _, rfl, rfl, (by show (0 : Int) < 3; decide), (by show 2 ≤ sizeLine; decide), fun W2 hW2 => ?_⟩
      refine ⟨_, rfl, ?_⟩
      have s4 := s3.trans uz0
      exact hQ W2 [nu / 7 % 256, nu / 2003 % 3] _ (s4.trans (same_new hW2 _)) (s4.free hW2) upd_same (by show 1 ≤ 2; decide) (by show 2 ≤ 400; decide)
    refine iteNT hnil ?_
    have hwp := List.length_pos_iff.mpr hnil
    refine ⟨_, rfl, _, _, rfl, rfl, ⟨by decide, by decide⟩, _, _, rfl, rfl, (by show (0 : Int) < 4; decide), rfl, _, rfl, ?_⟩
    refine ite2 (fun _ => ?_) (fun _ => ?_)
    rotate_left
    · skip
      refine ⟨_, rfl, (by show 0 ≤ sizeLine; decide), fun z0 hz0 => ?_⟩
      have uz0 := same_new hz0 (.lst [])
      have ez0 : upd H3 z0 (.lst []) z0 = some (.lst []) := upd_same
      generalize upd H3 z0 (.lst []) = Hz at uz0 ez0 ⊢
      refine ⟨W, z0, _, [], rfl, rfl, SqL.of (uz0 _ _ hW3), SqL.of ez0, _, rfl, ?_⟩
      rw [decide_eq_false (show ¬ wd = [] from hnil)]
      refine iteF ?_
      refine ⟨_, rfl, ?_⟩
      exact hQ W _ Hz (Same.trans s3 uz0) hWH (uz0 _ _ hW3) (by omega) (by omega)
    obtain ⟨j, ej, hj⟩ : ∃ j : Nat, nu / 7 % ((wd.length : Nat) : Int) = (j : Int) ∧ j < wd.length := by
      have q1 := Int.emod_nonneg (nu / 7) (show ((wd.length : Nat) : Int) ≠ 0 by omega)
      have q2 := Int.emod_lt_of_pos (nu / 7) (show (0 : Int) < ((wd.length : Nat) : Int) by omega)
      exact ⟨(nu / 7 % ((wd.length : Nat) : Int)).toNat, by omega, by omega⟩
    refine ⟨_, rfl, _, _, rfl, rfl, ⟨by decide, by decide⟩, _, rfl, W, _, rfl, .inl (SqL.of hW3), _, _, rfl, rfl, (by rw [List.length_map]; omega), ?_⟩
    refine gNz (v' := V.int (j : Int)) (congrArg V.int (by rw [List.length_map, ej])) ?_
    obtain ⟨x, hx⟩ := bounded_at hj
    refine ⟨_, rfl, _, rfl, W, _, _, _, rfl, rfl, SqL.of hW3, at_intsZ hx, _, _, rfl, rfl, _, rfl, _, _, rfl, rfl, ⟨by decide, by decide⟩, _, _, rfl, rfl, (by show (0 : Int) < 255; decide), _, _, rfl, rfl, _, _, rfl, rfl, (by show (0 : Int) < 256; decide), ?_⟩
    refine ⟨_, rfl, _, rfl, W, _, _, j, rfl, rfl, hW3, ixN_at (by rw [List.length_map]; exact hj), ?_⟩
    try simp only []
    generalize (x + 1 + nu / 40009 % 255) % 256 = xn
    have es : HO.lst ((wd.map V.int).set j (V.int xn)) = lsI (wd.set j xn) := by unfold lsI; rw [List.map_set]
    rw [es]
    have sU := same_upd s3 (lsI (wd.set j xn)) hWH
    have hWU : upd H3 W (lsI (wd.set j xn)) W = some (lsI (wd.set j xn)) := upd_same
    generalize upd H3 W (lsI (wd.set j xn)) = H5 at sU hWU ⊢
    have hsl : (wd.set j xn).length = wd.length := List.length_set
    generalize wd.set j xn = w2 at hWU hsl ⊢
    have hne2 : ¬ w2 = [] := fun e => by rw [e] at hsl; exact hnil (List.length_eq_zero_iff.mp hsl.symm)
    refine ⟨_, rfl, (by show 0 ≤ sizeLine; decide), fun z0 hz0 => ?_⟩
    have uz0 := same_new hz0 (.lst [])
    have ez0 : upd H5 z0 (.lst []) z0 = some (.lst []) := upd_same
    generalize upd H5 z0 (.lst []) = Hz at uz0 ez0 ⊢
    refine ⟨W, z0, _, [], rfl, rfl, SqL.of (uz0 _ _ hWU), SqL.of ez0, _, rfl, ?_⟩
    rw [decide_eq_false (show ¬ w2 = [] from hne2)]
    refine iteF ?_
    refine ⟨_, rfl, ?_⟩
    exact hQ W _ Hz (Same.trans sU uz0) hWH (uz0 _ _ hWU) (by omega) (by omega)
end
end K42
set_option Elab.async false
set_option linter.all false
set_option maxRecDepth 100000
set_option maxHeartbeats 4000000
namespace K42
open PySem L2 PySem.W PH
section
variable {P : Program} {w : World} {K : PySem.W.Frag} {mg : Str → Option Value} {base : Heap}
theorem sc_law : FnScope ["script", "text", "rules", "row", "k", "number", "first", "last", "part", "word", "many"] ["script"] (defScope s_law) := ⟨rfl, rfl, rfl, by decide +kernel, rfl, by decide +kernel, by decide +kernel⟩
theorem ok_law {f c_Broken c_NoPlace f_glen f_gstr f_gtext f_gcnt f_grof f_stir f_text f_many f_word : Addr} {fd d_glen d_gstr d_gtext d_gcnt d_grof d_stir d_text d_many d_word : FuncData} (F : Fun K "law" "law" s_law f fd) (B : Bls mg) (n_sum : mg "sum" = none) 
    (G_glen : FnOk P w K mg base (CXW P w) 6 f_glen d_glen ["rules", "row"] (spGLen)) (b_glen : Binds K d_glen ["rules", "row"] []) (k_glen : keepIn K (.ref f_glen) = true) (m_glen : mg "grammar_length" = some (.ref f_glen)) 
    (G_gstr : FnOk P w K mg base (CXW P w) 7 f_gstr d_gstr ["rules", "row", "first", "last"] (spGStr c_NoPlace)) (b_gstr : Binds K d_gstr ["rules", "row", "first", "last"] []) (k_gstr : keepIn K (.ref f_gstr) = true) (m_gstr : mg "grammar_stretch" = some (.ref f_gstr)) 
    (G_gtext : FnOk P w K mg base (CXW P w) 7 f_gtext d_gtext ["rules", "row"] (spGText c_Broken)) (b_gtext : Binds K d_gtext ["rules", "row"] []) (k_gtext : keepIn K (.ref f_gtext) = true) (m_gtext : mg "grammar_text" = some (.ref f_gtext)) 
    (G_gcnt : FnOk P w K mg base (CXW P w) 7 f_gcnt d_gcnt ["rules", "row", "word"] (spGCnt)) (b_gcnt : Binds K d_gcnt ["rules", "row", "word"] []) (k_gcnt : keepIn K (.ref f_gcnt) = true) (m_gcnt : mg "grammar_count" = some (.ref f_gcnt)) 
    (G_grof : FnOk P w K mg base (CXW P w) 2 f_grof d_grof ["text"] (spGrOf)) (b_grof : Binds K d_grof ["text"] []) (k_grof : keepIn K (.ref f_grof) = true) (m_grof : mg "grammar_of" = some (.ref f_grof)) 
    (G_stir : FnOk P w K mg base (CXW P w) 1 f_stir d_stir ["cell", "k"] (spStir)) (b_stir : Binds K d_stir ["cell", "k"] []) (k_stir : keepIn K (.ref f_stir) = true) (m_stir : mg "_law_stir" = some (.ref f_stir)) 
    (G_text : FnOk P w K mg base (CXW P w) 2 f_text d_text ["script", "most"] (spTextS K)) (b_text : Binds K d_text ["script", "most"] []) (k_text : keepIn K (.ref f_text) = true) (m_text : mg "_law_text" = some (.ref f_text)) 
    (G_many : FnOk P w K mg base (CXW P w) 1 f_many d_many ["text", "word"] (spTimes)) (b_many : Binds K d_many ["text", "word"] []) (k_many : keepIn K (.ref f_many) = true) (m_many : mg "_law_many" = some (.ref f_many)) 
    (G_word : FnOk P w K mg base (CXW P w) 1 f_word d_word ["text", "number"] (spWord42)) (b_word : Binds K d_word ["text", "number"] []) (k_word : keepIn K (.ref f_word) = true) (m_word : mg "_law_word" = some (.ref f_word)) : FnOk P w K mg base (CXW P w) 8 f fd ["script"] (spLaw K) := by
  refine F.okN sc_law (fun vs H Q E h => ?_) (fun cdv A outer s H vs Q E hr h => ?_)
  · obtain ⟨a, ns, rfl, _⟩ := h
    rfl
  · obtain ⟨a, ns, rfl, hS, hl, hQ⟩ := h
    refine ⟨_, (pss_cons (ps_set (i := 1) sc_law.nd rfl (Or.inl rfl) (pe_call G_text (hr.mono (show 2 ≤ 7 by decide)) rfl m_text k_text b_text .nil passN (pa_cons (pv 0) (pa_cons pe_int pa_nil))))
      (pss_cons (ps_asg (pe_call G_grof (hr.mono (show 2 ≤ 7 by decide)) rfl m_grof k_grof b_grof .nil passN (pa_cons (pe_callTy call_list_of rfl B.list boot_list' (pa_cons (pv 1) pa_nil)) pa_nil)) (pg_tup rfl (pgs_cons (pg_name (i := 2) sc_law.nd rfl (Or.inl rfl)) (pgs_cons (pg_name (i := 3) sc_law.nd rfl (Or.inl rfl)) pgs_nil))))
      (pss_cons (ps_if (PW.pt (pw_or (pt_cmpR (op_neL (units_of hr)) (pe_call G_gtext hr rfl m_gtext k_gtext b_gtext .nil passN (pa_cons (pe_callTy call_list_of rfl B.list boot_list' (pa_cons (pv 2) pa_nil)) (pa_cons (pe_callTy call_list_of rfl B.list boot_list' (pa_cons (pv 3) pa_nil)) pa_nil))) (pv 1) (nomark _)) (pw_or1 (pt_cmpR op_ne (pe_call G_glen (hr.mono (show 6 ≤ 7 by decide)) rfl m_glen k_glen b_glen .nil passN (pa_cons (pe_callTy call_list_of rfl B.list boot_list' (pa_cons (pv 2) pa_nil)) (pa_cons (pe_callTy call_list_of rfl B.list boot_list' (pa_cons (pv 3) pa_nil)) pa_nil))) (pe_callB call_len_seq rfl B.len PySem.boot_len (pa_cons (pv 1) pa_nil)) (nomark _)))))
        (pss_one (ps_ret pe_bl))
        pss_nil)
      (pss_cons (ps_for PassesOwn.never rfl (pi_range1 rfl B.range (pa_cons pe_int pa_nil)) (pg_name (i := 4) sc_law.nd rfl (Or.inl rfl))
        (pss_cons (ps_set (i := 5) sc_law.nd rfl (Or.inl rfl) (pe_op op_add (pe_call G_stir (hr.mono (show 1 ≤ 7 by decide)) rfl m_stir k_stir b_stir .nil passN (pa_cons (pe_callB (call_sum rfl) rfl n_sum boot_sum' (pa_cons (pe_sliceS (pv 0) (po_some (pv 4)) (po_some pe_int) (po_some pe_int)) pa_nil)) (pa_cons (pv 4) pa_nil))) (pe_callB (call_sum rfl) rfl n_sum boot_sum' (pa_cons (pe_sliceS (pv 0) (po_some (pe_op op_add (pv 4) pe_int)) (po_some pe_int) (po_some pe_int)) pa_nil))))
        (pss_cons (ps_set (i := 6) sc_law.nd rfl (Or.inl rfl) (pe_op op_mod (pe_op op_fdiv (pv 5) pe_int) (pe_op op_add (pe_callB call_len_seq rfl B.len PySem.boot_len (pa_cons (pv 1) pa_nil)) pe_int)))
        (pss_cons (ps_set (i := 7) sc_law.nd rfl (Or.inl rfl) (pe_op op_add (pv 6) (pe_op op_mod (pe_op op_fdiv (pv 5) pe_int) (pe_op op_sub (pe_op op_add (pe_callB call_len_seq rfl B.len PySem.boot_len (pa_cons (pv 1) pa_nil)) pe_int) (pv 6)))))
        (pss_cons (ps_set (i := 8) sc_law.nd rfl (Or.inl rfl) (pe_call G_gstr hr rfl m_gstr k_gstr b_gstr .nil passN (pa_cons (pe_callTy call_list_of rfl B.list boot_list' (pa_cons (pv 2) pa_nil)) (pa_cons (pe_callTy call_list_of rfl B.list boot_list' (pa_cons (pv 3) pa_nil)) (pa_cons (pv 6) (pa_cons (pv 7) pa_nil))))))
        (pss_cons (ps_set (i := 9) sc_law.nd rfl (Or.inl rfl) (pe_call G_word (hr.mono (show 1 ≤ 7 by decide)) rfl m_word k_word b_word .nil passN (pa_cons (pv 1) (pa_cons (pv 5) pa_nil))))
        (pss_cons (ps_set (i := 10) sc_law.nd rfl (Or.inl rfl) (pe_call G_gcnt hr rfl m_gcnt k_gcnt b_gcnt .nil passN (pa_cons (pe_callTy call_list_of rfl B.list boot_list' (pa_cons (pv 2) pa_nil)) (pa_cons (pe_callTy call_list_of rfl B.list boot_list' (pa_cons (pv 3) pa_nil)) (pa_cons (pe_callTy call_list_of rfl B.list boot_list' (pa_cons (pv 9) pa_nil)) pa_nil)))))
        (pss_cons (ps_if (PW.pt (pw_or (pt_cmpR (op_neL (units_of hr)) (pv 8) (pe_slice sl_list (pv 1) (po_some (pv 6)) (po_some (pv 7))) (nomark _)) (pw_or1 (pt_cmpR op_ne (pv 10) (pe_call G_many (hr.mono (show 1 ≤ 7 by decide)) rfl m_many k_many b_many .nil passN (pa_cons (pv 1) (pa_cons (pv 9) pa_nil))) (nomark _)))))
          (pss_one (ps_ret pe_bl))
          pss_nil)
        (pss_cons (ps_if (pt_cmpR (op_neL (units_of hr)) (pe_call G_gtext hr rfl m_gtext k_gtext b_gtext .nil passN (pa_cons (pe_callTy call_list_of rfl B.list boot_list' (pa_cons (pv 2) pa_nil)) (pa_cons (pe_callTy call_list_of rfl B.list boot_list' (pa_cons (pv 8) pa_nil)) pa_nil))) (pv 8) (nomark _))
          (pss_one (ps_ret pe_bl))
          pss_nil)
        (pss_one (ps_if (pt_cmpR op_ne (pe_call G_gcnt hr rfl m_gcnt k_gcnt b_gcnt .nil passN (pa_cons (pe_callTy call_list_of rfl B.list boot_list' (pa_cons (pv 2) pa_nil)) (pa_cons (pe_callTy call_list_of rfl B.list boot_list' (pa_cons (pv 8) pa_nil)) (pa_cons (pe_callTy call_list_of rfl B.list boot_list' (pa_cons (pv 9) pa_nil)) pa_nil)))) (pe_call G_many (hr.mono (show 1 ≤ 7 by decide)) rfl m_many k_many b_many .nil passN (pa_cons (pv 8) (pa_cons (pv 9) pa_nil))) (nomark _))
          (pss_one (ps_ret pe_bl))
          pss_nil)))))))))))
      (pss_one (ps_ret (pe_or (pe_cmpR (op_eqL (units_of hr)) (pv 1) (pe_lst pa_nil) (nomark _)) (pe_one (pe_cmpR op_eq (pe_call G_gcnt hr rfl m_gcnt k_gcnt b_gcnt .nil passN (pa_cons (pe_callTy call_list_of rfl B.list boot_list' (pa_cons (pv 2) pa_nil)) (pa_cons (pe_callTy call_list_of rfl B.list boot_list' (pa_cons (pv 3) pa_nil)) (pa_cons (pe_callTy call_list_of rfl B.list boot_list' (pa_cons (pv 1) pa_nil)) pa_nil)))) pe_int (nomark _)))))))))), ?_⟩
    refine ⟨_, rfl, a, ns, 200, rfl, hS, hl, by decide, by decide, fun T ts H1 s1 hT hT1 htl hsg => ?_⟩
    refine ⟨_, rfl, T, _, rfl, .inl (SqL.of hT1), fun c1 hc1 => ?_⟩
    have uc1 := same_new hc1 (.lst (ts.map V.int))
    have ec1 : upd H1 c1 (.lst (ts.map V.int)) c1 = some (.lst (ts.map V.int)) := upd_same
    generalize upd H1 c1 (.lst (ts.map V.int)) = H2 at uc1 ec1 ⊢
    refine ⟨c1, ts, rfl, ec1, by omega, hsg, fun R P W zs row H3 s3 hR pr gr hW rz hzl hrl hex => ?_⟩
    have s13 := uc1.trans s3
    have hT3 := s13 _ _ hT1
    refine ⟨R, _, rfl, SqT.of hR, rfl, _, _, rfl, _, _, rfl, rfl, ?_⟩
    refine ⟨_, rfl, P, _, rfl, .inl (SqL.of pr.at_), fun ha4 hha4 => ?_⟩
    have a4 := same_new hha4 (.lst (zs.map fun z => V.ref z.1))
    have p4' : Prs (upd H3 ha4 (.lst (zs.map fun z => V.ref z.1))) ha4 zs := ⟨upd_same, fun z hz => a4 _ _ (pr.each z hz)⟩
    generalize upd H3 ha4 (.lst (zs.map fun z => V.ref z.1)) = Ha4 at a4 p4' ⊢
    refine ⟨_, rfl, W, _, rfl, .inl (SqL.of (a4 _ _ hW)), fun hb4 hhb4 => ?_⟩
    have b4 := same_new hhb4 (.lst (row.map V.int))
    have q4 : upd Ha4 hb4 (.lst (row.map V.int)) hb4 = some (lsI (row)) := upd_same
    generalize upd Ha4 hb4 (.lst (row.map V.int)) = Hb4 at b4 q4 ⊢
    have p4 := p4'.same b4
    have w4 := a4.trans b4
    clear p4' a4 b4
    refine ⟨ha4, hb4, zs, row, rfl, p4, gr, q4, rz, by omega, by omega, (fun h => absurd h (by rw [hex]; omega)), fun _ D4 H4 s4 hD4n hD4 => ?_⟩
    rw [hex] at hD4
    have t4 := w4.trans s4
    refine ⟨_, rfl, D4, T, _, _, rfl, rfl, SqL.of hD4, SqL.of (t4 _ _ hT3), _, rfl, ?_⟩
    refine iteNS rfl ?_
    refine ⟨_, rfl, P, _, rfl, .inl (SqL.of (pr.same t4).at_), fun ha5 hha5 => ?_⟩
    have a5 := same_new hha5 (.lst (zs.map fun z => V.ref z.1))
    have p5' : Prs (upd H4 ha5 (.lst (zs.map fun z => V.ref z.1))) ha5 zs := ⟨upd_same, fun z hz => a5 _ _ ((pr.same t4).each z hz)⟩
    generalize upd H4 ha5 (.lst (zs.map fun z => V.ref z.1)) = Ha5 at a5 p5' ⊢
    refine ⟨_, rfl, W, _, rfl, .inl (SqL.of (a5 _ _ (t4 _ _ hW))), fun hb5 hhb5 => ?_⟩
    have b5 := same_new hhb5 (.lst (row.map V.int))
    have q5 : upd Ha5 hb5 (.lst (row.map V.int)) hb5 = some (lsI (row)) := upd_same
    generalize upd Ha5 hb5 (.lst (row.map V.int)) = Hb5 at b5 q5 ⊢
    have p5 := p5'.same b5
    have w5 := a5.trans b5
    clear p5' a5 b5
    refine ⟨ha5, hb5, zs, row, rfl, p5, gr, q5, rz, by omega, by omega, fun H5 s5 => ?_⟩
    have t5 := t4.trans (w5.trans s5)
    refine ⟨_, rfl, T, _, rfl, .inl (SqL.of (t5 _ _ hT3)), rfl, _, rfl, ?_⟩
    refine iteNS (congrArg V.int (by rw [hex, List.length_map])) ?_
    refine ⟨4, rfl, by decide, by decide, ?_⟩
    refine for_range (n := 4) (fun i σ H' => ∃ (v4 v5 v6 v7 v8 v9 v10 : Option V), σ = [some (.ref a), some (.ref T), some (.ref P), some (.ref W), v4, v5, v6, v7, v8, v9, v10] ∧ Same H3 H')
      ⟨none, none, none, none, none, none, none, rfl, t5⟩ ?_ ?_
    · rintro i σ H6 hi ⟨v4, v5, v6, v7, v8, v9, v10, rfl, sm⟩
      rw [Int.zero_add]
      have hi4 : i < 4 := hi
      have hS6 := (s1.trans (s13.trans sm)).seq hS
      refine ⟨_, rfl, _, rfl, _, rfl, _, rfl, _, rfl, (by decide), a, ns, rfl, hS6, fun p1 ms hp1 hmem hml => ?_⟩
      have up1 := same_new hp1 (.lst (ms.map V.int))
      have ep1 : upd H6 p1 (.lst (ms.map V.int)) p1 = some (.lst (ms.map V.int)) := upd_same
      generalize upd H6 p1 (.lst (ms.map V.int)) = H7 at up1 ep1 ⊢
      refine ⟨p1, _, rfl, SqL.of ep1, _, rfl, _, i, rfl, by omega, fun st1 st10 => ?_⟩
      have hS7 := up1.seq hS6
      refine ⟨_, rfl, _, rfl, _, _, rfl, rfl, _, rfl, _, rfl, _, rfl, (by decide), a, ns, rfl, hS7, fun p2 ms2 hp2 hmem2 hml2 => ?_⟩
      have up2 := same_new hp2 (.lst (ms2.map V.int))
      have ep2 : upd H7 p2 (.lst (ms2.map V.int)) p2 = some (.lst (ms2.map V.int)) := upd_same
      generalize upd H7 p2 (.lst (ms2.map V.int)) = H8 at up2 ep2 ⊢
      refine ⟨p2, _, rfl, SqL.of ep2, _, _, rfl, rfl, ?_⟩
      obtain ⟨nu, enu⟩ : ∃ nu : Int, nu = st1 + ms2.sum := ⟨_, rfl⟩
      refine gNz (v' := V.int nu) (congrArg V.int enu) ?_
      clear enu
      have t8 := sm.trans (up1.trans up2)
      have hT8 := t8 _ _ hT3
      obtain ⟨len, elen⟩ : ∃ len : Nat, len = ts.length := ⟨_, rfl⟩
      obtain ⟨A, eA, hA⟩ : ∃ A : Nat, nu / 5 % ((len : Int) + 1) = (A : Int) ∧ A ≤ len := by
        have r1 := Int.emod_nonneg (nu / 5) (show (len : Int) + 1 ≠ 0 by omega)
        have r2 := Int.emod_lt_of_pos (nu / 5) (show 0 < (len : Int) + 1 by omega)
        exact ⟨(nu / 5 % ((len : Int) + 1)).toNat, by omega, by omega⟩
      refine ⟨_, rfl, _, _, rfl, rfl, ⟨by decide, by decide⟩, _, rfl, T, _, rfl, .inl (SqL.of hT8), _, _, rfl, rfl, _, _, rfl, rfl, (by rw [List.length_map]; omega), ?_⟩
      refine gNz (v' := V.int (A : Int)) (congrArg V.int (by rw [List.length_map, ← elen, eA])) ?_
      obtain ⟨B, eB, hAB, hBl⟩ : ∃ B : Nat, (A : Int) + nu / 2011 % ((len : Int) + 1 - (A : Int)) = (B : Int) ∧ A ≤ B ∧ B ≤ len := by
        have r1 := Int.emod_nonneg (nu / 2011) (show (len : Int) + 1 - (A : Int) ≠ 0 by omega)
        have r2 := Int.emod_lt_of_pos (nu / 2011) (show 0 < (len : Int) + 1 - (A : Int) by omega)
        exact ⟨((A : Int) + nu / 2011 % ((len : Int) + 1 - (A : Int))).toNat, by omega, by omega, by omega⟩
      refine ⟨_, rfl, _, rfl, _, _, rfl, rfl, ⟨by decide, by decide⟩, _, rfl, T, _, rfl, .inl (SqL.of hT8), _, _, rfl, rfl, _, rfl, _, _, rfl, rfl, _, _, rfl, rfl, (by rw [List.length_map, ← elen]; omega), _, _, rfl, rfl, ?_⟩
      refine gNz (v' := V.int (B : Int)) (congrArg V.int (by rw [List.length_map, ← elen, eB])) ?_
      have pr8 := pr.same t8
      have hW8 := t8 _ _ hW
      refine ⟨_, rfl, P, _, rfl, .inl (SqL.of pr8.at_), fun ha9 hha9 => ?_⟩
      have a9 := same_new hha9 (.lst (zs.map fun z => V.ref z.1))
      have p9' : Prs (upd H8 ha9 (.lst (zs.map fun z => V.ref z.1))) ha9 zs := ⟨upd_same, fun z hz => a9 _ _ (pr8.each z hz)⟩
      generalize upd H8 ha9 (.lst (zs.map fun z => V.ref z.1)) = Ha9 at a9 p9' ⊢
      refine ⟨_, rfl, W, _, rfl, .inl (SqL.of (a9 _ _ hW8)), fun hb9 hhb9 => ?_⟩
      have b9 := same_new hhb9 (.lst (row.map V.int))
      have q9 : upd Ha9 hb9 (.lst (row.map V.int)) hb9 = some (lsI (row)) := upd_same
      generalize upd Ha9 hb9 (.lst (row.map V.int)) = Hb9 at b9 q9 ⊢
      have p9 := p9'.same b9
      have w9 := a9.trans b9
      clear p9' a9 b9
      refine ⟨_, rfl, _, rfl, ha9, hb9, zs, row, (A : Int), (B : Int), rfl, p9, gr, q9, rz, by omega, by omega, (fun hno => absurd ⟨by omega, by omega, by rw [hex, ← elen]; omega⟩ hno), fun _ => ⟨by omega, fun D H9 s9 hDn hD => ?_⟩⟩
      rw [hex, Int.toNat_natCast, Int.toNat_natCast] at hD
      obtain ⟨pt, ept⟩ : ∃ pt, pt = (ts.take B).drop A := ⟨_, rfl⟩
      rw [← ept] at hD
      have hpl : pt.length ≤ 200 := by rw [ept, List.length_drop, List.length_take]; omega
      have hps : ∀ y ∈ pt, 0 ≤ y ∧ y ≤ 255 := fun y hy => by
        rw [ept] at hy
        exact hsg y (List.mem_of_mem_take (List.mem_of_mem_drop hy))
      have t9 := w9.trans s9
      refine ⟨_, rfl, _, rfl, T, ts, nu, rfl, t9 _ _ hT8, by omega, fun Wd w HA sA hWdn hWd hw1 hw2 => ?_⟩
      have tA := t9.trans sA
      have hDA := sA _ _ hD
      refine ⟨_, rfl, P, _, rfl, .inl (SqL.of (pr8.same tA).at_), fun ha10 hha10 => ?_⟩
      have a10 := same_new hha10 (.lst (zs.map fun z => V.ref z.1))
      have p10' : Prs (upd HA ha10 (.lst (zs.map fun z => V.ref z.1))) ha10 zs := ⟨upd_same, fun z hz => a10 _ _ ((pr8.same tA).each z hz)⟩
      generalize upd HA ha10 (.lst (zs.map fun z => V.ref z.1)) = Ha10 at a10 p10' ⊢
      refine ⟨_, rfl, W, _, rfl, .inl (SqL.of (a10 _ _ (tA _ _ hW8))), fun hb10 hhb10 => ?_⟩
      have b10 := same_new hhb10 (.lst (row.map V.int))
      have q10 : upd Ha10 hb10 (.lst (row.map V.int)) hb10 = some (lsI (row)) := upd_same
      generalize upd Ha10 hb10 (.lst (row.map V.int)) = Hb10 at b10 q10 ⊢
      have p10 := p10'.same b10
      have w10 := a10.trans b10
      clear p10' a10 b10
      refine ⟨_, rfl, Wd, _, rfl, .inl (SqL.of (w10 _ _ hWd)), fun hc10 hhc10 => ?_⟩
      have c10 := same_new hhc10 (.lst (w.map V.int))
      have r10 : upd Hb10 hc10 (.lst (w.map V.int)) hc10 = some (lsI w) := upd_same
      generalize upd Hb10 hc10 (.lst (w.map V.int)) = Hc10 at c10 r10 ⊢
      have p10x := p10.same c10
      have q10x := c10 _ _ q10
      have w10x := w10.trans c10
      refine ⟨ha10, hb10, hc10, zs, row, w, rfl, p10x, gr, q10x, rz, by omega, by omega, r10, hw1, by omega, fun HB sB => ?_⟩
      rw [hex]
      have aB := w10x.trans sB
      have hTB := aB _ _ (tA _ _ hT8)
      refine ⟨_, rfl, _, rfl, _, rfl, _, rfl, _, rfl, _, rfl, T, _, rfl, SqL.of hTB, fun x1 hx1 => ?_⟩
      have ecut : HO.lst (cutV (ts.map V.int) (some (A : Int)) (some (B : Int))) = lsI pt := by
        rw [ept, List.drop_take]
        exact congrArg HO.lst (cut_two ts A B)
      rw [ecut]
      have ux1 := same_new hx1 (lsI pt)
      have ex1 : upd HB x1 (lsI pt) x1 = some (lsI pt) := upd_same
      generalize upd HB x1 (lsI pt) = HC at ux1 ex1 ⊢
      have aC := aB.trans ux1
      refine ⟨D, x1, _, _, rfl, rfl, SqL.of (aC _ _ hDA), SqL.of ex1, _, rfl, ?_⟩
      refine iteNS rfl ?_
      refine ⟨_, rfl, _, rfl, _, rfl, T, Wd, ts, w, rfl, ux1 _ _ hTB, aC _ _ hWd, hw1, by omega, by omega, fun HD sD => ?_⟩
      refine ⟨rfl, _, rfl, ?_⟩
      refine iteNS rfl ?_
      have aD := aC.trans sD
      have tD := tA.trans aD
      refine ⟨_, rfl, P, _, rfl, .inl (SqL.of (pr8.same tD).at_), fun ha11 hha11 => ?_⟩
      have a11 := same_new hha11 (.lst (zs.map fun z => V.ref z.1))
      have p11' : Prs (upd HD ha11 (.lst (zs.map fun z => V.ref z.1))) ha11 zs := ⟨upd_same, fun z hz => a11 _ _ ((pr8.same tD).each z hz)⟩
      generalize upd HD ha11 (.lst (zs.map fun z => V.ref z.1)) = Ha11 at a11 p11' ⊢
      refine ⟨_, rfl, D, _, rfl, .inl (SqL.of (a11 _ _ (aD _ _ hDA))), fun hb11 hhb11 => ?_⟩
      have b11 := same_new hhb11 (.lst (pt.map V.int))
      have q11 : upd Ha11 hb11 (.lst (pt.map V.int)) hb11 = some (lsI (pt)) := upd_same
      generalize upd Ha11 hb11 (.lst (pt.map V.int)) = Hb11 at b11 q11 ⊢
      have p11 := p11'.same b11
      have w11 := a11.trans b11
      clear p11' a11 b11
      refine ⟨ha11, hb11, zs, pt, rfl, p11, gr, q11, (rz_signs hps), by omega, by omega, (fun h => absurd h (by rw [exs_signs hps]; omega)), fun _ D5 HE sE hD5n hD5 => ?_⟩
      rw [exs_signs hps] at hD5
      have aE := aD.trans (w11.trans sE)
      refine ⟨_, rfl, D5, D, _, _, rfl, rfl, SqL.of hD5, SqL.of (aE _ _ hDA), _, rfl, ?_⟩
      refine iteNS rfl ?_
      have tE := tA.trans aE
      refine ⟨_, rfl, P, _, rfl, .inl (SqL.of (pr8.same tE).at_), fun ha12 hha12 => ?_⟩
      have a12 := same_new hha12 (.lst (zs.map fun z => V.ref z.1))
      have p12' : Prs (upd HE ha12 (.lst (zs.map fun z => V.ref z.1))) ha12 zs := ⟨upd_same, fun z hz => a12 _ _ ((pr8.same tE).each z hz)⟩
      generalize upd HE ha12 (.lst (zs.map fun z => V.ref z.1)) = Ha12 at a12 p12' ⊢
      refine ⟨_, rfl, D, _, rfl, .inl (SqL.of (a12 _ _ (aE _ _ hDA))), fun hb12 hhb12 => ?_⟩
      have b12 := same_new hhb12 (.lst (pt.map V.int))
      have q12 : upd Ha12 hb12 (.lst (pt.map V.int)) hb12 = some (lsI (pt)) := upd_same
      generalize upd Ha12 hb12 (.lst (pt.map V.int)) = Hb12 at b12 q12 ⊢
      have p12 := p12'.same b12
      have w12 := a12.trans b12
      clear p12' a12 b12
      refine ⟨_, rfl, Wd, _, rfl, .inl (SqL.of (w12 _ _ (aE _ _ hWd))), fun hc12 hhc12 => ?_⟩
      have c12 := same_new hhc12 (.lst (w.map V.int))
      have r12 : upd Hb12 hc12 (.lst (w.map V.int)) hc12 = some (lsI w) := upd_same
      generalize upd Hb12 hc12 (.lst (w.map V.int)) = Hc12 at c12 r12 ⊢
      have p12x := p12.same c12
      have q12x := c12 _ _ q12
      have w12x := w12.trans c12
      refine ⟨ha12, hb12, hc12, zs, pt, w, rfl, p12x, gr, q12x, (rz_signs hps), by omega, by omega, r12, hw1, by omega, fun HF sF => ?_⟩
      rw [exs_signs hps]
      have aF := aE.trans (w12x.trans sF)
      refine ⟨_, rfl, _, rfl, D, Wd, pt, w, rfl, aF _ _ hDA, aF _ _ hWd, hw1, by omega, by omega, fun HG sG => ?_⟩
      refine ⟨rfl, _, rfl, ?_⟩
      refine iteNS rfl ?_
      exact ⟨_, _, _, _, _, _, _, rfl, t8.trans (tA.trans (aF.trans sG))⟩
    · rintro σ H6 ⟨v4, v5, v6, v7, v8, v9, v10, rfl, sm⟩
      have hT6 := sm _ _ hT3
      refine ⟨_, rfl, (by show 0 ≤ sizeLine; decide), fun e0 he0 => ?_⟩
      have ue0 := same_new he0 (.lst [])
      have ee0 : upd H6 e0 (.lst []) e0 = some (.lst []) := upd_same
      generalize upd H6 e0 (.lst []) = H7 at ue0 ee0 ⊢
      refine ⟨T, e0, _, [], rfl, rfl, SqL.of (ue0 _ _ hT6), SqL.of ee0, _, rfl, ?_⟩
      by_cases hnil : ts = []
      · rw [decide_eq_true hnil]
        refine iteT ?_
        exact hQ _
      rw [decide_eq_false hnil]
      refine iteF ?_
      have hp1 := List.length_pos_iff.mpr hnil
      have t7 := sm.trans ue0
      refine ⟨_, rfl, P, _, rfl, .inl (SqL.of (pr.same t7).at_), fun ha20 hha20 => ?_⟩
      have a20 := same_new hha20 (.lst (zs.map fun z => V.ref z.1))
      have p20' : Prs (upd H7 ha20 (.lst (zs.map fun z => V.ref z.1))) ha20 zs := ⟨upd_same, fun z hz => a20 _ _ ((pr.same t7).each z hz)⟩
      generalize upd H7 ha20 (.lst (zs.map fun z => V.ref z.1)) = Ha20 at a20 p20' ⊢
      refine ⟨_, rfl, W, _, rfl, .inl (SqL.of (a20 _ _ (t7 _ _ hW))), fun hb20 hhb20 => ?_⟩
      have b20 := same_new hhb20 (.lst (row.map V.int))
      have q20 : upd Ha20 hb20 (.lst (row.map V.int)) hb20 = some (lsI (row)) := upd_same
      generalize upd Ha20 hb20 (.lst (row.map V.int)) = Hb20 at b20 q20 ⊢
      have p20 := p20'.same b20
      have w20 := a20.trans b20
      clear p20' a20 b20
      refine ⟨_, rfl, T, _, rfl, .inl (SqL.of (w20 _ _ (t7 _ _ hT3))), fun hc20 hhc20 => ?_⟩
      have c20 := same_new hhc20 (.lst (ts.map V.int))
      have r20 : upd Hb20 hc20 (.lst (ts.map V.int)) hc20 = some (lsI ts) := upd_same
      generalize upd Hb20 hc20 (.lst (ts.map V.int)) = Hc20 at c20 r20 ⊢
      have p20x := p20.same c20
      have q20x := c20 _ _ q20
      have w20x := w20.trans c20
      refine ⟨ha20, hb20, hc20, zs, row, ts, rfl, p20x, gr, q20x, rz, by omega, by omega, r20, (by omega), by omega, fun HX sX => ?_⟩
      rw [hex, cnt_self hnil]
      refine ⟨rfl, ?_⟩
      exact hQ _
end
end K42
set_option Elab.async false
set_option linter.all false
set_option maxRecDepth 100000
set_option maxHeartbeats 4000000
namespace K42
open PySem L2 PySem.W PH
section
theorem all_mk {l : PySem.W.OpenLaw} {w : World} {K : PySem.W.Frag} {h : Heap} {mg : Str → Option Value} {fa f1 f2 f3 f4 f5 f6 f7 f8 f9 f10 f11 f12 f13 f14 f15 f16 f17 f18 f19 f20 f21 f22 f23 f24 f25 c_PackError c_Broken c_NoPlace : Addr} (X : K.In h) (G : h.Ns mainGlobals mg) (hfa : mg "law" = some (.ref fa))
    {od1 an1 od2 an2 od3 an3 od4 an4 od5 an5 od6 an6 od7 an7 od8 an8 od9 an9 od10 an10 od11 an11 od12 an12 od13 an13 od14 an14 od15 an15 od16 an16 od17 an17 od18 an18 od19 an19 od20 an20 od21 an21 od22 an22 od23 an23 od24 an24 od25 an25 : Option Addr} {sl1 sl2 sl3 sl4 sl5 sl6 sl7 sl8 sl9 sl10 sl11 sl12 sl13 sl14 sl15 sl16 sl17 sl18 sl19 sl20 sl21 sl22 sl23 sl24 sl25 : Array (Option Value)} {oc1 kV1 dc1 pm1 cd1 ct1 oc2 kV2 dc2 pm2 cd2 ct2 oc3 kV3 dc3 pm3 cd3 ct3 oc4 kV4 dc4 pm4 cd4 ct4 oc5 kV5 dc5 pm5 cd5 ct5 oc6 kV6 dc6 pm6 cd6 ct6 oc7 kV7 dc7 pm7 cd7 ct7 oc8 kV8 dc8 pm8 cd8 ct8 oc9 kV9 dc9 pm9 cd9 ct9 oc10 kV10 dc10 pm10 cd10 ct10 oc11 kV11 dc11 pm11 cd11 ct11 oc12 kV12 dc12 pm12 cd12 ct12 oc13 kV13 dc13 pm13 cd13 ct13 oc14 kV14 dc14 pm14 cd14 ct14 oc15 kV15 dc15 pm15 cd15 ct15 oc16 kV16 dc16 pm16 cd16 ct16 oc17 kV17 dc17 pm17 cd17 ct17 oc18 kV18 dc18 pm18 cd18 ct18 oc19 kV19 dc19 pm19 cd19 ct19 oc20 kV20 dc20 pm20 cd20 ct20 oc21 kV21 dc21 pm21 cd21 ct21 oc22 kV22 dc22 pm22 cd22 ct22 oc23 kV23 dc23 pm23 cd23 ct23 oc24 kV24 dc24 pm24 cd24 ct24 oc25 kV25 dc25 pm25 cd25 ct25 : Value}
    {tk_FIRST_RULE tk_LAST_SIGN tk_MOST_SIGNS : Tok}
    (a1 : PySem.W.nsIn K mainGlobals "is_whole" = some (some (.ref f1))) (l1 : K.lookup f1 = some ⟨oc1, od1, .func (PySem.W.fnOf "is_whole" "is_whole" (defArgs s_whole) (defBody s_whole) (defScope s_whole) .none kV1 dc1 pm1 an1 cd1 ct1), sl1⟩) (cc1 : PySem.W.codeIn K cd1 "is_whole" = true) (k1 : PySem.W.keepIn K (.ref f1) = true)
    (a2 : PySem.W.nsIn K mainGlobals "are_symbols" = some (some (.ref f2))) (l2 : K.lookup f2 = some ⟨oc2, od2, .func (PySem.W.fnOf "are_symbols" "are_symbols" (defArgs s_syms) (defBody s_syms) (defScope s_syms) .none kV2 dc2 pm2 an2 cd2 ct2), sl2⟩) (cc2 : PySem.W.codeIn K cd2 "are_symbols" = true) (k2 : PySem.W.keepIn K (.ref f2) = true)
    (a3 : PySem.W.nsIn K mainGlobals "is_rule" = some (some (.ref f3))) (l3 : K.lookup f3 = some ⟨oc3, od3, .func (PySem.W.fnOf "is_rule" "is_rule" (defArgs s_isrule) (defBody s_isrule) (defScope s_isrule) .none kV3 dc3 pm3 an3 cd3 ct3), sl3⟩) (cc3 : PySem.W.codeIn K cd3 "is_rule" = true) (k3 : PySem.W.keepIn K (.ref f3) = true)
    (a4 : PySem.W.nsIn K mainGlobals "is_grammar" = some (some (.ref f4))) (l4 : K.lookup f4 = some ⟨oc4, od4, .func (PySem.W.fnOf "is_grammar" "is_grammar" (defArgs s_isgr) (defBody s_isgr) (defScope s_isgr) .none kV4 dc4 pm4 an4 cd4 ct4), sl4⟩) (cc4 : PySem.W.codeIn K cd4 "is_grammar" = true) (k4 : PySem.W.keepIn K (.ref f4) = true)
    (a5 : PySem.W.nsIn K mainGlobals "refuse_no_grammar" = some (some (.ref f5))) (l5 : K.lookup f5 = some ⟨oc5, od5, .func (PySem.W.fnOf "refuse_no_grammar" "refuse_no_grammar" (defArgs s_nogr) (defBody s_nogr) (defScope s_nogr) .none kV5 dc5 pm5 an5 cd5 ct5), sl5⟩) (cc5 : PySem.W.codeIn K cd5 "refuse_no_grammar" = true) (k5 : PySem.W.keepIn K (.ref f5) = true)
    (a6 : PySem.W.nsIn K mainGlobals "lengths_by" = some (some (.ref f6))) (l6 : K.lookup f6 = some ⟨oc6, od6, .func (PySem.W.fnOf "lengths_by" "lengths_by" (defArgs s_lens) (defBody s_lens) (defScope s_lens) .none kV6 dc6 pm6 an6 cd6 ct6), sl6⟩) (cc6 : PySem.W.codeIn K cd6 "lengths_by" = true) (k6 : PySem.W.keepIn K (.ref f6) = true)
    (a7 : PySem.W.nsIn K mainGlobals "grammar_length" = some (some (.ref f7))) (l7 : K.lookup f7 = some ⟨oc7, od7, .func (PySem.W.fnOf "grammar_length" "grammar_length" (defArgs s_glen) (defBody s_glen) (defScope s_glen) .none kV7 dc7 pm7 an7 cd7 ct7), sl7⟩) (cc7 : PySem.W.codeIn K cd7 "grammar_length" = true) (k7 : PySem.W.keepIn K (.ref f7) = true)
    (a8 : PySem.W.nsIn K mainGlobals "signs_between" = some (some (.ref f8))) (l8 : K.lookup f8 = some ⟨oc8, od8, .func (PySem.W.fnOf "signs_between" "signs_between" (defArgs s_between) (defBody s_between) (defScope s_between) .none kV8 dc8 pm8 an8 cd8 ct8), sl8⟩) (cc8 : PySem.W.codeIn K cd8 "signs_between" = true) (k8 : PySem.W.keepIn K (.ref f8) = true)
    (a9 : PySem.W.nsIn K mainGlobals "refuse_no_stretch" = some (some (.ref f9))) (l9 : K.lookup f9 = some ⟨oc9, od9, .func (PySem.W.fnOf "refuse_no_stretch" "refuse_no_stretch" (defArgs s_nostr) (defBody s_nostr) (defScope s_nostr) .none kV9 dc9 pm9 an9 cd9 ct9), sl9⟩) (cc9 : PySem.W.codeIn K cd9 "refuse_no_stretch" = true) (k9 : PySem.W.keepIn K (.ref f9) = true)
    (a10 : PySem.W.nsIn K mainGlobals "grammar_stretch" = some (some (.ref f10))) (l10 : K.lookup f10 = some ⟨oc10, od10, .func (PySem.W.fnOf "grammar_stretch" "grammar_stretch" (defArgs s_gstr) (defBody s_gstr) (defScope s_gstr) .none kV10 dc10 pm10 an10 cd10 ct10), sl10⟩) (cc10 : PySem.W.codeIn K cd10 "grammar_stretch" = true) (k10 : PySem.W.keepIn K (.ref f10) = true)
    (a11 : PySem.W.nsIn K mainGlobals "grammar_text" = some (some (.ref f11))) (l11 : K.lookup f11 = some ⟨oc11, od11, .func (PySem.W.fnOf "grammar_text" "grammar_text" (defArgs s_gtext) (defBody s_gtext) (defScope s_gtext) .none kV11 dc11 pm11 an11 cd11 ct11), sl11⟩) (cc11 : PySem.W.codeIn K cd11 "grammar_text" = true) (k11 : PySem.W.keepIn K (.ref f11) = true)
    (a12 : PySem.W.nsIn K mainGlobals "times_in" = some (some (.ref f12))) (l12 : K.lookup f12 = some ⟨oc12, od12, .func (PySem.W.fnOf "times_in" "times_in" (defArgs s_times) (defBody s_times) (defScope s_times) .none kV12 dc12 pm12 an12 cd12 ct12), sl12⟩) (cc12 : PySem.W.codeIn K cd12 "times_in" = true) (k12 : PySem.W.keepIn K (.ref f12) = true)
    (a13 : PySem.W.nsIn K mainGlobals "part_of_sign" = some (some (.ref f13))) (l13 : K.lookup f13 = some ⟨oc13, od13, .func (PySem.W.fnOf "part_of_sign" "part_of_sign" (defArgs s_psign) (defBody s_psign) (defScope s_psign) .none kV13 dc13 pm13 an13 cd13 ct13), sl13⟩) (cc13 : PySem.W.codeIn K cd13 "part_of_sign" = true) (k13 : PySem.W.keepIn K (.ref f13) = true)
    (a14 : PySem.W.nsIn K mainGlobals "part_of_both" = some (some (.ref f14))) (l14 : K.lookup f14 = some ⟨oc14, od14, .func (PySem.W.fnOf "part_of_both" "part_of_both" (defArgs s_pboth) (defBody s_pboth) (defScope s_pboth) .none kV14 dc14 pm14 an14 cd14 ct14), sl14⟩) (cc14 : PySem.W.codeIn K cd14 "part_of_both" = true) (k14 : PySem.W.keepIn K (.ref f14) = true)
    (a15 : PySem.W.nsIn K mainGlobals "grammar_count" = some (some (.ref f15))) (l15 : K.lookup f15 = some ⟨oc15, od15, .func (PySem.W.fnOf "grammar_count" "grammar_count" (defArgs s_gcnt) (defBody s_gcnt) (defScope s_gcnt) .none kV15 dc15 pm15 an15 cd15 ct15), sl15⟩) (cc15 : PySem.W.codeIn K cd15 "grammar_count" = true) (k15 : PySem.W.keepIn K (.ref f15) = true)
    (a16 : PySem.W.nsIn K mainGlobals "pair_times" = some (some (.ref f16))) (l16 : K.lookup f16 = some ⟨oc16, od16, .func (PySem.W.fnOf "pair_times" "pair_times" (defArgs s_pairt) (defBody s_pairt) (defScope s_pairt) .none kV16 dc16 pm16 an16 cd16 ct16), sl16⟩) (cc16 : PySem.W.codeIn K cd16 "pair_times" = true) (k16 : PySem.W.keepIn K (.ref f16) = true)
    (a17 : PySem.W.nsIn K mainGlobals "most_frequent" = some (some (.ref f17))) (l17 : K.lookup f17 = some ⟨oc17, od17, .func (PySem.W.fnOf "most_frequent" "most_frequent" (defArgs s_most) (defBody s_most) (defScope s_most) .none kV17 dc17 pm17 an17 cd17 ct17), sl17⟩) (cc17 : PySem.W.codeIn K cd17 "most_frequent" = true) (k17 : PySem.W.keepIn K (.ref f17) = true)
    (a18 : PySem.W.nsIn K mainGlobals "with_symbol" = some (some (.ref f18))) (l18 : K.lookup f18 = some ⟨oc18, od18, .func (PySem.W.fnOf "with_symbol" "with_symbol" (defArgs s_withs) (defBody s_withs) (defScope s_withs) .none kV18 dc18 pm18 an18 cd18 ct18), sl18⟩) (cc18 : PySem.W.codeIn K cd18 "with_symbol" = true) (k18 : PySem.W.keepIn K (.ref f18) = true)
    (a19 : PySem.W.nsIn K mainGlobals "grammar_of" = some (some (.ref f19))) (l19 : K.lookup f19 = some ⟨oc19, od19, .func (PySem.W.fnOf "grammar_of" "grammar_of" (defArgs s_grof) (defBody s_grof) (defScope s_grof) .none kV19 dc19 pm19 an19 cd19 ct19), sl19⟩) (cc19 : PySem.W.codeIn K cd19 "grammar_of" = true) (k19 : PySem.W.keepIn K (.ref f19) = true)
    (a20 : PySem.W.nsIn K mainGlobals "_law_cell_at" = some (some (.ref f20))) (l20 : K.lookup f20 = some ⟨oc20, od20, .func (PySem.W.fnOf "_law_cell_at" "_law_cell_at" (defArgs s_cellat) (defBody s_cellat) (defScope s_cellat) .none kV20 dc20 pm20 an20 cd20 ct20), sl20⟩) (cc20 : PySem.W.codeIn K cd20 "_law_cell_at" = true) (k20 : PySem.W.keepIn K (.ref f20) = true)
    (a21 : PySem.W.nsIn K mainGlobals "_law_stir" = some (some (.ref f21))) (l21 : K.lookup f21 = some ⟨oc21, od21, .func (PySem.W.fnOf "_law_stir" "_law_stir" (defArgs s_stir) (defBody s_stir) (defScope s_stir) .none kV21 dc21 pm21 an21 cd21 ct21), sl21⟩) (cc21 : PySem.W.codeIn K cd21 "_law_stir" = true) (k21 : PySem.W.keepIn K (.ref f21) = true)
    (a22 : PySem.W.nsIn K mainGlobals "_law_text" = some (some (.ref f22))) (l22 : K.lookup f22 = some ⟨oc22, od22, .func (PySem.W.fnOf "_law_text" "_law_text" (defArgs s_text) (defBody s_text) (defScope s_text) .none kV22 dc22 pm22 an22 cd22 ct22), sl22⟩) (cc22 : PySem.W.codeIn K cd22 "_law_text" = true) (k22 : PySem.W.keepIn K (.ref f22) = true)
    (a23 : PySem.W.nsIn K mainGlobals "_law_many" = some (some (.ref f23))) (l23 : K.lookup f23 = some ⟨oc23, od23, .func (PySem.W.fnOf "_law_many" "_law_many" (defArgs s_many) (defBody s_many) (defScope s_many) .none kV23 dc23 pm23 an23 cd23 ct23), sl23⟩) (cc23 : PySem.W.codeIn K cd23 "_law_many" = true) (k23 : PySem.W.keepIn K (.ref f23) = true)
    (a24 : PySem.W.nsIn K mainGlobals "_law_word" = some (some (.ref f24))) (l24 : K.lookup f24 = some ⟨oc24, od24, .func (PySem.W.fnOf "_law_word" "_law_word" (defArgs s_word) (defBody s_word) (defScope s_word) .none kV24 dc24 pm24 an24 cd24 ct24), sl24⟩) (cc24 : PySem.W.codeIn K cd24 "_law_word" = true) (k24 : PySem.W.keepIn K (.ref f24) = true)
    (a25 : PySem.W.nsIn K mainGlobals "law" = some (some (.ref f25))) (l25 : K.lookup f25 = some ⟨oc25, od25, .func (PySem.W.fnOf "law" "law" (defArgs s_law) (defBody s_law) (defScope s_law) .none kV25 dc25 pm25 an25 cd25 ct25), sl25⟩) (cc25 : PySem.W.codeIn K cd25 "law" = true) (k25 : PySem.W.keepIn K (.ref f25) = true)
    (z_isinstance : PySem.W.nsIn K mainGlobals "isinstance" = some none)
    (z_list : PySem.W.nsIn K mainGlobals "list" = some none)
    (z_int : PySem.W.nsIn K mainGlobals "int" = some none)
    (z_bool : PySem.W.nsIn K mainGlobals "bool" = some none)
    (z_len : PySem.W.nsIn K mainGlobals "len" = some none)
    (z_range : PySem.W.nsIn K mainGlobals "range" = some none)
    (z_max : PySem.W.nsIn K mainGlobals "max" = some none)
    (z_ValueError : PySem.W.nsIn K mainGlobals "ValueError" = some none)
    (z_tuple : PySem.W.nsIn K mainGlobals "tuple" = some none)
    (z_min : PySem.W.nsIn K mainGlobals "min" = some none)
    (z_sorted : PySem.W.nsIn K mainGlobals "sorted" = some none)
    (z_all : PySem.W.nsIn K mainGlobals "all" = some none)
    (z_dict : PySem.W.nsIn K mainGlobals "dict" = some none)
    (z_any : PySem.W.nsIn K mainGlobals "any" = some none)
    (z_sum : PySem.W.nsIn K mainGlobals "sum" = some none)
    (z_enumerate : PySem.W.nsIn K mainGlobals "enumerate" = some none)
    (z_reversed : PySem.W.nsIn K mainGlobals "reversed" = some none)
    (e_PackError : PySem.W.nsIn K mainGlobals "PackError" = some (some (.ref c_PackError)))
    (x0_PackError : PySem.W.excIn K c_PackError bmV "ValueError.__new__" = true) (x1_PackError : PySem.W.findIn K (.ref c_PackError) "__getattribute__" = some (some (.builtin "BaseException.__getattribute__"))) (x2_PackError : PySem.W.findIn K (.ref c_PackError) "__getattr__" = some none) (x3_PackError : PySem.W.findIn K (.ref c_PackError) "__class__" = some (some (.builtin "object.__class__"))) (x4_PackError : PySem.W.mroIn K c_PackError (.type "object") = some true) (x5_PackError : PySem.W.mroIn K c_PackError (.type "BaseException") = some true) (x6_PackError : PySem.W.typeIn K (.ref c_PackError) = some (.type "type"))
    (e_Broken : PySem.W.nsIn K mainGlobals "Broken" = some (some (.ref c_Broken)))
    (x0_Broken : PySem.W.excIn K c_Broken bmV "ValueError.__new__" = true) (x1_Broken : PySem.W.findIn K (.ref c_Broken) "__getattribute__" = some (some (.builtin "BaseException.__getattribute__"))) (x2_Broken : PySem.W.findIn K (.ref c_Broken) "__getattr__" = some none) (x3_Broken : PySem.W.findIn K (.ref c_Broken) "__class__" = some (some (.builtin "object.__class__"))) (x4_Broken : PySem.W.mroIn K c_Broken (.type "object") = some true) (x5_Broken : PySem.W.mroIn K c_Broken (.type "BaseException") = some true) (x6_Broken : PySem.W.typeIn K (.ref c_Broken) = some (.type "type"))
    (e_NoPlace : PySem.W.nsIn K mainGlobals "NoPlace" = some (some (.ref c_NoPlace)))
    (x0_NoPlace : PySem.W.excIn K c_NoPlace bmV "ValueError.__new__" = true) (x1_NoPlace : PySem.W.findIn K (.ref c_NoPlace) "__getattribute__" = some (some (.builtin "BaseException.__getattribute__"))) (x2_NoPlace : PySem.W.findIn K (.ref c_NoPlace) "__getattr__" = some none) (x3_NoPlace : PySem.W.findIn K (.ref c_NoPlace) "__class__" = some (some (.builtin "object.__class__"))) (x4_NoPlace : PySem.W.mroIn K c_NoPlace (.type "object") = some true) (x5_NoPlace : PySem.W.mroIn K c_NoPlace (.type "BaseException") = some true) (x6_NoPlace : PySem.W.typeIn K (.ref c_NoPlace) = some (.type "type"))
    (g_FIRST_RULE : PySem.W.nsIn K mainGlobals "FIRST_RULE" = some (some (.int 256 tk_FIRST_RULE)))
    (g_LAST_SIGN : PySem.W.nsIn K mainGlobals "LAST_SIGN" = some (some (.int 255 tk_LAST_SIGN)))
    (g_MOST_SIGNS : PySem.W.nsIn K mainGlobals "MOST_SIGNS" = some (some (.int 400 tk_MOST_SIGNS)))
    : ∃ fd : FuncData, (∀ (s : Shared) (v : Value), BindsTo s fd ⟨[v], []⟩ [("script", v)]) ∧ ∀ base : Heap, K.In base → base.Ns mainGlobals mg → FnOk l.prog w K mg base (CXW l.prog w) 8 fa fd ["script"] (spLaw K) := by
  have e := hfa.symm.trans (PySem.W.mg_of X G a25)
  cases e
  have F1 := fun_mk (st := s_whole) l1 cc1 k1
  have b1 := F1.binds (ps := ["thing"]) fun _ _ _ _ _ _ us hl => match us, hl with | [_], _ => rfl
  have m1 := PySem.W.mg_of X G a1
  have F2 := fun_mk (st := s_syms) l2 cc2 k2
  have b2 := F2.binds (ps := ["things", "many"]) fun _ _ _ _ _ _ us hl => match us, hl with | [_, _], _ => rfl
  have m2 := PySem.W.mg_of X G a2
  have F3 := fun_mk (st := s_isrule) l3 cc3 k3
  have b3 := F3.binds (ps := ["thing", "number"]) fun _ _ _ _ _ _ us hl => match us, hl with | [_, _], _ => rfl
  have m3 := PySem.W.mg_of X G a3
  have F4 := fun_mk (st := s_isgr) l4 cc4 k4
  have b4 := F4.binds (ps := ["rules", "row"]) fun _ _ _ _ _ _ us hl => match us, hl with | [_, _], _ => rfl
  have m4 := PySem.W.mg_of X G a4
  have F5 := fun_mk (st := s_nogr) l5 cc5 k5
  have b5 := F5.binds (ps := ["rules", "row"]) fun _ _ _ _ _ _ us hl => match us, hl with | [_, _], _ => rfl
  have m5 := PySem.W.mg_of X G a5
  have F6 := fun_mk (st := s_lens) l6 cc6 k6
  have b6 := F6.binds (ps := ["rules"]) fun _ _ _ _ _ _ us hl => match us, hl with | [_], _ => rfl
  have m6 := PySem.W.mg_of X G a6
  have F7 := fun_mk (st := s_glen) l7 cc7 k7
  have b7 := F7.binds (ps := ["rules", "row"]) fun _ _ _ _ _ _ us hl => match us, hl with | [_, _], _ => rfl
  have m7 := PySem.W.mg_of X G a7
  have F8 := fun_mk (st := s_between) l8 cc8 k8
  have b8 := F8.binds (ps := ["rules", "row", "first", "last"]) fun _ _ _ _ _ _ us hl => match us, hl with | [_, _, _, _], _ => rfl
  have m8 := PySem.W.mg_of X G a8
  have F9 := fun_mk (st := s_nostr) l9 cc9 k9
  have b9 := F9.binds (ps := ["first", "last", "length"]) fun _ _ _ _ _ _ us hl => match us, hl with | [_, _, _], _ => rfl
  have m9 := PySem.W.mg_of X G a9
  have F10 := fun_mk (st := s_gstr) l10 cc10 k10
  have b10 := F10.binds (ps := ["rules", "row", "first", "last"]) fun _ _ _ _ _ _ us hl => match us, hl with | [_, _, _, _], _ => rfl
  have m10 := PySem.W.mg_of X G a10
  have F11 := fun_mk (st := s_gtext) l11 cc11 k11
  have b11 := F11.binds (ps := ["rules", "row"]) fun _ _ _ _ _ _ us hl => match us, hl with | [_, _], _ => rfl
  have m11 := PySem.W.mg_of X G a11
  have F12 := fun_mk (st := s_times) l12 cc12 k12
  have b12 := F12.binds (ps := ["text", "word"]) fun _ _ _ _ _ _ us hl => match us, hl with | [_, _], _ => rfl
  have m12 := PySem.W.mg_of X G a12
  have F13 := fun_mk (st := s_psign) l13 cc13 k13
  have b13 := F13.binds (ps := ["sign", "word"]) fun _ _ _ _ _ _ us hl => match us, hl with | [_, _], _ => rfl
  have m13 := PySem.W.mg_of X G a13
  have F14 := fun_mk (st := s_pboth) l14 cc14 k14
  have b14 := F14.binds (ps := ["one", "two", "word"]) fun _ _ _ _ _ _ us hl => match us, hl with | [_, _, _], _ => rfl
  have m14 := PySem.W.mg_of X G a14
  have F15 := fun_mk (st := s_gcnt) l15 cc15 k15
  have b15 := F15.binds (ps := ["rules", "row", "word"]) fun _ _ _ _ _ _ us hl => match us, hl with | [_, _, _], _ => rfl
  have m15 := PySem.W.mg_of X G a15
  have F16 := fun_mk (st := s_pairt) l16 cc16 k16
  have b16 := F16.binds (ps := ["row"]) fun _ _ _ _ _ _ us hl => match us, hl with | [_], _ => rfl
  have m16 := PySem.W.mg_of X G a16
  have F17 := fun_mk (st := s_most) l17 cc17 k17
  have b17 := F17.binds (ps := ["times"]) fun _ _ _ _ _ _ us hl => match us, hl with | [_], _ => rfl
  have m17 := PySem.W.mg_of X G a17
  have F18 := fun_mk (st := s_withs) l18 cc18 k18
  have b18 := F18.binds (ps := ["row", "pair", "symbol"]) fun _ _ _ _ _ _ us hl => match us, hl with | [_, _, _], _ => rfl
  have m18 := PySem.W.mg_of X G a18
  have F19 := fun_mk (st := s_grof) l19 cc19 k19
  have b19 := F19.binds (ps := ["text"]) fun _ _ _ _ _ _ us hl => match us, hl with | [_], _ => rfl
  have m19 := PySem.W.mg_of X G a19
  have F20 := fun_mk (st := s_cellat) l20 cc20 k20
  have b20 := F20.binds (ps := ["script", "k"]) fun _ _ _ _ _ _ us hl => match us, hl with | [_, _], _ => rfl
  have m20 := PySem.W.mg_of X G a20
  have F21 := fun_mk (st := s_stir) l21 cc21 k21
  have b21 := F21.binds (ps := ["cell", "k"]) fun _ _ _ _ _ _ us hl => match us, hl with | [_, _], _ => rfl
  have m21 := PySem.W.mg_of X G a21
  have F22 := fun_mk (st := s_text) l22 cc22 k22
  have b22 := F22.binds (ps := ["script", "most"]) fun _ _ _ _ _ _ us hl => match us, hl with | [_, _], _ => rfl
  have m22 := PySem.W.mg_of X G a22
  have F23 := fun_mk (st := s_many) l23 cc23 k23
  have b23 := F23.binds (ps := ["text", "word"]) fun _ _ _ _ _ _ us hl => match us, hl with | [_, _], _ => rfl
  have m23 := PySem.W.mg_of X G a23
  have F24 := fun_mk (st := s_word) l24 cc24 k24
  have b24 := F24.binds (ps := ["text", "number"]) fun _ _ _ _ _ _ us hl => match us, hl with | [_, _], _ => rfl
  have m24 := PySem.W.mg_of X G a24
  have F25 := fun_mk (st := s_law) l25 cc25 k25
  have n_isinstance := PySem.W.mg_none_of X G z_isinstance
  have n_list := PySem.W.mg_none_of X G z_list
  have n_int := PySem.W.mg_none_of X G z_int
  have n_bool := PySem.W.mg_none_of X G z_bool
  have n_len := PySem.W.mg_none_of X G z_len
  have n_range := PySem.W.mg_none_of X G z_range
  have n_max := PySem.W.mg_none_of X G z_max
  have n_ValueError := PySem.W.mg_none_of X G z_ValueError
  have n_tuple := PySem.W.mg_none_of X G z_tuple
  have n_min := PySem.W.mg_none_of X G z_min
  have n_sorted := PySem.W.mg_none_of X G z_sorted
  have n_all := PySem.W.mg_none_of X G z_all
  have n_dict := PySem.W.mg_none_of X G z_dict
  have n_any := PySem.W.mg_none_of X G z_any
  have n_sum := PySem.W.mg_none_of X G z_sum
  have n_enumerate := PySem.W.mg_none_of X G z_enumerate
  have n_reversed := PySem.W.mg_none_of X G z_reversed
  have m_PackError := PySem.W.mg_of X G e_PackError
  have X_PackError : Ex K mg "PackError" c_PackError := ⟨m_PackError, x0_PackError, ⟨x1_PackError, x2_PackError, x3_PackError, x4_PackError, x5_PackError, x6_PackError⟩⟩
  have m_Broken := PySem.W.mg_of X G e_Broken
  have X_Broken : Ex K mg "Broken" c_Broken := ⟨m_Broken, x0_Broken, ⟨x1_Broken, x2_Broken, x3_Broken, x4_Broken, x5_Broken, x6_Broken⟩⟩
  have m_NoPlace := PySem.W.mg_of X G e_NoPlace
  have X_NoPlace : Ex K mg "NoPlace" c_NoPlace := ⟨m_NoPlace, x0_NoPlace, ⟨x1_NoPlace, x2_NoPlace, x3_NoPlace, x4_NoPlace, x5_NoPlace, x6_NoPlace⟩⟩
  refine ⟨PySem.W.fnOf "law" "law" (defArgs s_law) (defBody s_law) (defScope s_law) .none kV25 dc25 pm25 an25 cd25 ct25, fun s v => .of_eq rfl, fun base _ _ => ?_⟩
  have m_MS : MSg mg := ⟨_, PySem.W.mg_of X G g_MOST_SIGNS, ⟨_, rfl⟩⟩
  have m_LS : LSg mg := ⟨_, PySem.W.mg_of X G g_LAST_SIGN, ⟨_, rfl⟩⟩
  have m_FR : FRg mg := ⟨_, PySem.W.mg_of X G g_FIRST_RULE, ⟨_, rfl⟩⟩
  have B : Bls mg := ⟨n_isinstance, n_list, n_int, n_bool, n_len, n_range, n_max, n_ValueError, n_tuple, n_min, n_sorted, n_all, n_dict⟩
  have G_whole := ok_whole (P := l.prog) (w := w) (mg := mg) (base := base) F1 B
  have G_syms := ok_syms (P := l.prog) (w := w) (mg := mg) (base := base) F2 B m_FR G_whole b1 k1 m1
  have G_isrule := ok_isrule (P := l.prog) (w := w) (mg := mg) (base := base) F3 B G_syms b2 k2 m2
  have G_isgr := ok_isgr (P := l.prog) (w := w) (mg := mg) (base := base) F4 B n_enumerate G_syms b2 k2 m2 G_isrule b3 k3 m3
  have G_nogr := ok_nogr (P := l.prog) (w := w) (mg := mg) (base := base) F5 B X_Broken m_Broken G_isgr b4 k4 m4
  have G_lens := ok_lens (P := l.prog) (w := w) (mg := mg) (base := base) F6 B m_FR
  have G_glen := ok_glen (P := l.prog) (w := w) (mg := mg) (base := base) F7 B n_sum G_nogr b5 k5 m5 G_lens b6 k6 m6
  have G_between := ok_between (P := l.prog) (w := w) (mg := mg) (base := base) F8 B m_FR m_LS n_reversed G_lens b6 k6 m6
  have G_nostr := ok_nostr (P := l.prog) (w := w) (mg := mg) (base := base) F9 B X_NoPlace m_NoPlace
  have G_gstr := ok_gstr (P := l.prog) (w := w) (mg := mg) (base := base) F10 B G_glen b7 k7 m7 G_between b8 k8 m8 G_nostr b9 k9 m9
  have G_gtext := ok_gtext (P := l.prog) (w := w) (mg := mg) (base := base) F11 B X_Broken m_Broken m_MS G_glen b7 k7 m7 G_between b8 k8 m8
  have G_times := ok_times (P := l.prog) (w := w) (mg := mg) (base := base) F12 B n_sum
  have G_psign := ok_psign (P := l.prog) (w := w) (mg := mg) (base := base) F13 B
  have G_pboth := ok_pboth (P := l.prog) (w := w) (mg := mg) (base := base) F14 B G_times b12 k12 m12
  have G_gcnt := ok_gcnt (P := l.prog) (w := w) (mg := mg) (base := base) F15 B m_FR G_glen b7 k7 m7 G_psign b13 k13 m13 G_pboth b14 k14 m14
  have G_pairt := ok_pairt (P := l.prog) (w := w) (mg := mg) (base := base) F16 B
  have G_most := ok_most (P := l.prog) (w := w) (mg := mg) (base := base) F17 B
  have G_withs := ok_withs (P := l.prog) (w := w) (mg := mg) (base := base) F18 B
  have G_grof := ok_grof (P := l.prog) (w := w) (mg := mg) (base := base) F19 B m_FR G_pairt b16 k16 m16 G_most b17 k17 m17 G_withs b18 k18 m18
  have G_cellat := ok_cellat (P := l.prog) (w := w) (mg := mg) (base := base) F20 B
  have G_stir := ok_stir (P := l.prog) (w := w) (mg := mg) (base := base) F21 B
  have G_text := ok_text (P := l.prog) (w := w) (mg := mg) (base := base) F22 B G_cellat b20 k20 m20 G_stir b21 k21 m21
  have G_many := ok_many (P := l.prog) (w := w) (mg := mg) (base := base) F23 B
  have G_word := ok_word (P := l.prog) (w := w) (mg := mg) (base := base) F24 B
  exact ok_law (P := l.prog) (w := w) (mg := mg) (base := base) F25 B n_sum G_glen b7 k7 m7 G_gstr b10 k10 m10 G_gtext b11 k11 m11 G_gcnt b15 k15 m15 G_grof b19 k19 m19 G_stir b21 k21 m21 G_text b22 k22 m22 G_many b23 k23 m23 G_word b24 k24 m24
theorem walk {l : PySem.W.OpenLaw} {q : Program} {loose : List Str} {XP : (Str → Option Value) → Heap → Prop} {YP : World → Heap → Prop} {d : DefRec} {K : Params → PySem.W.Frag} (hn : l.most = some 63) (hdf : d.params.defaults = [])
    (hY : ∀ (w : World) (h : Heap), YP w h → (K w.params).In h)
    (F : ∀ (w : World) (mg : Str → Option Value) (fa : Addr) (h : Heap), (K w.params).In h → h.Ns mainGlobals mg → mg d.name = some (.ref fa) →
      ∃ fd : FuncData, (∀ (s : Shared) (u : Value), BindsTo s fd ⟨[u], []⟩ [("script", u)]) ∧ ∀ base : Heap, (K w.params).In base → base.Ns mainGlobals mg → FnOk l.prog w (K w.params) mg base (CXW l.prog w) 8 fa fd ["script"] (spLaw (K w.params))) :
    PySem.W.WalkO q loose XP YP l.row.toRowW d [] (fun f vs => PySem.call f vs) :=
  L2.walk_of (n := 63) (k := 8) (x := "script") (CX := fun w => CXW l.prog w) (sp := fun w => spLaw (K w.params)) hn (by decide) hdf ⟨rfl, by decide, by decide⟩ hY F (fun _ _ a ns hl _ hS => ⟨a, ns, rfl, hS, hl, fun _ => rfl⟩) fun _ _ _ _ _ z => by
    obtain ⟨_, _, _, _, _, _, _, _, _, _, _, _, _, hE⟩ := z
    exact hE
end
end K42
open PySem PySem.W PyProof.Rows
set_option maxRecDepth 100000 in
set_option maxHeartbeats 0 in
theorem PySem.Challenge.cw_packhall_k42_whole_texts_and_grammars_holds : PySem.Challenge.rw_packhall_k42_whole_texts_and_grammars.Holds := by
  w_on; o_law; k_head; (case hw => w_witness2)
  k_fill
  refine K42.walk (l := PySem.Challenge.rw_packhall_k42_whole_texts_and_grammars) rfl rfl (fun w h Y => PySem.W.kIn_of Y) ?F
  case F =>
    intro w mg fa h KX G hmg
    refine' K42.all_mk KX G hmg ?a1 ?l1 ?cc1 ?k1 ?a2 ?l2 ?cc2 ?k2 ?a3 ?l3 ?cc3 ?k3 ?a4 ?l4 ?cc4 ?k4 ?a5 ?l5 ?cc5 ?k5 ?a6 ?l6 ?cc6 ?k6 ?a7 ?l7 ?cc7 ?k7 ?a8 ?l8 ?cc8 ?k8 ?a9 ?l9 ?cc9 ?k9 ?a10 ?l10 ?cc10 ?k10 ?a11 ?l11 ?cc11 ?k11 ?a12 ?l12 ?cc12 ?k12 ?a13 ?l13 ?cc13 ?k13 ?a14 ?l14 ?cc14 ?k14 ?a15 ?l15 ?cc15 ?k15 ?a16 ?l16 ?cc16 ?k16 ?a17 ?l17 ?cc17 ?k17 ?a18 ?l18 ?cc18 ?k18 ?a19 ?l19 ?cc19 ?k19 ?a20 ?l20 ?cc20 ?k20 ?a21 ?l21 ?cc21 ?k21 ?a22 ?l22 ?cc22 ?k22 ?a23 ?l23 ?cc23 ?k23 ?a24 ?l24 ?cc24 ?k24 ?a25 ?l25 ?cc25 ?k25 ?z_isinstance ?z_list ?z_int ?z_bool ?z_len ?z_range ?z_max ?z_ValueError ?z_tuple ?z_min ?z_sorted ?z_all ?z_dict ?z_any ?z_sum ?z_enumerate ?z_reversed ?e_PackError ?x0_PackError ?x1_PackError ?x2_PackError ?x3_PackError ?x4_PackError ?x5_PackError ?x6_PackError ?e_Broken ?x0_Broken ?x1_Broken ?x2_Broken ?x3_Broken ?x4_Broken ?x5_Broken ?x6_Broken ?e_NoPlace ?x0_NoPlace ?x1_NoPlace ?x2_NoPlace ?x3_NoPlace ?x4_NoPlace ?x5_NoPlace ?x6_NoPlace ?g_FIRST_RULE ?g_LAST_SIGN ?g_MOST_SIGNS
    (case a1 => k_is)
    (case l1 => k_is)
    (case cc1 => k_is)
    (case k1 => k_is)
    (case a2 => k_is)
    (case l2 => k_is)
    (case cc2 => k_is)
    (case k2 => k_is)
    (case a3 => k_is)
    (case l3 => k_is)
    (case cc3 => k_is)
    (case k3 => k_is)
    (case a4 => k_is)
    (case l4 => k_is)
    (case cc4 => k_is)
    (case k4 => k_is)
    (case a5 => k_is)
    (case l5 => k_is)
    (case cc5 => k_is)
    (case k5 => k_is)
    (case a6 => k_is)
    (case l6 => k_is)
    (case cc6 => k_is)
    (case k6 => k_is)
    (case a7 => k_is)
    (case l7 => k_is)
    (case cc7 => k_is)
    (case k7 => k_is)
    (case a8 => k_is)
    (case l8 => k_is)
    (case cc8 => k_is)
    (case k8 => k_is)
    (case a9 => k_is)
    (case l9 => k_is)
    (case cc9 => k_is)
    (case k9 => k_is)
    (case a10 => k_is)
    (case l10 => k_is)
    (case cc10 => k_is)
    (case k10 => k_is)
    (case a11 => k_is)
    (case l11 => k_is)
    (case cc11 => k_is)
    (case k11 => k_is)
    (case a12 => k_is)
    (case l12 => k_is)
    (case cc12 => k_is)
    (case k12 => k_is)
    (case a13 => k_is)
    (case l13 => k_is)
    (case cc13 => k_is)
    (case k13 => k_is)
    (case a14 => k_is)
    (case l14 => k_is)
    (case cc14 => k_is)
    (case k14 => k_is)
    (case a15 => k_is)
    (case l15 => k_is)
    (case cc15 => k_is)
    (case k15 => k_is)
    (case a16 => k_is)
    (case l16 => k_is)
    (case cc16 => k_is)
    (case k16 => k_is)
    (case a17 => k_is)
    (case l17 => k_is)
    (case cc17 => k_is)
    (case k17 => k_is)
    (case a18 => k_is)
    (case l18 => k_is)
    (case cc18 => k_is)
    (case k18 => k_is)
    (case a19 => k_is)
    (case l19 => k_is)
    (case cc19 => k_is)
    (case k19 => k_is)
    (case a20 => k_is)
    (case l20 => k_is)
    (case cc20 => k_is)
    (case k20 => k_is)
    (case a21 => k_is)
    (case l21 => k_is)
    (case cc21 => k_is)
    (case k21 => k_is)
    (case a22 => k_is)
    (case l22 => k_is)
    (case cc22 => k_is)
    (case k22 => k_is)
    (case a23 => k_is)
    (case l23 => k_is)
    (case cc23 => k_is)
    (case k23 => k_is)
    (case a24 => k_is)
    (case l24 => k_is)
    (case cc24 => k_is)
    (case k24 => k_is)
    (case a25 => k_is)
    (case l25 => k_is)
    (case cc25 => k_is)
    (case k25 => k_is)
    (case z_isinstance => k_is)
    (case z_list => k_is)
    (case z_int => k_is)
    (case z_bool => k_is)
    (case z_len => k_is)
    (case z_range => k_is)
    (case z_max => k_is)
    (case z_ValueError => k_is)
    (case z_tuple => k_is)
    (case z_min => k_is)
    (case z_sorted => k_is)
    (case z_all => k_is)
    (case z_dict => k_is)
    (case z_any => k_is)
    (case z_sum => k_is)
    (case z_enumerate => k_is)
    (case z_reversed => k_is)
    (case e_PackError => k_is)
    (case x0_PackError => k_exc)
    (case x1_PackError => k_is)
    (case x2_PackError => k_is)
    (case x3_PackError => k_is)
    (case x4_PackError => k_is)
    (case x5_PackError => k_is)
    (case x6_PackError => k_is)
    (case e_Broken => k_is)
    (case x0_Broken => k_exc)
    (case x1_Broken => k_is)
    (case x2_Broken => k_is)
    (case x3_Broken => k_is)
    (case x4_Broken => k_is)
    (case x5_Broken => k_is)
    (case x6_Broken => k_is)
    (case e_NoPlace => k_is)
    (case x0_NoPlace => k_exc)
    (case x1_NoPlace => k_is)
    (case x2_NoPlace => k_is)
    (case x3_NoPlace => k_is)
    (case x4_NoPlace => k_is)
    (case x5_NoPlace => k_is)
    (case x6_NoPlace => k_is)
    (case g_FIRST_RULE => k_is)
    (case g_LAST_SIGN => k_is)
    (case g_MOST_SIGNS => k_is)

