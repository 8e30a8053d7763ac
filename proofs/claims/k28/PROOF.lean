import PyProof.Rows.All
import Wide.All
import OpenK.AllK
import Wide.FinOn
import Lean
import PyProof.EqAt
import PyProof.EqKinds
import PyProof.TupleCall
import PyProof.NsDelKeeps
import PyProof.NeKinds
import PySem.Challenge.RW_packhall_k28_sought_refused
local macro_rules | `(tactic| trivial) => `(tactic| first | with_reducible assumption | lia | omega)
set_option Elab.async false
set_option linter.all false
set_option maxRecDepth 100000
namespace L2
open PySem PySem.Spec PyProof.Rows
noncomputable abbrev Key:=Sum Int Str
noncomputable def keyIs:Key -> Value -> Bool
 | .inl k,v => Value.isInt k v
 | .inr x,v => Value.isStrOf x v
noncomputable def keyH (w:World):Key -> Int
 | .inl k => hashInt k
 | .inr x => hashStr w x
theorem keyIs_shape:∀ {k:Key} {v:Value},keyIs k v = true -> (∃ i t,k = Sum.inl i∧v = Value.int i t) ∨ (∃ x t,k = Sum.inr x∧v = Value.str x t)
 | .inl i,v,h => by
  obtain ⟨t,e⟩:=Value.isInt_shape (k:=i) (v:=v) h
  exact .inl ⟨i,t,rfl,e⟩
 | .inr x,v,h => by
  obtain ⟨t,e⟩:=Value.isStrOf_shape (x:=x) (v:=v) h
  exact .inr ⟨x,t,rfl,e⟩
theorem keyIs_int (i:Int) (t:Tok):keyIs (.inl i) (.int i t) = true:=by simp [keyIs,Value.isInt]
theorem keyIs_str (x:Str) (t:Tok):keyIs (.inr x) (.str x t) = true:=by simp [keyIs,Value.isStrOf]
theorem key_ll (a b:Int):decide ((Sum.inl a:Key) = Sum.inl b) = (a == b):=by
 by_cases e:a = b
 ·subst e; simp
 ·have h:¬ (Sum.inl a:Key) = Sum.inl b:=fun q => e (Sum.inl.inj q)
  rw [decide_eq_false h]
  exact (beq_eq_false_iff_ne.mpr e).symm
theorem key_rr (a b:Str):decide ((Sum.inr a:Key) = Sum.inr b) = decide (a = b):=by
 by_cases e:a = b
 ·subst e; simp
 ·have h:¬ (Sum.inr a:Key) = Sum.inr b:=fun q => e (Sum.inr.inj q)
  rw [decide_eq_false h,decide_eq_false e]
theorem key_lr (a:Int) (b:Str):decide ((Sum.inl a:Key) = Sum.inr b) = false:=decide_eq_false (fun q => nomatch q)
theorem key_rl (a:Str) (b:Int):decide ((Sum.inr a:Key) = Sum.inl b) = false:=decide_eq_false (fun q => nomatch q)
noncomputable def mixKind (prog:Program) (w:World):PySem.KeyKind prog w Key where
 is:=keyIs
 hash:=keyH w
 inj:=fun v a b ha hb => by
  rcases keyIs_shape ha with ⟨i,t,rfl,rfl⟩ | ⟨x,t,rfl,rfl⟩
  ·rcases keyIs_shape hb with ⟨j,u,rfl,e⟩ | ⟨y,u,rfl,e⟩
   ·injection e with e1 _; rw [e1]
   ·exact nomatch e
  ·rcases keyIs_shape hb with ⟨j,u,rfl,e⟩ | ⟨y,u,rfl,e⟩
   ·exact nomatch e
   ·injection e with e1 _; rw [e1]
 byValue:=fun k v h => by
  rcases keyIs_shape h with ⟨i,t,rfl,rfl⟩ | ⟨x,t,rfl,rfl⟩ <;> rfl
 pyHash:=fun hv h => by
  rcases keyIs_shape hv with ⟨i,t,rfl,rfl⟩ | ⟨x,t,rfl,rfl⟩
  ·exact wpAny_pyHash_int h
  ·exact wpAny_pyHash_str h
 eqBool:=fun hu hv h => by
  rcases keyIs_shape hu with ⟨i,t,rfl,rfl⟩ | ⟨x,t,rfl,rfl⟩
  ·rcases keyIs_shape hv with ⟨j,u,rfl,rfl⟩ | ⟨y,u,rfl,rfl⟩
   ·rw [key_ll] at h; exact wpAny_eqBool_int h
   ·rw [key_lr] at h; exact SeqAt.EqAt.int_str i t y u _ _ _ _ h
  ·rcases keyIs_shape hv with ⟨j,u,rfl,rfl⟩ | ⟨y,u,rfl,rfl⟩
   ·rw [key_rl] at h; exact SeqAt.EqAt.str_int x t j u _ _ _ _ h
   ·rw [key_rr] at h; exact wpAny_eqBool_str h
 «strs»:=fun k x t v h => by
  rcases keyIs_shape h with ⟨i,u,rfl,e⟩ | ⟨y,u,rfl,e⟩
  ·exact nomatch e
  ·injection e with e1 _
   subst e1
   cases v <;> rfl
theorem mixKind_int (prog:Program) (w:World) (i:Int) (t:Tok):(mixKind prog w).is (.inl i) (.int i t) = true:=keyIs_int i t
theorem mixKind_str (prog:Program) (w:World) (x:Str) (t:Tok):(mixKind prog w).is (.inr x) (.str x t) = true:=keyIs_str x t
end L2
namespace L2
open PySem PySem.Spec PyProof.Rows
inductive V where
 | non | bl (b:Bool) | int (i:Int) | str (x:Str) | byt (b:Array UInt8) | flt (b:UInt64) | ref (a:Addr) | ty (n:String)
 deriving DecidableEq
noncomputable def RelV:V -> Value -> Prop
 | .non,u => u = Value.none
 | .bl b,u => u = Value.bool b
 | .int i,u => ∃ t,u = Value.int i t
 | .str x,u => ∃ t,u = Value.str x t
 | .byt b,u => ∃ t,u = Value.bytes b t
 | .flt b,u => ∃ t,u = Value.float b t
 | .ref a,u => u = Value.ref a
 | .ty n,u => u = Value.type n
noncomputable abbrev Vals:List V -> List Value -> Prop:=Paired RelV
theorem Vals.length {xs:List V} {us:List Value} (r:Vals xs us):xs.length = us.length:=Paired.length r
theorem Vals.get:∀ {xs:List V} {us:List Value} {i:Nat} {x:V},Vals xs us -> xs[i]? = some x -> ∃ u,us[i]? = some u∧RelV x u
 | _,_,_,_,.nil,e => by simp at e
 | _,_,0,_,.cons r _,e => by simp at e; subst e; exact ⟨_,rfl,r⟩
 | _,_,i + 1,x,.cons _ t,e => by
  obtain ⟨u,h1,h2⟩:=Vals.get (i:=i) (x:=x) t (by simpa using e)
  exact ⟨u,by simpa using h1,h2⟩
theorem Vals.set {x:V} {u:Value} (r:RelV x u):∀ {xs:List V} {us:List Value} (i:Nat),Vals xs us -> Vals (xs.set i x) (us.set i u)
 | _,_,_,.nil => .nil
 | _,_,0,.cons _ t => .cons r t
 | _,_,i + 1,.cons q t => .cons q (Vals.set r i t)
theorem Vals.append:∀ {xs ys:List V} {us ws:List Value},Vals xs us -> Vals ys ws -> Vals (xs ++ ys) (us ++ ws)
 | _,_,_,_,.nil,s => s
 | _,_,_,_,.cons r t,s => .cons r (Vals.append t s)
theorem Vals.take:∀ {xs:List V} {us:List Value} (n:Nat),Vals xs us -> Vals (xs.take n) (us.take n)
 | _,_,0,_ => .nil
 | _,_,_ + 1,.nil => .nil
 | _,_,n + 1,.cons r t => .cons r (Vals.take n t)
theorem Vals.drop:∀ {xs:List V} {us:List Value} (n:Nat),Vals xs us -> Vals (xs.drop n) (us.drop n)
 | _,_,0,r => r
 | _,_,_ + 1,.nil => .nil
 | _,_,n + 1,.cons _ t => Vals.drop n t
noncomputable def RelO:Option V -> Option Value -> Prop
 | some v,some u => RelV v u
 | none,none => True
 | _,_ => False
noncomputable def KV {κ:Type}:List (κ × V) -> List (κ × Value) -> Prop:=Paired fun (p:κ × V) (q:κ × Value) => p.1 = q.1∧RelV p.2 q.2
noncomputable def kV:Key -> V
 | .inl i => .int i
 | .inr x => .str x
inductive HO where
 /-- a list -/
 | lst (xs:List V)
 /-- a tuple (never changes) -/
 | tup (xs:List V)
 /-- a dict whose keys are ints and texts; one whose keys are tuples of ints and texts (the empty one is both) -/
 | dK (kvs:List (Key × V)) | dT (kvs:List (List Key × V))
 /-- a set of ints: its members,its size -/
 | set (S:Int -> Bool) (n:Nat)
 /-- an instance of the class at C,its dict at dx,its attributes -/
 | ins (C dx:Addr) (fs:List (Str × V))
 /-- the dict of the instance at x -/
 | own (x:Addr)
 /-- the dict of an exception -/
 | xd (fs:List (Str × V))
 /-- a bound method,f of x -/
 | met (f x:Addr)
 /-- a range object lo,lo + 1,.. below hi -/
 | rng (lo hi:Int)
 /-- a thing that is known to the object (the script; a dict while a loop walks it): read,never written while it is so -/
 | frz (o:Obj) (u:HO)
 /-- a code object's table -/
 | tbl (ps:Array Value)
 /-- any other thing,by what is true of its one object (a def of one's own: SetO a S n := HO.ext fun h => ..) -/
 | ext (φ:Heap -> Prop)
noncomputable abbrev Hp:=Addr -> Option HO
noncomputable def upd (H:Hp) (a:Addr) (o:HO):Hp:=fun b => if b = a then some o else H b
theorem upd_same {H:Hp} {a:Addr} {o:HO}:upd H a o a = some o:=by unfold upd; rw [if_pos rfl]
theorem upd_ne {H:Hp} {a b:Addr} {o:HO} (h:b ≠ a):upd H a o b = H b:=by unfold upd; rw [if_neg h]
theorem upd_upd {H:Hp} {a:Addr} {o u:HO}:upd (upd H a o) a u = upd H a u:=by
 funext b; unfold upd; split <;> rfl
theorem ne_of {H:Hp} {a b:Addr} {o u:HO} (h:H a = some o) (h':H b = some u) (d:o ≠ u):a ≠ b:=by
 intro e; subst e; rw [h] at h'; exact d (Option.some.inj h')
theorem ne_of_none {H:Hp} {a b:Addr} {o:HO} (h:H a = some o) (h':H b = none):a ≠ b:=by
 intro e; subst e; rw [h] at h'; cases h'
section
variable (P:Program) (w:World)
noncomputable def ObjOk (H:Hp) (h:Heap) (a:Addr):HO -> Prop
 | .lst xs => xs.length ≤ sizeLine∧∃ (its:List Value) (n:Nat), Vals xs its∧h.get? a = some { cls:=.type "list", data:=.seq its.toArray n }
 | .tup xs => xs.length ≤ sizeLine∧∃ its:List Value,Vals xs its∧IsTup h a its.toArray
 | .dK kvs => kvs.length ≤ sizeLine∧(a == sysModules) = false∧∃ vs,KV kvs vs∧h.DictOf (mixKind P w) a vs
 | .dT kvs => kvs.length ≤ sizeLine∧(a == sysModules) = false∧∃ xs:List (List Key × Addr × Value),
   Paired (fun (p:List Key × V) (q:List Key × Addr × Value) => p.1 = q.1∧H q.2.1 = some (.tup (p.1.map kV))∧RelV p.2 q.2.2) kvs xs ∧
   ∃ o es ep,h.get? a = some o∧o.ExactDict∧o.data = .dict es ep∧es.toList = xs.map (entryOfKey (tupleKind (mixKind P w)))∧(xs.map (·.1)).Nodup
 | .set S n => h.SetOf (intKind P w) a S n
 | .ins C dx fs => H dx = some (.own a)∧fs.length ≤ 1000∧dx ≠ a∧h.get? a = some (PySem.W.instObj C dx) ∧
   ∃ mA,h.Ns1 dx mA∧(∀ f,RelO (fs.lookup f) (mA f))∧PySem.Within mA (fs.map (·.1))
 | .own _ => ∃ o,h.get? a = some o
 | .xd fs => ∃ mA,h.Ns1 a mA∧∀ f,RelO (fs.lookup f) (mA f)
 | .rng lo hi => ∃ t u v, h.get? a = some { cls:=.type "range", data:=.fields #[.int lo t, .int hi u, .int 1 v] }
 | .frz o u => h.get? a = some o∧ObjOk H h a u
 | .tbl ps => h.get? a = some { cls:=.none,data:=.fields ps }
 | .met f x => h.get? a = some (PySem.W.methodObj (.ref f) (.ref x))
 | .ext φ => φ h∧(∃ o,h.get? a = some o)∧∀ h1 h2:Heap,φ h1 -> (∀ o,h1.get? a = some o -> h2.get? a = some o) -> φ h2
noncomputable def HOk (H:Hp) (h:Heap):Prop:=∀ a o,H a = some o -> ObjOk P w H h a o
end
section
variable {P:Program} {w:World} {H H':Hp} {h h':Heap} {a:Addr} {o:HO}
theorem ObjOk.lt (x:ObjOk P w H h a o):a < h.objs.size:=by
 cases o with
 | lst xs => obtain ⟨_,_,_,_,e⟩:=x; exact Heap.lt_size e
 | tup xs => obtain ⟨_,_,_,p⟩:=x; exact p.lt
 | dK kvs => obtain ⟨_,_,_,_,o,_,_,e,_⟩:=x; exact Heap.lt_size e
 | dT kvs => obtain ⟨_,_,_,_,o,_,_,e,_⟩:=x; exact Heap.lt_size e
 | set S n => obtain ⟨o,_,_,_,e,_⟩:=x; exact Heap.lt_size e
 | ins C dx fs => obtain ⟨_,_,_,e,_⟩:=x; exact Heap.lt_size e
 | own y => obtain ⟨_,e⟩:=x; exact Heap.lt_size e
 | xd fs => obtain ⟨_,⟨_,_,_,e,_⟩,_⟩:=x; exact Heap.lt_size e
 | rng lo hi => obtain ⟨_,_,_,e⟩:=x; exact Heap.lt_size e
 | frz ob u => obtain ⟨e,_⟩:=x; exact Heap.lt_size e
 | tbl ps => exact Heap.lt_size (show h.get? a = some _ from x)
 | met f y => exact Heap.lt_size (show h.get? a = some _ from x)
 | ext φ => obtain ⟨_,⟨_,e⟩,_⟩:=x; exact Heap.lt_size e
theorem Paired.mapP {α β:Type} {F G:α -> β -> Prop}:∀ {l₁:List α} {l₂:List β},Paired F l₁ l₂ -> (∀ a b,F a b -> G a b) -> Paired G l₁ l₂
 | _,_,.nil,_ => .nil
 | _,_,.cons r t,f => .cons (f _ _ r) (Paired.mapP t f)
theorem ObjOk.stay (x:ObjOk P w H h a o) (k:∀ b u,(b = a ∨ H b = some (.own a)) -> h.get? b = some u -> h'.get? b = some u)
  (ho:∀ b,H b = some (.own a) -> H' b = some (.own a)) (ht:∀ b xs,H b = some (.tup xs) -> H' b = some (.tup xs)):ObjOk P w H' h' a o:=by
 induction o with
 | lst xs => obtain ⟨z,its,n,r,e⟩:=x; exact ⟨z,its,n,r,k _ _ (.inl rfl) e⟩
 | tup xs => obtain ⟨z,its,r,ob,e,c⟩:=x; exact ⟨z,its,r,ob,k _ _ (.inl rfl) e,c⟩
 | dK kvs => obtain ⟨z,y,vs,r,ob,es,ep,e,c⟩:=x; exact ⟨z,y,vs,r,ob,es,ep,k _ _ (.inl rfl) e,c⟩
 | dT kvs =>
  obtain ⟨z,y,xs,r,ob,es,ep,e,c⟩:=x
  exact ⟨z,y,xs,Paired.mapP r fun p q z => ⟨z.1,ht _ _ z.2.1,z.2.2⟩,ob,es,ep,k _ _ (.inl rfl) e,c⟩
 | set S n => obtain ⟨ob,es,ep,t,e,c⟩:=x; exact ⟨ob,es,ep,t,k _ _ (.inl rfl) e,c⟩
 | ins C dx fs =>
  obtain ⟨d,z,ne,e,mA,⟨od,es,ep,e2,c⟩,r⟩:=x
  exact ⟨ho _ d,z,ne,k _ _ (.inl rfl) e,mA,⟨od,es,ep,k _ _ (.inr d) e2,c⟩,r⟩
 | own y => obtain ⟨ob,e⟩:=x; exact ⟨ob,k _ _ (.inl rfl) e⟩
 | xd fs => obtain ⟨mA,⟨od,es,ep,e,c⟩,r⟩:=x; exact ⟨mA,⟨od,es,ep,k _ _ (.inl rfl) e,c⟩,r⟩
 | rng lo hi => obtain ⟨t,u,v,e⟩:=x; exact ⟨t,u,v,k _ _ (.inl rfl) e⟩
 | frz ob u ih => obtain ⟨e,q⟩:=x; exact ⟨k _ _ (.inl rfl) e,ih q⟩
 | tbl ps =>
  have e:h.get? a = some { cls:=.none,data:=.fields ps }:=x
  show h'.get? a = some { cls:=.none,data:=.fields ps }
  exact k a _ (.inl rfl) e
 | met f y =>
  have e:h.get? a = some (PySem.W.methodObj (.ref f) (.ref y)):=x
  show h'.get? a = some (PySem.W.methodObj (.ref f) (.ref y))
  exact k a _ (.inl rfl) e
 | ext φ => obtain ⟨p,⟨o,e⟩,st⟩:=x; exact ⟨st _ _ p fun o q => k _ _ (.inl rfl) q,⟨o,k _ _ (.inl rfl) e⟩,st⟩
theorem HOk.lt (x:HOk P w H h) (e:H a = some o):a < h.objs.size:=(x a o e).lt
theorem HOk.fresh (x:HOk P w H h) (e:h.objs.size ≤ a):H a = none:=by
 cases q:H a with
 | none => rfl
 | some u => exact absurd (Nat.lt_of_lt_of_le (x.lt q) e) (Nat.lt_irrefl _)
theorem HOk.kept (x:HOk P w H h) (k:∀ b u,h.get? b = some u -> h'.get? b = some u):HOk P w H h':=fun a o e =>
 (x a o e).stay (fun b u _ q => k b u q) (fun _ q => q) fun _ _ q => q
theorem HOk.laid (x:HOk P w H h) (k:∀ b u,h.get? b = some u -> h'.get? b = some u) (hp:h.objs.size ≤ a) (new:ObjOk P w (upd H a o) h' a o):HOk P w (upd H a o) h':=fun b u e => by
 have hn:=x.fresh hp
 by_cases hb:b = a
 ·subst hb; rw [upd_same] at e; cases e; exact new
 ·rw [upd_ne hb] at e
  exact (x b u e).stay (fun c v _ q => k c v q) (fun c q => by rw [upd_ne (ne_of_none q hn)]; exact q) fun c xs q => by rw [upd_ne (ne_of_none q hn)]; exact q
end
noncomputable def Rd (H:Hp) (a:Addr) (u:HO):Prop:=H a = some u ∨ ∃ o,H a = some (.frz o u)
theorem Rd.ok {P:Program} {w:World} {H:Hp} {h:Heap} {a:Addr} {u:HO} (r:Rd H a u) (x:HOk P w H h):ObjOk P w H h a u:=by
 rcases r with r | ⟨o,r⟩
 ·exact x a u r
 ·obtain ⟨_,q⟩:=x a _ r
  exact q
noncomputable def Mut:Option HO -> Prop
 | some (.lst _) => True
 | some (.dK _) => True
 | some (.dT _) => True
 | some (.set _ _) => True
 | some (.ins _ _ _) => True
 | some (.ext _) => True
 | _ => False
section
variable {P:Program} {w:World} {H:Hp} {h h':Heap} {x e:Addr} {o':HO}
theorem HOk.write (ok:HOk P w H h) (mu:Mut (H x)) (he:e = x ∨ H e = some (.own x)) (k:∀ b u,b ≠ e -> h.get? b = some u -> h'.get? b = some u) (heo:∃ u,h'.get? e = some u)
  (new:ObjOk P w (upd H x o') h' x o'):HOk P w (upd H x o') h':=fun b u q => by
 have nown:∀ c y,H c = some (.own y) -> c ≠ x:=fun c y r z => by subst z; rw [r] at mu; exact mu
 have ntup:∀ c xs,H c = some (.tup xs) -> c ≠ x:=fun c xs r z => by subst z; rw [r] at mu; exact mu
 by_cases hb:b = x
 ·subst hb; rw [upd_same] at q; cases q; exact new
 ·rw [upd_ne hb] at q
  by_cases hbe:b = e
  ·have q':H b = some (.own x):=by
    rcases he with z | z
    ·exact absurd (hbe.trans z) hb
    ·rw [hbe]; exact z
   rw [q] at q'; cases q'
   obtain ⟨v,hv⟩:=heo
   exact ⟨v,by rw [hbe]; exact hv⟩
  ·refine (ok b u q).stay (fun c v hc r => k c v ?_ r) (fun c r => by rw [upd_ne (nown c b r)]; exact r) fun c xs r => by rw [upd_ne (ntup c xs r)]; exact r
   rcases hc with rfl | hc
   ·exact hbe
   ·rintro rfl
    rcases he with z | z
    ·exact nown c b hc z
    ·rw [hc] at z; cases z; exact hb rfl
end
structure Un (fs ex:List Addr) (H H':Hp) (h h':Heap):Prop where
 keep:∀ b o,h.get? b = some o -> H b = none -> b ∉ fs -> b ∉ ex -> h'.get? b = some o
 slot:∀ b o,h.get? b = some o -> H b = none -> b ∈ fs -> b ∉ ex -> ∃ sl,h'.get? b = some { o with slots:=sl }
 free:∀ b o,h.get? b = some o -> H b = none -> b ∉ ex -> H' b = none
 there:∀ b o,h.get? b = some o -> b ∉ ex -> ∃ o',h'.get? b = some o'
 tups:∀ b xs,H b = some (.tup xs) -> H' b = some (.tup xs)
 frzs:∀ b o u,H b = some (.frz o u) -> H' b = some (.frz o u)
 tbls:∀ b ps,H b = some (.tbl ps) -> ∃ more,H' b = some (.tbl (ps ++ more))
section
variable {fs fs' ex ex':List Addr} {H H1 H2:Hp} {h h1 h2 h':Heap} {a x e:Addr} {o:HO}
theorem Un.any (u:Un fs ex H H1 h h1) {b:Addr} {ob:Obj} (q:h.get? b = some ob) (n:H b = none) (hx:b ∉ ex):∃ sl,h1.get? b = some { ob with slots:=sl }:=by
 by_cases hb:b ∈ fs
 ·exact u.slot b ob q n hb hx
 ·exact ⟨ob.slots,u.keep b ob q n hb hx⟩
theorem Un.trans (a:Un fs ex H H1 h h1) (b:Un fs ex H1 H2 h1 h2):Un fs ex H H2 h h2 where
 keep:=fun c ob q n hc hx => b.keep c ob (a.keep c ob q n hc hx) (a.free c ob q n hx) hc hx
 slot:=fun c ob q n hc hx => by
  obtain ⟨sl,e1⟩:=a.slot c ob q n hc hx
  obtain ⟨sl',e2⟩:=b.slot c _ e1 (a.free c ob q n hx) hc hx
  exact ⟨sl',e2⟩
 free:=fun c ob q n hx => by
  obtain ⟨o',e1⟩:=a.there c ob q hx
  exact b.free c o' e1 (a.free c ob q n hx) hx
 there:=fun c ob q hx => by
  obtain ⟨o',e1⟩:=a.there c ob q hx
  exact b.there c o' e1 hx
 tups:=fun c xs q => b.tups c xs (a.tups c xs q)
 frzs:=fun c ob xs q => b.frzs c ob xs (a.frzs c ob xs q)
 tbls:=fun c ps q => by
  obtain ⟨m1,e1⟩:=a.tbls c ps q
  obtain ⟨m2,e2⟩:=b.tbls c _ e1
  exact ⟨m1 ++ m2,by rw [e2,Array.append_assoc]⟩
theorem Un.kept (k:∀ b u,h.get? b = some u -> h'.get? b = some u):Un fs ex H H h h' :=
 ⟨fun b ob q _ _ _ => k b ob q,fun b ob q _ _ _ => ⟨ob.slots,k b ob q⟩,fun _ _ _ n _ => n,fun b ob q _ => ⟨ob,k b ob q⟩,fun _ _ q => q,fun _ _ _ q => q,fun _ ps q => ⟨#[],by rw [q]; simp⟩⟩
theorem Un.refl:Un fs ex H H h h:=Un.kept fun _ _ q => q
theorem Un.laid (k:∀ b u,h.get? b = some u -> h'.get? b = some u) (hp:h.objs.size ≤ a) (hn:H a = none):Un fs ex H (upd H a o) h h' where
 keep:=fun b u q _ _ _ => k b u q
 slot:=fun b u q _ _ _ => ⟨u.slots,k b u q⟩
 free:=fun b u q n _ => by rw [upd_ne (Nat.ne_of_lt (Nat.lt_of_lt_of_le (Heap.lt_size q) hp))]; exact n
 there:=fun b u q _ => ⟨u,k b u q⟩
 tups:=fun b xs q => by rw [upd_ne (ne_of_none q hn)]; exact q
 frzs:=fun b u xs q => by rw [upd_ne (ne_of_none q hn)]; exact q
 tbls:=fun b ps q => ⟨#[],by rw [upd_ne (ne_of_none q hn),q]; simp⟩
theorem Un.write (mu:Mut (H x)) (he:e = x ∨ H e = some (.own x)) (k:∀ b u,b ≠ e -> h.get? b = some u -> h'.get? b = some u) (heo:∃ u,h'.get? e = some u):Un fs ex H (upd H x o) h h':=by
 have hx:∀ b,H b = none -> b ≠ x:=fun b n z => by subst z; rw [n] at mu; exact mu
 have hb:∀ b,H b = none -> b ≠ e:=fun b n z => by
  subst z
  rcases he with r | r
  ·exact hx b n r
  ·rw [n] at r; cases r
 have hm:∀ b u,H b = some u -> ¬ Mut (some u) -> b ≠ x:=fun b u q nm z => by subst z; rw [q] at mu; exact nm mu
 refine ⟨fun b u q n _ _ => k b u (hb b n) q,fun b u q n _ _ => ⟨u.slots,k b u (hb b n) q⟩,fun b u q n _ => by rw [upd_ne (hx b n)]; exact n,fun b u q _ => ?_,
  fun b xs q => by rw [upd_ne (hm b _ q fun z => z)]; exact q,fun b u xs q => by rw [upd_ne (hm b _ q fun z => z)]; exact q,fun b ps q => ⟨#[],by rw [upd_ne (hm b _ q fun z => z),q]; simp⟩⟩
 by_cases hbe:b = e
 ·subst hbe; exact heo
 ·exact ⟨u,k b u hbe q⟩
end
noncomputable def trk (h:Heap) (H:Hp):List Addr:=(List.range h.objs.size).filter fun a => (H a).isSome
noncomputable def hidT (h:Heap) (H:Hp):Heap:=PySem.W.hideAll h (trk h H)
theorem hidT_size (h:Heap) (H:Hp):(hidT h H).objs.size = h.objs.size:=PySem.W.hideAll_size _ _
theorem hidT_get {h:Heap} {H:Hp} {b:Addr} {o:Obj} (e:h.get? b = some o) (n:H b = none):(hidT h H).get? b = some o :=
 PySem.W.hideAll_get _ e fun hm => by
  have q:(H b).isSome = true:=(List.mem_filter.mp hm).2
  rw [n] at q; simp at q
theorem of_hidT {h:Heap} {H:Hp} {b:Addr} {o:Obj} (e:(hidT h H).get? b = some o):h.get? b = some o∧H b = none:=by
 have e':h.get? b = some o:=PySem.W.of_hideAll (trk h H) e
 refine ⟨e',?_⟩
 cases q:H b with
 | none => rfl
 | some x =>
  have hm:b ∈ trk h H:=List.mem_filter.mpr ⟨List.mem_range.mpr (Heap.lt_size e'),by simp [q]⟩
  have z:(hidT h H).get? b = none:=PySem.W.hideAll_none (trk h H) hm
  rw [z] at e; cases e
end L2
namespace L2
open PySem PySem.Spec PyProof.Rows
structure Mod (K:PySem.W.Frag) (mg:Str -> Option Value) (base:Heap):Prop where
 kin:K.In base
 glob:base.Ns mainGlobals mg
 blt:∃ mb, base.Ns builtinsNs mb∧∀ x:Str, x ≠ "__name__" -> mb x = bootBuiltins x
 nolimit:base.NoLimit
structure Cx where
 prog:Program
 w:World
 K:PySem.W.Frag
 mg:Str -> Option Value
 base:Heap
 A:Around
 N:List Str
 s₀:Shared
 H₀:Hp
 env:Env
 outer:List Env
 stack:List Env
 ex:List Addr
 fn:Str -> Bool
 calm:Bool
 pn:List (Addr × Obj)
 xe:Value -> Shared -> Prop
noncomputable def frs (l:List Env):List Addr:=l.filterMap (·.frame)
noncomputable abbrev Cx.fs (X:Cx):List Addr:=frs X.outer
noncomputable def Vis (sc:Scope) (x:Str):Prop:=sc.names.lookup x = some .local ∨ sc.names.lookup x = some .cell ∨ sc.names.lookup x = some .free
noncomputable def Loc (sc:Scope) (x:Str):Prop:=sc.names.lookup x = some .local ∨ sc.names.lookup x = some .cell
noncomputable def Look (env:Env) (h:Heap) (m:Str -> Option Value) (x:Str) (u:Value):Prop :=
 (env.kindOf x = some .local∧m x = some u) ∨ ((env.kindOf x = some .cell ∨ env.kindOf x = some .free)∧∃ c,env.cells.lookup x = some c∧h.IsCell c (some u))
structure Cx.Ok (X:Cx):Prop where
 mod:Mod X.K X.mg X.base
 kind:X.env.scope.kind = .function
 glob:X.env.globals = mainGlobals
 blt:X.env.builtins = builtinsNs
 above:X.s₀.heap.objs.size ≤ X.env.locals
 inj:∀ x y c,X.env.cells.lookup x = some c -> X.env.cells.lookup y = some c -> x = y
 has:∀ x,(X.env.kindOf x = some .cell ∨ X.env.kindOf x = some .free) -> ∃ c,X.env.cells.lookup x = some c
 cab:∀ x c,X.fn x = true -> X.env.cells.lookup x = some c -> X.s₀.heap.objs.size ≤ c
 hd:X.calm = true -> X.A.handled = none
 frames:X.A.frames = some X.stack
 stk:X.stack = X.outer ∨ (X.stack = X.env :: X.outer∧X.env.frame = some X.env.locals)
 exf:∀ b ∈ X.ex,b ≠ X.env.locals∧∀ x c,X.env.cells.lookup x = some c -> c ≠ b
 bs:∀ b o,X.base.get? b = some o -> X.s₀.heap.get? b = some o∧X.H₀ b = none
 bsz:X.base.objs.size ≤ X.s₀.heap.objs.size
 noex:∀ b o,X.base.get? b = some o -> b ∉ X.ex
 exfs:∀ b ∈ X.ex,b ∉ X.fs
 funs:X.s₀.heap.FunFrames X.base X.outer
 frf:∀ b ∈ X.fs,X.H₀ b = none
structure Inv (X:Cx) (pins:List (Addr × Obj)) (σ:List (Option V)) (H:Hp) (s:Shared):Prop where
 ok:X.Ok
 os:s.os = X.s₀.os
 bare:AllBare s.gens
 base:Un X.fs X.ex X.H₀ H X.s₀.heap s.heap
 loc:∃ m,s.heap.Ns X.env.locals m∧∀ (i:Nat) (x:Str) (v:V),X.N[i]? = some x -> σ[i]? = some (some v) -> Vis X.env.scope x -> ∃ u,RelV v u∧Look X.env s.heap m x u
 cell:∀ x c,X.env.cells.lookup x = some c -> ∃ v,s.heap.IsCell c v
 free:H X.env.locals = none
 freeC:∀ x c,X.env.cells.lookup x = some c -> H c = none
 pin:∀ p ∈ X.pn ++ pins,s.heap.get? p.1 = some p.2∧H p.1 = none∧p.1 ≠ X.env.locals∧p.1 ∉ X.fs∧∀ v,p.2.data ≠ .cell v
 hok:HOk X.prog X.w H s.heap
 len:σ.length = X.N.length
section
variable {X:Cx} {pins:List (Addr × Obj)} {σ:List (Option V)} {H H':Hp} {s:Shared} {h':Heap}
theorem Cx.Ok.nofr (ok:X.Ok) {b:Addr} {o:Obj} (e:X.base.get? b = some o):b ∉ X.fs:=fun hb => by
 have:=(ok.funs.mem hb).1
 rw [e] at this; cases this
theorem Inv.bs (I:Inv X pins σ H s):∀ b o,X.base.get? b = some o -> s.heap.get? b = some o∧H b = none:=fun b o e =>
 ⟨I.base.keep b o (I.ok.bs b o e).1 (I.ok.bs b o e).2 (I.ok.nofr e) (I.ok.noex b o e),I.base.free b o (I.ok.bs b o e).1 (I.ok.bs b o e).2 (I.ok.noex b o e)⟩
theorem Inv.bk (I:Inv X pins σ H s):∀ b o,X.base.get? b = some o -> s.heap.get? b = some o:=fun b o e => (I.bs b o e).1
theorem Inv.mod (I:Inv X pins σ H s):Mod X.K X.mg X.base:=I.ok.mod
theorem Inv.kIn (I:Inv X pins σ H s):X.K.In s.heap:=I.ok.mod.kin.keeps I.bk
theorem Inv.nolimit (I:Inv X pins σ H s):s.heap.NoLimit:=I.ok.mod.nolimit.keeps I.bk
theorem Inv.lt (I:Inv X pins σ H s):X.env.locals < s.heap.objs.size:=let ⟨_,hn,_⟩:=I.loc; hn.lt
theorem Inv.sz (I:Inv X pins σ H s):X.s₀.heap.objs.size ≤ s.heap.objs.size:=Nat.le_trans I.ok.above (Nat.le_of_lt I.lt)
theorem Inv.nofs (I:Inv X pins σ H s) {a:Addr} (h:s.heap.objs.size ≤ a):a ∉ X.fs:=fun hb => by
 obtain ⟨_,o,ho,_⟩:=I.ok.funs.mem hb
 exact absurd (Nat.lt_of_lt_of_le (Heap.lt_size ho) (Nat.le_trans I.sz h)) (Nat.lt_irrefl _)
theorem Inv.cne (I:Inv X pins σ H s):∀ x c,X.env.cells.lookup x = some c -> c ≠ X.env.locals:=fun x c e z => by
 obtain ⟨v,o,ho,hd⟩:=I.cell x c e
 obtain ⟨m,⟨o',es,ep,ho',hd',_⟩,_⟩:=I.loc
 rw [z,ho'] at ho; cases ho; rw [hd'] at hd; cases hd
theorem Inv.funs (I:Inv X pins σ H s):s.heap.FunFrames X.base X.outer:=by
 have all:∀ (l:List Env),(∀ b ∈ frs l,b ∈ X.fs) -> X.s₀.heap.FunFrames X.base l -> s.heap.FunFrames X.base l:=by
  intro l
  induction l with
  | nil => intro _ _; trivial
  | cons env r ih =>
   intro hs hl
   obtain ⟨hk,⟨L,o,hf,hn,ho,hd⟩,hr⟩:=hl
   have hL:L ∈ X.fs:=hs L (by unfold frs; rw [List.filterMap_cons,hf]; exact List.mem_cons_self)
   obtain ⟨sl,e⟩:=I.base.slot L o ho (I.ok.frf L hL) hL fun z => I.ok.exfs L z hL
   exact ⟨hk,⟨L,_,hf,hn,e,hd⟩,ih (fun b hb => hs b (by unfold frs; rw [List.filterMap_cons,hf]; exact List.mem_cons_of_mem _ hb)) hr⟩
 exact all X.outer (fun _ hb => hb) I.ok.funs
theorem Inv.stack (I:Inv X pins σ H s):s.heap.FunFrames X.base X.stack:=by
 rcases I.ok.stk with e | ⟨e,hf⟩
 ·rw [e]; exact I.funs
 ·rw [e]
  obtain ⟨m,hn,_⟩:=I.loc
  refine .cons (by rw [I.ok.kind]; decide) hf hn ?_ I.funs
  exact Heap.get?_none_of_le (Nat.le_trans I.ok.bsz I.ok.above)
theorem Inv.stkSub (I:Inv X pins σ H s):∀ b ∈ frs X.stack,b ∈ X.env.locals :: X.fs:=fun b hb => by
 rcases I.ok.stk with e | ⟨e,hf⟩
 ·rw [e] at hb; exact List.mem_cons_of_mem _ hb
 ·rw [e] at hb
  unfold frs at hb
  rw [List.filterMap_cons,hf] at hb
  exact hb
theorem Inv.stkFree (I:Inv X pins σ H s):∀ b ∈ frs X.stack,H b = none:=fun b hb => by
 rcases List.mem_cons.mp (I.stkSub b hb) with e | hb
 ·rw [e]; exact I.free
 ·obtain ⟨_,o,ho,_⟩:=I.ok.funs.mem hb
  exact I.base.free b o ho (I.ok.frf b hb) fun z => I.ok.exfs b z hb
theorem Inv.step {g':Array GenState} {t':Nat} {d':Drawn} {ch:List Addr} (I:Inv X pins σ H s)
  (hch:∀ b ∈ ch,(b ∈ X.ex ∨ X.s₀.heap.objs.size ≤ b)∧b ≠ X.env.locals∧(∀ x c,X.env.cells.lookup x = some c -> c ≠ b)∧∀ p ∈ X.pn ++ pins,p.1 ≠ b)
  (keep:∀ b o,b ≠ X.env.locals -> b ∉ X.fs -> b ∉ ch -> s.heap.get? b = some o -> H b = none -> h'.get? b = some o)
  (slot:∀ b o,b ≠ X.env.locals -> b ∈ X.fs -> b ∉ ch -> s.heap.get? b = some o -> H b = none -> ∃ sl,h'.get? b = some { o with slots:=sl }) (free:∀ b o,b ∉ ch -> s.heap.get? b = some o -> H b = none -> H' b = none)
  (there:∀ b o,b ∉ ch -> s.heap.get? b = some o -> ∃ o',h'.get? b = some o')
  (tups:∀ b xs,H b = some (.tup xs) -> H' b = some (.tup xs)) (frzs:∀ b o u,H b = some (.frz o u) -> H' b = some (.frz o u)) (tbls:∀ b ps,H b = some (.tbl ps) -> ∃ more,H' b = some (.tbl (ps ++ more)))
  (ns:∀ m,s.heap.Ns X.env.locals m -> h'.Ns X.env.locals m) (hok:HOk X.prog X.w H' h') (hg:AllBare g') :
  Inv X pins σ H' { s with heap:=h',gens:=g',drawn:=d',toks:=t' }:=by
 have neL:∀ b o,X.s₀.heap.get? b = some o -> b ≠ X.env.locals:=fun b o e => Nat.ne_of_lt (Nat.lt_of_lt_of_le (Heap.lt_size e) I.ok.above)
 have neC:∀ b o,X.s₀.heap.get? b = some o -> b ∉ X.ex -> b ∉ ch:=fun b o e hx hb => by
  rcases (hch b hb).1 with z | z
  ·exact hx z
  ·exact absurd (Nat.lt_of_lt_of_le (Heap.lt_size e) z) (Nat.lt_irrefl _)
 have cellK:∀ x c,X.env.cells.lookup x = some c -> ∀ v,s.heap.IsCell c v -> h'.IsCell c v:=fun x c e v ⟨o,ho,hd⟩ => by
  have nch:c ∉ ch:=fun z => (hch c z).2.2.1 x c e rfl
  by_cases hc:c ∈ X.fs
  ·obtain ⟨sl,q⟩:=slot c o (I.cne x c e) hc nch ho (I.freeC x c e)
   exact ⟨_,q,hd⟩
  ·exact ⟨o,keep c o (I.cne x c e) hc nch ho (I.freeC x c e),hd⟩
 refine ⟨I.ok,I.os,hg,⟨fun b o e n hb hx => ?_,fun b o e n hb hx => ?_,fun b o e n hx => ?_,fun b o e hx => ?_,fun b xs e => tups b xs (I.base.tups b xs e),fun b o xs e => frzs b o xs (I.base.frzs b o xs e),fun b ps e => ?_⟩,?_,fun x c e => ?_,?_,fun x c e => ?_,fun p hp => ?_,hok,I.len⟩
 ·exact keep b o (neL b o e) hb (neC b o e hx) (I.base.keep b o e n hb hx) (I.base.free b o e n hx)
 ·obtain ⟨sl,e1⟩:=I.base.slot b o e n hb hx
  obtain ⟨sl',e2⟩:=slot b _ (neL b o e) hb (neC b o e hx) e1 (I.base.free b o e n hx)
  exact ⟨sl',e2⟩
 ·obtain ⟨o',e1⟩:=I.base.there b o e hx
  exact free b o' (neC b o e hx) e1 (I.base.free b o e n hx)
 ·obtain ⟨o',e1⟩:=I.base.there b o e hx
  exact there b o' (neC b o e hx) e1
 ·obtain ⟨m1,e1⟩:=I.base.tbls b ps e
  obtain ⟨m2,e2⟩:=tbls b _ e1
  exact ⟨m1 ++ m2,by rw [e2,Array.append_assoc]⟩
 ·obtain ⟨m,hn,hl⟩:=I.loc
  refine ⟨m,ns m hn,fun i x v e1 e2 e3 => ?_⟩
  obtain ⟨u,r,l⟩:=hl i x v e1 e2 e3
  refine ⟨u,r,?_⟩
  rcases l with l | ⟨k,c,e,z⟩
  ·exact .inl l
  ·exact .inr ⟨k,c,e,cellK x c e _ z⟩
 ·obtain ⟨v,z⟩:=I.cell x c e
  exact ⟨v,cellK x c e v z⟩
 ·obtain ⟨m,⟨o,_,_,ho,_⟩,_⟩:=I.loc
  exact free _ o (fun z => (hch _ z).2.1 rfl) ho I.free
 ·obtain ⟨v,o,ho,hd⟩:=I.cell x c e
  exact free c o (fun z => (hch c z).2.2.1 x c e rfl) ho (I.freeC x c e)
 ·obtain ⟨e,n,ne,nf,d⟩:=I.pin p hp
  have nch:p.1 ∉ ch:=fun z => (hch p.1 z).2.2.2 p hp rfl
  exact ⟨keep p.1 p.2 ne nf nch e n,free p.1 p.2 nch e n,ne,nf,d⟩
theorem Inv.un {t':Nat} (I:Inv X pins σ H s) (u:Un X.fs [] H H' s.heap h') (hok:HOk X.prog X.w H' h'):Inv X pins σ H' { s with heap:=h',toks:=t' }:=by
 obtain ⟨m,⟨o,es,ep,ho,r⟩,_⟩:=id I.loc
 obtain ⟨sl,hL⟩:=u.any ho I.free (by simp)
 exact I.step (g':=s.gens) (d':=s.drawn) (ch:=[]) (fun _ z => nomatch z) (fun b o _ hb _ e n => u.keep b o e n hb (by simp)) (fun b o _ hb _ e n => u.slot b o e n hb (by simp)) (fun b o _ e n => u.free b o e n (by simp)) (fun b o _ e => u.there b o e (by simp)) u.tups u.frzs u.tbls (fun m' hm => by
  obtain ⟨o',es',ep',ho',r'⟩:=hm
  rw [ho] at ho'; cases ho'
  exact ⟨_,es',ep',hL,r'⟩) hok I.bare
theorem Inv.call {g':Array GenState} {t':Nat} {d':Drawn} {ch:List Addr} (I:Inv X pins σ H s) (u:Un (frs X.stack) ch H H' s.heap h') (hok:HOk X.prog X.w H' h') (hg:AllBare g')
  (hch:∀ b ∈ ch,(b ∈ X.ex ∨ X.s₀.heap.objs.size ≤ b)∧b ≠ X.env.locals∧(∀ x c,X.env.cells.lookup x = some c -> c ≠ b)∧∀ p ∈ X.pn ++ pins,p.1 ≠ b) :
  Inv X pins σ H' { s with heap:=h',gens:=g',drawn:=d',toks:=t' }:=by
 obtain ⟨m,⟨o,es,ep,ho,r⟩,_⟩:=id I.loc
 obtain ⟨sl,hL⟩:=u.any ho I.free fun z => (hch _ z).2.1 rfl
 exact I.step (ch:=ch) hch (fun b o hL hb hc e n => u.keep b o e n (fun z => (List.mem_cons.mp (I.stkSub b z)).elim hL hb) hc) (fun b o _ _ hc e n => u.any e n hc) (fun b o hc e n => u.free b o e n hc) (fun b o hc e => u.there b o e hc) u.tups u.frzs u.tbls (fun m' hm => by
  obtain ⟨o',es',ep',ho',r'⟩:=hm
  rw [ho] at ho'; cases ho'
  exact ⟨_,es',ep',hL,r'⟩) hok hg
theorem Inv.turned {t':Nat} {it:Addr} (I:Inv X pins σ H s) (k:∀ b o,b ≠ it -> s.heap.get? b = some o -> h'.get? b = some o) (hn:H it = none) (hL:it ≠ X.env.locals)
  (h1:it ∈ X.ex ∨ X.s₀.heap.objs.size ≤ it) (h2:∀ x c,X.env.cells.lookup x = some c -> c ≠ it) (h3:∀ p ∈ X.pn ++ pins,p.1 ≠ it):Inv X pins σ H { s with heap:=h',toks:=t' }:=by
 have nit:∀ b u,H b = some u -> b ≠ it:=fun b u e z => by rw [z,hn] at e; cases e
 refine I.step (g':=s.gens) (d':=s.drawn) (ch:=[it]) (fun b hb => ?_) (fun b o _ _ hc e _ => k b o (fun z => hc (by simp [z])) e) (fun b o _ _ hc e _ => ⟨o.slots,k b o (fun z => hc (by simp [z])) e⟩) (fun _ _ _ _ n => n)
  (fun b o hc e => ⟨o,k b o (fun z => hc (by simp [z])) e⟩) (fun _ _ e => e) (fun _ _ _ e => e) (fun b ps e => ⟨#[],by rw [e]; simp⟩) (fun m hm => ?_) (fun b u e => ?_) I.bare
 ·have e:b = it:=by simpa using hb
  subst e
  exact ⟨h1,hL,h2,h3⟩
 ·obtain ⟨o,es,ep,ho,r⟩:=hm
  exact ⟨o,es,ep,k _ o (Ne.symm hL) ho,r⟩
 ·refine (I.hok b u e).stay (fun c v hc q => k c v ?_ q) (fun _ q => q) fun _ _ q => q
  rcases hc with z | z
  ·rw [z]; exact nit b u e
  ·exact nit c _ z
theorem Inv.tok (I:Inv X pins σ H s) (t:Nat):Inv X pins σ H { s with toks:=t }:=I.un (h':=s.heap) (t':=t) Un.refl I.hok
theorem Inv.kept {t':Nat} (I:Inv X pins σ H s) (k:∀ b u,s.heap.get? b = some u -> h'.get? b = some u):Inv X pins σ H { s with heap:=h',toks:=t' }:=I.un (Un.kept k) (I.hok.kept k)
theorem Inv.laid {a:Addr} {o:HO} {t':Nat} (I:Inv X pins σ H s) (k:∀ b u,s.heap.get? b = some u -> h'.get? b = some u) (hp:s.heap.objs.size ≤ a) (new:ObjOk X.prog X.w (upd H a o) h' a o) :
  Inv X pins σ (upd H a o) { s with heap:=h',toks:=t' }:=I.un (Un.laid k hp (I.hok.fresh hp)) (I.hok.laid k hp new)
theorem Inv.write {x e:Addr} {o:HO} {t':Nat} (I:Inv X pins σ H s) (mu:Mut (H x)) (he:e = x ∨ H e = some (.own x)) (k:∀ b u,b ≠ e -> s.heap.get? b = some u -> h'.get? b = some u) (heo:∃ u,h'.get? e = some u)
  (new:ObjOk X.prog X.w (upd H x o) h' x o):Inv X pins σ (upd H x o) { s with heap:=h',toks:=t' }:=I.un (Un.write mu he k heo) (I.hok.write mu he k heo new)
theorem Inv.pins_of {pins':List (Addr × Obj)} (I:Inv X pins σ H s) (h:∀ p ∈ pins',s.heap.get? p.1 = some p.2∧H p.1 = none∧p.1 ≠ X.env.locals∧p.1 ∉ X.fs∧∀ v,p.2.data ≠ .cell v):Inv X pins' σ H s :=
 ⟨I.ok,I.os,I.bare,I.base,I.loc,I.cell,I.free,I.freeC,fun p hp => (List.mem_append.mp hp).elim (fun z => I.pin p (List.mem_append_left _ z)) (h p),I.hok,I.len⟩
theorem nodup_ix {N:List Str} (hN:N.Nodup) {i j:Nat} {x:Str} (a:N[i]? = some x) (b:N[j]? = some x):i = j:=by
 obtain ⟨h1,e1⟩:=List.getElem?_eq_some_iff.mp a
 obtain ⟨h2,e2⟩:=List.getElem?_eq_some_iff.mp b
 exact (List.getElem_inj hN).mp (e1.trans e2.symm)
theorem store_ok2 {M:Model} {A:Around} {E:Value -> Shared -> Prop} {i:Nat} {x:Str} {v:V} {u:Value} {Q:Unit -> Shared -> Prop} (I:Inv X pins σ H s) (hN:X.N.Nodup) (hi:X.N[i]? = some x) (hx:Loc X.env.scope x) (r:RelV v u)
  (h:∀ s',Inv X pins (σ.set i (some v)) H s' -> (∃ a,Heap.SameBut a s.heap s'.heap∧(a = X.env.locals ∨ X.env.cells.lookup x = some a)) -> Q () s') (hf:X.fn x = true ∨ X.env.scope.names.lookup x = some .local:=by first | exact .inl rfl | exact .inr rfl | assumption):wpAny M A (storeName X.env x u) Q E s:=by
 obtain ⟨m,hn,hl⟩:=id I.loc
 have hcls:(X.env.scope.kind == .class || (X.env.scope.kind == .module && X.env.locals != X.env.globals)) = false:=by rw [I.ok.kind]; rfl
 have hiσ:i < σ.length:=by rw [I.len]; exact (List.getElem?_eq_some_iff.mp hi).1
 have cne:=I.cne
 have tracked:∀ {a:Addr} {h':Heap},(∃ o,s.heap.get? a = some o∧H a = none) -> Heap.SameBut a s.heap h' -> HOk X.prog X.w H h':=fun {a h'} ha hs b ob e => by
  obtain ⟨_,_,hfree⟩:=ha
  refine (I.hok b ob e).stay (fun c w' hc q => (hs.2 c ?_).trans q) (fun _ q => q) fun _ _ q => q
  rintro rfl
  rcases hc with rfl | hc
  ·rw [hfree] at e; cases e
  ·rw [hfree] at hc; cases hc
 rcases hx with hk | hk
 ·refine wpAny_storeName_local hk hn (fun h' hn' hs => ?_) hcls
  obtain ⟨oL,_,_,hoL,_⟩:=id hn
  refine h _ ⟨I.ok,I.os,I.bare,⟨fun b o e n hb hx => ?_,fun b o e n hb hx => ?_,I.base.free,fun b o e hx => ?_,I.base.tups,I.base.frzs,I.base.tbls⟩,⟨_,hn',fun j y v' e1 e2 e3 => ?_⟩,fun y c e => ?_,I.free,I.freeC,fun p hp => ?_,tracked ⟨oL,hoL,I.free⟩ hs,by simpa using I.len⟩ ⟨_,hs,.inl rfl⟩
  ·exact (hs.2 b (Nat.ne_of_lt (Nat.lt_of_lt_of_le (Heap.lt_size e) I.ok.above))).trans (I.base.keep b o e n hb hx)
  ·obtain ⟨sl,e1⟩:=I.base.slot b o e n hb hx
   exact ⟨sl,(hs.2 b (Nat.ne_of_lt (Nat.lt_of_lt_of_le (Heap.lt_size e) I.ok.above))).trans e1⟩
  ·obtain ⟨o',e1⟩:=I.base.there b o e hx
   exact ⟨o',(hs.2 b (Nat.ne_of_lt (Nat.lt_of_lt_of_le (Heap.lt_size e) I.ok.above))).trans e1⟩
  ·by_cases hj:j = i
   ·subst hj
    rw [hi] at e1; cases e1
    rw [List.getElem?_set_self hiσ] at e2
    cases e2
    exact ⟨u,r,.inl ⟨hk,by simp⟩⟩
   ·rw [List.getElem?_set_ne (Ne.symm hj)] at e2
    obtain ⟨u',r',q⟩:=hl j y v' e1 e2 e3
    refine ⟨u',r',?_⟩
    rcases q with ⟨k,e⟩ | ⟨k,c,e,z⟩
    ·refine .inl ⟨k,?_⟩
     have:y ≠ x:=fun e => hj (nodup_ix hN e1 (e ▸ hi))
     simp [this,e]
    ·exact .inr ⟨k,c,e,z.sameBut hs (cne y c e)⟩
  ·obtain ⟨w',z⟩:=I.cell y c e
   exact ⟨w',z.sameBut hs (cne y c e)⟩
  ·obtain ⟨e,n,ne,nf,d⟩:=I.pin p hp
   exact ⟨(hs.2 p.1 ne).trans e,n,ne,nf,d⟩
 ·have hfn:X.fn x = true:=by
   rcases hf with z | z
   ·exact z
   ·rw [z] at hk; cases hk
  obtain ⟨c,hc⟩:=I.ok.has x (.inl hk)
  obtain ⟨w',z⟩:=I.cell x c hc
  refine wpAny_storeName_cell I.ok.kind hk hc z (fun h' hc' hs => ?_)
  obtain ⟨oc,hoc,hocd⟩:=id z
  refine h { s with heap:=h' } ⟨I.ok,I.os,I.bare,⟨fun b o e n hb hx => ?_,fun b o e n hb hx => ?_,I.base.free,fun b o e hx => ?_,I.base.tups,I.base.frzs,I.base.tbls⟩,⟨m,hn.sameBut hs (Ne.symm (cne x c hc)),fun j y v' e1 e2 e3 => ?_⟩,fun y c' e => ?_,I.free,I.freeC,fun p hp => ?_,tracked ⟨oc,hoc,I.freeC x c hc⟩ hs,by simpa using I.len⟩ ⟨c,hs,.inr hc⟩
  ·exact (hs.2 b (Nat.ne_of_lt (Nat.lt_of_lt_of_le (Heap.lt_size e) (I.ok.cab x c hfn hc)))).trans (I.base.keep b o e n hb hx)
  ·obtain ⟨sl,e1⟩:=I.base.slot b o e n hb hx
   exact ⟨sl,(hs.2 b (Nat.ne_of_lt (Nat.lt_of_lt_of_le (Heap.lt_size e) (I.ok.cab x c hfn hc)))).trans e1⟩
  ·obtain ⟨o',e1⟩:=I.base.there b o e hx
   exact ⟨o',(hs.2 b (Nat.ne_of_lt (Nat.lt_of_lt_of_le (Heap.lt_size e) (I.ok.cab x c hfn hc)))).trans e1⟩
  ·by_cases hj:j = i
   ·subst hj
    rw [hi] at e1; cases e1
    rw [List.getElem?_set_self hiσ] at e2
    cases e2
    exact ⟨u,r,.inr ⟨.inl hk,c,hc,hc'⟩⟩
   ·rw [List.getElem?_set_ne (Ne.symm hj)] at e2
    obtain ⟨u',r',q⟩:=hl j y v' e1 e2 e3
    refine ⟨u',r',?_⟩
    rcases q with q | ⟨k,c',e,z'⟩
    ·exact .inl q
    ·refine .inr ⟨k,c',e,z'.sameBut hs ?_⟩
     rintro rfl
     exact hj (nodup_ix hN e1 (I.ok.inj _ _ _ e hc ▸ hi))
  ·by_cases hcc:c' = c
   ·subst hcc; exact ⟨_,hc'⟩
   ·obtain ⟨w2,z2⟩:=I.cell y c' e
    exact ⟨w2,z2.sameBut hs hcc⟩
  ·obtain ⟨e,n,ne,nf,d⟩:=I.pin p hp
   refine ⟨(hs.2 p.1 ?_).trans e,n,ne,nf,d⟩
   intro q
   rw [q,hoc] at e
   have q':oc = p.2:=Option.some.inj e
   exact d w' (by rw [← q']; exact hocd)
theorem store_ok {M:Model} {A:Around} {E:Value -> Shared -> Prop} {i:Nat} {x:Str} {v:V} {u:Value} {Q:Unit -> Shared -> Prop} (I:Inv X pins σ H s) (hN:X.N.Nodup) (hi:X.N[i]? = some x) (hx:Loc X.env.scope x) (r:RelV v u)
  (h:∀ s',Inv X pins (σ.set i (some v)) H s' -> Q () s') (hf:X.fn x = true ∨ X.env.scope.names.lookup x = some .local:=by first | exact .inl rfl | exact .inr rfl | assumption):wpAny M A (storeName X.env x u) Q E s :=
 store_ok2 I hN hi hx r (fun s' I' _ => h s' I') hf
theorem Inv.call' {s':Shared} {ch:List Addr} (I:Inv X pins σ H s) (ho:s'.os = s.os) (u:Un (frs X.stack) ch H H' s.heap s'.heap) (hok:HOk X.prog X.w H' s'.heap) (hg:AllBare s'.gens)
  (hch:∀ b ∈ ch,(b ∈ X.ex ∨ X.s₀.heap.objs.size ≤ b)∧b ≠ X.env.locals∧(∀ x c,X.env.cells.lookup x = some c -> c ≠ b)∧∀ p ∈ X.pn ++ pins,p.1 ≠ b):Inv X pins σ H' s':=by
 obtain ⟨h',g',d',t',o'⟩:=s'
 have e:o' = s.os:=ho
 subst e
 exact I.call (g':=g') (t':=t') (d':=d') u hok hg hch
end
noncomputable abbrev XK:=Value -> Option Addr -> Hp -> Prop
noncomputable abbrev St:=List (Option V)
noncomputable abbrev VK:=V -> Hp -> Prop
noncomputable abbrev TE:=St -> Hp -> VK -> Prop
noncomputable abbrev TT:=St -> Hp -> (Bool -> Hp -> Prop) -> Prop
noncomputable abbrev TA:=St -> Hp -> (List V -> Hp -> Prop) -> Prop
structure Ends where
 nx:St -> Hp -> Prop
 rt:VK
 bk:St -> Hp -> Prop:=fun _ _ => False
 ct:St -> Hp -> Prop:=fun _ _ => False
noncomputable abbrev TS:=Ends -> St -> Hp -> Prop
noncomputable def EP (X:Cx) (pins:List (Addr × Obj)) (σ:St) (Q:VK) (u:Value) (s':Shared):Prop:=∃ v H',Inv X pins σ H' s'∧RelV v u∧Q v H'
noncomputable def TP (X:Cx) (pins:List (Addr × Obj)) (σ:St) (Q:Bool -> Hp -> Prop) (b:Bool) (s':Shared):Prop:=∃ H',Inv X pins σ H' s'∧Q b H'
noncomputable def AP (X:Cx) (pins:List (Addr × Obj)) (σ:St) (Q:List V -> Hp -> Prop) (us:List Value) (s':Shared):Prop:=∃ vs H',Inv X pins σ H' s'∧Vals vs us∧Q vs H'
noncomputable def SP (X:Cx) (pins:List (Addr × Obj)) (D:Ends) (f:Flow) (s':Shared):Prop :=
 match f with
 | .next => ∃ σ' H',Inv X pins σ' H' s'∧D.nx σ' H'
 | .brk => ∃ σ' H',Inv X pins σ' H' s'∧D.bk σ' H'
 | .cont => ∃ σ' H',Inv X pins σ' H' s'∧D.ct σ' H'
 | .ret u => ∃ v σ' H',Inv X pins σ' H' s'∧RelV v u∧D.rt v H'
noncomputable def PE (X:Cx) (e:Expr) (t:TE):Prop :=
 ∀ (pins:List (Addr × Obj)) (s:Shared) (σ:St) (H:Hp) (Q:VK),Inv X pins σ H s -> t σ H Q -> wpAny (model X.prog X.w) X.A (eval e X.env) (EP X pins σ Q) X.xe s
noncomputable def PT (X:Cx) (e:Expr) (t:TT):Prop :=
 ∀ (pins:List (Addr × Obj)) (s:Shared) (σ:St) (H:Hp) (Q:Bool -> Hp -> Prop),Inv X pins σ H s -> t σ H Q -> wpAny (model X.prog X.w) X.A (isTrue e X.env (eval e X.env)) (TP X pins σ Q) X.xe s
noncomputable def PW (X:Cx) (e:Expr) (t:TT):Prop :=
 ∀ (whole:Sem Value) (pins:List (Addr × Obj)) (s:Shared) (σ:St) (H:Hp) (Q:Bool -> Hp -> Prop),Inv X pins σ H s -> t σ H Q -> wpAny (model X.prog X.w) X.A (isTrue e X.env whole) (TP X pins σ Q) X.xe s
theorem PW.pt {X:Cx} {e:Expr} {t:TT} (h:PW X e t):PT X e t:=h _
noncomputable def PA (X:Cx) (es:List Expr) (t:TA):Prop :=
 ∀ (pos:Pos) (pins:List (Addr × Obj)) (s:Shared) (σ:St) (H:Hp) (Q:List V -> Hp -> Prop),Inv X pins σ H s -> t σ H Q -> wpAny (model X.prog X.w) X.A (spliced (backTo pos (starEach es X.env))) (AP X pins σ Q) X.xe s
noncomputable def PS (X:Cx) (st:Stmt) (t:TS):Prop :=
 ∀ (pins:List (Addr × Obj)) (s:Shared) (σ:St) (H:Hp) (D:Ends),Inv X pins σ H s -> t D σ H -> wpAny (model X.prog X.w) X.A (exec st X.env) (SP X pins D) X.xe s
noncomputable def PSs (X:Cx) (st:List Stmt) (t:TS):Prop :=
 ∀ (pins:List (Addr × Obj)) (s:Shared) (σ:St) (H:Hp) (D:Ends),Inv X pins σ H s -> t D σ H -> wpAny (model X.prog X.w) X.A (execs st X.env) (SP X pins D) X.xe s
theorem thn {α:Type} {t:Sem α} {Q Q':α -> Shared -> Prop} {M:Model} {A:Around} {E:Value -> Shared -> Prop} {s:Shared} (h:wpAny M A t Q E s) (hQ:∀ a s,Q a s -> Q' a s):wpAny M A t Q' E s:=wpAny_mono h hQ fun _ _ x => x
end L2
namespace L2
open PySem PySem.Spec PyProof.Rows
section
variable {X:Cx}
theorem bin {a b:Expr} {ta tb:TE} (ha:PE X a ta) (hb:PE X b tb) {pins:List (Addr × Obj)} {s:Shared} {σ:St} {H:Hp} {R:V -> V -> Hp -> Prop} (I:Inv X pins σ H s) (h:ta σ H fun x H1 => tb σ H1 fun y H2 => R x y H2)
  {α:Type} {Q:α -> Shared -> Prop} {f:Value -> Value -> Sem α}
  (hf:∀ v u s2 x y H2,Inv X pins σ H2 s2 -> RelV x v -> RelV y u -> R x y H2 -> wpAny (model X.prog X.w) X.A (f v u) Q X.xe s2) :
  wpAny (model X.prog X.w) X.A (eval a X.env) (fun v s₁ => wpAny (model X.prog X.w) X.A (eval b X.env) (fun u s₂ => wpAny (model X.prog X.w) X.A (f v u) Q X.xe s₂) X.xe s₁) X.xe s:=by
 refine thn (ha pins s σ H _ I h) fun v s1 ⟨x,H1,I1,r1,q1⟩ => ?_
 refine thn (hb pins s1 σ H1 _ I1 q1) fun u s2 ⟨y,H2,I2,r2,q2⟩ => ?_
 exact hf v u s2 x y H2 I2 r1 r2 q2
noncomputable def tVar (i:Nat):TE:=fun σ H Q => ∃ v,σ[i]? = some (some v)∧Q v H
noncomputable def tC (v:V):TE:=fun _ H Q => Q v H
theorem pe_var {i:Nat} {x:Str} {pos:Pos} (hN:X.N[i]? = some x) (hv:Vis X.env.scope x) (hd:(x == ("__debug__":Str)) = false:=by decide) (hcd:(x == ("__classdict__":Str)) = false:=by decide):PE X (.Name x pos) (tVar i):=by
 intro pins s σ H Q I h
 obtain ⟨v,e,h⟩:=h
 obtain ⟨m,hn,hl⟩:=I.loc
 obtain ⟨u,r,l⟩:=hl i x v hN e hv
 have fin:EP X pins σ Q u s:=⟨v,H,I,r,h⟩
 rcases l with ⟨hk,hm⟩ | ⟨hk,c,hc,hcell⟩
 ·exact wpAny_Name (wpAny_loadName_local I.ok.kind hk hn hm fin) hd
 ·rcases hk with hk | hk
  ·exact wpAny_Name (wpAny_loadName_cell I.ok.kind hk hc hcell fin) hd
  ·exact wpAny_Name (wpAny_loadName_free I.ok.kind hk hc hcell fin hcd) hd
theorem pe_int {i j pos}:PE X (.Constant (.int i) j pos) (tC (.int i)):=fun _ _ _ H _ I h => wpAny_Constant_int ⟨.int i,H,I.tok _,⟨_,rfl⟩,h⟩
theorem pe_bl {b j pos}:PE X (.Constant (.bool b) j pos) (tC (.bl b)):=fun _ _ _ H _ I h => Constant_bool ⟨.bl b,H,I,rfl,h⟩
theorem pe_non {j pos}:PE X (.Constant .none j pos) (tC .non):=fun _ _ _ H _ I h => Constant_none ⟨.non,H,I,rfl,h⟩
theorem pe_str {x j pos}:PE X (.Constant (.str x) j pos) (tC (.str x)):=fun _ _ _ H _ I h => Calls.Constant_str ⟨.str x,H,I.tok _,⟨_,rfl⟩,h⟩
noncomputable def Gl (X:Cx) (x:Str):Prop:=X.env.kindOf x = some .globalImplicit
theorem ld_glob {E:Value -> Shared -> Prop} {pins:List (Addr × Obj)} {s:Shared} {σ:St} {H:Hp} {x:Str} {u:Value} {pos:Pos} {Q:Value -> Shared -> Prop} (I:Inv X pins σ H s) (hg:Gl X x) (hm:X.mg x = some u) (h:Q u s)
  (hd:(x == ("__debug__":Str)) = false:=by decide):wpAny (model X.prog X.w) X.A (eval (.Name x pos) X.env) Q E s :=
 Calls.Name_function_global I.ok.kind hg (Calls.loadGlobal_global (by rw [I.ok.glob]; exact I.mod.glob.keeps I.bk) hm h) hd
theorem ld_blt {E:Value -> Shared -> Prop} {pins:List (Addr × Obj)} {s:Shared} {σ:St} {H:Hp} {x:Str} {u:Value} {pos:Pos} {Q:Value -> Shared -> Prop} (I:Inv X pins σ H s) (hg:Gl X x) (hm:X.mg x = none) (hv:bootBuiltins x = some u) (h:Q u s)
  (hn:x ≠ "__name__":=by decide) (hd:(x == ("__debug__":Str)) = false:=by decide):wpAny (model X.prog X.w) X.A (eval (.Name x pos) X.env) Q E s:=by
 obtain ⟨mb,h1,h2⟩:=I.mod.blt
 exact Calls.Name_function_global I.ok.kind hg (Calls.loadGlobal_builtin (by rw [I.ok.glob]; exact I.mod.glob.keeps I.bk) hm (by rw [I.ok.blt]; exact h1.keeps I.bk) ((h2 x hn).trans hv) h) hd
theorem pe_glob {x:Str} {v:V} {u:Value} {pos:Pos} (hg:Gl X x) (hm:X.mg x = some u) (r:RelV v u) (hd:(x == ("__debug__":Str)) = false:=by decide):PE X (.Name x pos) (tC v) :=
 fun _ _ _ H _ I h => ld_glob I hg hm ⟨v,H,I,r,h⟩ hd
theorem pe_bltn {x:Str} {v:V} {u:Value} {pos:Pos} (hg:Gl X x) (hm:X.mg x = none) (hv:bootBuiltins x = some u) (r:RelV v u) (hn:x ≠ "__name__":=by decide) (hd:(x == ("__debug__":Str)) = false:=by decide):PE X (.Name x pos) (tC v) :=
 fun _ _ _ H _ I h => ld_blt I hg hm hv ⟨v,H,I,r,h⟩ hn hd
variable {a b:Expr} {ta tb:TE} {pos:Pos}
noncomputable def PC (X:Cx) (op:CmpOp) (a b:Expr) (t:TE):Prop :=
 ∀ (pins:List (Addr × Obj)) (s:Shared) (σ:St) (H:Hp) (Q:VK),Inv X pins σ H s -> t σ H Q →
  wpAny (model X.prog X.w) X.A (eval a X.env) (fun v s₁ => wpAny (model X.prog X.w) X.A (eval b X.env) (fun u s₂ => wpAny (model X.prog X.w) X.A (compareOp op v u) (EP X pins σ Q) X.xe s₂) X.xe s₁) X.xe s
theorem nobehind (b:Expr) {op:CmpOp} (h:op ≠ .In) (h2:op ≠ .NotIn):behindInMarks op b = false:=by
 have e1:(op == CmpOp.In) = false:=by cases op <;> first | rfl | exact absurd rfl h
 have e2:(op == CmpOp.NotIn) = false:=by cases op <;> first | rfl | exact absurd rfl h2
 cases b <;> simp [behindInMarks,e1,e2]
noncomputable def tIsN (ta:TE):TE:=fun σ H Q => ta σ H fun x H1 => Q (.bl (decide (x = .non))) H1
theorem RelV.none_iff {x:V} {v:Value} (r:RelV x v):(v == Value.none) = decide (x = .non):=by
 cases x with
 | non => cases r; rfl
 | bl _ => cases r; rfl
 | int _ => obtain ⟨t,rfl⟩:=r; rfl
 | str _ => obtain ⟨t,rfl⟩:=r; rfl
 | byt _ => obtain ⟨t,rfl⟩:=r; rfl
 | flt _ => obtain ⟨t,rfl⟩:=r; rfl
 | ref _ => cases r; rfl
 | ty _ => cases r; rfl
theorem pc_isN {j pos'} (ha:PE X a ta):PC X .Is a (.Constant .none j pos') (tIsN ta):=by
 intro pins s σ H Q I h
 refine thn (ha pins s σ H _ I h) fun v s1 ⟨x,H1,I1,r1,q1⟩ => ?_
 exact Constant_none (is_none_gen ⟨.bl _,H1,I1,by rw [r1.none_iff]; rfl,q1⟩)
noncomputable def tB (t:TE):TT:=fun σ H Q => t σ H fun x H1 => ∃ c,x = .bl c∧Q c H1
theorem pt_cmp {op:CmpOp} {t:TE} (h:PC X op a b t) (h1:behindInMarks op b = false:=by first | exact nobehind _ (by decide) (by decide) | rfl):PT X (.Compare a [op] [b] pos) (tB t):=by
 intro pins s σ H Q I hw
 refine wpAny_isTrue_Compare1 (thn (h pins s σ H _ I hw) fun v s1 h1 => thn h1 fun u s2 h2 => thn h2 fun c s3 ⟨x,H1,I1,r1,q1⟩ => ?_) h1
 obtain ⟨d,rfl,q⟩:=q1
 cases r1
 exact wpAny_truthy_bool ⟨H1,I1,q⟩
theorem pt_val {e:Expr} {t:TE} (h:PE X e t) (he:∀ whole,isTrue e X.env whole = (do let v ← whole; standAt e.pos; holding [v] (truthy v)):=by intro _; rfl):PT X e (tB t):=by
 intro pins s σ H Q I hw
 refine isTrue_plain (thn (h pins s σ H _ I hw) fun v s1 ⟨x,H1,I1,r1,q1⟩ => ?_) (he _)
 obtain ⟨d,rfl,q⟩:=q1
 cases r1
 exact wpAny_truthy_bool ⟨H1,I1,q⟩
variable {tA tB':TT} {rest:List Expr}
noncomputable def tAnd (t u:TT):TT:=fun σ H Q => t σ H fun c H1 => if c = true then u σ H1 Q else Q false H1
noncomputable def tOr (t u:TT):TT:=fun σ H Q => t σ H fun c H1 => if c = true then Q true H1 else u σ H1 Q
noncomputable def tNot (t:TT):TT:=fun σ H Q => t σ H fun c H1 => Q (!c) H1
theorem pw_and1 (ha:PT X a tA):PW X (.BoolOp .And [a] pos) tA:=by
 intro wh pins s σ H Q I h
 refine isTrue_and (thn (ha pins s σ H Q I h) fun c s1 e => ?_)
 cases c with
 | true => exact isTrue_and_nil e
 | false => exact e
theorem pw_or1 (ha:PT X a tA):PW X (.BoolOp .Or [a] pos) tA:=by
 intro wh pins s σ H Q I h
 refine isTrue_or (thn (ha pins s σ H Q I h) fun c s1 e => ?_)
 cases c with
 | false => exact isTrue_or_nil e
 | true => exact e
theorem pw_and (ha:PT X a tA) (hb:PW X (.BoolOp .And (b :: rest) pos) tB'):PW X (.BoolOp .And (a :: b :: rest) pos) (tAnd tA tB'):=by
 intro wh pins s σ H Q I h
 refine isTrue_and (thn (ha pins s σ H _ I h) fun c s1 ⟨H1,I1,q1⟩ => ?_)
 cases c with
 | true => exact hb wh pins s1 σ H1 Q I1 q1
 | false => exact ⟨H1,I1,q1⟩
theorem pw_or (ha:PT X a tA) (hb:PW X (.BoolOp .Or (b :: rest) pos) tB'):PW X (.BoolOp .Or (a :: b :: rest) pos) (tOr tA tB'):=by
 intro wh pins s σ H Q I h
 refine isTrue_or (thn (ha pins s σ H _ I h) fun c s1 ⟨H1,I1,q1⟩ => ?_)
 cases c with
 | true => exact ⟨H1,I1,q1⟩
 | false => exact hb wh pins s1 σ H1 Q I1 q1
theorem pt_not (ha:PT X a tA):PT X (.UnaryOp .Not a pos) (tNot tA):=by
 intro pins s σ H Q I h
 exact isTrue_not (ha pins s σ H (fun c H1 => Q (!c) H1) I h)
noncomputable def tAndV (ta tb:TE):TE:=fun σ H Q => ta σ H fun x H1 => ∃ c,x = .bl c∧if c = true then tb σ H1 Q else Q (.bl false) H1
noncomputable def tNotV (ta:TE):TE:=fun σ H Q => ta σ H fun x H1 => ∃ c,x = .bl c∧Q (.bl (!c)) H1
theorem pe_one {op} {t:TE} (h:PE X a t):PE X (.BoolOp op [a] pos) t:=fun pins s σ H Q I hw => BoolOp_one (h pins s σ H Q I hw)
theorem pe_and (ha:PE X a ta) (hb:PE X (.BoolOp .And (b :: rest) pos) tb):PE X (.BoolOp .And (a :: b :: rest) pos) (tAndV ta tb):=by
 intro pins s σ H Q I h
 refine BoolOp_and (thn (ha pins s σ H _ I h) fun v s1 ⟨x,H1,I1,r1,q1⟩ => ?_)
 obtain ⟨c,rfl,q1⟩:=q1
 cases r1
 refine wpAny_truthy_bool ?_
 cases c with
 | true => exact hb pins s1 σ H1 Q I1 q1
 | false => exact ⟨.bl false,H1,I1,rfl,q1⟩
theorem pe_not (ha:PE X a ta):PE X (.UnaryOp .Not a pos) (tNotV ta):=by
 intro pins s σ H Q I h
 refine UnaryOp_ (thn (ha pins s σ H _ I h) fun v s1 ⟨x,H1,I1,r1,q1⟩ => ?_)
 obtain ⟨c,rfl,q1⟩:=q1
 cases r1
 exact not_of (wpAny_truthy_bool ⟨.bl (!c),H1,I1,rfl,q1⟩)
noncomputable def tIf (t:TT) (ta tb:TE):TE:=fun σ H Q => t σ H fun c H1 => if c = true then ta σ H1 Q else tb σ H1 Q
theorem pe_ifExp {c:Expr} (hc:PT X c tA) (ha:PE X a ta) (hb:PE X b tb):PE X (.IfExp c a b pos) (tIf tA ta tb):=by
 intro pins s σ H Q I h
 refine wpAny_IfExp (thn (hc pins s σ H _ I h) fun d s1 ⟨H1,I1,q1⟩ => ?_)
 cases d with
 | true => exact ha pins s1 σ H1 Q I1 q1
 | false => exact hb pins s1 σ H1 Q I1 q1
end
end L2
namespace L2
open PySem PySem.Spec PyProof.Rows
noncomputable def SqL (K:PySem.W.Frag) (H:Hp) (a:Addr) (xs:List V):Prop :=
 Rd H a (.lst xs) ∨
  ∃ (o:Obj) (its:Array Value) (n:Nat), K.lookup a = some o∧o.cls = .type "list"∧o.dict = none∧o.data = .seq its n∧its.size ≤ sizeLine∧Vals xs its.toList
noncomputable def SqT (K:PySem.W.Frag) (H:Hp) (a:Addr) (xs:List V):Prop :=
 Rd H a (.tup xs) ∨
  ∃ (o:Obj) (its:Array Value) (n:Nat), K.lookup a = some o∧o.cls = .type "tuple"∧o.data = .seq its n∧its.size ≤ sizeLine∧Vals xs its.toList
noncomputable def absV:Value -> Option V
 | .none => some .non
 | .bool b => some (.bl b)
 | .int i _ => some (.int i)
 | .str x _ => some (.str x)
 | .bytes b _ => some (.byt b)
 | .float b _ => some (.flt b)
 | .ref a => some (.ref a)
 | .type n => some (.ty n)
 | _ => none
theorem RelV.abs {x:V} {u:Value} (r:RelV x u):absV u = some x:=by
 cases x with
 | non => cases r; rfl
 | bl _ => cases r; rfl
 | int _ => obtain ⟨t,rfl⟩:=r; rfl
 | str _ => obtain ⟨t,rfl⟩:=r; rfl
 | byt _ => obtain ⟨t,rfl⟩:=r; rfl
 | flt _ => obtain ⟨t,rfl⟩:=r; rfl
 | ref _ => cases r; rfl
 | ty _ => cases r; rfl
theorem RelV.inj {x y:V} {u:Value} (r:RelV x u) (q:RelV y u):x = y:=Option.some.inj (r.abs.symm.trans q.abs)
theorem Vals.inj:∀ {xs ys:List V} {us:List Value},Vals xs us -> Vals ys us -> xs = ys
 | _,_,_,.nil,.nil => rfl
 | _,_,_,.cons r t,.cons r' t' => by rw [r.inj r',Vals.inj t t']
section
variable {X:Cx} {pins:List (Addr × Obj)} {σ:St} {H:Hp} {s:Shared} {a:Addr} {xs ys:List V}
theorem SqL.of {K:PySem.W.Frag} (h:H a = some (.lst xs)):SqL K H a xs:=.inl (.inl h)
theorem SqT.of {K:PySem.W.Frag} (h:H a = some (.tup xs)):SqT K H a xs:=.inl (.inl h)
theorem Inv.list (I:Inv X pins σ H s) (h:SqL X.K H a xs):∃ its:List Value,Vals xs its∧PlainL s.heap a its.toArray∧xs.length ≤ sizeLine:=by
 rcases h with h | ⟨o,its,n,hk,hc,hd,hs,hz,r⟩
 ·obtain ⟨z,its,n,r,e⟩:=h.ok I.hok
  exact ⟨its,r,⟨_,n,e,rfl,rfl,rfl⟩,z⟩
 ·refine ⟨its.toList,r,⟨o,n,I.kIn a o hk,hc,hd,by simpa using hs⟩,?_⟩
  have e:=r.length
  simp only [Array.length_toList] at e
  trivial
theorem Inv.tuple (I:Inv X pins σ H s) (h:SqT X.K H a xs):∃ its:List Value,Vals xs its∧IsTup s.heap a its.toArray∧xs.length ≤ sizeLine:=by
 rcases h with h | ⟨o,its,n,hk,hc,hs,hz,r⟩
 ·obtain ⟨z,its,r,p⟩:=h.ok I.hok
  exact ⟨its,r,p,z⟩
 ·refine ⟨its.toList,r,⟨o,I.kIn a o hk,hc,n,by simpa using hs⟩,?_⟩
  have e:=r.length
  simp only [Array.length_toList] at e
  trivial
theorem Inv.list_inj (I:Inv X pins σ H s) (h:SqL X.K H a xs) (h':SqL X.K H a ys):xs = ys:=by
 obtain ⟨its,r,⟨o,n,e,_,_,d⟩,_⟩:=I.list h
 obtain ⟨its',r',⟨o',n',e',_,_,d'⟩,_⟩:=I.list h'
 rw [e] at e'; cases e'
 rw [d] at d'
 injection d' with d1 _
 have:its = its':=by simpa using congrArg Array.toList d1
 subst this
 exact r.inj r'
theorem Inv.tuple_inj (I:Inv X pins σ H s) (h:SqT X.K H a xs) (h':SqT X.K H a ys):xs = ys:=by
 obtain ⟨its,r,⟨o,e,_,n,d⟩,_⟩:=I.tuple h
 obtain ⟨its',r',⟨o',e',_,n',d'⟩,_⟩:=I.tuple h'
 rw [e] at e'; cases e'
 rw [d] at d'
 injection d' with d1 _
 have:its = its':=by simpa using congrArg Array.toList d1
 subst this
 exact r.inj r'
end
noncomputable abbrev Cx.wish (X:Cx) (E:Value -> Shared -> Prop):Cx:={ X with xe:=E }
noncomputable abbrev Cx.nox (X:Cx):Cx:=X.wish fun _ _ => False
theorem Cx.Ok.wish {X:Cx} (ok:X.Ok) (E:Value -> Shared -> Prop):(X.wish E).Ok :=
 ⟨ok.mod,ok.kind,ok.glob,ok.blt,ok.above,ok.inj,ok.has,ok.cab,ok.hd,ok.frames,ok.stk,ok.exf,ok.bs,ok.bsz,ok.noex,ok.exfs,ok.funs,ok.frf⟩
theorem Cx.Ok.unwish {X:Cx} {E:Value -> Shared -> Prop} (ok:(X.wish E).Ok):X.Ok :=
 ⟨ok.mod,ok.kind,ok.glob,ok.blt,ok.above,ok.inj,ok.has,ok.cab,ok.hd,ok.frames,ok.stk,ok.exf,ok.bs,ok.bsz,ok.noex,ok.exfs,ok.funs,ok.frf⟩
section
variable {X:Cx} {pins:List (Addr × Obj)} {σ:St} {H:Hp} {s:Shared} {E:Value -> Shared -> Prop}
theorem Inv.wish (I:Inv X pins σ H s) (E:Value -> Shared -> Prop):Inv (X.wish E) pins σ H s:=⟨I.ok.wish E,I.os,I.bare,I.base,I.loc,I.cell,I.free,I.freeC,I.pin,I.hok,I.len⟩
theorem Inv.unwish (I:Inv (X.wish E) pins σ H s):Inv X pins σ H s:=⟨I.ok.unwish,I.os,I.bare,I.base,I.loc,I.cell,I.free,I.freeC,I.pin,I.hok,I.len⟩
theorem SP.unwish {D:Ends} {f:Flow} {s':Shared} (h:SP (X.wish E) pins D f s'):SP X pins D f s':=by
 cases f with
 | next => obtain ⟨σ',H',I,q⟩:=h; exact ⟨σ',H',I.unwish,q⟩
 | brk => obtain ⟨σ',H',I,q⟩:=h; exact ⟨σ',H',I.unwish,q⟩
 | cont => obtain ⟨σ',H',I,q⟩:=h; exact ⟨σ',H',I.unwish,q⟩
 | ret u => obtain ⟨v,σ',H',I,r,q⟩:=h; exact ⟨v,σ',H',I.unwish,r,q⟩
theorem PSs.nox {st:List Stmt} {t:TS} (h:PSs X.nox st t):PSs X st t:=fun pins s σ H D I hw =>
 wpAny_mono (h pins s σ H D (I.wish _) hw) (fun _ _ q => q.unwish) fun _ _ z => False.elim z
end
section
variable {X:Cx} {st:Stmt} {rest:List Stmt} {t u:TS} {e:Expr} {te:TE} {pos:Pos}
noncomputable def tNext:TS:=fun D σ H => D.nx σ H
noncomputable def tSeq (t u:TS):TS:=fun D σ H => t { D with nx:=u D } σ H
theorem pss_nil:PSs X [] tNext:=fun _ _ σ H _ I h => wpAny_execs_nil ⟨σ,H,I,h⟩
theorem pss_cons (h1:PS X st t) (h2:PSs X rest u):PSs X (st :: rest) (tSeq t u):=by
 intro pins s σ H D I h
 refine wpAny_execs_cons (thn (h1 pins s σ H { D with nx:=u D } I h) fun f s1 q => ?_)
 cases f with
 | next =>
  obtain ⟨σ',H',I',q⟩:=q
  exact h2 pins s1 σ' H' D I' q
 | ret v => exact q
 | brk => exact q
 | cont => exact q
theorem pss_one (h1:PS X st t):PSs X [st] t:=by
 intro pins s σ H D I h
 refine wpAny_execs_cons (thn (h1 pins s σ H D I h) fun f s1 q => ?_)
 cases f with
 | next => exact wpAny_execs_nil q
 | ret v => exact q
 | brk => exact q
 | cont => exact q
theorem Inv.quiet {pins:List (Addr × Obj)} {σ:St} {H:Hp} {s:Shared} (I:Inv X pins σ H s):interactive X.env = false:=by simp [interactive,I.ok.kind]
noncomputable def tDrop (te:TE):TS:=fun D σ H => te σ H fun _ H1 => D.nx σ H1
theorem ps_expr (he:PE X e te) (hs:swapsWith e none pos.line X.env = pure false:=by rfl):PS X (.Expr e pos) (tDrop te):=by
 intro pins s σ H D I h
 exact wpAny_Expr_any (thn (he pins s σ H _ I h) fun v s1 ⟨x,H1,I1,r1,q1⟩ => ⟨σ,H1,I1,q1⟩) I.quiet hs
noncomputable def tRet (te:TE):TS:=fun D σ H => te σ H D.rt
theorem ps_ret (he:PE X e te):PS X (.Return (some e) pos) (tRet te):=by
 intro pins s σ H D I h
 exact wpAny_Return_some (thn (he pins s σ H _ I h) fun v s1 ⟨x,H1,I1,r1,q1⟩ => ⟨x,σ,H1,I1,r1,q1⟩)
noncomputable def tIfS (c:TT) (t u:TS):TS:=fun D σ H => c σ H fun b H1 => if b = true then t D σ H1 else u D σ H1
theorem ps_if {c:Expr} {a b:List Stmt} {tc:TT} (hc:PT X c tc) (ha:PSs X a t) (hb:PSs X b u):PS X (.If c a b pos) (tIfS tc t u):=by
 intro pins s σ H D I h
 refine wpAny_If (thn (hc pins s σ H _ I h) fun d s1 ⟨H1,I1,q1⟩ => ?_)
 cases d with
 | true => exact ha pins s1 σ H1 D I1 q1
 | false => exact hb pins s1 σ H1 D I1 q1
end
noncomputable abbrev TG:=V -> St -> Hp -> (St -> Hp -> Prop) -> Prop
noncomputable abbrev TGs:=List V -> St -> Hp -> (St -> Hp -> Prop) -> Prop
noncomputable def PG (X:Cx) (target:Expr) (t:TG):Prop :=
 ∀ (pins:List (Addr × Obj)) (s:Shared) (σ:St) (H:Hp) (v:V) (u:Value) (Q:St -> Hp -> Prop),Inv X pins σ H s -> RelV v u -> t v σ H Q →
  wpAny (model X.prog X.w) X.A (assign target X.env u) (fun _ s' => ∃ σ' H',Inv X pins σ' H' s'∧Q σ' H') X.xe s
noncomputable def PGs (X:Cx) (ts:List Expr) (t:TGs):Prop :=
 ∀ (pins:List (Addr × Obj)) (s:Shared) (σ:St) (H:Hp) (vs:List V) (us:List Value) (Q:St -> Hp -> Prop),Inv X pins σ H s -> Vals vs us -> t vs σ H Q →
  wpAny (model X.prog X.w) X.A (assignInOrder ((assignEach ts X.env).map (·.2)) us) (fun _ s' => ∃ σ' H',Inv X pins σ' H' s'∧Q σ' H') X.xe s
noncomputable abbrev TSet:=V -> V -> V -> Hp -> (Hp -> Prop) -> Prop
noncomputable def PSet (X:Cx) (t:TSet):Prop :=
 ∀ (pins:List (Addr × Obj)) (s:Shared) (σ:St) (H:Hp) (o i v:V) (ov iv u:Value) (Q:Hp -> Prop),Inv X pins σ H s -> RelV o ov -> RelV i iv -> RelV v u -> t o i v H Q →
  wpAny (model X.prog X.w) X.A (setItem ov iv u) (fun _ s' => ∃ H',Inv X pins σ H' s'∧Q H') X.xe s
section
variable {X:Cx} {pos:Pos}
noncomputable def gName (i:Nat):TG:=fun v σ H Q => Q (σ.set i (some v)) H
theorem pg_name {i:Nat} {x:Str} (hN:X.N.Nodup) (hi:X.N[i]? = some x) (hx:Loc X.env.scope x) (hf:X.fn x = true ∨ X.env.scope.names.lookup x = some .local:=by first | exact .inl rfl | exact .inr rfl | assumption):PG X (.Name x pos) (gName i):=by
 intro pins s σ H v u Q I r h
 exact wpAny_assign_Name (store_ok I hN hi hx r (fun s' I' => ⟨_,H,I',h⟩) hf)
noncomputable def gNil:TGs:=fun vs σ H Q => vs = []∧Q σ H
noncomputable def gCons (t:TG) (u:TGs):TGs:=fun vs σ H Q => ∃ v r,vs = v :: r∧t v σ H fun σ' H' => u r σ' H' Q
theorem pgs_nil:PGs X [] gNil:=by
 intro pins s σ H vs us Q I r h
 obtain ⟨e,h⟩:=h
 subst e
 cases r
 exact assignInOrder_nil ⟨σ,H,I,h⟩
theorem pgs_cons {e:Expr} {es:List Expr} {t:TG} {u:TGs} (h1:PG X e t) (h2:PGs X es u)
  (hs:(assignEach (e :: es) X.env).map (·.2) = assign e X.env :: (assignEach es X.env).map (·.2):=by rfl):PGs X (e :: es) (gCons t u):=by
 intro pins s σ H vs us Q I r h
 obtain ⟨v,vr,e1,h⟩:=h
 subst e1
 cases r with
 | cons r rr =>
  rw [hs]
  refine assignInOrder_cons (thn (h1 pins s σ H _ _ _ I r h) fun _ s1 ⟨σ1,H1,I1,q1⟩ => ?_)
  exact h2 pins s1 σ1 H1 _ _ Q I1 rr q1
noncomputable def gTup (K:PySem.W.Frag) (n:Nat) (t:TGs):TG:=fun v σ H Q => ∃ a xs,v = .ref a∧SqT K H a xs∧xs.length = n∧t xs σ H Q
theorem pg_tup {es:List Expr} {k:Nat} {t:TGs} {n:Nat} (hc:X.calm = true) (h:PGs X es t)
  (hn:(assignEach es X.env).length = n:=by rfl) (hst:(assignEach es X.env).findIdx? (·.1) = none:=by rfl):PG X (.Tuple es k pos) (gTup X.K n t):=by
 intro pins s σ H v u Q I r hw
 obtain ⟨a,xs,e1,hq,hl,hw⟩:=hw
 subst e1
 cases r
 obtain ⟨its,rv,ht,hz⟩:=I.tuple hq
 refine assign_Tuple_tuple (I.ok.hd hc) ht (by simp [hn,← hl,rv.length]) hst fun h' hx => ?_
 have I1:Inv X pins σ H { s with heap:=h' }:=I.kept (t':=s.toks) fun b o e => hx b o (Nat.ne_of_lt (Heap.lt_size e)) e
 exact h pins _ σ H xs _ Q I1 (by simpa using rv) hw
noncomputable def gSub (to ti:TE) (t:TSet):TG:=fun v σ H Q => to σ H fun o H1 => ti σ H1 fun i H2 => t o i v H2 fun H3 => Q σ H3
theorem pg_sub {o i:Expr} {to ti:TE} {t:TSet} (ho:PE X o to) (hi:PE X i ti) (hs:PSet X t)
  (ha:∀ v,assign (.Subscript o i pos) X.env v = (do
   let ov ← holding [v] (eval o X.env)
   let iv ← holding [v,ov] (eval i X.env)
   standAt pos
   holding [v,ov,iv] (setItem ov iv v)
   release [v,ov,iv] []):=by intro _; rfl):PG X (.Subscript o i pos) (gSub to ti t):=by
 intro pins s σ H v u Q I r h
 rw [ha]
 refine wpAny_bind (wpAny_holding (thn (ho pins s σ H _ I h) fun ov s1 ⟨x,H1,I1,r1,q1⟩ => ?_))
 refine wpAny_bind (wpAny_holding (thn (hi pins s1 σ H1 _ I1 q1) fun iv s2 ⟨y,H2,I2,r2,q2⟩ => ?_))
 refine wpAny_bind (wpAny_standAt (wpAny_bind (wpAny_holding (thn (hs pins s2 σ H2 x y v ov iv u _ I2 r1 r2 r q2) fun _ s3 ⟨H3,I3,q3⟩ => ?_))))
 exact wpAny_release ⟨σ,H3,I3,q3⟩
noncomputable def tAsg (te:TE) (g:TG):TS:=fun D σ H => te σ H fun x H1 => g x σ H1 D.nx
theorem ps_asg {tg e:Expr} {te:TE} {g:TG} (he:PE X e te) (hg:PG X tg g) (hs:swapsWithSole [tg] e pos.line X.env = pure false:=by rfl) (hw:swappedStores [tg] e X.env = pure none:=by rfl)
  (h1:(assignEach [tg] X.env).map (·.2) = [assign tg X.env]:=by rfl):PS X (.Assign [tg] e pos) (tAsg te g):=by
 intro pins s σ H D I h
 refine wpAny_Assign_stores (thn (he pins s σ H _ I h) fun v s1 ⟨x,H1,I1,r1,q1⟩ => ?_) hs hw
 rw [h1]
 exact thn (hg pins s1 σ H1 x v _ I1 r1 q1) fun _ s2 q => q
theorem ps_set {i:Nat} {x:Str} {e:Expr} {te:TE} {pos':Pos} (hN:X.N.Nodup) (hi:X.N[i]? = some x) (hx:Loc X.env.scope x) (he:PE X e te) (hs:swapsWith e (some (.Name x pos')) pos.line X.env = pure false:=by rfl) (hf:X.fn x = true ∨ X.env.scope.names.lookup x = some .local:=by first | exact .inl rfl | exact .inr rfl | assumption) :
  PS X (.Assign [.Name x pos'] e pos) (tAsg te (gName i)):=by
 intro pins s σ H D I h
 refine wpAny_Assign_Name (thn (he pins s σ H _ I h) fun v s1 ⟨y,H1,I1,r1,q1⟩ => ?_) hs
 exact store_ok I1 hN hi hx r1 (fun s2 I2 => ⟨_,H1,I2,q1⟩) hf
end
section
variable {X:Cx} {pos:Pos}
noncomputable def tWhile (c:TT) (tb:TS):TS:=fun D σ H => ∃ W:Nat -> St -> Hp -> Prop,(∃ m,W m σ H)∧∀ m σ H,W m σ H →
 c σ H fun b H1 => if b = true then ∃ N:St -> Hp -> Prop,(∀ σ' H',N σ' H' -> ∃ m',m' < m∧W m' σ' H')∧tb { D with nx:=N,ct:=N,bk:=D.nx } σ H1 else D.nx σ H1
theorem ps_while {c:Expr} {body:List Stmt} {tc:TT} {tb:TS} (hp:PassesOwn (model X.prog X.w) X.A X.env X.xe) (hc:PT X c tc) (hb:PSs X body tb):PS X (.While c body [] pos) (tWhile tc tb):=by
 intro pins s σ H D I h
 obtain ⟨W,⟨m0,w0⟩,turn⟩:=h
 refine wpAny_While (codeAny_whileLoop (fun n s' => ∃ σ' H',Inv X pins σ' H' s'∧W n σ' H') ?_ m0 ⟨σ,H,I,w0⟩)
 rintro n s1 ⟨σ1,H1,I1,w1⟩
 refine wpAny_passesOwn hp (thn (hc pins s1 σ1 H1 _ I1 (turn n σ1 H1 w1)) fun b s2 ⟨H2,I2,q2⟩ => ?_)
 cases b with
 | true =>
  obtain ⟨N,hN,q2⟩:=q2
  rw [if_pos rfl]
  refine wpAny_passesOwn hp (thn (hb pins s2 σ1 H2 _ I2 q2) fun f s3 q3 => ?_)
  cases f with
  | next =>
   obtain ⟨σ3,H3,I3,n3⟩:=q3
   obtain ⟨m',hm,w3⟩:=hN σ3 H3 n3
   exact ⟨m',hm,σ3,H3,I3,w3⟩
  | cont =>
   obtain ⟨σ3,H3,I3,n3⟩:=q3
   obtain ⟨m',hm,w3⟩:=hN σ3 H3 n3
   exact ⟨m',hm,σ3,H3,I3,w3⟩
  | brk => exact q3
  | ret v => exact q3
 | false =>
  rw [if_neg Bool.false_ne_true]
  exact wpAny_execs_nil ⟨σ1,H2,I2,q2⟩
end
structure It where
 go:Nat -> Hp -> Prop
 yld:Nat -> Hp -> V -> Hp -> Prop
 stop:Nat -> Hp -> Prop
noncomputable def FpOk (X:Cx) (pins:List (Addr × Obj)) (H:Hp) (b:Addr):Prop :=
 H b = none∧b ≠ X.env.locals∧b ∉ X.fs∧(b ∈ X.ex ∨ X.s₀.heap.objs.size ≤ b)∧(∀ x c,X.env.cells.lookup x = some c -> c ≠ b)∧∀ p ∈ X.pn ++ pins,p.1 ≠ b
theorem Inv.fpOk {X:Cx} {pins:List (Addr × Obj)} {σ:St} {H H':Hp} {s:Shared} {b:Addr} (I:Inv X pins σ H s) (hb:s.heap.objs.size ≤ b) (hn:H' b = none):FpOk X pins H' b:=by
 refine ⟨hn,Nat.ne_of_gt (Nat.lt_of_lt_of_le I.lt hb),I.nofs hb,.inr (Nat.le_trans I.sz hb),fun x c e z => ?_,fun p hp z => ?_⟩
 ·obtain ⟨v,q⟩:=I.cell x c e
  exact absurd (Nat.lt_of_lt_of_le q.lt (by rw [z]; exact hb)) (Nat.lt_irrefl _)
 ·exact absurd (Nat.lt_of_lt_of_le (Heap.lt_size (I.pin p hp).1) (by rw [z]; exact hb)) (Nat.lt_irrefl _)
structure Turn (P:Program) (w:World) (K:PySem.W.Frag) (tg:Expr) (J:It) (fp:List Addr) (it:Addr) (tn:Nat -> Heap -> Prop):Prop where
 mem:it ∈ fp
 obj:∀ i h,tn i h -> ∀ b ∈ fp,∃ o,h.get? b = some o∧∀ v,o.data ≠ .cell v
 keep:∀ i h h',tn i h -> (∀ b ∈ fp,∀ o,h.get? b = some o -> h'.get? b = some o) -> tn i h'
 item:∀ (X:Cx),X.prog = P -> X.w = w -> X.K = K -> X.calm = true -> ∀ (i:Nat) (pins:List (Addr × Obj)) (s:Shared) (σ:St) (H:Hp) (E:Value -> Shared -> Prop),Inv X pins σ H s -> (∀ b ∈ fp,FpOk X pins H b) -> tn i s.heap -> J.go i H →
  wpAny (model P w) X.A (pyNext (.ref it)) (fun r s1 => ∃ u,r = some u ∧
   wpAny (model P w) X.A (letOwnedTupleGo tg (.ref it) u) (fun _ s2 => ∃ x H',Inv X pins σ H' s2∧RelV x u∧J.yld i H x H'∧tn (i + 1) s2.heap∧∀ b ∈ fp,H' b = none) E s1) E s
 done:∀ (X:Cx),X.prog = P -> X.w = w -> X.K = K -> X.calm = true -> ∀ (i:Nat) (pins:List (Addr × Obj)) (s:Shared) (σ:St) (H:Hp) (E:Value -> Shared -> Prop),Inv X pins σ H s -> (∀ b ∈ fp,FpOk X pins H b) -> tn i s.heap -> J.stop i H →
  wpAny (model P w) X.A (pyNext (.ref it)) (fun r s1 => r = none∧Inv X pins σ H s1) E s
 self:∀ (A:Around) (i:Nat) (s:Shared) (Q:Value -> Shared -> Prop) (E:Value -> Shared -> Prop),tn i s.heap -> Q (.ref it) s -> wpAny (model P w) A (pyIter (.ref it)) Q E s
noncomputable abbrev TI:=St -> Hp -> (It -> Hp -> Prop) -> Prop
noncomputable def PIE (X:Cx) (pins:List (Addr × Obj)) (σ:St) (tg:Expr) (R:It -> Hp -> Prop) (itv:Value) (s2:Shared):Prop :=
 ∃ (it:Addr) (fp:List Addr) (tn:Nat -> Heap -> Prop) (J:It) (H':Hp),itv = .ref it∧Inv X pins σ H' s2∧Turn X.prog X.w X.K tg J fp it tn∧tn 0 s2.heap∧(∀ b ∈ fp,FpOk X pins H' b)∧R J H'
noncomputable def PI (X:Cx) (tg iter:Expr) (wi:TI):Prop :=
 ∀ (pins:List (Addr × Obj)) (s:Shared) (σ:St) (H:Hp) (R:It -> Hp -> Prop),Inv X pins σ H s -> wi σ H R →
  wpAny (model X.prog X.w) X.A (eval iter X.env) (fun v s1 => wpAny (model X.prog X.w) X.A (pyIter v) (PIE X pins σ tg R) X.xe s1) X.xe s
theorem go_of {M : Model} {A : Around} {E : Value → Shared → Prop} {s : Shared} {tg : Expr} {it : Addr} {u : Value} {o : Obj} {n : String} {vs : Array Value} {Q : Unit → Shared → Prop} (ho : s.heap.get? it = some o) (hc : o.cls = .type n) (hd : o.data = .fields vs)
    (hn : ["enumerate", "zip", "dict_itemiterator", "dict_reverseitemiterator", "odict_iterator", "itertools.zip_longest", "itertools.pairwise"].contains n = false) (hQ : Q () s) : wpAny M A (letOwnedTupleGo tg (.ref it) u) Q E s := by
  unfold letOwnedTupleGo
  cases tg <;> first
    | exact wpAny_pure hQ
    | (cases u <;> first
        | exact wpAny_pure hQ
        | (refine wpAny_bind (wpAny_load ho ?_)
           rw [hc,hd]
           show wpAny M A (if (["enumerate", "zip", "dict_itemiterator", "dict_reverseitemiterator", "odict_iterator", "itertools.zip_longest", "itertools.pairwise"].contains n && vs[0]? == some (rawInt _)) = true then _ else _) Q E s
           rw [if_neg (by intro h; rw [hn,Bool.false_and] at h; cases h)]
           exact wpAny_pure hQ))
noncomputable def Itl (K:PySem.W.Frag) (a:Addr):It :=
 ⟨fun i H => ∃ xs x,SqL K H a xs∧xs[i]? = some x,fun i H x H' => H' = H∧∀ xs,SqL K H a xs -> xs[i]? = some x,fun i H => ∃ xs,SqL K H a xs∧xs.length ≤ i⟩
noncomputable def Itr (lo:Int) (n:Nat):It:=⟨fun i _ => i < n,fun i H x H' => H' = H∧x = .int (lo + i),fun i _ => n ≤ i⟩
theorem turn_list {P:Program} {w:World} {K:PySem.W.Frag} {tg:Expr} (a it:Addr):Turn P w K tg (Itl K a) [it] it (fun i h => h.IsListIter it a i) where
 mem:=by simp
 obj:=fun i h st b hb => by
  have e:b = it:=by simpa using hb
  subst e
  obtain ⟨o,e,c,d⟩:=st
  exact ⟨o,e,fun v z => by rw [d] at z; cases z⟩
 keep:=fun i h h' st k => st.at fun o e => k it (by simp) o e
 item:=by
  intro X hP hw hK hc i pins s σ H E I hf st hg
  subst hP hw hK
  obtain ⟨xs,x,hq,hx⟩:=hg
  obtain ⟨its,rv,p,hz⟩:=I.list hq
  obtain ⟨u,hu,ru⟩:=rv.get hx
  obtain ⟨f0,f1,f2,f3,f4,f5⟩:=hf it (by simp)
  refine wpAny_pyNext_list_item st p.isList (x:=u) (by simpa using hu) fun h' st' sb => ?_
  have I1:Inv X pins σ H { s with heap:=h' }:=I.turned (t':=s.toks) (fun b o hb e => (sb.2 b hb).trans e) f0 f1 f3 f4 f5
  obtain ⟨o,e,c,d⟩:=id st'
  exact ⟨u,rfl,go_of (s:={ s with heap:=h' }) e c d (by decide) ⟨x,H,I1,ru,⟨rfl,fun ys hy => by rw [I.list_inj hy hq]; exact hx⟩,st',fun b hb => (hf b hb).1⟩⟩
 done:=by
  intro X hP hw hK hc i pins s σ H E I hf st hg
  subst hP hw hK
  obtain ⟨xs,hq,hx⟩:=hg
  obtain ⟨its,rv,p,hz⟩:=I.list hq
  obtain ⟨f0,f1,f2,f3,f4,f5⟩:=hf it (by simp)
  have hl:=rv.length
  exact wpAny_pyNext_list_end (I.ok.hd hc) st p.isList (by simp; trivial) fun h' eb => ⟨rfl,I.turned (t':=s.toks) (fun b o hb e => eb b o hb e) f0 f1 f3 f4 f5⟩
 self:=fun _ _ _ _ _ st h => wpAny_pyIter_listiter st h
theorem turn_range {P:Program} {w:World} {K:PySem.W.Frag} {tg:Expr} (it:Addr) (lo:Int) (n:Nat):Turn P w K tg (Itr lo n) [it] it (fun i h => IsRangeIter h it (lo + (i:Nat) * 1) ((n:Int) - (i:Nat)) 1) where
 mem:=by simp
 obj:=fun i h st b hb => by
  have e:b = it:=by simpa using hb
  subst e
  exact ⟨_,st,fun v z => by
   have z':Data.fields _ = Data.cell v:=z
   cases z'⟩
 keep:=fun i h h' st k => k it (by simp) _ st
 item:=by
  intro X hP hw hK hc i pins s σ H E I hf st hg
  subst hP hw hK
  obtain ⟨f0,f1,f2,f3,f4,f5⟩:=hf it (by simp)
  have W:=Walks.range (prog:=X.prog) (w:=X.w) (I.ok.hd hc) it lo 1 n
  refine W.item i s _ _ hg st fun v h' tk hv st' kk => ?_
  obtain ⟨t,rfl⟩:=hv
  have I1:Inv X pins σ H { s with heap:=h',toks:=tk }:=I.turned (fun b o hb e => kk b o (by simpa using hb) e) f0 f1 f3 f4 f5
  refine ⟨_, rfl, go_of (s:={ s with heap:=h', toks:=tk }) (n:="range_iterator") st' rfl rfl (by decide) ⟨.int (lo + i), H, I1, ⟨t, ?_⟩, ⟨rfl, rfl⟩, st', fun b hb => (hf b hb).1⟩⟩
  rw [Int.mul_one]
 done:=by
  intro X hP hw hK hc i pins s σ H E I hf st hg
  subst hP hw hK
  obtain ⟨f0,f1,f2,f3,f4,f5⟩:=hf it (by simp)
  exact wpAny_pyNext_range_end (I.ok.hd hc) st (by have:n ≤ i:=hg; trivial) fun h' eb => ⟨rfl,I.turned (t':=s.toks) (fun b o hb e => eb b o hb e) f0 f1 f3 f4 f5⟩
 self:=fun _ _ _ _ _ st h => wpAny_pyIter_rangeiter st h
end L2
namespace L2
open PySem PySem.Spec PyProof.Rows
section
variable {X:Cx} {tg:Expr}
noncomputable def iList (K:PySem.W.Frag) (tl:TE):TI:=fun σ H R => tl σ H fun x H1 => ∃ a,x = .ref a∧(∃ xs,SqL K H1 a xs)∧R (Itl K a) H1
theorem pi_list {l:Expr} {tl:TE} (hl:PE X l tl):PI X tg l (iList X.K tl):=by
 intro pins s σ H R I h
 refine thn (hl pins s σ H _ I h) fun v s1 ⟨x,H1,I1,r1,q1⟩ => ?_
 obtain ⟨a,e,⟨xs,hq⟩,q⟩:=q1
 subst e
 cases r1
 obtain ⟨its,rv,p,hz⟩:=I1.list hq
 refine wpAny_pyIter_list p.isList ?_
 refine ⟨s1.heap.objs.size,[s1.heap.objs.size],_,_,H1,rfl,I1.kept (t':=s1.toks) fun b o e => Heap.get?_push_of_some _ e,turn_list a _,⟨_,Heap.get?_push_size _ rfl,rfl,rfl⟩,fun b hb => ?_,q⟩
 have e:b = s1.heap.objs.size:=by simpa using hb
 subst e
 exact I1.fpOk (Nat.le_refl _) (I1.hok.fresh (Nat.le_refl _))
theorem range_it {pins:List (Addr × Obj)} {σ:St} {H:Hp} {s:Shared} {R:It -> Hp -> Prop} {E:Value -> Shared -> Prop} {lo hi:Int} {t u v:Tok} {tk:Nat} (I:Inv X pins σ H s) (h1:-(2 ^ 62) ≤ lo) (h2:lo < 2 ^ 62) (h3:-(2 ^ 62) ≤ hi) (h4:hi < 2 ^ 62)
  (q:R (Itr lo (hi - lo).toNat) H):wpAny (model X.prog X.w) X.A (pyIter (.ref s.heap.objs.size)) (PIE X pins σ tg R) E { s with heap:=s.heap.push { cls:=.type "range", data:=.fields #[.int lo t, .int hi u, .int 1 v] }, toks:=tk }:=by
 refine wpAny_pyIter_range (IsRange.new ..) (small_one h1 h2 h3 h4) ?_
 have I1:Inv X pins σ H { s with heap:=s.heap.push { cls:=.type "range", data:=.fields #[.int lo t, .int hi u, .int 1 v] }, toks:=tk }:=I.kept fun b o e => Heap.get?_push_of_some _ e
 refine ⟨(s.heap.push { cls:=.type "range", data:=.fields #[.int lo t, .int hi u, .int 1 v] }).objs.size, [(s.heap.push { cls:=.type "range", data:=.fields #[.int lo t, .int hi u, .int 1 v] }).objs.size], _, _, H, rfl,
  I1.kept (t':=tk) fun b o e => Heap.get?_push_of_some _ e,turn_range _ lo (hi - lo).toNat,?_,fun b hb => ?_,q⟩
 ·have e1:lo + ((0:Nat):Int) * 1 = lo:=by simp
  have e2:(((hi - lo).toNat:Nat):Int) - ((0:Nat):Int) = Builtin.Range.rangeSize lo hi 1:=by rw [rangeSize_one]; split <;> trivial
  show IsRangeIter _ _ (lo + ((0:Nat):Int) * 1) ((((hi - lo).toNat:Nat):Int) - ((0:Nat):Int)) 1
  rw [e1,e2]
  exact Heap.get?_push_size _ rfl
 ·have e:b = (s.heap.push { cls:=.type "range", data:=.fields #[.int lo t, .int hi u, .int 1 v] }).objs.size:=by simpa using hb
  subst e
  exact I1.fpOk (Nat.le_refl _) (I1.hok.fresh (Nat.le_refl _))
noncomputable def iRng1 (ta:TA):TI:=fun σ H R => ta σ H fun vs H1 => ∃ j:Int,vs = [.int j]∧-(2 ^ 62) ≤ j∧j < 2 ^ 62∧R (Itr 0 j.toNat) H1
noncomputable def iRng2 (ta:TA):TI:=fun σ H R => ta σ H fun vs H1 => ∃ i j:Int,vs = [.int i,.int j]∧(-(2 ^ 62) ≤ i∧i < 2 ^ 62∧-(2 ^ 62) ≤ j∧j < 2 ^ 62)∧R (Itr i (j - i).toNat) H1
theorem pi_range1 {a:Expr} {ta:TA} {p pos:Pos} (hg:Gl X "range") (hm:X.mg "range" = none) (ha:PA X [a] ta) (hs:starEach [a] X.env = [(false, eval a X.env)]:=by rfl):PI X tg (.Call (.Name "range" p) [a] [] pos) (iRng1 ta):=by
 intro pins s σ H R I h
 refine Call_ (ld_blt I hg hm boot_range (PyProof.Rows.callWith_type1 (thn (ha pos pins s σ H _ I h) fun us s1 ⟨vs,H1,I1,r1,q1⟩ => ?_) hs rfl))
 obtain ⟨j,e,q1,q2,q⟩:=q1
 subst e
 cases r1 with
 | cons r rr =>
  cases rr
  obtain ⟨t,rfl⟩:=r
  exact call_range_1 (range_it I1 (by trivial) (by trivial) q1 q2 (by simpa using q))
theorem pi_range2 {a b:Expr} {ta:TA} {p pos:Pos} (hg:Gl X "range") (hm:X.mg "range" = none) (ha:PA X [a, b] ta) (hs:starEach [a, b] X.env = [(false, eval a X.env), (false, eval b X.env)]:=by rfl) (hs2:starEach [b] X.env = [(false, eval b X.env)]:=by rfl) :
  PI X tg (.Call (.Name "range" p) [a, b] [] pos) (iRng2 ta):=by
 intro pins s σ H R I h
 refine Call_ (ld_blt I hg hm boot_range (PyProof.Rows.callWith_type1 (thn (ha pos pins s σ H _ I h) fun us s1 ⟨vs,H1,I1,r1,q1⟩ => ?_) (by rw [hs,hs2]) (by rw [hs2]; rfl)))
 obtain ⟨i,j,e,⟨q1,q2,q3,q4⟩,q⟩:=q1
 subst e
 cases r1 with
 | cons r rr =>
  cases rr with
  | cons r' rr =>
   cases rr
   obtain ⟨t,rfl⟩:=r
   obtain ⟨t',rfl⟩:=r'
   exact call_range_2 (range_it I1 q1 q2 q3 q4 q)
noncomputable def tFor (wi:TI) (g:TG) (tb:TS):TS:=fun D σ H => wi σ H fun J H1 => ∃ W:Nat -> Nat -> St -> Hp -> Prop,(∃ m,W 0 m σ H1)∧∀ i m σ H,W i m σ H →
 (J.stop i H∧D.nx σ H) ∨ (J.go i H∧∃ N:St -> Hp -> Prop,(∀ σ' H',N σ' H' -> ∃ m',m' < m∧W (i + 1) m' σ' H')∧∀ x H',J.yld i H x H' -> g x σ H' fun σ2 H2 => tb { D with nx:=N,ct:=N,bk:=D.nx } σ2 H2)
noncomputable def pinsAt (fp:List Addr) (h:Heap):List (Addr × Obj):=fp.filterMap fun b => (h.get? b).map fun o => (b,o)
theorem mem_pinsAt {fp:List Addr} {h:Heap} {b:Addr} {o:Obj} (hb:b ∈ fp) (e:h.get? b = some o):(b,o) ∈ pinsAt fp h:=List.mem_filterMap.mpr ⟨b,hb,by rw [e]; rfl⟩
theorem of_pinsAt {fp:List Addr} {h:Heap} {p:Addr × Obj} (hp:p ∈ pinsAt fp h):p.1 ∈ fp∧h.get? p.1 = some p.2:=by
 obtain ⟨b,hb,e⟩:=List.mem_filterMap.mp hp
 cases q:h.get? b with
 | none => rw [q] at e; cases e
 | some o =>
  rw [q] at e
  have e':(b,o) = p:=Option.some.inj e
  subst e'
  exact ⟨hb,q⟩
theorem Inv.pinned {pins:List (Addr × Obj)} {σ:St} {H:Hp} {s:Shared} {fp:List Addr} (I:Inv X pins σ H s) (hf:∀ b ∈ fp,FpOk X pins H b) (ho:∀ b ∈ fp,∃ o,s.heap.get? b = some o∧∀ v,o.data ≠ .cell v):Inv X (pins ++ pinsAt fp s.heap) σ H s :=
 I.pins_of fun p hp => (List.mem_append.mp hp).elim (fun z => I.pin p (List.mem_append_right _ z)) fun z => by
  obtain ⟨hb,e⟩:=of_pinsAt z
  obtain ⟨f0,f1,f2,_⟩:=hf p.1 hb
  obtain ⟨o,e',d⟩:=ho p.1 hb
  rw [e] at e'; cases e'
  exact ⟨e,f0,f1,f2,d⟩
theorem Inv.unpinned {pins pl:List (Addr × Obj)} {σ:St} {H:Hp} {s:Shared} (I:Inv X (pins ++ pl) σ H s):Inv X pins σ H s:=I.pins_of fun p hp => I.pin p (List.mem_append_right _ (List.mem_append_left _ hp))
theorem ps_for {iter:Expr} {body:List Stmt} {wi:TI} {g:TG} {tb:TS} {pos:Pos} (hp:PassesOwn (model X.prog X.w) X.A X.env X.xe) (hc:X.calm = true) (hi:PI X tg iter wi) (hg:PG X tg g) (hb:PSs X body tb)
  (hs:∀ x,foldedSetIterable iter X.env x = pure x:=by intro _; rfl):PS X (.For tg iter body [] pos) (tFor wi g tb):=by
 intro pins s σ H D I h
 refine wpAny_For (thn (hi pins s σ H _ I h) fun v s1 h1 => thn h1 fun itv s2 h2 => ?_) hs
 obtain ⟨it,fp,tn,J,H2,e,I2,T,st2,f2,W,⟨m0,w0⟩,turn⟩:=h2
 subst e
 -- what stays true of the iterator's objects through the loop
 have stat:∀ {H':Hp},(∀ b ∈ fp,H' b = none) -> ∀ b ∈ fp,FpOk X pins H' b:=fun hn b hb => ⟨hn b hb,(f2 b hb).2⟩
 refine codeAny_forLoop_any (fun n s' => ∃ i σ' H',Inv X pins σ' H' s'∧tn i s'.heap∧(∀ b ∈ fp,H' b = none)∧W i n σ' H') ?_ m0 ⟨0,σ,H2,I2,st2,fun b hb => (f2 b hb).1,w0⟩
 rintro n s3 ⟨i,σ3,H3,I3,st3,fr3,w3⟩
 rcases turn i n σ3 H3 w3 with ⟨stop,qn⟩ | ⟨go,N,hN,step⟩
 ·refine wpAny_passesOwn hp (thn (T.done X rfl rfl rfl hc i pins s3 σ3 H3 X.xe I3 (stat fr3) st3 stop) fun r s4 ⟨hr,I4⟩ => ?_)
  subst hr
  exact wpAny_execs_nil ⟨σ3,H3,I4,qn⟩
 ·refine wpAny_passesOwn hp (thn (T.item X rfl rfl rfl hc i pins s3 σ3 H3 X.xe I3 (stat fr3) st3 go) fun r s4 ⟨u,hr,h4⟩ => ?_)
  subst hr
  refine wpAny_passesOwn hp (thn h4 fun _ s5 ⟨x,H5,I5,r5,y5,st5,fr5⟩ => ?_)
  have I5':=I5.pinned (stat fr5) (T.obj _ _ st5)
  refine wpAny_passesOwn hp (thn (hg _ s5 σ3 H5 x u _ I5' r5 (step x H5 y5)) fun _ s6 ⟨σ6,H6,I6,q6⟩ => ?_)
  refine wpAny_passesOwn hp (thn (hb _ s6 σ6 H6 _ I6 q6) fun f s7 q7 => ?_)
  have again:∀ {σ7:St} {H7:Hp},Inv X (pins ++ pinsAt fp s5.heap) σ7 H7 s7 -> N σ7 H7 -> ∃ m,m < n∧∃ i σ' H',Inv X pins σ' H' s7∧tn i s7.heap∧(∀ b ∈ fp,H' b = none)∧W i m σ' H':=fun {σ7 H7} I7 n7 => by
   obtain ⟨m',hm,w7⟩:=hN σ7 H7 n7
   refine ⟨m',hm,i + 1,σ7,H7,I7.unpinned,T.keep _ _ _ st5 fun b hb o e => (I7.pin (b,o) (List.mem_append_right _ (List.mem_append_right _ (mem_pinsAt hb e)))).1,fun b hb => ?_,w7⟩
   obtain ⟨o,e,d⟩:=T.obj _ _ st5 b hb
   exact (I7.pin (b,o) (List.mem_append_right _ (List.mem_append_right _ (mem_pinsAt hb e)))).2.1
  cases f with
  | next => obtain ⟨σ7,H7,I7,n7⟩:=q7; exact again I7 n7
  | cont => obtain ⟨σ7,H7,I7,n7⟩:=q7; exact again I7 n7
  | brk => obtain ⟨σ7,H7,I7,q7⟩:=q7; exact ⟨σ7,H7,I7.unpinned,q7⟩
  | ret v => obtain ⟨x7,σ7,H7,I7,r7,q7⟩:=q7; exact ⟨x7,σ7,H7,I7.unpinned,r7,q7⟩
end
theorem for_list {K:PySem.W.Frag} {a:Addr} {xs:List V} {g:TG} {tb:TS} {D:Ends} {σ:St} {H:Hp} (Pv:Nat -> St -> Hp -> Prop) (h0:Pv 0 σ H) (hl:∀ i σ H,i ≤ xs.length -> Pv i σ H -> SqL K H a xs)
  (hs:∀ i x σ H,xs[i]? = some x -> Pv i σ H -> g x σ H fun σ2 H2 => tb { D with nx:=Pv (i + 1),ct:=Pv (i + 1),bk:=D.nx } σ2 H2) (hd:∀ σ H,Pv xs.length σ H -> D.nx σ H) :
  ∃ W:Nat -> Nat -> St -> Hp -> Prop,(∃ m,W 0 m σ H)∧∀ i m σ H,W i m σ H →
   ((Itl K a).stop i H∧D.nx σ H) ∨ ((Itl K a).go i H∧∃ N:St -> Hp -> Prop,(∀ σ' H',N σ' H' -> ∃ m',m' < m∧W (i + 1) m' σ' H')∧∀ x H',(Itl K a).yld i H x H' -> g x σ H' fun σ2 H2 => tb { D with nx:=N,ct:=N,bk:=D.nx } σ2 H2):=by
 refine ⟨fun i m σ H => m = xs.length - i∧i ≤ xs.length∧Pv i σ H,⟨xs.length,by simp,Nat.zero_le _,h0⟩,?_⟩
 rintro i m σ H ⟨rfl,hi,p⟩
 have q:=hl i σ H hi p
 by_cases hlt:i < xs.length
 ·refine .inr ⟨⟨xs,xs[i],q,by simp [hlt]⟩,Pv (i + 1),fun σ' H' p' => ⟨xs.length - (i + 1),by trivial,rfl,hlt,p'⟩,fun x H' y => ?_⟩
  obtain ⟨e,y⟩:=y
  subst e
  exact hs i x σ _ (y xs q) p
 ·have e:i = xs.length:=by trivial
  subst e
  exact .inl ⟨⟨xs,q,Nat.le_refl _⟩,hd σ H p⟩
theorem for_range {lo:Int} {n:Nat} {g:TG} {tb:TS} {D:Ends} {σ:St} {H:Hp} (Pv:Nat -> St -> Hp -> Prop) (h0:Pv 0 σ H)
  (hs:∀ i σ H,i < n -> Pv i σ H -> g (.int (lo + i)) σ H fun σ2 H2 => tb { D with nx:=Pv (i + 1),ct:=Pv (i + 1),bk:=D.nx } σ2 H2) (hd:∀ σ H,Pv n σ H -> D.nx σ H) :
  ∃ W:Nat -> Nat -> St -> Hp -> Prop,(∃ m,W 0 m σ H)∧∀ i m σ H,W i m σ H →
   ((Itr lo n).stop i H∧D.nx σ H) ∨ ((Itr lo n).go i H∧∃ N:St -> Hp -> Prop,(∀ σ' H',N σ' H' -> ∃ m',m' < m∧W (i + 1) m' σ' H')∧∀ x H',(Itr lo n).yld i H x H' -> g x σ H' fun σ2 H2 => tb { D with nx:=N,ct:=N,bk:=D.nx } σ2 H2):=by
 refine ⟨fun i m σ H => m = n - i∧i ≤ n∧Pv i σ H,⟨n,by simp,Nat.zero_le _,h0⟩,?_⟩
 rintro i m σ H ⟨rfl,hi,p⟩
 by_cases hlt:i < n
 ·refine .inr ⟨hlt,Pv (i + 1),fun σ' H' p' => ⟨n - (i + 1),by trivial,rfl,hlt,p'⟩,fun x H' y => ?_⟩
  obtain ⟨e,y⟩:=y
  subst e y
  exact hs i σ _ hlt p
 ·have e:i = n:=by trivial
  subst e
  exact .inl ⟨Nat.le_refl _,hd σ H p⟩
end L2
namespace L2
open PySem PySem.Spec PyProof.Rows
noncomputable abbrev R2:=V -> V -> Hp -> VK -> Prop
noncomputable def OpR (X:Cx) (f:Value -> Value -> Sem Value) (r:R2):Prop :=
 ∀ (pins:List (Addr × Obj)) (s:Shared) (σ:St) (H:Hp) (x y:V) (v u:Value) (Q:VK),Inv X pins σ H s -> RelV x v -> RelV y u -> r x y H Q →
  wpAny (model X.prog X.w) X.A (f v u) (EP X pins σ Q) X.xe s
noncomputable def UnR (X:Cx) (f:Value -> Sem Value) (r:V -> Hp -> VK -> Prop):Prop :=
 ∀ (pins:List (Addr × Obj)) (s:Shared) (σ:St) (H:Hp) (x:V) (v:Value) (Q:VK),Inv X pins σ H s -> RelV x v -> r x H Q →
  wpAny (model X.prog X.w) X.A (f v) (EP X pins σ Q) X.xe s
noncomputable def CallR (X:Cx) (f:Value) (r:List V -> Hp -> VK -> Prop):Prop :=
 ∀ (pins:List (Addr × Obj)) (s:Shared) (σ:St) (H:Hp) (xs:List V) (us:List Value) (Q:VK),Inv X pins σ H s -> Vals xs us -> r xs H Q →
  wpAny (model X.prog X.w) X.A (call f us) (EP X pins σ Q) X.xe s
noncomputable def tOp (r:R2) (ta tb:TE):TE:=fun σ H Q => ta σ H fun x H1 => tb σ H1 fun y H2 => r x y H2 Q
noncomputable def tUn (r:V -> Hp -> VK -> Prop) (ta:TE):TE:=fun σ H Q => ta σ H fun x H1 => r x H1 Q
noncomputable def rI (C:Int -> Int -> Prop) (g:Int -> Int -> V):R2:=fun x y H Q => ∃ i j,x = .int i∧y = .int j∧C i j∧Q (g i j) H
noncomputable def rI0 (g:Int -> Int -> V):R2:=fun x y H Q => ∃ i j,x = .int i∧y = .int j∧Q (g i j) H
noncomputable def rU (g:Int -> V):V -> Hp -> VK -> Prop:=fun x H Q => ∃ i,x = .int i∧Q (g i) H
section
variable {X:Cx} {a b c:Expr} {ta tb tc:TE} {pos:Pos}
theorem binT (ha:PE X a ta) (hb:PE X b tb) {pins:List (Addr × Obj)} {s:Shared} {σ:St} {H:Hp} {R:V -> V -> Hp -> Prop} (I:Inv X pins σ H s)
  (h:ta σ H fun x H1 => tb σ H1 fun y H2 => R x y H2) {Q:Value -> Shared -> Prop} {f:Value -> Value -> Sem Value}
  (hf:∀ v u s2 x y H2,Inv X pins σ H2 s2 -> RelV x v -> RelV y u -> R x y H2 -> wpAny (model X.prog X.w) X.A (f v u) Q X.xe s2) :
  wpAny (model X.prog X.w) X.A (eval a X.env) (fun v s₁ => wpAny (model X.prog X.w) X.A (eval b X.env) (fun u s₂ => wpAny (model X.prog X.w) X.A (f v u) Q X.xe s₂) X.xe s₁) X.xe s:=by
 refine thn (ha pins s σ H _ I h) fun v s1 ⟨x,H1,I1,r1,q1⟩ => ?_
 refine thn (hb pins s1 σ H1 _ I1 q1) fun u s2 ⟨y,H2,I2,r2,q2⟩ => ?_
 exact hf v u s2 x y H2 I2 r1 r2 q2
theorem pe_op {op:Operator} {r:R2} (ho:OpR X (binaryOp op) r) (ha:PE X a ta) (hb:PE X b tb):PE X (.BinOp a op b pos) (tOp r ta tb):=by
 intro pins s σ H Q I h
 exact wpAny_BinOp (binT ha hb I h fun v u s2 x y H2 I2 rx ry q => ho pins s2 σ H2 x y v u Q I2 rx ry q)
theorem pe_un {op:UnaryOp} {r:V -> Hp -> VK -> Prop} (ho:UnR X (unaryOp op) r) (ha:PE X a ta):PE X (.UnaryOp op a pos) (tUn r ta):=by
 intro pins s σ H Q I h
 exact UnaryOp_ (thn (ha pins s σ H _ I h) fun v s1 ⟨x,H1,I1,r1,q1⟩ => ho pins s1 σ H1 x v Q I1 r1 q1)
theorem opI {f:Value -> Value -> Sem Value} {C:Int -> Int -> Prop} {g:Int -> Int -> Int}
  (rule:∀ (i j:Int) (t u:Tok) (s:Shared) (Q:Value -> Shared -> Prop) (E:Value -> Shared -> Prop),C i j -> Q (.int (g i j) s.toks) { s with toks:=s.toks + 1 } -> wpAny (model X.prog X.w) X.A (f (.int i t) (.int j u)) Q E s) :
  OpR X f (rI C fun i j => .int (g i j)):=by
 intro pins s σ H x y v u Q I rx ry h
 obtain ⟨i,j,rfl,rfl,hc,q⟩:=h
 obtain ⟨t,rfl⟩:=rx
 obtain ⟨t',rfl⟩:=ry
 exact rule i j t t' s _ _ hc ⟨.int (g i j),H,I.tok _,⟨_,rfl⟩,q⟩
theorem opI0 {f:Value -> Value -> Sem Value} {g:Int -> Int -> Int}
  (rule:∀ (i j:Int) (t u:Tok) (s:Shared) (Q:Value -> Shared -> Prop) (E:Value -> Shared -> Prop),Q (.int (g i j) s.toks) { s with toks:=s.toks + 1 } -> wpAny (model X.prog X.w) X.A (f (.int i t) (.int j u)) Q E s) :
  OpR X f (rI0 fun i j => .int (g i j)):=by
 intro pins s σ H x y v u Q I rx ry h
 obtain ⟨i,j,rfl,rfl,q⟩:=h
 obtain ⟨t,rfl⟩:=rx
 obtain ⟨t',rfl⟩:=ry
 exact rule i j t t' s _ _ ⟨.int (g i j),H,I.tok _,⟨_,rfl⟩,q⟩
theorem opB0 {f:Value -> Value -> Sem Value} {g:Int -> Int -> Bool}
  (rule:∀ (i j:Int) (t u:Tok) (s:Shared) (Q:Value -> Shared -> Prop) (E:Value -> Shared -> Prop),Q (.bool (g i j)) s -> wpAny (model X.prog X.w) X.A (f (.int i t) (.int j u)) Q E s) :
  OpR X f (rI0 fun i j => .bl (g i j)):=by
 intro pins s σ H x y v u Q I rx ry h
 obtain ⟨i,j,rfl,rfl,q⟩:=h
 obtain ⟨t,rfl⟩:=rx
 obtain ⟨t',rfl⟩:=ry
 exact rule i j t t' s _ _ ⟨.bl (g i j),H,I,rfl,q⟩
noncomputable def CDiv (i j:Int):Prop:=0 < j∧j < 1073741824
noncomputable def CMul (i j:Int):Prop:=(-(2 ^ 64) < i∧i < 2 ^ 64) ∨ (-(2 ^ 64) < j∧j < 2 ^ 64)
theorem CMul.ok {i j:Int} (h:CMul i j):IntMulOk i j:=by
 rcases h with ⟨h1,h2⟩ | ⟨h1,h2⟩
 ·exact .of_left (intBits_le_64 h1 h2)
 ·exact .of_right (intBits_le_64 h1 h2)
theorem op_add:OpR X (binaryOp .Add) (rI0 fun i j => .int (i + j)):=opI0 fun _ _ _ _ _ _ _ q => add_int q
theorem op_sub:OpR X (binaryOp .Sub) (rI0 fun i j => .int (i - j)):=opI0 fun _ _ _ _ _ _ _ q => sub_int q
theorem op_mul:OpR X (binaryOp .Mult) (rI CMul fun i j => .int (i * j)):=opI fun _ _ _ _ _ _ _ hc q => mul_int q hc.ok
theorem op_fdiv:OpR X (binaryOp .FloorDiv) (rI CDiv fun i j => .int (i / j)):=opI fun i j _ _ _ _ _ hc q => by
 have h1:(0:Int) < j:=hc.1
 have h2:j < 1073741824:=hc.2
 exact floordiv_int (by trivial) (by rw [Int.fdiv_eq_ediv_of_nonneg i (by trivial)]; exact q) (.inl (PyProof.noPylong_small (by trivial)))
theorem op_mod:OpR X (binaryOp .Mod) (rI (fun _ j => 0 < j) fun i j => .int (i % j)):=opI fun i j _ _ _ _ _ hc q => by
 have h1:(0:Int) < j:=hc
 exact mod_int' (by trivial) (by rw [Int.fmod_eq_emod_of_nonneg i (by trivial)]; exact q)
theorem unI {f:Value -> Sem Value} {g:Int -> Int}
  (rule:∀ (i:Int) (t:Tok) (s:Shared) (Q:Value -> Shared -> Prop) (E:Value -> Shared -> Prop),Q (.int (g i) s.toks) { s with toks:=s.toks + 1 } -> wpAny (model X.prog X.w) X.A (f (.int i t)) Q E s) :
  UnR X f (rU fun i => .int (g i)):=by
 intro pins s σ H x v Q I rx h
 obtain ⟨i,rfl,q⟩:=h
 obtain ⟨t,rfl⟩:=rx
 exact rule i t s _ _ ⟨.int (g i),H,I.tok _,⟨_,rfl⟩,q⟩
theorem un_neg:UnR X (unaryOp .USub) (rU fun i => .int (-i)):=unI fun _ _ _ _ _ q => neg_int q
end
noncomputable def scal:V -> V -> Bool
 | .non,.non => true | .non,.int _ => true | .int _,.non => true | .non,.bl _ => true | .bl _,.non => true | .non,.str _ => true | .str _,.non => true
 | .int _,.int _ => true | .bl _,.bl _ => true | .str _,.str _ => true | .byt _,.byt _ => true
 | .int _,.str _ => true | .str _,.int _ => true | .bl _,.str _ => true | .str _,.bl _ => true
 | _,_ => false
noncomputable def rEq:R2:=fun x y H Q => scal x y = true∧Q (.bl (decide (x = y))) H
noncomputable def rNe:R2:=fun x y H Q => scal x y = true∧Q (.bl (!decide (x = y))) H
theorem dec_int {i j:Int}:decide (V.int i = V.int j) = (i == j):=by
 rw [Bool.eq_iff_iff]
 simp
theorem dec_bl {i j:Bool}:decide (V.bl i = V.bl j) = (i == j):=by
 rw [Bool.eq_iff_iff]
 simp
theorem dec_str {i j:Str}:decide (V.str i = V.str j) = (i == j):=by
 rw [Bool.eq_iff_iff]
 simp
theorem dec_byt {i j:Array UInt8}:decide (V.byt i = V.byt j) = (i.toList == j.toList):=by
 rw [Bool.eq_iff_iff]
 cases i
 cases j
 simp
section
variable {X:Cx} {a b c:Expr} {ta tb tc:TE} {pos:Pos}
theorem fin_bl {pins:List (Addr × Obj)} {σ:St} {H:Hp} {s:Shared} {Q:VK} {k k':Bool} (I:Inv X pins σ H s) (q:Q (.bl k) H) (e:k = k'):EP X pins σ Q (.bool k') s:=by
 subst e
 exact ⟨.bl k,H,I,rfl,q⟩
theorem op_eq:OpR X (compareOp .Eq) rEq:=by
 intro pins s σ H x y v u Q I rx ry h
 obtain ⟨hs,q⟩:=h
 cases x with
 | non =>
  cases rx
  cases y with
  | non => cases ry; exact PySem.EqNone.eq_none_none (fin_bl I q (by simp))
  | bl j => cases ry; exact PySem.EqNone.eq_none_bool (fin_bl I q (by simp))
  | int j => obtain ⟨t',rfl⟩:=ry; exact PySem.EqNone.eq_none_int (fin_bl I q (by simp))
  | str j => obtain ⟨t',rfl⟩:=ry; exact PySem.EqNone.eq_none_str (fin_bl I q (by simp))
  | _ => exact absurd (show false = true from hs) Bool.false_ne_true
 | bl i =>
  cases rx
  cases y with
  | non => cases ry; exact PySem.EqNone.eq_bool_none (fin_bl I q (by simp))
  | bl j => cases ry; exact eq_bool (fin_bl I q dec_bl)
  | str j => obtain ⟨t',rfl⟩:=ry; exact PySem.EqMixed.eq_bool_str (fin_bl I q (by simp))
  | _ => exact absurd (show false = true from hs) Bool.false_ne_true
 | int i =>
  obtain ⟨t,rfl⟩:=rx
  cases y with
  | non => cases ry; exact PySem.EqNone.eq_int_none (fin_bl I q (by simp))
  | int j => obtain ⟨t',rfl⟩:=ry; exact eq_int (fin_bl I q dec_int)
  | str j => obtain ⟨t',rfl⟩:=ry; exact PySem.EqMixed.eq_int_str (fin_bl I q (by simp))
  | _ => exact absurd (show false = true from hs) Bool.false_ne_true
 | str i =>
  obtain ⟨t,rfl⟩:=rx
  cases y with
  | non => cases ry; exact PySem.EqNone.eq_str_none (fin_bl I q (by simp))
  | bl j => cases ry; exact PySem.EqMixed.eq_str_bool (fin_bl I q (by simp))
  | int j => obtain ⟨t',rfl⟩:=ry; exact PySem.EqMixed.eq_str_int (fin_bl I q (by simp))
  | str j => obtain ⟨t',rfl⟩:=ry; exact eq_str (fin_bl I q dec_str)
  | _ => exact absurd (show false = true from hs) Bool.false_ne_true
 | byt i =>
  obtain ⟨t,rfl⟩:=rx
  cases y with
  | byt j => obtain ⟨t',rfl⟩:=ry; exact PySem.W.eq_bytes (fin_bl I q dec_byt)
  | _ => exact absurd (show false = true from hs) Bool.false_ne_true
 | _ => cases y <;> exact absurd (show false = true from hs) Bool.false_ne_true
theorem op_ne:OpR X (compareOp .NotEq) rNe:=by
 intro pins s σ H x y v u Q I rx ry h
 obtain ⟨hs,q⟩:=h
 cases x with
 | non =>
  cases rx
  cases y with
  | non => cases ry; exact PySem.EqNone.ne_none_none (fin_bl I q (by simp))
  | bl j => cases ry; exact PySem.EqNone.ne_none_bool (fin_bl I q (by simp))
  | int j => obtain ⟨t',rfl⟩:=ry; exact PySem.EqNone.ne_none_int (fin_bl I q (by simp))
  | str j => obtain ⟨t',rfl⟩:=ry; exact PySem.EqNone.ne_none_str (fin_bl I q (by simp))
  | _ => exact absurd (show false = true from hs) Bool.false_ne_true
 | bl i =>
  cases rx
  cases y with
  | non => cases ry; exact PySem.EqNone.ne_bool_none (fin_bl I q (by simp))
  | bl j => cases ry; exact ne_bool (fin_bl I q (congrArg not dec_bl))
  | str j => obtain ⟨t',rfl⟩:=ry; exact PySem.EqMixed.ne_bool_str (fin_bl I q (by simp))
  | _ => exact absurd (show false = true from hs) Bool.false_ne_true
 | int i =>
  obtain ⟨t,rfl⟩:=rx
  cases y with
  | non => cases ry; exact PySem.EqNone.ne_int_none (fin_bl I q (by simp))
  | int j => obtain ⟨t',rfl⟩:=ry; exact ne_int (fin_bl I q (congrArg not dec_int))
  | str j => obtain ⟨t',rfl⟩:=ry; exact PySem.EqMixed.ne_int_str (fin_bl I q (by simp))
  | _ => exact absurd (show false = true from hs) Bool.false_ne_true
 | str i =>
  obtain ⟨t,rfl⟩:=rx
  cases y with
  | non => cases ry; exact PySem.EqNone.ne_str_none (fin_bl I q (by simp))
  | bl j => cases ry; exact PySem.EqMixed.ne_str_bool (fin_bl I q (by simp))
  | int j => obtain ⟨t',rfl⟩:=ry; exact PySem.EqMixed.ne_str_int (fin_bl I q (by simp))
  | str j => obtain ⟨t',rfl⟩:=ry; exact ne_str (fin_bl I q (congrArg not dec_str))
  | _ => exact absurd (show false = true from hs) Bool.false_ne_true
 | byt i =>
  obtain ⟨t,rfl⟩:=rx
  cases y with
  | byt j => obtain ⟨t',rfl⟩:=ry; exact PySem.W.ne_bytes (fin_bl I q (congrArg not dec_byt))
  | _ => exact absurd (show false = true from hs) Bool.false_ne_true
 | _ => cases y <;> exact absurd (show false = true from hs) Bool.false_ne_true
theorem op_lt:OpR X (compareOp .Lt) (rI0 fun i j => .bl (decide (i < j))):=opB0 fun _ _ _ _ _ _ _ q => lt_int q
theorem op_le:OpR X (compareOp .LtE) (rI0 fun i j => .bl (decide (i ≤ j))):=opB0 fun _ _ _ _ _ _ _ q => le_int q
theorem op_gt:OpR X (compareOp .Gt) (rI0 fun i j => .bl (decide (j < i))):=opB0 fun _ _ _ _ _ _ _ q => gt_int q
theorem op_ge:OpR X (compareOp .GtE) (rI0 fun i j => .bl (decide (j ≤ i))):=opB0 fun _ _ _ _ _ _ _ q => ge_int q
theorem nomark (b:Expr) {op:CmpOp} (h:op ≠ .In:=by decide) (h2:op ≠ .NotIn:=by decide):behindInMarks op b = false:=by
 have e1:(op == CmpOp.In) = false:=by cases op <;> first | rfl | exact absurd rfl h
 have e2:(op == CmpOp.NotIn) = false:=by cases op <;> first | rfl | exact absurd rfl h2
 cases b <;> simp [behindInMarks,e1,e2]
theorem pe_cmpR {op:CmpOp} {r:R2} (ho:OpR X (compareOp op) r) (ha:PE X a ta) (hb:PE X b tb) (hm:behindInMarks op b = false):PE X (.Compare a [op] [b] pos) (tOp r ta tb):=by
 intro pins s σ H Q I h
 exact wpAny_Compare1 (binT ha hb I h fun v u s2 x y H2 I2 rx ry q => ho pins s2 σ H2 x y v u Q I2 rx ry q) hm
noncomputable def tTest (t:TE):TT:=fun σ H Q => t σ H fun x H' => ∃ k,x = .bl k∧Q k H'
theorem pt_cmpR {op:CmpOp} {r:R2} (ho:OpR X (compareOp op) r) (ha:PE X a ta) (hb:PE X b tb) (hm:behindInMarks op b = false):PT X (.Compare a [op] [b] pos) (tTest (tOp r ta tb)):=by
 intro pins s σ H Q I h
 refine wpAny_isTrue_Compare1 (thn (ha pins s σ H _ I h) fun v s1 ⟨x,H1,I1,r1,q1⟩ => thn (hb pins s1 σ H1 _ I1 q1) fun u s2 ⟨y,H2,I2,r2,q2⟩ =>
  thn (ho pins s2 σ H2 x y v u _ I2 r1 r2 q2) fun c s3 ⟨z,H3,I3,r3,k,e,q3⟩ => ?_) hm
 subst e
 cases r3
 exact wpAny_truthy_bool ⟨H3,I3,q3⟩
noncomputable def tChain (r r':R2) (ta tb tc:TE):TE:=fun σ H Q => ta σ H fun x H1 => tb σ H1 fun y H2 => r x y H2 fun z H3 => ∃ k,z = .bl k ∧
 (if k = true then tc σ H3 fun w' H4 => r' y w' H4 Q else Q (.bl false) H3)
theorem pe_chain {op op':CmpOp} {r r':R2} (ho:OpR X (compareOp op) r) (ho':OpR X (compareOp op') r') (ha:PE X a ta) (hb:PE X b tb) (hc:PE X c tc)
  (hm:lastMarks [op,op'] [b,c] = false:=by with_unfolding_all rfl):PE X (.Compare a [op,op'] [b,c] pos) (tChain r r' ta tb tc):=by
 intro pins s σ H Q I h
 refine Compare_chain (thn (ha pins s σ H _ I h) fun v s1 ⟨x,H1,I1,r1,q1⟩ => chain_link (thn (hb pins s1 σ H1 _ I1 q1) fun u s2 ⟨y,H2,I2,r2,q2⟩ =>
  thn (ho pins s2 σ H2 x y v u _ I2 r1 r2 q2) fun d s3 ⟨z,H3,I3,r3,k,e,q3⟩ => ?_)) hm
 subst e
 cases r3
 refine wpAny_truthy_bool ?_
 cases k with
 | false => exact ite_ff ⟨.bl false,H3,I3,rfl,q3⟩
 | true => exact ite_tt (chain_last (thn (hc pins s3 σ H3 _ I3 q3) fun w' s4 ⟨z',H4,I4,r4,q4⟩ => ho' pins s4 σ H4 y z' u w' Q I4 r2 r4 q4))
theorem line63:(sizeLine:Nat) < 2 ^ 63:=by rw [sizeLine_eq]; decide
theorem vals1 {x:V} {us:List Value} (r:Vals [x] us):∃ u,us = [u]∧RelV x u:=by
 cases r with
 | cons r1 r2 => cases r2; exact ⟨_,rfl,r1⟩
theorem vals2 {x y:V} {us:List Value} (r:Vals [x,y] us):∃ u w',us = [u,w']∧RelV x u∧RelV y w':=by
 cases r with
 | cons r1 r2 =>
  cases r2 with
  | cons r3 r4 => cases r4; exact ⟨_,_,rfl,r1,r3⟩
theorem call_max2 (hc:X.calm = true):CallR X (.builtin "max") (fun xs H Q => ∃ i j, xs = [.int i, .int j]∧Q (.int (if j > i then j else i)) H):=by
 intro pins s σ H xs us Q I r h
 obtain ⟨i,j,rfl,q⟩:=h
 obtain ⟨u,w',rfl,⟨t,rfl⟩,⟨t',rfl⟩⟩:=vals2 r
 refine max_two_ints (I.ok.hd hc) fun h' tk k => ⟨_,H,I.kept k,?_,q⟩
 by_cases hj:j > i
 ·rw [if_pos hj,if_pos hj]; exact ⟨_,rfl⟩
 ·rw [if_neg hj,if_neg hj]; exact ⟨_,rfl⟩
theorem call_min2 (hc:X.calm = true):CallR X (.builtin "min") (fun xs H Q => ∃ i j, xs = [.int i, .int j]∧Q (.int (if j < i then j else i)) H):=by
 intro pins s σ H xs us Q I r h
 obtain ⟨i,j,rfl,q⟩:=h
 obtain ⟨u,w',rfl,⟨t,rfl⟩,⟨t',rfl⟩⟩:=vals2 r
 refine min_two_ints (I.ok.hd hc) fun h' tk k => ⟨_,H,I.kept k,?_,q⟩
 by_cases hj:j < i
 ·rw [if_pos hj,if_pos hj]; exact ⟨_,rfl⟩
 ·rw [if_neg hj,if_neg hj]; exact ⟨_,rfl⟩
theorem call_int1:CallR X (.type "int") (fun xs H Q => (∃ i, xs = [.int i]∧Q (.int i) H) ∨ ∃ k, xs = [.bl k]∧Q (.int (if k then 1 else 0)) H):=by
 intro pins s σ H xs us Q I r h
 rcases h with ⟨i,rfl,q⟩ | ⟨k,rfl,q⟩
 ·obtain ⟨u,rfl,t,rfl⟩:=vals1 r
  exact call_int_int ⟨.int i,H,I,⟨_,rfl⟩,q⟩
 ·obtain ⟨u,rfl,r1⟩:=vals1 r
  cases r1
  exact call_int_bool ⟨.int (if k then 1 else 0),H,I.tok _,⟨_,rfl⟩,q⟩
end
end L2
namespace L2
open PySem PySem.Spec PyProof.Rows
structure ObjM (h:Heap) (x dx C:Addr) (mA:Str -> Option Value):Prop where
 obj:h.get? x = some (PySem.W.instObj C dx)
 ns:h.Ns1 dx mA
 ne:dx ≠ x
theorem lookIn_ns {h:Heap} {dx:Addr} {mA:Str -> Option Value} (n:h.Ns1 dx mA):∃ od,h.get? dx = some od∧∀ name,PySem.W.lookIn name od = some (mA name):=by
 obtain ⟨o,es,ep,ho,hd,hk,_,hm⟩:=n
 refine ⟨o,ho,fun name => ?_⟩
 have e:=hm name
 unfold nsFind findBy at e
 rw [← Array.find?_toList] at e
 unfold PySem.W.lookIn
 rw [hd]
 dsimp only
 split
 ·rename_i y q
  rw [q] at e
  exact congrArg some e
 ·rename_i q
  rw [q] at e
  have a:es.toList.any (·.refKey) = false:=by
   rw [List.any_eq_false]
   intro y hy
   obtain ⟨z,t,hkey⟩:=hk y (Array.mem_toList_iff.mp hy)
   simp [DictEntry.refKey,hkey]
  have a':¬ es.toList.any (·.refKey) = true:=by rw [a]; exact Bool.false_ne_true
  rw [if_neg a']
  exact congrArg some e
theorem ObjM.look {h:Heap} {x dx C:Addr} {mA:Str -> Option Value} (I:ObjM h x dx C mA):∃ od,PySem.W.InstAt h x (PySem.W.instObj C dx) C (some od)∧∀ name,PySem.W.lookIn name od = some (mA name) :=
 let ⟨od,ho,hl⟩:=lookIn_ns I.ns
 ⟨od,⟨I.obj,rfl,rfl,ho⟩,hl⟩
section
variable {prog:Program} {w:World} {A:Around} {E:Value -> Shared -> Prop} {s:Shared} {K:PySem.W.Frag} {x dx C f:Addr} {mA:Str -> Option Value} {name:Str} {v:Value}
theorem get_map {expr:Bool} {Q:Value -> Shared -> Prop} (X:K.In s.heap) (I:ObjM s.heap x dx C mA) (hg:PySem.W.plainGet K C name = true) (hh:PySem.W.hasDictIn K C = true)
  (ha:PySem.W.findIn K (.ref C) name = some none) (hv:mA name = some v) (hv':PySem.W.handedIn v = true) (h:Q v { s with toks:=s.toks + 1 }) :
  wpAny (model prog w) A (getAttr (.ref x) name expr) Q E s:=by
 obtain ⟨od,J,hl⟩:=I.look
 exact PySem.W.get_value X J (PySem.W.plainGet_of hg).1 (PySem.W.findObj_own hh ha rfl (by rw [hl,hv])) hv' h
theorem get_meth {pl:Sem Bool} {Q:Value × List Value -> Shared -> Prop} (X:K.In s.heap) (I:ObjM s.heap x dx C mA) (hg:PySem.W.plainGet K C name = true)
  (hf:PySem.W.findIn K (.ref C) name = some (some (.ref f))) (ht:PySem.W.isFn K (.ref f) = true) (hv:mA name = none) (h:Q (.ref f,[.ref x]) s) :
  wpAny (model prog w) A (getMethod (.ref x) name pl) Q E s:=by
 obtain ⟨od,J,hl⟩:=I.look
 exact PySem.W.method_fn X J (PySem.W.plainGet_of hg).1 (PySem.W.plainGet_of hg).2 hf (beq_iff_eq.mp ht) (by show (PySem.W.lookIn name od).map (·.isSome) = some false; rw [hl,hv]; rfl) h
theorem set_map {ns:List Str} {Q:Unit -> Shared -> Prop} (X:K.In s.heap) (I:ObjM s.heap x dx C mA)
  (hs:PySem.W.findIn K (.ref C) "__setattr__" = some (some (.builtin "object.__setattr__"))) (hp:PySem.W.plainOver K C = true) (ht:PySem.W.takerIn K C name = some none) (hh:PySem.W.hasDictIn K C = true)
  (hw:PySem.Within mA ns) (hsz:ns.length ≤ sizeLine)
  (h:∀ h',ObjM h' x dx C (fun y => if y = name then some v else mA y) -> Heap.SameBut dx s.heap h' -> Q () { s with heap:=h',toks:=s.toks + 2 }) :
  wpAny (model prog w) A (setAttr (.ref x) name v) Q E s:=by
 obtain ⟨od,J,hl⟩:=I.look
 refine PySem.W.set_plain X J hs (PySem.W.osa_open (s:={ s with toks:=s.toks + 1 }) (r:=none) X J hp ht fun b => ?_)
 obtain ⟨cd,hc,hd'⟩:=PySem.W.any_some hh
 have hx:s.heap.get? x = some ⟨.ref C,some dx,.plain,#[]⟩:=I.obj
 refine wpAny_bind (wpAny_pure (wpAny_bind (wpAny_bind (wpAny_loadPart hx (wpAny_bind (PySem.W.Looks.here (s:={ s with toks:=s.toks + 1 }) (PySem.W.looks_clsIn X hc) ?_))))))
 rw [hd']
 refine wpAny_pure (a:=some dx) (wpAny_bind (wpAny_pure (wpAny_bind ?_)))
 refine wpAny_nsSet1 (s:={ s with toks:=s.toks + 1 }) I.ns fun h' hn2 hs2 => ?_
 obtain ⟨oD,esD,epD,hoD,hdD,hcD⟩:=hn2.count (PySem.Within.cons name v hw)
 refine wpAny_bind (wpAny_lookBehind hoD (by rw [hdD]; exact pastItsLine_dict (Nat.le_trans hcD (by rw [List.length_cons]; trivial))) ?_)
 exact wpAny_pure (h _ ⟨(hs2.2 _ (Ne.symm I.ne)).trans I.obj,hn2,I.ne⟩ hs2)
theorem make_map {R:Result -> Shared -> Prop} {vs:List Value} {kw:List (Str × Value)} (X:K.In s.heap) (hm:PySem.W.makesIn K C = true)
  (hi:PySem.W.findIn K (.ref C) "__init__" = some (some (.ref f))) (hf:PySem.W.typeIn K (.ref f) = some (.type "function"))
  (h:codeAny (model prog w) (A.under (.builtin "type.__call__" ⟨.ref C :: vs, kw⟩)) (.call (.ref f) ⟨.ref (s.heap.objs.size + 1) :: vs, kw⟩) (PySem.W.InitBack (s.heap.objs.size + 1) R)
   { s with heap:=(s.heap.push PySem.W.emptyDict).push (PySem.W.instObj C s.heap.objs.size) }) :
  codeAny (model prog w) A (.call (.ref C) ⟨vs,kw⟩) R s:=by
 obtain ⟨hh,g,d,t,os⟩:=s
 exact PySem.W.make_core (PySem.W.makes_of X hm) (PySem.W.looks_findIn X hi) (fun self => PySem.W.bind_fn X self hf) (.inl rfl) h
end
noncomputable def putF (f:Str) (v:V):List (Str × V) -> List (Str × V)
 | [] => [(f,v)]
 | (g,x) :: r => if g = f then (g,v) :: r else (g,x) :: putF f v r
theorem lookup_putF (f g:Str) (v:V):∀ fs:List (Str × V),(putF f v fs).lookup g = if g = f then some v else fs.lookup g
 | [] => by
  show List.lookup g [(f,v)] = _
  by_cases h:g = f
  ·have hb:(g == f) = true:=beq_iff_eq.mpr h
   simp only [List.lookup,hb,if_pos h]
  ·have hb:(g == f) = false:=beq_eq_false_iff_ne.mpr h
   simp only [List.lookup,hb,if_neg h]
 | (k,x) :: r => by
  have ih:=lookup_putF f g v r
  rw [show putF f v ((k,x) :: r) = (if k = f then (k,v) :: r else (k,x) :: putF f v r) from rfl]
  by_cases hk:k = f
  ·rw [if_pos hk]
   by_cases h:g = k
   ·have hb:(g == k) = true:=beq_iff_eq.mpr h
    simp only [List.lookup,hb,if_pos (h.trans hk)]
   ·have hb:(g == k) = false:=beq_eq_false_iff_ne.mpr h
    simp only [List.lookup,hb,if_neg (fun e:g = f => h (e.trans hk.symm))]
  ·rw [if_neg hk]
   by_cases h:g = k
   ·have hb:(g == k) = true:=beq_iff_eq.mpr h
    simp only [List.lookup,hb,if_neg (fun e:g = f => hk (h.symm.trans e))]
   ·have hb:(g == k) = false:=beq_eq_false_iff_ne.mpr h
    simp only [List.lookup,hb]
    exact ih
theorem keys_putF (f:Str) (v:V):∀ fs:List (Str × V),f ∈ (putF f v fs).map (·.1)∧∀ g,g ∈ fs.map (·.1) -> g ∈ (putF f v fs).map (·.1)
 | [] => ⟨by simp [putF],fun g h => by simp at h⟩
 | (k,x) :: r => by
  obtain ⟨i1,i2⟩:=keys_putF f v r
  rw [show putF f v ((k,x) :: r) = (if k = f then (k,v) :: r else (k,x) :: putF f v r) from rfl]
  by_cases hk:k = f
  ·rw [if_pos hk]
   subst hk
   exact ⟨by simp,fun g h => by simpa using h⟩
  ·rw [if_neg hk]
   refine ⟨?_,fun g h => ?_⟩
   ·rw [List.map_cons]
    exact List.mem_cons_of_mem _ i1
   ·rw [List.map_cons] at h ⊢
    rcases List.mem_cons.mp h with e | e
    ·exact List.mem_cons.mpr (.inl e)
    ·exact List.mem_cons_of_mem _ (i2 g e)
theorem length_putF (f:Str) (v:V):∀ fs:List (Str × V),(putF f v fs).length ≤ fs.length + 1
 | [] => by simp [putF]
 | (k,x) :: r => by
  have ih:=length_putF f v r
  rw [show putF f v ((k,x) :: r) = (if k = f then (k,v) :: r else (k,x) :: putF f v r) from rfl]
  by_cases hk:k = f
  ·rw [if_pos hk,List.length_cons,List.length_cons]; trivial
  ·rw [if_neg hk,List.length_cons,List.length_cons]; trivial
theorem RelO.some_of {v:V} {o:Option Value} (r:RelO (some v) o):∃ u,o = some u∧RelV v u:=by
 cases o with
 | none => exact (show False from r).elim
 | some u => exact ⟨u,rfl,r⟩
theorem RelO.none_of {o:Option Value} (r:RelO none o):o = none:=by
 cases o with
 | none => rfl
 | some u => exact (show False from r).elim
theorem handed_of {v:V} {u:Value} (r:RelV v u):PySem.W.handedIn u = true:=by
 cases v with
 | non => cases (show u = Value.none from r); rfl
 | bl b => cases (show u = Value.bool b from r); rfl
 | int i => obtain ⟨t,e⟩:=(show ∃ t,u = Value.int i t from r); cases e; rfl
 | str x => obtain ⟨t,e⟩:=(show ∃ t,u = Value.str x t from r); cases e; rfl
 | byt b => obtain ⟨t,e⟩:=(show ∃ t,u = Value.bytes b t from r); cases e; rfl
 | flt b => obtain ⟨t,e⟩:=(show ∃ t,u = Value.float b t from r); cases e; rfl
 | ref a => cases (show u = Value.ref a from r); rfl
 | ty n => cases (show u = Value.type n from r); rfl
section
variable {P:Program} {w:World} {H H':Hp} {h h':Heap} {a C dx:Addr} {fs fs':List (Str × V)}
theorem ins_get (hok:HOk P w H h) (e:H a = some (.ins C dx fs)):∃ mA,ObjM h a dx C mA∧(∀ f,RelO (fs.lookup f) (mA f))∧PySem.Within mA (fs.map (·.1))∧fs.length ≤ 1000∧H dx = some (.own a):=by
 obtain ⟨d,z,ne,ob,mA,n,r,q⟩:=(show ObjOk P w H h a (.ins C dx fs) from hok a _ e)
 exact ⟨mA,⟨ob,n,ne⟩,r,q,z,d⟩
end
structure Cls (K:PySem.W.Frag) (C:Addr):Prop where
 pg:PySem.W.plainGet K C Str.empty = true
 hd:PySem.W.hasDictIn K C = true
 po:PySem.W.plainOver K C = true
 sa:PySem.W.findIn K (.ref C) "__setattr__" = some (some (.builtin "object.__setattr__"))
theorem Cls.get {K:PySem.W.Frag} {C:Addr} (c:Cls K C) (f:Str):PySem.W.plainGet K C f = true:=c.pg
noncomputable def NoAttr (K:PySem.W.Frag) (C:Addr) (f:Str):Prop:=PySem.W.findIn K (.ref C) f = some none
theorem NoAttr.taker {K:PySem.W.Frag} {C:Addr} {f:Str} (n:NoAttr K C f):PySem.W.takerIn K C f = some none:=by
 unfold PySem.W.takerIn
 rw [show PySem.W.findIn K (.ref C) f = some none from n]
 rfl
structure Con (K:PySem.W.Frag) (C:Addr) (f:Str) (v:V) (u:Value):Prop where
 at_:PySem.W.findIn K (.ref C) f = some (some u)
 rel:RelV v u
 get:PySem.W.specialIn K u "__get__" = some none
 cp:PySem.W.copiedNames.contains f = false
structure Meth (K:PySem.W.Frag) (C:Addr) (m:Str) (f:Addr):Prop where
 at_:PySem.W.findIn K (.ref C) m = some (some (.ref f))
 fn:PySem.W.isFn K (.ref f) = true
 kp:PySem.W.keepIn K (.ref f) = true
section
variable {X:Cx} {pins:List (Addr × Obj)} {σ:St} {H:Hp} {s:Shared} {a C dx:Addr} {fs:List (Str × V)} {f:Str} {v:V} {A:Around} {E:Value -> Shared -> Prop}
theorem getattr_ok {b:Bool} {Q:Value -> Shared -> Prop} (I:Inv X pins σ H s) (e:H a = some (.ins C dx fs)) (c:Cls X.K C) (n:NoAttr X.K C f) (l:fs.lookup f = some v)
  (h:∀ u s',Inv X pins σ H s' -> RelV v u -> Q u s'):wpAny (model X.prog X.w) A (getAttr (.ref a) f b) Q E s:=by
 obtain ⟨mA,O,r,_,_,_⟩:=ins_get I.hok e
 obtain ⟨u,hu,ru⟩:=RelO.some_of (v:=v) (o:=mA f) (by rw [← l]; exact r f)
 exact get_map I.kIn O (c.get f) c.hd n hu (handed_of ru) (h u _ (I.tok _) ru)
theorem getmeth_ok {m:Str} {g:Addr} {pl:Sem Bool} {Q:Value × List Value -> Shared -> Prop} (I:Inv X pins σ H s) (e:H a = some (.ins C dx fs)) (c:Cls X.K C) (k:Meth X.K C m g) (l:fs.lookup m = none)
  (h:Q (.ref g,[.ref a]) s):wpAny (model X.prog X.w) A (getMethod (.ref a) m pl) Q E s:=by
 obtain ⟨mA,O,r,_,_,_⟩:=ins_get I.hok e
 have hn:mA m = none:=RelO.none_of (by rw [← l]; exact r m)
 exact get_meth I.kIn O (c.get m) k.at_ k.fn hn h
theorem setattr_ok {y:V} {u:Value} {Q:Unit -> Shared -> Prop} (I:Inv X pins σ H s) (e:H a = some (.ins C dx fs)) (c:Cls X.K C) (n:NoAttr X.K C f) (hl:fs.length < 1000) (ry:RelV y u)
  (h:∀ s',Inv X pins σ (upd H a (.ins C dx (putF f y fs))) s' -> Q () s'):wpAny (model X.prog X.w) A (setAttr (.ref a) f u) Q E s:=by
 obtain ⟨mA,O,r,wi,_,ho⟩:=ins_get I.hok e
 have hz:(fs.map (·.1)).length ≤ sizeLine:=by rw [List.length_map,sizeLine_eq]; trivial
 refine set_map I.kIn O c.sa c.po n.taker c.hd wi hz fun h' O' sb => h _ ?_
 have hd:∃ o,h'.get? dx = some o:=let ⟨o,_,_,e',_⟩:=O'.ns; ⟨o,e'⟩
 refine I.write (x:=a) (e:=dx) (by rw [e]; exact True.intro) (.inr ho) (fun b q hb z => (sb.2 b hb).trans z) hd ?_
 refine ⟨by rw [upd_ne O.ne]; exact ho,?_,O.ne,O'.obj,_,O'.ns,fun g => ?_,fun g hg => ?_⟩
 ·have:=length_putF f y fs; trivial
 ·show RelO ((putF f y fs).lookup g) (if g = f then some u else mA g)
  rw [lookup_putF]
  by_cases q:g = f
  ·rw [if_pos q,if_pos q]; exact ry
  ·rw [if_neg q,if_neg q]; exact r g
 ·by_cases q:g = f
  ·rw [q]; exact (keys_putF f y fs).1
  ·refine (keys_putF f y fs).2 g (wi g fun z => hg ?_)
   show (if g = f then some u else mA g) = none
   rw [if_neg q]; exact z
theorem Inv.made (I:Inv X pins σ H s):Inv X pins σ (upd (upd H s.heap.objs.size (.own (s.heap.objs.size + 1))) (s.heap.objs.size + 1) (.ins C s.heap.objs.size []))
  { s with heap:=(s.heap.push PySem.W.emptyDict).push (PySem.W.instObj C s.heap.objs.size) }:=by
 have e1:(s.heap.push PySem.W.emptyDict).get? s.heap.objs.size = some PySem.W.emptyDict:=Heap.get?_push_size s.heap rfl
 have e2:((s.heap.push PySem.W.emptyDict).push (PySem.W.instObj C s.heap.objs.size)).get? (s.heap.objs.size + 1) = some (PySem.W.instObj C s.heap.objs.size):=by
  have:=Heap.get?_push_size (s.heap.push PySem.W.emptyDict) (o:=PySem.W.instObj C s.heap.objs.size) rfl
  rwa [Heap.size_push] at this
 have e3:(s.heap.push PySem.W.emptyDict).Ns s.heap.objs.size (fun _ => none):=⟨PySem.W.emptyDict,#[],_,e1,rfl,(fun e he => absurd he (by simp)),fun _ => rfl⟩
 have I1:=I.laid (a:=s.heap.objs.size) (o:=.own (s.heap.objs.size + 1)) (h':=s.heap.push PySem.W.emptyDict) (t':=s.toks) (fun b u q => Heap.get?_push_of_some _ q) (Nat.le_refl _) ⟨_,e1⟩
 refine I1.laid (a:=s.heap.objs.size + 1) (o:=.ins C s.heap.objs.size []) (t':=s.toks) (fun b u q => Heap.get?_push_of_some _ q) (Nat.le_of_eq (Heap.size_push _ _)) ?_
 have ne:s.heap.objs.size ≠ s.heap.objs.size + 1:=Nat.ne_of_lt (Nat.lt_succ_self _)
 refine ⟨by rw [upd_ne ne,upd_same],Nat.zero_le _,ne,e2,fun _ => none,(Heap.Ns1.of_empty e3).at fun o q => Heap.get?_push_of_some _ q,fun _ => True.intro,fun y hy => absurd rfl hy⟩
theorem attr_of {prog:Program} {w:World} {env:Env} {e:Expr} {f:Str} {pos:Pos} {s:Shared} {Q:Value -> Shared -> Prop} (hb:attributeBase e f env (eval e env) = eval e env)
  (h:wpAny (model prog w) A (eval e env) (fun o s₁ => wpAny (model prog w) A (getAttr o f true) Q E s₁) E s):wpAny (model prog w) A (eval (.Attribute e f pos) env) Q E s :=
 Attribute_any_ h (by rw [arm_eval_Attribute,hb])
end
noncomputable def tFld (K:PySem.W.Frag) (ta:TE) (f:Str):TE:=fun σ H Q => ta σ H fun x H1 => ∃ a C dx fs v,x = .ref a∧H1 a = some (.ins C dx fs)∧Cls K C∧NoAttr K C f∧fs.lookup f = some v∧Q v H1
noncomputable def sFld (K:PySem.W.Frag) (ta tv:TE) (f:Str):TS:=fun D σ H => tv σ H fun y H1 => ta σ H1 fun x H2 => ∃ a C dx fs,x = .ref a∧H2 a = some (.ins C dx fs)∧Cls K C∧NoAttr K C f∧fs.length < 1000 ∧
 D.nx σ (upd H2 a (.ins C dx (putF f y fs)))
section
variable {X:Cx} {o e value:Expr} {f:Str} {pos pos' tpos:Pos} {ta tv:TE}
theorem pe_fld (he:PE X e ta) (hb:attributeBase e f X.env (eval e X.env) = eval e X.env):PE X (.Attribute e f pos) (tFld X.K ta f):=by
 intro pins s σ H Q I h
 refine attr_of hb (thn (he pins s σ H _ I h) fun u s1 ⟨x,H1,I1,rx,a,C,dx,fs,v,ex,ea,c,n,l,q⟩ => ?_)
 subst ex
 obtain rfl:u = Value.ref a:=rx
 exact getattr_ok I1 ea c n l fun u' s2 I2 ru => ⟨v,H1,I2,ru,q⟩
theorem ps_fld (ha:PE X o ta) (hv:PE X value tv) (hs:swapsWith value (some (.Attribute o f pos')) pos.line X.env = pure false):PS X (.Assign [.Attribute o f pos'] value pos) (sFld X.K ta tv f):=by
 intro pins s σ H D I h
 refine plainObj_wpAny_Assign_Attribute (thn (hv pins s σ H _ I h) fun u s1 ⟨y,H1,I1,ry,q⟩ => thn (ha pins s1 σ H1 _ I1 q) fun ov s2 ⟨x,H2,I2,rx,a,C,dx,fs,ex,ea,c,n,l,q2⟩ => ?_) hs
 subst ex
 obtain rfl:ov = Value.ref a:=rx
 exact setattr_ok I2 ea c n l ry fun s3 I3 => ⟨σ,_,I3,q2⟩
theorem methcall_of {pl:Sem Bool} {m:Str} {apos:Pos} {args:List Expr} {pins:List (Addr × Obj)} {s:Shared} {σ:St} {H:Hp} {Q:Value -> Shared -> Prop} {te:TE} (he:PE X e te) (I:Inv X pins σ H s)
  (h:te σ H fun x H1 => ∃ a C dx fs g,x = .ref a∧H1 a = some (.ins C dx fs)∧Cls X.K C∧Meth X.K C m g∧fs.lookup m = none ∧
   ∀ s1,Inv X pins σ H1 s1 -> wpAny (model X.prog X.w) X.A (callWith pos (.ref g) [.ref a] (backTo pos (starEach args X.env)) (backToKw pos (keywordEach [] X.env))) Q X.xe s1)
  (ht:eval (.Call (.Attribute e m apos) args [] pos) X.env = (do
   let ov ← eval e X.env
   standAt apos.atName
   let (f,first) ← holding [ov] (getMethod ov m pl)
   callWith pos f first (backTo pos (starEach args X.env)) (backToKw pos (keywordEach [] X.env)))) :
  wpAny (model X.prog X.w) X.A (eval (.Call (.Attribute e m apos) args [] pos) X.env) Q X.xe s:=by
 refine PySem.W.methodCall_KW (pl:=pl) (thn (he pins s σ H _ I h) fun u s1 ⟨x,H1,I1,rx,a,C,dx,fs,g,ex,ea,c,k,l,q⟩ => ?_) ht
 subst ex
 obtain rfl:u = Value.ref a:=rx
 exact getmeth_ok I1 ea c k l (q s1 I1)
end
section
variable {X:Cx} {pins:List (Addr × Obj)} {σ:St} {H:Hp} {s:Shared} {A:Around} {E:Value -> Shared -> Prop} {Q:Value -> Shared -> Prop} {c:Value} {b:Bool}
inductive TyOf (K:PySem.W.Frag) (H:Hp):V -> Value -> Prop where
 | non:TyOf K H .non (.type "NoneType")
 | bl (x:Bool):TyOf K H (.bl x) (.type "bool")
 | int (i:Int):TyOf K H (.int i) (.type "int")
 | str (x:Str):TyOf K H (.str x) (.type "str")
 | flt (x:UInt64):TyOf K H (.flt x) (.type "float")
 | lst {a:Addr} {xs:List V} (e:H a = some (.lst xs)):TyOf K H (.ref a) (.type "list")
 | frz {a:Addr} {o:Obj} {xs:List V} (e:H a = some (.frz o (.lst xs))):TyOf K H (.ref a) (.type "list")
 | tup {a:Addr} {xs:List V} (e:H a = some (.tup xs)):TyOf K H (.ref a) (.type "tuple")
 | dK {a:Addr} {kvs:List (Key × V)} (e:H a = some (.dK kvs)):TyOf K H (.ref a) (.type "dict")
 | dT {a:Addr} {kvs:List (List Key × V)} (e:H a = some (.dT kvs)):TyOf K H (.ref a) (.type "dict")
 | ins {a C dx:Addr} {fs:List (Str × V)} (e:H a = some (.ins C dx fs)) (cl:Cls K C) (ha:PySem.W.findIn K (.ref C) "__class__" = some (some (.builtin "object.__class__")))
   (hn:PySem.W.specialIn K (.builtin "object.__class__") "__get__" = some (some (.builtin "getset_descriptor.__get__"))) (htk:PySem.W.takesIn K (.builtin "object.__class__") = some true)
   (hm:PySem.W.mroIn K C (.type "object") = some true):TyOf K H (.ref a) (.ref C)
theorem isinst_ok {x:V} {u t:Value} (I:Inv X pins σ H s) (rx:RelV x u) (ty:TyOf X.K H x t) (e:PySem.W.kitOne X.K t c = some b) (h:∀ tk,Q (.bool b) { s with toks:=tk }) :
  wpAny (model X.prog X.w) A (call (.builtin "isinstance") [u, c]) Q E s:=by
 cases ty with
 | non => cases (show u = Value.none from rx); exact PySem.W.kia_one PySem.W.kitx_none I.kIn True.intro e (fun z => nomatch z) h
 | bl y => cases (show u = Value.bool y from rx); exact PySem.W.kia_one PySem.W.kitx_bool I.kIn True.intro e (fun z => nomatch z) h
 | int i => obtain ⟨t,q⟩:=(show ∃ t,u = Value.int i t from rx); cases q; exact PySem.W.kia_one PySem.W.kitx_int I.kIn True.intro e (fun z => nomatch z) h
 | str y => obtain ⟨t,q⟩:=(show ∃ t,u = Value.str y t from rx); cases q; exact PySem.W.kia_one PySem.W.kitx_str I.kIn True.intro e (fun z => nomatch z) h
 | flt y => obtain ⟨t,q⟩:=(show ∃ t,u = Value.float y t from rx); cases q; exact PySem.W.kia_one PySem.W.kitx_float I.kIn True.intro e (fun z => nomatch z) h
 | @lst a xs ea =>
  cases (show u = Value.ref a from rx)
  obtain ⟨_,_,n,_,h1⟩:=(show ObjOk X.prog X.w H s.heap a (.lst xs) from I.hok a _ ea)
  exact PySem.W.kia_one PySem.W.kitx_list I.kIn ⟨_,h1,rfl⟩ e (fun z => nomatch z) h
 | @frz a ob xs ea =>
  cases (show u = Value.ref a from rx)
  obtain ⟨_,_,_,n,_,h1⟩:=(show ObjOk X.prog X.w H s.heap a (.frz ob (.lst xs)) from I.hok a _ ea)
  exact PySem.W.kia_one PySem.W.kitx_list I.kIn ⟨_,h1,rfl⟩ e (fun z => nomatch z) h
 | @tup a xs ea =>
  cases (show u = Value.ref a from rx)
  obtain ⟨_,_,_,p⟩:=(show ObjOk X.prog X.w H s.heap a (.tup xs) from I.hok a _ ea)
  obtain ⟨o,h1,h2,_⟩:=p
  exact PySem.W.kia_one PySem.W.kitx_tuple I.kIn ⟨o,h1,h2⟩ e (fun z => nomatch z) h
 | @dK a kvs ea =>
  cases (show u = Value.ref a from rx)
  obtain ⟨_,_,vs,_,p⟩:=(show ObjOk X.prog X.w H s.heap a (.dK kvs) from I.hok a _ ea)
  obtain ⟨o,es,ep,h1,h2,_⟩:=p
  exact PySem.W.kia_one PySem.W.kitx_dict I.kIn ⟨o,h1,h2.1⟩ e (fun z => nomatch z) h
 | @dT a kvs ea =>
  cases (show u = Value.ref a from rx)
  obtain ⟨_,_,xs,_,o,es,ep,h1,h2,_⟩:=(show ObjOk X.prog X.w H s.heap a (.dT kvs) from I.hok a _ ea)
  exact PySem.W.kia_one PySem.W.kitx_dict I.kIn ⟨o,h1,h2.1⟩ e (fun z => nomatch z) h
 | @ins a C dx fs ea cl ha hn htk hm =>
  cases (show u = Value.ref a from rx)
  obtain ⟨mA,O,_⟩:=ins_get I.hok ea
  obtain ⟨od,J,_⟩:=O.look
  exact PySem.W.kia_one (PySem.W.kitx_own (cl.get _) cl.hd ha hn htk hm) I.kIn J e (fun z => nomatch z) h
end
end L2
namespace L2
open PySem PySem.Spec PyProof.Rows
structure Room (k:Nat) (A:Around):Prop where
 hd:A.handled = none
 dp:A.depth + 3 * k + 5 < recursionLimit
 un:A.units + 16 * k + 200 < cLine
theorem Room.mono {j k:Nat} {A:Around} (r:Room k A) (h:j ≤ k):Room j A:=⟨r.hd,by have:=r.dp; trivial,by have:=r.un; trivial⟩
theorem Room.deeper {k:Nat} {A:Around} (r:Room (k + 1) A) (env:Env):Room k (A.deeper env) :=
 ⟨r.hd,by have:=r.dp; show A.depth + 1 + 3 * k + 5 < _; trivial,by have:=r.un; show A.units + 3 + 16 * k + 200 < _; trivial⟩
theorem make_depth {A:Around} {C:Addr} {us:List Value} {kw:List (Str × Value)}:(A.under (.builtin "type.__call__" ⟨.ref C :: us, kw⟩)).depth = A.depth + 1:=by
 first | rfl | simp [Around.under,Code.weight,Code.isCreation,Code.isGuard,Code.isCaller,Code.frames,Code.isFrame,guardIds]
theorem make_units {A:Around} {C:Addr} {us:List Value} {kw:List (Str × Value)}:(A.under (.builtin "type.__call__" ⟨.ref C :: us, kw⟩)).units = A.units + 1:=by
 first | rfl | simp [Around.under,Code.cUnits,Code.frames,Code.isFrame]
theorem Room.make {k:Nat} {A:Around} (r:Room (k + 1) A) (C:Addr) (us:List Value) (kw:List (Str × Value)):Room k (A.under (.builtin "type.__call__" ⟨.ref C :: us, kw⟩)) :=
 ⟨r.hd,by have:=r.dp; rw [make_depth]; trivial,by have:=r.un; rw [make_units]; trivial⟩
theorem Room.depth {k:Nat} {A:Around} (r:Room k A):A.depth < recursionLimit:=by have:=r.dp; trivial
theorem Room.units {k:Nat} {A:Around} (r:Room k A):A.units + 64 < cLine:=by have:=r.un; trivial
noncomputable def tNil:TA:=fun _ H Q => Q [] H
noncomputable def tCons (ta:TE) (tr:TA):TA:=fun σ H Q => ta σ H fun x H1 => tr σ H1 fun xs H2 => Q (x :: xs) H2
section
variable {X:Cx} {e:Expr} {es:List Expr} {te:TE} {t:TA} {pos:Pos}
theorem pa_nil:PA X [] tNil:=fun _ _ _ _ H Q I h => Calls.spliced_nil ⟨[],H,I,.nil,h⟩
theorem pa_cons (ha:PE X e te) (hr:PA X es t) (hs:starEach (e :: es) X.env = (false,eval e X.env) :: starEach es X.env:=by rfl):PA X (e :: es) (tCons te t):=by
 intro pos pins s σ H Q I h
 rw [hs]
 show wpAny _ _ (spliced ((false,eval e X.env) :: backTo pos (starEach es X.env))) _ _ s
 refine Calls.spliced_cons (thn (ha pins s σ H _ I h) fun u s1 ⟨x,H1,I1,r1,q1⟩ => ?_)
 exact thn (hr pos pins s1 σ H1 _ I1 q1) fun us s2 ⟨xs,H2,I2,r2,q2⟩ => ⟨x :: xs,H2,I2,.cons r1 r2,q2⟩
noncomputable def tTup (t:TA):TE:=fun σ H Q => t σ H fun xs H1 => xs.length ≤ sizeLine∧∀ p,H1 p = none -> Q (.ref p) (upd H1 p (.tup xs))
noncomputable def tLst (t:TA):TE:=fun σ H Q => t σ H fun xs H1 => xs.length ≤ sizeLine∧∀ p,H1 p = none -> Q (.ref p) (upd H1 p (.lst xs))
theorem pe_tup {x1} (h:PA X es t):PE X (.Tuple es x1 pos) (tTup t):=by
 intro pins s σ H Q I hq
 refine wpAny_Tuple_spliced (thn (h pos pins s σ H _ I hq) fun us s1 ⟨xs,H1,I1,r,z,q⟩ => ⟨by rw [← r.length]; exact z,?_⟩)
 have hf:H1 s1.heap.objs.size = none:=I1.hok.fresh (Nat.le_refl _)
 refine ⟨.ref s1.heap.objs.size,upd H1 s1.heap.objs.size (.tup xs),I1.laid (t':=s1.toks) (fun b u e => Heap.get?_push_of_some _ e) (Nat.le_refl _) ?_,rfl,q _ hf⟩
 exact ⟨z,us,r,⟨_,Heap.get?_push_size _ rfl,rfl,_,rfl⟩⟩
theorem pe_lst (h:PA X es t):PE X (.List es pos) (tLst t):=by
 intro pins s σ H Q I hq
 refine wpAny_List_spliced (thn (h pos pins s σ H _ I hq) fun us s1 ⟨xs,H1,I1,r,z,q⟩ => ⟨by rw [← r.length]; exact z,?_⟩)
 have hf:H1 s1.heap.objs.size = none:=I1.hok.fresh (Nat.le_refl _)
 refine ⟨.ref s1.heap.objs.size,upd H1 s1.heap.objs.size (.lst xs),I1.laid (t':=s1.toks) (fun b u e => Heap.get?_push_of_some _ e) (Nat.le_refl _) ?_,rfl,q _ hf⟩
 exact ⟨z,us,0,r,Heap.get?_push_size _ rfl⟩
end
noncomputable abbrev Sp:=List V -> Hp -> VK -> XK -> Prop
noncomputable abbrev CXT:=List Env -> Hp -> Shared -> XK -> Value -> Shared -> Prop
structure Env0 (P:Program) (w:World) (K:PySem.W.Frag) (mg:Str -> Option Value) (base:Heap) (A:Around) (outer:List Env) (s:Shared) (H:Hp):Prop where
 frames:A.frames = some outer
 mod:Mod K mg base
 bs:∀ b o,base.get? b = some o -> s.heap.get? b = some o∧H b = none
 bsz:base.objs.size ≤ s.heap.objs.size
 funs:s.heap.FunFrames base outer
 frf:∀ b ∈ frs outer,H b = none
 hok:HOk P w H s.heap
 bare:AllBare s.gens
noncomputable def CE (outer:List Env) (P:Program) (w:World) (H:Hp) (s:Shared) (Q:VK) (u:Value) (s':Shared):Prop :=
 ∃ v H',s'.os = s.os∧AllBare s'.gens∧Un (frs outer) [] H H' s.heap s'.heap∧HOk P w H' s'.heap∧RelV v u∧Q v H'
noncomputable def CR (CX:CXT) (outer:List Env) (P:Program) (w:World) (H:Hp) (s:Shared) (Q:VK) (E:XK) (r:Result) (s':Shared):Prop :=
 match r with
 | .ok (.ret u) => CE outer P w H s Q u s'
 | .ok _ => False
 | .error e => CX outer H s E e s'
structure FnOk (P:Program) (w:World) (K:PySem.W.Frag) (mg:Str -> Option Value) (base:Heap) (CX:CXT) (k:Nat) (f:Addr) (fd:FuncData) (ps:List Str) (sp:Sp):Prop where
 len:∀ vs H Q E,sp vs H Q E -> vs.length = ps.length
 run:∀ (A:Around) (outer:List Env) (s:Shared) (H:Hp) (args:Args) (us:List Value) (vs:List V) (Q:VK) (E:XK),Room k A -> Env0 P w K mg base A outer s H -> BindsTo s fd args (ps.zip us) -> Vals vs us -> sp vs H Q E →
  codeAny (model P w) A (.call (.ref f) args) (CR CX outer P w H s Q E) s
theorem Env0.make {P:Program} {w:World} {K:PySem.W.Frag} {mg:Str -> Option Value} {base:Heap} {A:Around} {outer:List Env} {s:Shared} {H:Hp} (e:Env0 P w K mg base A outer s H) (C:Addr) (us:List Value) (kw:List (Str × Value)) :
  Env0 P w K mg base (A.under (.builtin "type.__call__" ⟨.ref C :: us, kw⟩)) outer s H:=⟨by first | exact e.frames | (simpa [Around.under, Code.envs, Code.isFrame, pushEnvs] using e.frames), e.mod, e.bs, e.bsz, e.funs, e.frf, e.hok, e.bare⟩
section
variable {X:Cx} {pins:List (Addr × Obj)} {σ:St} {H:Hp} {s s':Shared}
theorem Inv.env0 (I:Inv X pins σ H s):Env0 X.prog X.w X.K X.mg X.base X.A X.stack s H :=
 ⟨I.ok.frames,I.ok.mod,I.bs,Nat.le_trans I.ok.bsz I.sz,I.stack,I.stkFree,I.hok,I.bare⟩
theorem Inv.after {Q:VK} {u:Value} (I:Inv X pins σ H s) (h:CE X.stack X.prog X.w H s Q u s'):EP X pins σ Q u s':=by
 obtain ⟨v,H',os,bare,un,hok,r,q⟩:=h
 obtain ⟨hh,g,d,t,os'⟩:=s'
 obtain rfl:os' = s.os:=os
 exact ⟨v,H',I.call (h':=hh) (g':=g) (d':=d) (t':=t) (ch:=[]) un hok bare (fun b z => absurd z (by simp)),r,q⟩
end
noncomputable def tCall (sp:Sp) (dvs:List V) (E:XK) (t:TA):TE:=fun σ H Q => t σ H fun vs H1 => sp (vs ++ dvs) H1 Q E
noncomputable def tMeth (C:Addr) (m:Str) (sp:Sp) (dvs:List V) (E:XK) (ta:TE) (t:TA):TE:=fun σ H Q => ta σ H fun x H1 => ∃ a dx fs,x = .ref a∧H1 a = some (.ins C dx fs)∧fs.lookup m = none ∧
 t σ H1 fun vs H2 => sp (x :: (vs ++ dvs)) H2 Q E
noncomputable def tMake (C:Addr) (sp:Sp) (dvs:List V) (E:XK) (t:TA):TE:=fun σ H Q => t σ H fun vs H1 => ∀ x dx,H1 x = none -> H1 dx = none -> dx ≠ x →
 sp (.ref x :: (vs ++ dvs)) (upd (upd H1 dx (.own x)) x (.ins C dx [])) (fun v H2 => v = .non∧Q (.ref x) H2) E
noncomputable def Binds (K:PySem.W.Frag) (fd:FuncData) (ps:List Str) (ds:List Value):Prop :=
 ∀ (s:Shared) (us:List Value),K.In s.heap -> (us ++ ds).length = ps.length -> BindsTo s fd ⟨us,[]⟩ (ps.zip (us ++ ds))
theorem Binds.all {K:PySem.W.Frag} {fd:FuncData} {ps:List Str} (h:∀ us:List Value,us.length = ps.length -> bindArgs fd ⟨us,[]⟩ = pure (ps.zip us)):Binds K fd ps []:=fun s us _ hl => by
 rw [List.append_nil] at hl ⊢
 exact .of_eq (h us hl)
noncomputable def Passes (CX:CXT) (X:Cx) (E:XK):Prop:=∀ (pins:List (Addr × Obj)) (σ:St) (H:Hp) (s:Shared) (e:Value) (s':Shared),Inv X pins σ H s -> CX X.stack H s E e s' -> X.xe e s'
section
variable {X:Cx} {CX:CXT} {k:Nat} {f C:Addr} {fd:FuncData} {ps:List Str} {sp:Sp} {dvs:List V} {ds:List Value} {E:XK} {x m:Str} {p pos apos:Pos} {e o:Expr} {es:List Expr} {ta:TE} {t:TA}
theorem run_fn {pins:List (Addr × Obj)} {σ:St} {H:Hp} {s:Shared} {Q:VK} {us:List Value} {vs:List V} (F:FnOk X.prog X.w X.K X.mg X.base CX k f fd ps sp) (hr:Room k X.A) (hb:Binds X.K fd ps ds) (hd:Vals dvs ds) (hx:Passes CX X E)
  (I:Inv X pins σ H s) (r:Vals vs us) (h:sp (vs ++ dvs) H Q E):wpAny (model X.prog X.w) X.A (call (.ref f) us) (EP X pins σ Q) X.xe s:=by
 have r2:Vals (vs ++ dvs) (us ++ ds):=r.append hd
 have hl:(us ++ ds).length = ps.length:=by rw [← r2.length]; exact F.len _ _ _ _ h
 refine wpAny_call (codeAny_mono (F.run X.A X.stack s H ⟨us,[]⟩ (us ++ ds) (vs ++ dvs) Q E hr I.env0 (hb s us I.kIn hl) r2 h) fun r s' hq => ?_)
 cases r with
 | error e => exact hx pins σ H s e s' I hq
 | ok fl =>
  cases fl with
  | ret u => exact I.after hq
  | next => exact False.elim hq
  | brk => exact False.elim hq
  | cont => exact False.elim hq
theorem pe_call (F:FnOk X.prog X.w X.K X.mg X.base CX k f fd ps sp) (hr:Room k X.A) (hg:Gl X x) (hm:X.mg x = some (.ref f)) (hk:PySem.W.keepIn X.K (.ref f) = true) (hb:Binds X.K fd ps ds) (hd:Vals dvs ds) (hx:Passes CX X E)
  (ha:PA X (e :: es) t) (hdb:(x == ("__debug__":Str)) = false:=by decide) (he:starEach (e :: es) X.env = (false, eval e X.env) :: starEach es X.env:=by rfl) (hpl:(backTo pos (starEach es X.env)).any (·.1) = false:=by rfl) :
  PE X (.Call (.Name x p) (e :: es) [] pos) (tCall sp dvs E t):=by
 intro pins s σ H Q I h
 refine wpAny_Call_Name_kw (ld_glob I hg hm ?_ hdb)
 refine PySem.W.callWith_K (h₀:=X.base) I.ok.mod.kin hk (thn (ha pos pins s σ H _ I h) fun us s1 ⟨vs,H1,I1,r,q⟩ => ⟨I1.kIn,?_⟩) he hpl
 exact run_fn F hr hb hd hx I1 r q
theorem pe_meth {pl:Sem Bool} (he:PE X o ta) (c:Cls X.K C) (hm:Meth X.K C m f) (F:FnOk X.prog X.w X.K X.mg X.base CX k f fd ps sp) (hr:Room k X.A) (hb:Binds X.K fd ps ds) (hd:Vals dvs ds) (hx:Passes CX X E) (ha:PA X (e :: es) t)
  (hst:starEach (e :: es) X.env = (false,eval e X.env) :: starEach es X.env:=by rfl) (hpl:(backTo pos (starEach es X.env)).any (·.1) = false:=by rfl)
  (ht:eval (.Call (.Attribute o m apos) (e :: es) [] pos) X.env = (do
   let ov ← eval o X.env
   standAt apos.atName
   let (f,first) ← holding [ov] (getMethod ov m pl)
   callWith pos f first (backTo pos (starEach (e :: es) X.env)) (backToKw pos (keywordEach [] X.env))):=by rfl) :
  PE X (.Call (.Attribute o m apos) (e :: es) [] pos) (tMeth C m sp dvs E ta t):=by
 intro pins s σ H Q I h
 refine PySem.W.methodCall_KW (pl:=pl) (thn (he pins s σ H _ I h) fun u s1 ⟨x,H1,I1,rx,a,dx,fs,ex,ea,l,q⟩ => ?_) ht
 subst ex
 obtain rfl:u = Value.ref a:=rx
 refine getmeth_ok I1 ea c hm l ?_
 refine PySem.W.callWith_K (first:=[.ref a]) (h₀:=X.base) I.ok.mod.kin hm.kp (thn (ha pos pins s1 σ H1 _ I1 q) fun us s2 ⟨vs,H2,I2,r,q2⟩ => ⟨I2.kIn,?_⟩) hst hpl
 exact run_fn (us:=.ref a :: us) (vs:=.ref a :: vs) F hr hb hd hx I2 (.cons rfl r) q2
theorem pe_meth0 {pl:Sem Bool} (he:PE X o ta) (c:Cls X.K C) (hm:Meth X.K C m f) (F:FnOk X.prog X.w X.K X.mg X.base CX k f fd ps sp) (hr:Room k X.A) (hb:Binds X.K fd ps ds) (hd:Vals dvs ds) (hx:Passes CX X E)
  (ht:eval (.Call (.Attribute o m apos) [] [] pos) X.env = (do
   let ov ← eval o X.env
   standAt apos.atName
   let (f,first) ← holding [ov] (getMethod ov m pl)
   callWith pos f first (backTo pos (starEach [] X.env)) (backToKw pos (keywordEach [] X.env))):=by rfl) :
  PE X (.Call (.Attribute o m apos) [] [] pos) (tMeth C m sp dvs E ta tNil):=by
 intro pins s σ H Q I h
 refine PySem.W.methodCall_KW (pl:=pl) (thn (he pins s σ H _ I h) fun u s1 ⟨x,H1,I1,rx,a,dx,fs,ex,ea,l,q⟩ => ?_) ht
 subst ex
 obtain rfl:u = Value.ref a:=rx
 refine getmeth_ok I1 ea c hm l ?_
 exact PySem.W.callWith_K0 (first:=[.ref a]) I1.kIn hm.kp (run_fn (us:=[.ref a]) (vs:=[.ref a]) F hr hb hd hx I1 (.cons rfl .nil) q)
structure Mk (K:PySem.W.Frag) (C f:Addr):Prop where
 makes:PySem.W.makesIn K C = true
 init:PySem.W.findIn K (.ref C) "__init__" = some (some (.ref f))
 fn:PySem.W.isFn K (.ref f) = true
 kp:PySem.W.keepIn K (.ref C) = true
theorem run_make {pins:List (Addr × Obj)} {σ:St} {H:Hp} {s:Shared} {Q:VK} {us:List Value} {vs:List V} (M:Mk X.K C f) (F:FnOk X.prog X.w X.K X.mg X.base CX k f fd ps sp) (hr:Room (k + 1) X.A) (hb:Binds X.K fd ps ds) (hd:Vals dvs ds)
  (hx:Passes CX X E) (I:Inv X pins σ H s) (r:Vals vs us)
  (h:∀ x dx,H x = none -> H dx = none -> dx ≠ x -> sp (.ref x :: (vs ++ dvs)) (upd (upd H dx (.own x)) x (.ins C dx [])) (fun v H2 => v = .non∧Q (.ref x) H2) E) :
  wpAny (model X.prog X.w) X.A (call (.ref C) us) (EP X pins σ Q) X.xe s:=by
 have hq:=h (s.heap.objs.size + 1) s.heap.objs.size (I.hok.fresh (Nat.le_succ _)) (I.hok.fresh (Nat.le_refl _)) (Nat.ne_of_lt (Nat.lt_succ_self _))
 have I2:=Inv.made (C:=C) I
 have r2:Vals (V.ref (s.heap.objs.size + 1) :: (vs ++ dvs)) (Value.ref (s.heap.objs.size + 1) :: (us ++ ds)):=.cons rfl (r.append hd)
 have hl:(Value.ref (s.heap.objs.size + 1) :: us ++ ds).length = ps.length:=by
  have e:=r2.length
  rw [F.len _ _ _ _ hq] at e
  exact e.symm
 refine wpAny_call (make_map (f:=f) I.kIn M.makes M.init (beq_iff_eq.mp M.fn) (codeAny_mono (F.run _ X.stack _ _ ⟨Value.ref (s.heap.objs.size + 1) :: us,[]⟩ (Value.ref (s.heap.objs.size + 1) :: (us ++ ds)) _ _ E (hr.make C us [])
  (I2.env0.make C us []) (hb _ (Value.ref (s.heap.objs.size + 1) :: us) I2.kIn hl) r2 hq) fun r s' hq' => ?_))
 cases r with
 | error e => exact hx pins σ _ _ e s' I2 hq'
 | ok fl =>
  cases fl with
  | ret u =>
   obtain ⟨v,H',I3,rv,ev,q3⟩:=I2.after hq'
   subst ev
   exact ⟨rv,⟨V.ref (s.heap.objs.size + 1),H',I3,rfl,q3⟩⟩
  | next => exact False.elim hq'
  | brk => exact False.elim hq'
  | cont => exact False.elim hq'
theorem pe_make (M:Mk X.K C f) (F:FnOk X.prog X.w X.K X.mg X.base CX k f fd ps sp) (hr:Room (k + 1) X.A) (hg:Gl X x) (hm:X.mg x = some (.ref C)) (hb:Binds X.K fd ps ds) (hd:Vals dvs ds) (hx:Passes CX X E)
  (ha:PA X (e :: es) t) (hdb:(x == ("__debug__":Str)) = false:=by decide) (he:starEach (e :: es) X.env = (false, eval e X.env) :: starEach es X.env:=by rfl) (hpl:(backTo pos (starEach es X.env)).any (·.1) = false:=by rfl) :
  PE X (.Call (.Name x p) (e :: es) [] pos) (tMake C sp dvs E t):=by
 intro pins s σ H Q I h
 refine wpAny_Call_Name_kw (ld_glob I hg hm ?_ hdb)
 refine PySem.W.callWith_K (h₀:=X.base) I.ok.mod.kin M.kp (thn (ha pos pins s σ H _ I h) fun us s1 ⟨vs,H1,I1,r,q⟩ => ⟨I1.kIn,?_⟩) he hpl
 exact run_make M F hr hb hd hx I1 r q
end
section
variable {X:Cx} {CX:CXT} {k:Nat} {f C:Addr} {fd:FuncData} {ps ks:List Str} {sp:Sp} {E:XK} {x m:Str} {p pos apos kpos:Pos} {e o:Expr} {es:List Expr} {kws:List Keyword} {te ta:TE} {t tk:TA} {nm:Option Str}
structure KBinds (K:PySem.W.Frag) (fd:FuncData) (ps ks:List Str) (g:List Value -> List Value -> List Value) (gV:List V -> List V -> List V):Prop where
 to:∀ (s:Shared) (us ws:List Value),K.In s.heap -> (g us ws).length = ps.length -> BindsTo s fd ⟨us,ks.zip ws⟩ (ps.zip (g us ws))
 rel:∀ {vs:List V} {us:List Value} {zs:List V} {ws:List Value},Vals vs us -> Vals zs ws -> Vals (gV vs zs) (g us ws)
variable {g:List Value -> List Value -> List Value} {gV:List V -> List V -> List V}
end
structure FnScope (N P:List Str) (sc:Scope):Prop where
 kind:sc.kind = .function
 co:sc.isCoroutine = false
 gen:sc.isGenerator = false
 nd:N.Nodup
 pre:N.take P.length = P
 par:∀ x ∈ P,sc.names.lookup x = some .local ∨ sc.names.lookup x = some .cell
 nofree:∀ y ∈ sc.names,y.2 ≠ .free
theorem bindL_out {kindOf:Str -> Option NameKind} {x:Str}:∀ {binds:List (Str × Value)} {m:Str -> Option Value},(∀ v,(x,v) ∉ binds) -> bindL kindOf binds m x = m x
 | [],_,_ => rfl
 | (n,v) :: r,m,h => by
  unfold bindL
  rw [bindL_out fun w hw => h w (List.mem_cons_of_mem _ hw)]
  split
  ·have:x ≠ n:=by rintro rfl; exact h v List.mem_cons_self
   simp [this]
  ·rfl
theorem bindC_out {kindOf:Str -> Option NameKind} {x:Str}:∀ {binds:List (Str × Value)} {m:Str -> Option Value},(∀ v,(x,v) ∉ binds) -> bindC kindOf binds m x = m x
 | [],_,_ => rfl
 | (n,v) :: r,m,h => by
  unfold bindC
  rw [bindC_out fun w hw => h w (List.mem_cons_of_mem _ hw)]
  split
  ·rfl
  ·have:x ≠ n:=by rintro rfl; exact h v List.mem_cons_self
   simp [this]
theorem bindL_get {kindOf:Str -> Option NameKind} {x:Str} {v:Value}:∀ {P:List Str} {vs:List Value} {i:Nat} {m:Str -> Option Value},P.Nodup -> P[i]? = some x -> vs[i]? = some v -> kindOf x = some .local →
  bindL kindOf (P.zip vs) m x = some v
 | [],_,_,_,_,h,_,_ => by simp at h
 | _ :: _,[],_,_,_,_,h,_ => by simp at h
 | p :: P,w :: vs,0,m,nd,h1,h2,hk => by
  simp at h1 h2; subst h1; subst h2
  show bindL kindOf ((p,w) :: P.zip vs) m p = _
  unfold bindL
  rw [bindL_out fun v hv => (List.nodup_cons.mp nd).1 (List.of_mem_zip hv).1,if_pos hk]
  simp
 | p :: P,w :: vs,i + 1,m,nd,h1,h2,hk => by
  show bindL kindOf ((p,w) :: P.zip vs) m x = _
  unfold bindL
  exact bindL_get (i:=i) (List.nodup_cons.mp nd).2 (by simpa using h1) (by simpa using h2) hk
theorem bindC_get {kindOf:Str -> Option NameKind} {x:Str} {v:Value}:∀ {P:List Str} {vs:List Value} {i:Nat} {m:Str -> Option Value},P.Nodup -> P[i]? = some x -> vs[i]? = some v -> kindOf x ≠ some .local →
  bindC kindOf (P.zip vs) m x = some v
 | [],_,_,_,_,h,_,_ => by simp at h
 | _ :: _,[],_,_,_,_,h,_ => by simp at h
 | p :: P,w :: vs,0,m,nd,h1,h2,hk => by
  simp at h1 h2; subst h1; subst h2
  show bindC kindOf ((p,w) :: P.zip vs) m p = _
  unfold bindC
  rw [bindC_out fun v hv => (List.nodup_cons.mp nd).1 (List.of_mem_zip hv).1,if_neg hk]
  simp
 | p :: P,w :: vs,i + 1,m,nd,h1,h2,hk => by
  show bindC kindOf ((p,w) :: P.zip vs) m x = _
  unfold bindC
  exact bindC_get (i:=i) (List.nodup_cons.mp nd).2 (by simpa using h1) (by simpa using h2) hk
noncomputable def start (N:List Str) (vs:List V):St:=vs.map some ++ List.replicate (N.length - vs.length) none
noncomputable def cxOf (CX:CXT) (P:Program) (w:World) (K:PySem.W.Frag) (mg:Str -> Option Value) (base:Heap) (N:List Str) (qual:Str) (scope:Scope) (f:Addr) (cd:Value) (A:Around) (outer:List Env) (s:Shared) (H:Hp) (E:XK):Cx where
 prog:=P
 w:=w
 K:=K
 mg:=mg
 base:=base
 A:=A.deeper (envOfC qual scope s.heap.objs.size f cd)
 N:=N
 s₀:=s
 H₀:=H
 env:=envOfC qual scope s.heap.objs.size f cd
 outer:=outer
 stack:=envOfC qual scope s.heap.objs.size f cd :: outer
 ex:=[]
 calm:=true
 fn:=fun _ => true
 pn:=[]
 xe:=fun e s' => wpAny (model P w) (A.deeper (envOfC qual scope s.heap.objs.size f cd)) (leaving (envOfC qual scope s.heap.objs.size f cd) e) (fun _ s'' => CX outer H s E e s'') (fun e' s'' => CX outer H s E e' s'') s'
theorem cell_has {sc:Scope} {n:Nat} {x:Str} (h:sc.names.lookup x = some .cell):∃ c,(cellsFrom n sc.names []).lookup x = some c:=by
 have q:=PySem.W.cellsFrom_some sc.names n [] (.inl h)
 exact Option.isSome_iff_exists.mp q
theorem inv_start {CX:CXT} {P:Program} {w:World} {K:PySem.W.Frag} {mg:Str -> Option Value} {base:Heap} {N ps:List Str} {qual:Str} {scope:Scope} {f:Addr} {cd:Value} {A:Around} {outer:List Env} {s s1:Shared} {H:Hp} {E:XK} {us:List Value} {vs:List V}
  (S:FnScope N ps scope) (hd:A.handled = none) (e0:Env0 P w K mg base A outer s H) (hl:vs.length = ps.length) (r:Vals vs us)
  (x:InCallC s s.heap.objs.size (bindL (envOfC qual scope s.heap.objs.size f cd).kindOf (ps.zip us) fun _ => none) (cellsFrom (s.heap.objs.size + 1) scope.names []) (bindC (envOfC qual scope s.heap.objs.size f cd).kindOf (ps.zip us) fun _ => none) s1) :
  Inv (cxOf CX P w K mg base N qual scope f cd A outer s H E) [] (start N vs) H s1:=by
 have hpl:ps.length ≤ N.length:=by have:=congrArg List.length S.pre; rw [List.length_take] at this; trivial
 obtain ⟨h1,tk,rfl,hk⟩:=x.done
 have noA:∀ b:Addr,b ∉ (cxOf CX P w K mg base N qual scope f cd A outer s H E).ex:=fun b z => absurd (show b ∈ ([]:List Addr) from z) (by simp)
 refine ⟨⟨e0.mod,S.kind,rfl,rfl,Nat.le_refl _,fun y z c h1 h2 => ?_,fun y hy => ?_,fun y c _ h => ?_,fun _ => hd,Around.frames_deeper e0.frames,.inr ⟨rfl,rfl⟩,fun b z => absurd z (noA b),e0.bs,e0.bsz,fun b _ _ => noA b,fun b z => absurd z (noA b),e0.funs,e0.frf⟩,
  rfl,e0.bare,Un.kept hk,⟨_,x.toInCall.ns,fun i y v h1 h2 h3 => ?_⟩,fun y c h => ⟨_,x.cell y c h⟩,e0.hok.fresh (Nat.le_refl _),fun y c h => ?_,fun p hp => absurd (show p ∈ ([]:List (Addr × Obj)) from hp) (by simp),e0.hok.kept hk,?_⟩
 ·exact name_of_addr x.apart (PySem.mem_of_lookup h1) (PySem.mem_of_lookup h2)
 ·have hy:scope.names.lookup y = some .cell ∨ scope.names.lookup y = some .free:=hy
  rcases hy with hy | hy
  ·exact cell_has hy
  ·exact absurd rfl (S.nofree _ (PySem.mem_of_lookup hy))
 ·exact Nat.le_of_lt (x.above y c (PySem.mem_of_lookup h))
 ·have hi:i < vs.length:=by
   unfold start at h2
   by_cases hi:i < vs.length
   ·exact hi
   ·rw [List.getElem?_append_right (by simpa using hi)] at h2
    rw [List.getElem?_replicate] at h2
    split at h2 <;> cases h2
  have ha:vs[i]? = some v:=by
   unfold start at h2
   rw [List.getElem?_append_left (by simpa using hi),List.getElem?_map] at h2
   cases e:vs[i]? with
   | none => rw [e] at h2; cases h2
   | some a => rw [e] at h2; cases h2; rfl
  obtain ⟨u,hu,rv⟩:=r.get ha
  have hp:ps[i]? = some y:=by
   rw [← S.pre,List.getElem?_take_of_lt (by trivial)]; exact h1
  have ndP:ps.Nodup:=by rw [← S.pre]; exact S.nd.sublist (List.take_sublist _ _)
  refine ⟨u,rv,?_⟩
  rcases S.par y (List.mem_of_getElem? hp) with k | k
  ·exact .inl ⟨k,bindL_get ndP hp hu k⟩
  ·obtain ⟨c,e⟩:=cell_has (n:=s.heap.objs.size + 1) k
   refine .inr ⟨.inl k,c,e,?_⟩
   have q:=x.cell y c e
   rw [bindC_get ndP hp hu (by show scope.names.lookup y ≠ _; rw [k]; decide)] at q
   exact q
 ·exact e0.hok.fresh (Nat.le_of_lt (x.above y c (PySem.mem_of_lookup h)))
 ·unfold start
  show _ = N.length
  rw [List.length_append,List.length_map,List.length_replicate]
  trivial
theorem fn_of {CX:CXT} {P:Program} {w:World} {K:PySem.W.Frag} {mg:Str -> Option Value} {base:Heap} {k:Nat} {f:Addr} {name qual:Str} {params:Arguments} {body:List Stmt} {scope:Scope} {dV kV doc pm cdv ct oc:Value} {an od:Option Addr}
  {osl:Array (Option Value)} {N ps:List Str} {sp:Sp} (lk:K.lookup f = some ⟨oc,od,.func (PySem.W.fnOf name qual params body scope dV kV doc pm an cdv ct),osl⟩) (hcd:PySem.W.codeIn K cdv qual = true) (S:FnScope N ps scope)
  (len:∀ vs H Q E,sp vs H Q E -> vs.length = ps.length)
  (hbody:∀ (A:Around) (outer:List Env) (s:Shared) (H:Hp) (vs:List V) (Q:VK) (E:XK),Room k (A.deeper (envOfC qual scope s.heap.objs.size f cdv)) -> sp vs H Q E →
   ∃ t,PSs (cxOf CX P w K mg base N qual scope f cdv A outer s H E) body t∧t { nx:=fun _ H' => Q .non H',rt:=Q } (start N vs) H) :
  FnOk P w K mg base CX (k + 1) f (PySem.W.fnOf name qual params body scope dV kV doc pm an cdv ct) ps sp:=by
 refine ⟨len,fun A outer s H args us vs Q E hr e0 hb r hsp => ?_⟩
 have hl:=len _ _ _ _ hsp
 have KX:K.In s.heap:=e0.mod.kin.keeps fun b o e => (e0.bs b o e).1
 have lim:s.heap.NoLimit:=e0.mod.nolimit.keeps fun b o e => (e0.bs b o e).1
 have hkind:∀ y ∈ ps.zip us,scope.names.lookup y.1 = some .local ∨ (scope.names.lookup y.1 = some .cell∧((cellsFrom (s.heap.objs.size + 1) scope.names []).lookup y.1).isSome = true):=fun ⟨n,v⟩ hy => by
  rcases S.par n (List.of_mem_zip hy).1 with q | q
  ·exact .inl q
  ·exact .inr ⟨q,PySem.W.cellsFrom_some _ _ _ (.inl q)⟩
 refine codeAny_call_function hr.depth (KX _ _ lk) rfl S.co S.gen rfl (PySem.W.codeRec_of KX hcd) (hb _ _ _ _ ?_)
 refine wpAny_newFunctionEnv_cells S.kind hkind fun env he s1 x => ?_
 subst he
 refine ⟨lim.keeps x.toInCall.keep,codeAny_func ?_⟩
 obtain ⟨t,ht,hq⟩:=hbody A outer s H vs Q E (hr.deeper _) hsp
 have I:Inv (cxOf CX P w K mg base N qual scope f cdv A outer s H E) [] (start N vs) H s1:=inv_start S hr.hd e0 hl r x
 refine wpAny_mono (ht [] s1 (start N vs) H _ I hq) (fun fl s' hs => ?_) fun e s' hs => hs
 have fin:∀ {σ':St} {H':Hp} {v:V} {u:Value},Inv (cxOf CX P w K mg base N qual scope f cdv A outer s H E) [] σ' H' s' -> RelV v u -> Q v H' -> CE outer P w H s Q u s' :=
  fun {σ' H' v u} J rv q => ⟨v,H',J.os,J.bare,J.base,J.hok,rv,q⟩
 cases fl with
 | ret u =>
  obtain ⟨v,σ',H',J,rv,q⟩:=hs
  exact fin J rv q
 | next =>
  obtain ⟨σ',H',J,q⟩:=hs
  exact fin (v:=V.non) (u:=Value.none) J rfl q
 | brk =>
  obtain ⟨_,_,_,q⟩:=hs
  exact False.elim q
 | cont =>
  obtain ⟨_,_,_,q⟩:=hs
  exact False.elim q
end L2
namespace L2
open PySem PySem.Spec PyProof.Rows
section
variable {X:Cx} {x:Str} {p pos:Pos} {e:Expr} {es:List Expr} {t:TA} {id T:String} {r:List V -> Hp -> VK -> Prop}
noncomputable def tCB (r:List V -> Hp -> VK -> Prop) (t:TA):TE:=fun σ H Q => t σ H fun vs H1 => r vs H1 Q
theorem pe_callB (hc:CallR X (.builtin id) r) (hg:Gl X x) (hm:X.mg x = none) (hv:bootBuiltins x = some (.builtin id)) (ha:PA X (e :: es) t) (hn:x ≠ "__name__":=by decide) (hdb:(x == ("__debug__":Str)) = false:=by decide)
  (he:starEach (e :: es) X.env = (false,eval e X.env) :: starEach es X.env:=by rfl) (hpl:(backTo pos (starEach es X.env)).any (·.1) = false:=by rfl):PE X (.Call (.Name x p) (e :: es) [] pos) (tCB r t):=by
 intro pins s σ H Q I h
 refine wpAny_Call_Name_kw (ld_blt I hg hm hv ?_ hn hdb)
 exact PyProof.Rows.callWith_builtin1 (thn (ha pos pins s σ H _ I h) fun us s1 ⟨vs,H1,I1,r1,q1⟩ => hc pins s1 σ H1 vs us Q I1 r1 q1) he hpl
theorem pe_callTy (hc:CallR X (.type T) r) (hg:Gl X x) (hm:X.mg x = none) (hv:bootBuiltins x = some (.type T)) (ha:PA X (e :: es) t) (hn:x ≠ "__name__":=by decide) (hdb:(x == ("__debug__":Str)) = false:=by decide)
  (he:starEach (e :: es) X.env = (false,eval e X.env) :: starEach es X.env:=by rfl) (hpl:(backTo pos (starEach es X.env)).any (·.1) = false:=by rfl):PE X (.Call (.Name x p) (e :: es) [] pos) (tCB r t):=by
 intro pins s σ H Q I h
 refine wpAny_Call_Name_kw (ld_blt I hg hm hv ?_ hn hdb)
 exact PyProof.Rows.callWith_type1 (thn (ha pos pins s σ H _ I h) fun us s1 ⟨vs,H1,I1,r1,q1⟩ => hc pins s1 σ H1 vs us Q I1 r1 q1) he hpl
end
end L2
namespace HT
open PySem PyProof.Rows
noncomputable def lexLt:List Int -> List Int -> Bool
 | [],[] => false
 | [],_ :: _ => true
 | _ :: _,[] => false
 | x :: xs,y :: ys => if x = y then lexLt xs ys else decide (x < y)
theorem lexLt_cons (x y:Int) (xs ys:List Int):lexLt (x :: xs) (y :: ys) = if x = y then lexLt xs ys else decide (x < y):=rfl
theorem lexLt_nil_nil:lexLt [] [] = false:=rfl
theorem lexLt_nil_cons (y:Int) (ys:List Int):lexLt [] (y :: ys) = true:=rfl
theorem lexLt_cons_nil (x:Int) (xs:List Int):lexLt (x :: xs) [] = false:=rfl
theorem eqAt_int (A:Around) (s:Shared) (a:Int) (t:Tok) (c:Int) (u:Tok):∃ e,SeqAt.EqAt A s (.int a t) (.int c u) e∧(e = true ↔ a = c) :=
 ⟨(a == c),SeqAt.EqAt.int_int a t c u,by simp⟩
theorem rcLt_int (A:Around) (s:Shared) (a:Int) (t:Tok) (c:Int) (u:Tok) (prog:Program) (w:World) (E:Value -> Shared -> Prop) (Q:Value -> Shared -> Prop) (h:Q (.bool (decide (a < c))) s) :
  wpAny (model prog w) A (richCompare .Lt (.int a t) (.int c u)) Q E s :=
 (PyProof.Rows.lt_int h:wpAny (model prog w) A (compareOp .Lt (.int a t) (.int c u)) Q E s)
section
open PySem.SeqAt
open PySem.AutoSeq1 (wpAny_loadPart')
open PySem.MeetsSeq PySem.MeetsSeq2 PySem.MeetsSeq3
end
section
variable {prog:Program} {w:World} {A:Around} {E:Value -> Shared -> Prop} {s:Shared}
noncomputable def sIx (n d:Nat):Option Int -> Nat
 | none => d
 | some v => if v < 0 then (v + (n:Int)).toNat else min v.toNat n
theorem sIx_none (n d:Nat):sIx n d none = d:=rfl
theorem sIx_nat (n d k:Nat):sIx n d (some (k:Int)) = min k n:=by
 show (if (k:Int) < 0 then ((k:Int) + (n:Int)).toNat else min (k:Int).toNat n) = min k n
 rw [if_neg (by trivial),Int.toNat_natCast]
end
end HT
namespace L2
open PySem PySem.Spec PyProof.Rows
noncomputable abbrev TO:=St -> Hp -> (Option Int -> Hp -> Prop) -> Prop
noncomputable def PO (X:Cx) (e:Option Expr) (t:TO):Prop :=
 ∀ (pins:List (Addr × Obj)) (s:Shared) (σ:St) (H:Hp) (Q:Option Int -> Hp -> Prop),Inv X pins σ H s -> t σ H Q →
  wpAny (model X.prog X.w) X.A (evalPart e X.env) (fun u s' => ∃ o H',Inv X pins σ H' s'∧IsPart u o∧Q o H') X.xe s
noncomputable def tNoPart:TO:=fun _ H Q => Q none H
noncomputable def tPart (t:TE):TO:=fun σ H Q => t σ H fun x H1 => ∃ i,x = .int i∧Q (some i) H1
section
variable {X:Cx} {e:Expr} {te:TE} {lo hi:Option Expr} {tl th:TO} {pos p2:Pos}
theorem po_none:PO X none tNoPart:=by
 intro pins s σ H Q I h
 rw [evalPart_none]
 exact wpAny_pure ⟨none,H,I,.none,h⟩
theorem po_some (h:PE X e te):PO X (some e) (tPart te):=by
 intro pins s σ H Q I hw
 rw [evalPart_some]
 refine thn (h pins s σ H _ I hw) fun u s1 ⟨x,H1,I1,r1,q1⟩ => ?_
 obtain ⟨i,rfl,q⟩:=q1
 obtain ⟨t,rfl⟩:=r1
 exact ⟨some i,H1,I1,.int i t,q⟩
noncomputable def SlR (X:Cx) (r:V -> Option Int -> Option Int -> Hp -> VK -> Prop):Prop :=
 ∀ (pins:List (Addr × Obj)) (s:Shared) (σ:St) (H:Hp) (x:V) (v vl vu:Value) (lo hi:Option Int) (sl:Addr) (Q:VK),Inv X pins σ H s -> RelV x v -> s.heap.IsSliceOf sl vl vu .none -> IsPart vl lo -> IsPart vu hi -> r x lo hi H Q →
  ∃ T id, typeLookup (.type T) "__getitem__" = pure (some (.builtin id))∧s.TypeIs v T∧wpAny (model X.prog X.w) X.A (getItem v (.ref sl)) (EP X pins σ Q) X.xe s
noncomputable def tSl (r:V -> Option Int -> Option Int -> Hp -> VK -> Prop) (te:TE) (tl th:TO):TE:=fun σ H Q => te σ H fun x H1 => tl σ H1 fun l H2 => th σ H2 fun u H3 => r x l u H3 Q
theorem pe_slice {r:V -> Option Int -> Option Int -> Hp -> VK -> Prop} (hr:SlR X r) (he:PE X e te) (hl:PO X lo tl) (hu:PO X hi th):PE X (.Subscript e (.Slice lo hi none p2) pos) (tSl r te tl th):=by
 intro pins s σ H Q I h
 refine Subscript_ (thn (he pins s σ H _ I h) fun v s1 ⟨x,H1,I1,r1,q1⟩ => ?_)
 refine wpAny_Slice (thn (hl pins s1 σ H1 _ I1 q1) fun vl s2 ⟨l,H2,I2,pl,q2⟩ => thn (hu pins s2 σ H2 _ I2 q2) fun vu s3 ⟨u,H3,I3,pu,q3⟩ => ?_)
 rw [evalPart_none]
 refine wpAny_pure ?_
 have I4:Inv X pins σ H3 { s3 with heap:=s3.heap.push { cls:=.type "slice", data:=.fields #[vl, vu, .none] } }:=I3.kept (t':=s3.toks) fun b ob q => Heap.get?_push_of_some _ q
 obtain ⟨T, id, hT, ht, hg⟩:=hr pins { s3 with heap:=s3.heap.push { cls:=.type "slice", data:=.fields #[vl, vu, .none] } } σ H3 x v vl vu l u s3.heap.objs.size Q I4 r1 (Heap.IsSliceOf.new ..) pl pu q3
 show wpAny (model X.prog X.w) X.A (subscriptTail e (.Slice lo hi none p2) v (.ref s3.heap.objs.size)) (EP X pins σ Q) X.xe { s3 with heap:=s3.heap.push { cls:=.type "slice", data:=.fields #[vl, vu, .none] } }
 exact tail_any (ops:=[.ref s3.heap.objs.size,v]) ht hT hg (by with_unfolding_all rfl)
noncomputable def cutV (xs:List V) (lo hi:Option Int):List V:=(xs.drop (HT.sIx xs.length 0 lo)).take (HT.sIx xs.length xs.length hi - HT.sIx xs.length 0 lo)
theorem cutV_length (xs:List V) (lo hi:Option Int):(cutV xs lo hi).length ≤ xs.length:=by
 unfold cutV
 rw [List.length_take,List.length_drop]
 trivial
end
end L2
namespace L2
open PySem PySem.Spec PyProof.Rows
noncomputable def ixN (n:Nat) (i:Int):Option Nat:=if 0 ≤ i then (if i < n then some i.toNat else none) else if -(n:Int) ≤ i then some (i + n).toNat else none
noncomputable def atI {α:Type} (xs:List α) (i:Int):Option α:=(ixN xs.length i).bind fun j => xs[j]?
theorem ixN_seq {n:Nat} {i:Int} {j:Nat} (h:ixN n i = some j):seqIndex? i n = some j∧j < n∧-(n:Int) ≤ i∧i < n:=by
 unfold ixN at h
 by_cases h0:0 ≤ i
 ·rw [if_pos h0] at h
  by_cases h1:i < n
  ·rw [if_pos h1] at h
   have e:i.toNat = j:=Option.some.inj h
   exact ⟨by rw [seqIndex_of h0 h1,e],by trivial,by trivial,h1⟩
  ·rw [if_neg h1] at h; cases h
 ·rw [if_neg h0] at h
  by_cases h1:-(n:Int) ≤ i
  ·rw [if_pos h1] at h
   have e:(i + n).toNat = j:=Option.some.inj h
   exact ⟨by rw [seqIndex_neg (by trivial) h1,e],by trivial,h1,by trivial⟩
  ·rw [if_neg h1] at h; cases h
theorem atI_get {α:Type} {xs:List α} {i:Int} {v:α} (h:atI xs i = some v):∃ j,seqIndex? i xs.length = some j∧xs[j]? = some v∧j < xs.length∧-(xs.length:Int) ≤ i∧i < xs.length:=by
 unfold atI at h
 cases e:ixN xs.length i with
 | none => rw [e] at h; cases h
 | some j =>
  rw [e] at h
  obtain ⟨h1,h2,h3,h4⟩:=ixN_seq e
  exact ⟨j,h1,h,h2,h3,h4⟩
theorem atI_nat {α:Type} {xs:List α} {j:Nat} {v:α} (h:xs[j]? = some v):atI xs (j:Int) = some v:=by
 have hj:j < xs.length:=(List.getElem?_eq_some_iff.mp h).1
 have e:ixN xs.length (j:Int) = some j:=by
  unfold ixN
  rw [if_pos (by trivial),if_pos (by trivial)]; simp
 unfold atI; rw [e]; exact h
noncomputable def PlainIx (b:Expr):Prop:=∀ o i,subscripted b false o i = operate [o,i] (getItem o i)
noncomputable def IxR (X:Cx) (r:R2):Prop :=
 ∀ (value slice:Expr) (pins:List (Addr × Obj)) (s:Shared) (σ:St) (H:Hp) (x y:V) (v u:Value) (Q:VK),Inv X pins σ H s -> RelV x v -> RelV y u -> r x y H Q →
  subscripted slice false v u = operate [v,u] (getItem v u) -> wpAny (model X.prog X.w) X.A (subscriptTail value slice v u) (EP X pins σ Q) X.xe s
noncomputable def MtR (X:Cx) (id:String) (r:V -> List V -> Hp -> VK -> Prop):Prop :=
 ∀ (pins:List (Addr × Obj)) (s:Shared) (σ:St) (H:Hp) (x:V) (xs:List V) (v:Value) (us:List Value) (Q:VK),Inv X pins σ H s -> RelV x v -> Vals xs us -> r x xs H Q →
  wpAny (model X.prog X.w) X.A (call (.builtin id) (v :: us)) (EP X pins σ Q) X.xe s
section
variable {X:Cx} {a b:Expr} {ta tb:TE} {pos:Pos}
theorem pe_ix {r:R2} (hr:IxR X r) (ha:PE X a ta) (hb:PE X b tb) (hs:PlainIx b):PE X (.Subscript a b pos) (tOp r ta tb):=by
 intro pins s σ H Q I h
 exact Subscript_ (binT ha hb I h fun v u s2 x y H2 I2 rx ry q => hr a b pins s2 σ H2 x y v u Q I2 rx ry q (hs _ _))
noncomputable def rIxL (K:PySem.W.Frag):R2:=fun x y H Q => ∃ p xs i v,x = .ref p∧y = .int i∧SqL K H p xs∧atI xs i = some v∧Q v H
noncomputable def rIxT (K:PySem.W.Frag):R2:=fun x y H Q => ∃ p xs i v,x = .ref p∧y = .int i∧SqT K H p xs∧atI xs i = some v∧Q v H
theorem ix_list:IxR X (rIxL X.K):=by
 intro value slice pins s σ H x y v u Q I rx ry h hs
 obtain ⟨p,xs,i,z,rfl,rfl,hq,he,q⟩:=h
 cases rx
 obtain ⟨t,rfl⟩:=ry
 obtain ⟨its,r,pl,hz⟩:=I.list hq
 obtain ⟨j,h1,h2,h3,h4,h5⟩:=atI_get he
 obtain ⟨w,ew,rw'⟩:=r.get h2
 have hl:=r.length
 have hn:=line63
 have fin:EP X pins σ Q w s:=⟨z,H,I,rw',q⟩
 by_cases h0:0 ≤ i
 ·have hj:i.toNat = j:=by
   rw [seqIndex_of h0 h5] at h1
   exact Option.some.inj h1
  exact item_listR pl.isList h0 (by trivial) (by rw [hj]; simpa using ew) fin hs
 ·have hj:(i + (its.toArray.size:Int)).toNat = j:=by
   rw [seqIndex_neg (by trivial) h4] at h1
   rw [List.size_toArray,← hl]
   exact Option.some.inj h1
  exact subscriptTail_builtinR (x:=w) pl.isList.typeIs slot_list_getitem.lookup
   (wpAny_getItem_list_neg (Q:=fun r s' => r = w∧EP X pins σ Q r s') pl.isList (by trivial) (by rw [List.size_toArray] <;> trivial) (by trivial) (by rw [hj]; simpa using ew) ⟨rfl,fin⟩) hs
theorem ix_tup:IxR X (rIxT X.K):=by
 intro value slice pins s σ H x y v u Q I rx ry h hs
 obtain ⟨p,xs,i,z,rfl,rfl,hq,he,q⟩:=h
 cases rx
 obtain ⟨t,rfl⟩:=ry
 obtain ⟨its,r,pl,hz⟩:=I.tuple hq
 obtain ⟨j,h1,h2,h3,h4,h5⟩:=atI_get he
 obtain ⟨w,ew,rw'⟩:=r.get h2
 have hl:=r.length
 have hn:=line63
 have fin:EP X pins σ Q w s:=⟨z,H,I,rw',q⟩
 exact subscriptTail_builtinR (x:=w) pl.typeIs slot_tuple_getitem.lookup
  (getItem_tuple (j:=j) (Q:=fun r s' => r = w∧EP X pins σ Q r s') pl (by trivial) (by trivial) (by rw [List.size_toArray,← hl]; exact h1) (by simpa using ew) ⟨rfl,fin⟩) hs
theorem mapSeq_set (its:List Value) (n j:Nat) (u:Value):Obj.mapSeq (·.setIfInBounds j u) { cls:=.type "list", data:=.seq its.toArray n } = { cls:=.type "list", data:=.seq (its.set j u).toArray n }:=by
 simp [Obj.mapSeq]
theorem Inv.lst {pins:List (Addr × Obj)} {σ:St} {H:Hp} {s:Shared} {p:Addr} {xs:List V} (I:Inv X pins σ H s) (h:H p = some (.lst xs)) :
  ∃ (its:List Value) (n:Nat), Vals xs its∧s.heap.get? p = some { cls:=.type "list", data:=.seq its.toArray n }∧xs.length ≤ sizeLine:=by
 obtain ⟨z,its,n,r,e⟩:=I.hok p _ h
 exact ⟨its,n,r,e,z⟩
theorem Inv.lstUpd {pins:List (Addr × Obj)} {σ:St} {H:Hp} {s:Shared} {p:Addr} {xs ys:List V} {its its':List Value} {n n':Nat} {f:Obj -> Obj} (I:Inv X pins σ H s) (h:H p = some (.lst xs))
  (ho:s.heap.get? p = some { cls:=.type "list", data:=.seq its.toArray n }) (hf:f { cls:=.type "list", data:=.seq its.toArray n } = { cls:=.type "list", data:=.seq its'.toArray n' }) (r:Vals ys its') (hz:ys.length ≤ sizeLine) (t:Nat) :
  Inv X pins σ (upd H p (.lst ys)) { s with heap:=s.heap.update p f,toks:=t }:=by
 have e:(s.heap.update p f).get? p = some { cls:=.type "list", data:=.seq its'.toArray n' }:=by
  rw [Heap.get?_update_self f ho (by rw [hf] <;> rfl),hf]
 refine I.write (x:=p) (e:=p) (by rw [h]; trivial) (.inl rfl) (fun b u hb q => (Heap.get?_update_other _ _ (Ne.symm hb)).trans q) ⟨_,e⟩ ?_
 exact ⟨hz,its',n',r,e⟩
noncomputable def rSetL:V -> V -> V -> Hp -> (Hp -> Prop) -> Prop:=fun o i v H Q => ∃ p xs k j,o = .ref p∧i = .int k∧H p = some (.lst xs)∧ixN xs.length k = some j∧Q (upd H p (.lst (xs.set j v)))
theorem set_list:PSet X rSetL:=by
 intro pins s σ H o i v ov iv u Q I ro ri rv h
 obtain ⟨p,xs,k,j,rfl,rfl,hp,hj,q⟩:=h
 cases ro
 obtain ⟨t,rfl⟩:=ri
 obtain ⟨its,n,r,ho,hz⟩:=I.lst hp
 obtain ⟨h1,h2,h3,h4⟩:=ixN_seq hj
 have hl:=r.length
 have hn:=line63
 have I':Inv X pins σ (upd H p (.lst (xs.set j v))) { s with heap:=s.heap.update p (Obj.mapSeq (·.setIfInBounds j u)) } :=
  I.lstUpd hp ho (mapSeq_set its n j u) (r.set rv j) (by rw [List.length_set]; exact hz) s.toks
 by_cases h0:0 ≤ k
 ·have hk:k.toNat = j:=by
   rw [seqIndex_of h0 h4] at h1
   exact Option.some.inj h1
  exact PySem.W.ki_setAt ho h0 (by trivial) (by rw [List.size_toArray,← hl]; exact h4) (by rw [hk]; exact ⟨_,I',q⟩)
 ·have hk:(k + (its.toArray.size:Int)).toNat = j:=by
   rw [seqIndex_neg (by trivial) h3] at h1
   rw [List.size_toArray,← hl]
   exact Option.some.inj h1
  exact PySem.W.ki_setBack ho (by trivial) (by rw [List.size_toArray,← hl]; exact h3) (by trivial) (by rw [hk]; exact ⟨_,I',q⟩)
theorem slice_bounds (lo hi:Option Int) (n:Nat):(sliceBounds lo hi none n).1 = ((HT.sIx n 0 lo:Nat):Int)∧(sliceBounds lo hi none n).2.1 = ((HT.sIx n n hi:Nat):Int)∧(sliceBounds lo hi none n).2.2 = 1:=by
 refine ⟨?_,?_,rfl⟩
 ·cases lo with
  | none => simp [sliceBounds,HT.sIx]
  | some i =>
   simp only [sliceBounds,HT.sIx,Option.getD_none,show (1:Int) > 0 by decide,if_true]
   by_cases h:i < 0
   ·simp only [h,if_true] <;> trivial
   ·simp only [h,if_false] <;> trivial
 ·cases hi with
  | none => simp [sliceBounds,HT.sIx]
  | some i =>
   simp only [sliceBounds,HT.sIx,Option.getD_none,show (1:Int) > 0 by decide,if_true]
   by_cases h:i < 0
   ·simp only [h,if_true] <;> trivial
   ·simp only [h,if_false] <;> trivial
theorem slicePick_cut (its:List Value) (lo hi:Option Int):slicePick its.toArray lo hi none = ((its.drop (HT.sIx its.length 0 lo)).take (HT.sIx its.length its.length hi - HT.sIx its.length 0 lo)).toArray:=by
 obtain ⟨h1,h2,h3⟩:=slice_bounds lo hi its.toArray.size
 unfold slicePick
 rw [h1,h2,h3]
 simp only [sliceRange_one,pick_run,List.size_toArray] <;> rfl
noncomputable def rSlL (K:PySem.W.Frag):V -> Option Int -> Option Int -> Hp -> VK -> Prop:=fun x lo hi H Q => ∃ a xs,x = .ref a∧SqL K H a xs∧∀ p,H p = none -> Q (.ref p) (upd H p (.lst (cutV xs lo hi)))
theorem sl_list:SlR X (rSlL X.K):=by
 intro pins s σ H x v vl vu lo hi sl Q I rx hs pl pu h
 obtain ⟨a,xs,rfl,hx,q⟩:=h
 cases rx
 obtain ⟨its,r,ht,hz⟩:=I.list hx
 have hlen:=r.length
 refine ⟨"list", _, slot_list_getitem.lookup, ht.isList.typeIs, ?_⟩
 refine wpAny_getItem_list_slice ht.isList hs pl pu .none (by simp) ?_ (by rw [List.size_toArray] <;> trivial)
 rw [slicePick_cut,← hlen]
 refine ⟨.ref s.heap.objs.size,_,I.laid (t':=s.toks) (o:=.lst (cutV xs lo hi)) (fun b ob q => Heap.get?_push_of_some _ q) (Nat.le_refl _) ?_,rfl,q _ (I.hok.fresh (Nat.le_refl _))⟩
 exact ⟨Nat.le_trans (cutV_length xs lo hi) hz,_,0,(r.drop (HT.sIx xs.length 0 lo)).take (HT.sIx xs.length xs.length hi - HT.sIx xs.length 0 lo),Heap.get?_push_size _ rfl⟩
noncomputable def flatV:V -> Bool
 | .non => true
 | .bl _ => true
 | .int _ => true
 | .str _ => true
 | _ => false
noncomputable def eqV:V -> V -> Bool
 | .non,.non => true
 | .bl a,.bl b => a == b
 | .bl a,.int b => (if a then 1 else 0) == b
 | .int a,.bl b => a == (if b then 1 else 0)
 | .int a,.int b => a == b
 | .str a,.str b => a == b
 | _,_ => false
theorem eqAt_V {A:Around} {s:Shared} {y x:V} {u v:Value} (ry:RelV y u) (rx:RelV x v) (fy:flatV y = true) (fx:flatV x = true):SeqAt.EqAt A s u v (eqV y x):=by
 cases y with
 | non =>
  cases ry
  cases x with
  | non => cases rx; exact SeqAt.EqAt.same _
  | bl b => cases rx; exact SeqAt.EqAt.none_bool b
  | int b => obtain ⟨t,rfl⟩:=rx; exact SeqAt.EqAt.none_int b t
  | str b => obtain ⟨t,rfl⟩:=rx; exact SeqAt.EqAt.none_str b t
  | _ => exact absurd (show false = true from fx) Bool.false_ne_true
 | bl a =>
  cases ry
  cases x with
  | non => cases rx; exact SeqAt.EqAt.bool_none a
  | bl b => cases rx; exact SeqAt.EqAt.bool_bool a b
  | int b => obtain ⟨t,rfl⟩:=rx; exact SeqAt.EqAt.bool_int a b t
  | str b => obtain ⟨t,rfl⟩:=rx; exact SeqAt.EqAt.bool_str a b t
  | _ => exact absurd (show false = true from fx) Bool.false_ne_true
 | int a =>
  obtain ⟨t',rfl⟩:=ry
  cases x with
  | non => cases rx; exact SeqAt.EqAt.int_none a t'
  | bl b => cases rx; exact SeqAt.EqAt.int_bool a t' b
  | int b => obtain ⟨t,rfl⟩:=rx; exact SeqAt.EqAt.int_int a t' b t
  | str b => obtain ⟨t,rfl⟩:=rx; exact SeqAt.EqAt.int_str a t' b t
  | _ => exact absurd (show false = true from fx) Bool.false_ne_true
 | str a =>
  obtain ⟨t',rfl⟩:=ry
  cases x with
  | non => cases rx; exact SeqAt.EqAt.str_none a t'
  | bl b => cases rx; exact SeqAt.EqAt.str_bool a t' b
  | int b => obtain ⟨t,rfl⟩:=rx; exact SeqAt.EqAt.str_int a t' b t
  | str b => obtain ⟨t,rfl⟩:=rx; exact SeqAt.EqAt.str_str a t' b t
  | _ => exact absurd (show false = true from fx) Bool.false_ne_true
 | _ => exact absurd (show false = true from fy) Bool.false_ne_true
noncomputable def eqU (x:V) (u:Value):Bool:=match u with
 | .none => eqV .non x
 | .bool b => eqV (.bl b) x
 | .int i _ => eqV (.int i) x
 | .str z _ => eqV (.str z) x
 | _ => false
theorem eqU_of {x y:V} {u:Value} (r:RelV y u) (f:flatV y = true):eqU x u = eqV y x:=by
 cases y with
 | non => cases r; rfl
 | bl b => cases r; rfl
 | int i => obtain ⟨t,rfl⟩:=r; rfl
 | str z => obtain ⟨t,rfl⟩:=r; rfl
 | _ => exact absurd (show false = true from f) Bool.false_ne_true
theorem mem_eqAt {A:Around} {s:Shared} {x:V} {v:Value} (rx:RelV x v) (fx:flatV x = true):∀ {xs:List V} {us:List Value},Vals xs us -> xs.all flatV = true -> ∀ u ∈ us,SeqAt.EqAt A s u v (eqU x u)
 | _,_,.nil,_ => fun u hu => by cases hu
 | y :: xs,u :: us,.cons r t,f => fun u' hu => by
  rw [List.all_cons,Bool.and_eq_true] at f
  rcases List.mem_cons.mp hu with rfl | hu
  ·rw [eqU_of r f.1]; exact eqAt_V r rx f.1 fx
  ·exact mem_eqAt rx fx t f.2 u' hu
theorem call_len_seq:CallR X (.builtin "len") (fun xs H Q => ∃ p ys, xs = [.ref p]∧(SqL X.K H p ys ∨ SqT X.K H p ys)∧Q (.int ys.length) H):=by
 intro pins s σ H xs us Q I r h
 obtain ⟨p,ys,rfl,hq,q⟩:=h
 obtain ⟨u,rfl,rx⟩:=vals1 r
 cases rx
 have hn:=line63
 rcases hq with hq | hq
 ·obtain ⟨its,r',pl,hz⟩:=I.list hq
  have hlen:=r'.length
  exact Calls.call_len_list pl.isList (by simp only [List.size_toArray] <;> trivial) ⟨.int ys.length,H,I.tok _,⟨s.toks + 1,by rw [List.size_toArray,hlen]⟩,q⟩
 ·obtain ⟨its,r',pl,hz⟩:=I.tuple hq
  have hlen:=r'.length
  exact len_tuple pl (by simp only [List.size_toArray] <;> trivial) ⟨.int ys.length,H,I.tok _,⟨s.toks + 1,by rw [List.size_toArray,hlen]⟩,q⟩
theorem call_list_of:CallR X (.type "list") (fun xs H Q => ∃ p ys, xs = [.ref p]∧(SqL X.K H p ys ∨ SqT X.K H p ys)∧∀ l, H l = none -> Q (.ref l) (upd H l (.lst ys))):=by
 intro pins s σ H xs us Q I r h
 obtain ⟨p,ys,rfl,hq,q⟩:=h
 obtain ⟨u,rfl,rx⟩:=vals1 r
 cases rx
 have fin:∀ (its:List Value),Vals ys its -> ys.length ≤ sizeLine -> ∀ (h':Heap) (c':Nat),(∀ b o',s.heap.get? b = some o' -> h'.get? b = some o') →
   h'.get? s.heap.objs.size = some { cls:=.type "list", dict:=none, data:=.seq its.toArray c', slots:=#[] } -> EP X pins σ Q (.ref s.heap.objs.size) { s with heap:=h' }:=fun its r' hz h' c' kp e =>
  ⟨.ref s.heap.objs.size,_,I.laid (t':=s.toks) kp (Nat.le_refl _) (show ObjOk X.prog X.w _ h' _ (.lst ys) from ⟨hz,its,c',r',e⟩),rfl,q _ (I.hok.fresh (Nat.le_refl _))⟩
 rcases hq with hq | hq
 ·obtain ⟨its,r',pl,hz⟩:=I.list hq
  have hlen:=r'.length
  obtain ⟨o,ho,hc,n,hd⟩:=pl.isList
  exact call_list_seq p (.inl rfl) ho hc hd (fun h' c' kp e => fin its r' hz h' c' kp e) (by simp only [List.size_toArray] <;> trivial)
 ·obtain ⟨its,r',pl,hz⟩:=I.tuple hq
  have hlen:=r'.length
  obtain ⟨o,ho,hc,n,hd⟩:=pl
  exact call_list_seq p (.inr rfl) ho hc hd (fun h' c' kp e => fin its r' hz h' c' kp e) (by simp only [List.size_toArray] <;> trivial)
noncomputable def tyV (K:PySem.W.Frag) (T:String) (x:V) (H:Hp):Prop:=match x with
 | .str _ => T = "str"
 | .int _ => T = "int"
 | .ref p => (T = "list"∧∃ xs, SqL K H p xs) ∨ (T = "tuple"∧∃ o, K.lookup p = some o∧o.cls = .type "tuple"∧o.dict = none) ∨
   (T = "dict"∧((∃ kvs, H p = some (.dK kvs)) ∨ ∃ kvs, H p = some (.dT kvs))) ∨ (T = "set"∧∃ S n, H p = some (.set S n))
 | _ => False
theorem tyV_is {pins:List (Addr × Obj)} {σ:St} {H:Hp} {s:Shared} {T:String} {x:V} {v:Value} (I:Inv X pins σ H s) (r:RelV x v) (ty:tyV X.K T x H) :
  s.TypeIs v T∧∀ a,v = .ref a -> ∃ ob,s.heap.get? a = some ob∧ob.dict = none:=by
 cases x with
 | str z =>
  obtain ⟨t,rfl⟩:=r
  cases (show T = "str" from ty)
  exact ⟨typeIs_str s z t,fun _ e => nomatch e⟩
 | int i =>
  obtain ⟨t,rfl⟩:=r
  cases (show T = "int" from ty)
  exact ⟨typeIs_int s i t,fun _ e => nomatch e⟩
 | ref p =>
  cases r
  rcases ty with ⟨rfl,xs,hq⟩ | ⟨rfl,o,hk,hc,hd⟩ | ⟨rfl,hk⟩ | ⟨rfl,S,n,hk⟩
  ·obtain ⟨its,_,pl,_⟩:=I.list hq
   refine ⟨pl.isList.typeIs,fun a e => ?_⟩
   cases e
   obtain ⟨o,n,e,c,hd,_⟩:=pl
   exact ⟨o,e,hd⟩
  ·refine ⟨⟨o,I.kIn p o hk,hc⟩,fun a e => ?_⟩
   cases e
   exact ⟨o,I.kIn _ o hk,hd⟩
  ·have z:∃ o,s.heap.get? p = some o∧o.ExactDict:=by
    rcases hk with ⟨kvs,hk⟩ | ⟨kvs,hk⟩
    ·obtain ⟨_,_,_,_,o,_,_,e,ex,_⟩:=I.hok p _ hk
     exact ⟨o,e,ex⟩
    ·obtain ⟨_,_,_,_,o,_,_,e,ex,_⟩:=I.hok p _ hk
     exact ⟨o,e,ex⟩
   obtain ⟨o,e,ex⟩:=z
   refine ⟨⟨o,e,ex.1⟩,fun a e2 => ?_⟩
   cases e2
   exact ⟨o,e,ex.2.1⟩
  ·obtain ⟨o,_,_,_,e,ex,_⟩:=I.hok p _ hk
   refine ⟨⟨o,e,ex.1⟩,fun a e2 => ?_⟩
   cases e2
   exact ⟨o,e,ex.2.1⟩
 | _ => exact False.elim ty
noncomputable def tBM (K:PySem.W.Frag) (T:String) (r:V -> List V -> Hp -> VK -> Prop) (to:TE) (t:TA):TE:=fun σ H Q => to σ H fun x H1 => tyV K T x H1∧t σ H1 fun xs H2 => r x xs H2 Q
variable {o e:Expr} {es:List Expr} {to:TE} {t:TA} {name:Str} {apos cpos:Pos} {T id:String} {r:V -> List V -> Hp -> VK -> Prop}
theorem pe_bm (pa:PlainAttrs T) (slot:Slot T name id) (hty:typeOf (.builtin id) = pure (.type "method_descriptor")) (hm:MtR X id r) (ho:PE X o to) (ha:PA X (e :: es) t)
  (hbase:attributeBase o name X.env (eval o X.env) = eval o X.env:=by rfl)
  (hfew:((backTo cpos (starEach (e :: es) X.env)).all (fun x => !x.1) && (backToKw cpos (keywordEach [] X.env)).all (fun x => x.1.isSome)
   && decide ((e :: es).length + ([]:List Keyword).length + (if ([]:List Keyword).isEmpty then 0 else 1) < 30)) = true:=by rfl)
  (hline:(apos.endLine == cpos.line) = true:=by rfl) (hs:starEach (e :: es) X.env = (false,eval e X.env) :: starEach es X.env:=by rfl) (hplain:(backTo cpos (starEach es X.env)).any (·.1) = false:=by rfl) :
  PE X (.Call (.Attribute o name apos) (e :: es) [] cpos) (tBM X.K T r to t):=by
 intro pins s σ H Q I h
 refine wpAny_Call_method_late hbase hfew hline rfl (thn (ho pins s σ H _ I h) fun v s1 ⟨x,H1,I1,r1,ty,q1⟩ => ?_)
 obtain ⟨h1,h2⟩:=tyV_is I1 r1 ty
 refine ⟨T,id,pa,slot,hty,h1,h2,?_⟩
 have hA:=ha cpos pins s1 σ H1 _ I1 q1
 rw [hs] at hA ⊢
 refine Calls.callWith_builtin (by show (false || (backTo cpos (starEach es X.env)).any (·.1)) = false; rw [hplain] <;> rfl) (Calls.evalArgs_plain ?_)
 exact thn hA fun us s2 ⟨vs,H2,I2,r2,q2⟩ => hm pins s2 σ H2 x vs v us Q I2 r1 r2 q2
end
end L2
namespace L2
open PySem PySem.Spec PyProof.Rows
noncomputable def MtM (X:Cx) (id:String) (r:V -> List V -> Hp -> VK -> Prop):Prop :=
 ∀ (pins:List (Addr × Obj)) (s:Shared) (σ:St) (H:Hp) (x:V) (xs:List V) (v:Value) (us:List Value) (Q:VK),Inv X pins σ H s -> RelV x v -> Vals xs us -> r x xs H Q →
  wpAny (model X.prog X.w) X.A (call (.builtin id) (v :: us)) (EP X pins σ Q) X.xe s
theorem Vals.one:∀ {x:V} {us:List Value},Vals [x] us -> ∃ u,us = [u]∧RelV x u
 | _,_,.cons r .nil => ⟨_,rfl,r⟩
theorem Vals.two:∀ {x y:V} {us:List Value},Vals [x,y] us -> ∃ u v,us = [u,v]∧RelV x u∧RelV y v
 | _,_,_,.cons r (.cons q .nil) => ⟨_,_,rfl,r,q⟩
theorem Vals.rep {xs:List V} {us:List Value} (h:Vals xs us):∀ k:Nat,Vals (List.replicate k xs).flatten (List.replicate k us).flatten
 | 0 => .nil
 | k + 1 => by
  rw [List.replicate_succ,List.replicate_succ,List.flatten_cons,List.flatten_cons]
  exact Vals.append h (Vals.rep h k)
theorem foldl_rep (its:List Value):∀ (k:Nat) (acc:List Value),
  List.foldl (fun x1 x2 => x1 ++ x2) acc.toArray (List.replicate k its.toArray) = (acc ++ (List.replicate k its).flatten).toArray
 | 0,acc => by simp
 | k + 1,acc => by
  have e:acc.toArray ++ its.toArray = (acc ++ its).toArray:=by simp
  have e2:(acc ++ its) ++ (List.replicate k its).flatten = acc ++ (List.replicate (k + 1) its).flatten:=by
   rw [List.replicate_succ,List.flatten_cons,List.append_assoc]
  rw [← e2,← foldl_rep its k (acc ++ its),← e,List.replicate_succ,List.foldl_cons]
section
variable {X:Cx} {pins:List (Addr × Obj)} {σ:St} {H:Hp} {s:Shared} {l b:Addr} {xs ys zs:List V}
theorem Inv.lset {its its':List Value} {n:Nat} {f:Array Value -> Array Value} {t':Nat} (I:Inv X pins σ H s) (hH:H l = some (.lst xs))
  (e:s.heap.get? l = some { cls:=.type "list", data:=.seq its.toArray n }) (hf:f its.toArray = its'.toArray) (hv:Vals ys its') (hz:ys.length ≤ sizeLine) :
  Inv X pins σ (upd H l (.lst ys)) { s with heap:=s.heap.update l (Obj.mapSeq f),toks:=t' }:=by
 have q:=PySem.IsL.update e f
 rw [hf] at q
 refine I.write (x:=l) (e:=l) (by rw [hH]; exact trivial) (.inl rfl) (fun b' u hb hu => (Heap.get?_update_other s.heap (Obj.mapSeq f) (Ne.symm hb)).trans hu) ⟨_,q⟩ ?_
 exact ⟨hz,its',_,hv,q⟩
theorem Inv.lnew {its:List Value} {t':Nat} (I:Inv X pins σ H s) (hv:Vals ys its) (hz:ys.length ≤ sizeLine) :
  Inv X pins σ (upd H s.heap.objs.size (.lst ys)) { s with heap:=s.heap.push { cls:=.type "list", data:=.seq its.toArray }, toks:=t' } :=
 I.laid (fun _ _ q => Heap.get?_push_of_some _ q) (Nat.le_refl _) ⟨hz,its,0,hv,Heap.get?_push_size _ rfl⟩
theorem Inv.fresh (I:Inv X pins σ H s):H s.heap.objs.size = none:=I.hok.fresh (Nat.le_refl _)
theorem Inv.lstM (I:Inv X pins σ H s) (hH:H l = some (.lst xs)):xs.length ≤ sizeLine∧∃ (its:List Value) (n:Nat), Vals xs its∧xs.length = its.length∧s.heap.get? l = some { cls:=.type "list", data:=.seq its.toArray n }:=by
 obtain ⟨z,its,n,r,e⟩:=I.hok l _ hH
 exact ⟨z,its,n,r,r.length,e⟩
theorem notLongL {n:Nat} (h:n ≤ sizeLine):Builtin.List.listTooLong n = false:=by
 unfold Builtin.List.listTooLong
 exact decide_eq_false (by trivial)
end
section
variable {X:Cx}
noncomputable def rAppend:V -> List V -> Hp -> VK -> Prop:=fun x vs H Q => ∃ l xs y,x = .ref l∧vs = [y]∧H l = some (.lst xs)∧xs.length < sizeLine∧Q .non (upd H l (.lst (xs ++ [y])))
theorem mt_append:MtM X "list.append" rAppend:=by
 intro pins s σ H x vs v us Q I rx rv h
 obtain ⟨l,xs,y,rfl,rfl,hH,hz,q⟩:=h
 cases rx
 obtain ⟨u,rfl,ru⟩:=rv.one
 obtain ⟨z,its,n,r,hl,e⟩:=I.lstM hH
 refine call_meets F.slot_list_append ⟨_,e,rfl⟩ F.entry_list_append (F.args_list_append_2 _ _) (PySem.list_append l its.toArray n u (by rw [List.size_toArray]; trivial)) ⟨e,?_⟩
 refine ⟨.non,_,I.lset (its':=its ++ [u]) hH e (by simp) (r.append (.cons ru .nil)) ?_,rfl,q⟩
 rw [List.length_append,List.length_singleton]
 trivial
noncomputable def rExtend:V -> List V -> Hp -> VK -> Prop:=fun x vs H Q => ∃ l b xs zs,x = .ref l∧vs = [.ref b]∧H l = some (.lst xs)∧H b = some (.lst zs)∧xs.length + zs.length ≤ sizeLine∧Q .non (upd H l (.lst (xs ++ zs)))
theorem mt_extend:MtM X "list.extend" rExtend:=by
 intro pins s σ H x vs v us Q I rx rv h
 obtain ⟨l,b,xs,zs,rfl,rfl,hH,hB,hz,q⟩:=h
 cases rx
 obtain ⟨u,rfl,ru⟩:=rv.one
 cases ru
 obtain ⟨z,its,n,r,hl,e⟩:=I.lstM hH
 obtain ⟨z2,its2,n2,r2,hl2,e2⟩:=I.lstM hB
 have hsz:its.toArray.size + its2.toArray.size ≤ sizeLine:=by rw [List.size_toArray,List.size_toArray]; trivial
 have hlong:¬ (!its.toArray.isEmpty && Builtin.List.listTooLong (its.toArray.size + its2.toArray.size)) = true:=by
  rw [notLongL hsz,Bool.and_false]
  exact Bool.false_ne_true
 refine call_meets F.slot_list_extend ⟨_,e,rfl⟩ F.entry_list_extend (F.args_list_extend_2 _ _)
  (AutoSeq1.list_extend_list_list_0 l its.toArray n b its2.toArray n2 hlong (by rw [List.size_toArray]; trivial) (by trivial)) ⟨e,e2,?_⟩
 refine ⟨.non,_,I.lset (its':=its ++ its2) hH e (by simp) (r.append r2) ?_,rfl,q⟩
 rw [List.length_append]
 trivial
noncomputable def rCat:R2:=fun x y H Q => ∃ l b xs zs,x = .ref l∧y = .ref b∧H l = some (.lst xs)∧H b = some (.lst zs)∧xs.length + zs.length ≤ sizeLine∧∀ p,H p = none -> Q (.ref p) (upd H p (.lst (xs ++ zs)))
theorem op_cat:OpR X (binaryOp .Add) rCat:=by
 intro pins s σ H x y v u Q I rx ry h
 obtain ⟨l,b,xs,zs,rfl,rfl,hH,hB,hz,q⟩:=h
 cases rx
 cases ry
 obtain ⟨z,its,n,r,hl,e⟩:=I.lstM hH
 obtain ⟨z2,its2,n2,r2,hl2,e2⟩:=I.lstM hB
 refine PySem.P.add_list e e2 ?_ (by rw [List.size_toArray,List.size_toArray]; trivial)
 have ea:its.toArray ++ its2.toArray = (its ++ its2).toArray:=by simp
 rw [ea]
 exact ⟨.ref _,_,I.lnew (t':=s.toks) (r.append r2) (by rw [List.length_append]; trivial),rfl,q _ I.fresh⟩
noncomputable def rRep:R2:=fun x y H Q => ∃ l k xs,x = .ref l∧y = .int k∧H l = some (.lst xs)∧-(2 ^ 63) ≤ k∧k < 2 ^ 63∧xs.length * k.toNat ≤ sizeLine ∧
 ∀ p,H p = none -> Q (.ref p) (upd H p (.lst (List.replicate k.toNat xs).flatten))
theorem len_rep {α:Type} (xs:List α) (k:Nat):(List.replicate k xs).flatten.length = k * xs.length:=by
 induction k with
 | zero => simp
 | succ k ih => rw [List.replicate_succ,List.flatten_cons,List.length_append,ih,Nat.succ_mul,Nat.add_comm]
theorem op_rep:OpR X (binaryOp .Mult) rRep:=by
 intro pins s σ H x y v u Q I rx ry h
 obtain ⟨l,k,xs,rfl,rfl,hH,h1,h2,hz,q⟩:=h
 cases rx
 obtain ⟨t,rfl⟩:=ry
 obtain ⟨z,its,n,r,hl,e⟩:=I.lstM hH
 have hlen:its.toArray.size * k.toNat ≤ sizeLine:=by rw [List.size_toArray,← hl]; exact hz
 have hcap:¬ its.toArray.size * k.toNat > (2 ^ 63 - 1) / 8:=by
  have:(sizeLine:Nat) ≤ (2 ^ 63 - 1) / 8:=by decide
  trivial
 have hfit:¬ (!Builtin.List.listFitsIndex k) = true:=by
  rw [fitsIndex_both h1 h2]
  exact Bool.false_ne_true
 have hlong:¬ Builtin.List.listTooLong (its.toArray.size * k.toNat) = true:=by
  rw [notLongL hlen]
  exact Bool.false_ne_true
 have hnew:List.foldl (fun x1 x2 => x1 ++ x2) #[] (List.replicate (if its.toArray.isEmpty = true then 0 else k.toNat) its.toArray) = (List.replicate k.toNat its).flatten.toArray:=by
  have f0:∀ m:Nat,List.foldl (fun x1 x2 => x1 ++ x2) #[] (List.replicate m its.toArray) = (List.replicate m its).flatten.toArray:=fun m => by
   have:=foldl_rep its m []
   rw [List.nil_append] at this
   exact this
  rw [f0]
  cases its with
  | nil => simp
  | cons a r' => rw [if_neg (by simp)]
 refine wpAny_binaryOp_repeat_ref (T:="list") (U:="int") (by decide) ⟨_, e, rfl⟩ (fun s' => typeIs_int s' k t) noFill_list_mul F.fills_int_mul F.slot_int_rmul repeat_list F.slot_int_index.lookup
  (call_meets F.slot_int_rmul (typeIs_int s k t) F.entry_int_rmul (F.args_int_rmul_2 _ _) (int___rmul___int_list k t l its.toArray n)
   ⟨e,rfl,⟨_,e,rfl⟩,call_meets F.slot_list_mul ⟨_,e,rfl⟩ F.entry_list_mul (F.args_list_mul_2 _ _) (AutoListH.list___mul___list_int_3 l its.toArray n k t hfit hcap hlong) ⟨e,?_⟩⟩)
 rw [hnew]
 exact ⟨.ref _,_,I.lnew (t':=s.toks) (r.rep k.toNat) (by rw [len_rep,Nat.mul_comm]; exact hz),rfl,q _ I.fresh⟩
end
section
variable {prog:Program} {w:World} {A:Around} {E:Value -> Shared -> Prop} {s:Shared}
theorem bounds_run {a c n:Nat} (hac:a ≤ c) (hc:c ≤ n):sliceBounds (some (a:Int)) (some (c:Int)) none n = ((a:Int),(c:Int),1):=by
 simp only [sliceBounds,Option.getD_none]
 have h1:¬ ((a:Int) < 0):=by trivial
 have h2:¬ ((c:Int) < 0):=by trivial
 simp only [h1,h2,if_false,show (1:Int) > 0 by decide,if_true]
 congr 1
 ·trivial
 ·congr 1; trivial
set_option maxRecDepth 100000 in
theorem setItem_slice {l b sl : Addr} {items new : Array Value} {n n2 : Nat} {vl vu : Value} {a c : Nat} {Q : Unit → Shared → Prop}
    (e : s.heap.get? l = some { cls := .type "list", data := .seq items n }) (e2 : s.heap.get? b = some { cls := .type "list", data := .seq new n2 }) (hne : l ≠ b)
    (hs : s.heap.IsSliceOf sl vl vu .none) (pl : IsPart vl (some (a : Int))) (pu : IsPart vu (some (c : Int))) (hac : a ≤ c) (hc : c ≤ items.size)
    (hsz : items.size + new.size ≤ sizeLine) (h : Q () { s with heap := s.heap.update l (Obj.mapSeq fun xs => xs.extract 0 a ++ new ++ xs.extract c xs.size) }) :
    wpAny (model prog w) A (setItem (.ref l) (.ref sl) (.ref b)) Q E s := by
  have hl : s.heap.IsList l items := PySem.IsL.isList e
  have hb : s.heap.IsList b new := PySem.IsL.isList e2
  obtain ⟨os,hos,hcs,hds⟩ := id hs
  have hTs : s.TypeIs (.ref sl) "slice" := ⟨os, hos, hcs⟩
  have hstep : ¬ ((rawPart none == rawInt 0) = true) := Bool.false_ne_true
  have hsame : Builtin.List.listSameRef (.ref l) (.ref b) = false := by
    unfold Builtin.List.listSameRef
    exact beq_eq_false_iff_ne.mpr hne
  have hmax : (max (a : Int) (c : Int)).toNat = c := by trivial
  have hz' : ((fun xs : Array Value => xs.extract 0 a ++ new ++ xs.extract c xs.size) items).size ≤ sizeLine + 1 := by
    simp only [Array.size_append,Array.size_extract]
    trivial
  unfold setItem
  try with_reducible refine wpAny_holding ?_
  first | refine wpAny_bind (wpAny_pure ?_) | skip
  refine wpAny_bind (wpAny_sequenceKey hl.typeIs (by decide) ?_)
  refine wpAny_bind (wpAny_callSpecial?_slot (name := Str.ofString "__setitem__") hl.typeIs slot_list_setitem
    (wpAny_call_entry slot_list_setitem hl.typeIs entry_list_setitem ?_ (args_list_setitem _ _ _)))
  show wpAny _ _ (Builtin.List.listSubscript? (.ref sl) >>= _) _ _ s
  refine wpAny_bind ?_
  unfold Builtin.List.listSubscript?
  refine wpAny_bind (wpAny_specialOf hTs slice_no_index ?_)
  simp only [Option.isNone_none,if_true]
  refine wpAny_pure ?_
  show wpAny _ _ (typeOf (.ref sl) >>= _) _ _ s
  refine wpAny_bind (wpAny_typeOf hTs ?_)
  first
    | rw [if_neg (by decide)]
    | refine PySem.W.KFB.if_not (by decide) ?_
  rw [listSliceParts_eq]
  refine wpAny_bind (wpAny_bind (wpAny_field hos hds (x := .none) rfl (wpAny_bind (wpAny_listPart .none ?_))))
  rw [if_neg hstep]
  refine wpAny_bind (wpAny_field hos hds (x := vl) rfl (wpAny_bind (wpAny_listPart pl ?_)))
  refine wpAny_bind (wpAny_field hos hds (x := vu) rfl (wpAny_bind (wpAny_listPart pu (wpAny_pure ?_))))
  first
    | simp only [hsame,Bool.false_eq_true,if_false]
    | refine PySem.W.KFB.if_not hsame ?_
    | (dsimp only
       rw [if_neg (by rw [hsame]; exact Bool.false_ne_true)])
  refine wpAny_bind (m := Builtin.List.listAllItems (.ref b) "must assign iterable to extended slice") ?_
  unfold Builtin.List.listAllItems
  refine wpAny_bind (wpAny_typeOf hb.typeIs ?_)
  first
    | refine PySem.W.KFB.if_so (by decide) ?_
    | rw [if_pos (by decide)]
    | simp only [beq_self_eq_true,Bool.true_or,if_true]
  unfold Builtin.List.listItems
  refine wpAny_bind (wpAny_seqItems e2 rfl (wpAny_pure ?_))
  refine wpAny_bind (wpAny_bind (wpAny_seqItems e rfl (wpAny_pure ?_)))
  refine wpAny_bind (wpAny_of_eq ((sliceIndices_raw (some (a : Int)) (some (c : Int)) none items.size (by simp)).trans (congrArg (pure : Int × Int × Int → Sem (Int × Int × Int)) (bounds_run hac hc))) ?_)
  show wpAny _ _ (if ((1 : Int) == 1) = true then _ else _) _ _ s
  rw [if_pos (by decide)]
  refine wpAny_bind (wpAny_rule ?_)
  first
    | simp only [notLongL hsz,Bool.false_eq_true,if_false]
    | refine PySem.W.KFB.if_not (notLongL hsz) ?_
  first | refine wpAny_bind (wpAny_pure ?_) | skip
  show wpAny _ _ (updateSeq l (fun xs => xs.extract 0 ((a : Int)).toNat ++ new ++ xs.extract (max (a : Int) (c : Int)).toNat xs.size) >>= _) _ _ s
  rw [hmax,Int.toNat_natCast]
  refine wpAny_bind (wpAny_updateSeq (hz := Nat.le_trans (Nat.le_add_right _ _) hsz) (_hz' := hz') e rfl ?_)
  refine wpAny_bind (wpAny_letGo ?_)
  first
    | exact wpAny_bind (wpAny_pure (wpAny_pure ⟨.none,rfl,wpAny_pure h⟩))
    | exact wpAny_pure ⟨.none,rfl,wpAny_pure h⟩
end
section
variable {X:Cx}
end
end L2
namespace Att
open PySem PySem.W PySem.Calls PyProof.Rows
theorem ints_of_wellAll {P:Params} {h:Heap}:∀ (ns:List Int) (vs:List Value),WellAll P h vs (ns.map WData.int) -> IntsAre vs ns:=by
 intro ns
 induction ns with
 | nil =>
  intro vs w
  rw [List.map_nil] at w
  cases w
  exact .nil
 | cons n ns ih =>
  intro vs w
  rw [List.map_cons] at w
  cases w with
  | cons a b =>
   cases a
   exact .cons _ _ (ih _ b)
theorem script_of {l:OpenLaw} {n:Nat} (hn:l.most = some n) {P:Params} {h:Heap} {args:List WData} {vals:List Value}
  (hpre:l.row.toRowW.claim.pre args = true) (hwl:WellAll P h vals args) :
  ∃ a vs ns, vals = [Value.ref a]∧args = [WData.list (ns.map WData.int)]∧h.get? a = some { cls:=.type "list", data:=.seq vs.toArray }∧IntsAre vs ns∧ns.length ≤ n:=by
 have hsh:WShape.hasAll [] args [.list .int] = true:=(pre_splitW hpre).1
 have hc:l.pre.holds [] { args:=args } = true:=(pre_splitW hpre).2
 obtain ⟨d,r,rfl,h1,h2⟩:=hasAllW_cons hsh
 obtain rfl:=hasAllW_nil h2
 obtain ⟨xs,rfl,h3⟩:=hasW_list h1
 obtain ⟨ns,rfl⟩:=items_int h3
 have hlen:ns.length ≤ n:=by
  unfold OpenLaw.pre at hc
  have h4:(WTm.not (.lt (.lit (.int (n:Int))) (.len (.arg 0)))).holds [] { args:=[.list (ns.map .int)] } = true:=by
   have h4:=(holds_andW hc).1
   rw [hn] at h4
   exact h4
  have h5:=condW_of h4 (w_not (w_lt w_lit (w_len_list (w_arg rfl))))
  rw [List.length_map] at h5
  refine Nat.le_of_not_lt fun q => ?_
  have q':(n:Int) < ((ns.length:Nat):Int):=by trivial
  first
   | (rw [decide_eq_true q'] at h5; exact absurd h5 (by decide))
   | (simp at h5; trivial)
 cases hwl with
 | cons w1 w2 =>
  cases w2
  cases w1 with
  | list ho hall => exact ⟨_,_,ns,rfl,rfl,ho,ints_of_wellAll ns _ hall,hlen⟩
theorem post_true (l:OpenLaw) (args:List WData):l.row.toRowW.claim.post args (.bool true) args = true :=
 postW_of (r:=l.row.toRowW) (X:=(true == true))
  (show WShape.has [] (.bool true) .bool = true by first | rfl | decide | simp [WShape.has,WShape.arms,WShape.armsAll])
  (show (WTm.eq .res (.lit (.bool true))).value [] { args:=args,res:=some (.bool true),after:=args } = some (.bool (true == true)) from w_eq_bool (w_res rfl) w_lit) rfl
theorem attach_call {l:OpenLaw} {n:Nat} {q:Program} {loose:List Str} {XP:(Str -> Option Value) -> Heap -> Prop} {YP:World -> Heap -> Prop} {d:DefRec}
  (hn:l.most = some n) (hdf:d.params.defaults = [])
  (call:∀ (w:World) (s₀ s₁:Shared) (mg mb:Str -> Option Value) (fa:Addr) (o:Obj) (pm cd doc:Value) (a:Addr) (vs:List Value) (ns:List Int),
   Ground q loose [] XP w s₀ mg mb s₁.heap -> YP w s₁.heap →
   s₁.heap.get? fa = some o -> o.data = .func (docDef d.name d.params d.body d.scope pm cd doc) -> s₁.heap.CodeRec cd d.name -> mg d.name = some (.ref fa) →
   s₁.heap.get? a = some { cls:=.type "list", data:=.seq vs.toArray } -> IntsAre vs ns -> ns.length ≤ n -> s₁.gens = #[] →
   codeAny (model l.prog w) callerA (.call (.ref fa) ⟨[.ref a],[]⟩) (fun r s' => r = .ok (.ret (.bool true))∧OldK s₁.heap s'.heap∧s'.os = s₁.os∧AllBare s'.gens) s₁) :
  WalkO q loose XP YP l.row.toRowW d [] (fun f vs => PySem.call f vs):=by
 intro w s₀ s₁ mg mb G Y fa o pm cd doc dV kV ho hd hcd hD hmg hg args vals as hpre hlay hrd hwl hlo
 obtain rfl:dV = .none:=Dflts.none hD hdf
 obtain rfl:kV = .none:=Dflts.noKw hD
 obtain ⟨a,vs,ns,rfl,rfl,hobj,hints,hlen⟩:=script_of hn hpre hwl
 refine enter_call (codeAny_mono (call w s₀ s₁ mg mb fa o pm cd doc a vs ns G Y ho (fd_plain hd) hcd hmg hobj hints hlen hg) fun r s' hq => ?_)
 obtain ⟨rfl,h2,h3,h4⟩:=hq
 exact ⟨.inl ⟨.bool true,.bool true,[],rfl,fun _ => rfl,.bool true,post_true l _,fun _ => ⟨List.Pairwise.nil,fun _ hm => (nomatch hm)⟩⟩,h2,h3,h4⟩
section
variable {prog:Program} {w:World} {A:Around} {E:Value -> Shared -> Prop} {s:Shared} {K:Frag}
end
end Att
namespace L2
open PySem PySem.Spec PyProof.Rows
theorem vals_ints:∀ {vs:List Value} {ns:List Int},IntsAre vs ns -> Vals (ns.map V.int) vs
 | _,_,.nil => .nil
 | _,_,.cons n t h => .cons ⟨t,rfl⟩ (vals_ints h)
end L2
namespace L2
open PySem PySem.Spec PyProof.Rows
noncomputable abbrev KOf {K:PySem.W.Frag} {h:Heap} (_:K.In h):PySem.W.Frag:=K
end L2
namespace L2
open PySem PySem.Spec PyProof.Rows
noncomputable def inClass (s:Stmt) (j:Nat):Stmt:=match s with
 | .ClassDef _ _ _ body _ _ _ _ _ _ _ => body.getD j (.Pass ⟨0,0,0,0⟩)
 | _ => .Pass ⟨0,0,0,0⟩
noncomputable def defArgs (s:Stmt):Arguments:=match s with
 | .FunctionDef _ a _ _ _ _ _ _ _ _ => a
 | _ => { posonlyargs:=[],args:=[],vararg:=none,kwonlyargs:=[],kw_defaults:=[],kwarg:=none,defaults:=[] }
noncomputable def defBody (s:Stmt):List Stmt:=match s with
 | .FunctionDef _ _ b _ _ _ _ _ _ _ => b
 | _ => []
noncomputable def defScope (s:Stmt):Scope:=match s with
 | .FunctionDef _ _ _ _ _ _ sc _ _ _ => sc
 | _ => { kind:=.function,names:=[],isGenerator:=false,isCoroutine:=false }
noncomputable abbrev CX0:CXT:=fun _ _ _ _ _ _ => False
noncomputable abbrev E0:XK:=fun _ _ _ => False
structure Fun (K:PySem.W.Frag) (x qual:Str) (st:Stmt) (f:Addr) (fd:FuncData):Prop where
 ex:∃ (oc:Value) (od:Option Addr) (kV doc pm:Value) (an:Option Addr) (cdv ct:Value) (osl:Array (Option Value)),
  fd = PySem.W.fnOf x qual (defArgs st) (defBody st) (defScope st) .none kV doc pm an cdv ct∧K.lookup f = some ⟨oc,od,.func fd,osl⟩∧PySem.W.codeIn K cdv qual = true
 kp:PySem.W.keepIn K (.ref f) = true
section
variable {P:Program} {w:World} {K:PySem.W.Frag} {mg:Str -> Option Value} {base:Heap}
theorem Fun.ok {x qual:Str} {st:Stmt} {f:Addr} {fd:FuncData} {N ps:List Str} {k:Nat} {sp:Sp} (F:Fun K x qual st f fd) (S:FnScope N ps (defScope st)) (len:∀ vs H Q E,sp vs H Q E -> vs.length = ps.length)
  (hbody:∀ (cdv:Value) (A:Around) (outer:List Env) (s:Shared) (H:Hp) (vs:List V) (Q:VK) (E:XK),Room k (A.deeper (envOfC qual (defScope st) s.heap.objs.size f cdv)) -> sp vs H Q E →
   ∃ t,PSs (cxOf CX0 P w K mg base N qual (defScope st) f cdv A outer s H E).nox (defBody st) t∧t { nx:=fun _ H' => Q .non H',rt:=Q } (start N vs) H):FnOk P w K mg base CX0 (k + 1) f fd ps sp:=by
 obtain ⟨oc,od,kV,doc,pm,an,cdv,ct,osl,rfl,lk,hcd⟩:=F.ex
 refine fn_of lk hcd S len fun A outer s H vs Q E hr hsp => ?_
 obtain ⟨t,h,q⟩:=hbody cdv A outer s H vs Q E hr hsp
 exact ⟨t,h.nox,q⟩
theorem Fun.binds {x qual:Str} {st:Stmt} {f:Addr} {fd:FuncData} {ps:List Str} (F:Fun K x qual st f fd)
  (h:∀ (kV doc pm:Value) (an:Option Addr) (cdv ct:Value) (us:List Value),us.length = ps.length -> bindArgs (PySem.W.fnOf x qual (defArgs st) (defBody st) (defScope st) .none kV doc pm an cdv ct) ⟨us,[]⟩ = pure (ps.zip us)):Binds K fd ps []:=by
 obtain ⟨oc,od,kV,doc,pm,an,cdv,ct,osl,rfl,lk,hcd⟩:=F.ex
 exact .all (h kV doc pm an cdv ct)
theorem fun_mk {x qual:Str} {st:Stmt} {f:Addr} {oc:Value} {od an:Option Addr} {osl:Array (Option Value)} {kV doc pm cdv ct:Value} (l:K.lookup f = some ⟨oc,od,.func (PySem.W.fnOf x qual (defArgs st) (defBody st) (defScope st) .none kV doc pm an cdv ct),osl⟩)
  (c:PySem.W.codeIn K cdv qual = true) (k:PySem.W.keepIn K (.ref f) = true):Fun K x qual st f (PySem.W.fnOf x qual (defArgs st) (defBody st) (defScope st) .none kV doc pm an cdv ct):=⟨⟨oc,od,kV,doc,pm,an,cdv,ct,osl,rfl,l,c⟩,k⟩
end
theorem hu_of {A:Around} {k:Nat} (hr:Room k A):A.units + 1 < cLine:=Nat.lt_of_le_of_lt (Nat.add_le_add_left (by decide:1 ≤ 64) _) hr.units
section
variable {X:Cx}
theorem pv (i:Nat) {x:Str} {pos:Pos} (hN:X.N[i]? = some x:=by rfl) (hv:Vis X.env.scope x:=by first | exact Or.inl rfl | exact Or.inr (Or.inl rfl) | exact Or.inr (Or.inr rfl)) (hd:(x == ("__debug__":Str)) = false:=by decide)
  (hcd:(x == ("__classdict__":Str)) = false:=by decide):PE X (.Name x pos) (tVar i):=pe_var hN hv hd hcd
end
theorem iteF {A B:Prop} (h:B):if false = true then A else B:=by
 rw [if_neg Bool.false_ne_true]
 exact h
theorem iteT {A B:Prop} (h:A):if true = true then A else B:=by
 rw [if_pos rfl]
 exact h
theorem ite2 {c A B:Prop} [Decidable c] (h1:c -> A) (h2:¬ c -> B):if c then A else B:=by
 by_cases h:c
 ·rw [if_pos h]
  exact h1 h
 ·rw [if_neg h]
  exact h2 h
theorem iteNS {c A B:Prop} [Decidable c] (hc:c) (h:B):if (!decide c) = true then A else B:=by
 rw [decide_eq_true hc]
 exact iteF h
noncomputable def Same (H H':Hp):Prop:=∀ b o,H b = some o -> H' b = some o
theorem Same.refl (H:Hp):Same H H:=fun _ _ h => h
theorem Same.trans {H H1 H2:Hp} (a:Same H H1) (b:Same H1 H2):Same H H2:=fun c o h => b c o (a c o h)
theorem Same.free {H H':Hp} (e:Same H H') {l:Addr} (h:H' l = Option.none):H l = Option.none:=by
 cases q:H l with
 | none => rfl
 | some o =>
  rw [e l o q] at h
  cases h
theorem Same.seq {K:PySem.W.Frag} {H H':Hp} {a:Addr} {xs:List V} (e:Same H H') (h:SqL K H a xs):SqL K H' a xs:=by
 rcases h with (h | ⟨o,h⟩) | h
 ·exact .inl (.inl (e _ _ h))
 ·exact .inl (.inr ⟨o,e _ _ h⟩)
 ·exact .inr h
end L2
set_option Elab.async false
set_option linter.all false
set_option maxRecDepth 100000
namespace L2
open PySem PySem.Spec PyProof.Rows
noncomputable def clos (cells:List (Str × Addr)):List (Str × NameKind) -> List (Str × Addr) -> List (Str × Addr)
 | [],cs => cs
 | (n,k) :: r,cs => if (k == NameKind.free) = true then (match cells.lookup n with | some c => clos cells r ((n,c) :: cs) | none => clos cells r cs) else clos cells r cs
theorem clos_for {env:Env}:∀ (l:List (Str × NameKind)) (cs:List (Str × Addr)),(∀ x ∈ l,x.2 = .free -> ∃ c,env.cells.lookup x.1 = some c) →
  (forIn (m:=Sem) l cs fun x r => match x with
   | (name,kind) => if (kind == NameKind.free) = true then do let c ← cellOf env name; pure (ForInStep.yield ((name,c) :: r)) else pure (ForInStep.yield r)) = pure (clos env.cells l cs)
 | [],cs,_ => by rfl
 | (n,k) :: r,cs,h => by
  have ih:=fun cs => clos_for r cs fun x hx => h x (List.mem_cons_of_mem _ hx)
  rw [List.forIn_cons]
  unfold clos
  by_cases hk:(k == NameKind.free) = true
  ·obtain ⟨c,hc⟩:=h (n,k) List.mem_cons_self (by simpa using hk)
   have hc':env.cells.lookup n = some c:=hc
   simp only [hk,if_true,hc']
   have e:cellOf env n = pure c:=by unfold cellOf; rw [hc']
   rw [e]
   simp only [pure_bind]
   exact ih _
  ·have hk':(k == NameKind.free) = false:=by simpa using hk
   simp only [hk',Bool.false_eq_true,if_false,pure_bind]
   exact ih _
theorem clos_eq {scope:Scope} {env:Env} (h:∀ x ∈ scope.names,x.2 = .free -> ∃ c,env.cells.lookup x.1 = some c):closureFor scope env = pure (clos env.cells scope.names []):=by
 unfold closureFor
 have:=clos_for (env:=env) scope.names [] h
 simp only [this,pure_bind]
theorem clos_sub {cells:List (Str × Addr)} {x:Str} {c:Addr}:∀ (l:List (Str × NameKind)) (cs:List (Str × Addr)),(∀ y d,cs.lookup y = some d -> cells.lookup y = some d) -> (clos cells l cs).lookup x = some c -> cells.lookup x = some c
 | [],cs,h,e => h x c e
 | (n,k) :: r,cs,h,e => by
  unfold clos at e
  split at e
  ·split at e
   ·rename_i d hd
    refine clos_sub r _ (fun y z q => ?_) e
    rw [List.lookup_cons] at q
    split at q
    ·rename_i hy
     cases q
     rw [eq_of_beq hy]; exact hd
    ·exact h y z q
   ·exact clos_sub r cs h e
  ·exact clos_sub r cs h e
theorem clos_keep {cells:List (Str × Addr)} {x:Str}:∀ (l:List (Str × NameKind)) (cs:List (Str × Addr)),(∃ c,cs.lookup x = some c) -> ∃ c,(clos cells l cs).lookup x = some c
 | [],cs,h => h
 | (n,k) :: r,cs,h => by
  unfold clos
  split
  ·split
   ·refine clos_keep r _ ?_
    rw [List.lookup_cons]
    split
    ·exact ⟨_,rfl⟩
    ·exact h
   ·exact clos_keep r cs h
  ·exact clos_keep r cs h
theorem clos_has {cells:List (Str × Addr)} {x:Str}:∀ (l:List (Str × NameKind)) (cs:List (Str × Addr)),(x,NameKind.free) ∈ l -> (∃ c,cells.lookup x = some c) -> ∃ c,(clos cells l cs).lookup x = some c
 | [],_,h,_ => nomatch h
 | (n,k) :: r,cs,h,⟨c,hc⟩ => by
  unfold clos
  rcases List.mem_cons.mp h with e | h
  ·cases e
   rw [if_pos (by rfl),hc]
   refine clos_keep r _ ⟨c,?_⟩
   simp [List.lookup_cons]
  ·split
   ·split
    ·exact clos_has r _ h ⟨c,hc⟩
    ·exact clos_has r _ h ⟨c,hc⟩
   ·exact clos_has r _ h ⟨c,hc⟩
theorem relabel_free {env:Env}:∀ {names:List (Str × NameKind)} {x:Str},names.lookup x = some .free →
  (names.map fun (n,k) => if (k == NameKind.free && env.scope.kind == .function && env.kindOf n == some .cell) then (n,NameKind.cell) else (n,k)).lookup x = some .cell ∨
  (names.map fun (n,k) => if (k == NameKind.free && env.scope.kind == .function && env.kindOf n == some .cell) then (n,NameKind.cell) else (n,k)).lookup x = some .free
 | [],_,h => by simp at h
 | (n,k) :: r,x,h => by
  have ih:=@relabel_free env r x
  by_cases hc:(k == NameKind.free && env.scope.kind == .function && env.kindOf n == some .cell) = true
  ·simp only [List.map_cons,if_pos hc,List.lookup_cons]
   cases hx:x == n with
   | true => exact .inl rfl
   | false =>
    simp only [List.lookup_cons,hx] at h
    exact ih h
  ·simp only [List.map_cons,if_neg hc,List.lookup_cons]
   cases hx:x == n with
   | true =>
    simp only [List.lookup_cons,hx] at h
    cases h
    exact .inr rfl
   | false =>
    simp only [List.lookup_cons,hx] at h
    exact ih h
theorem relabel_back {env:Env}:∀ {names:List (Str × NameKind)} {x:Str},(∀ y ∈ names,y.2 ≠ .cell) →
  ((names.map fun (n,k) => if (k == NameKind.free && env.scope.kind == .function && env.kindOf n == some .cell) then (n,NameKind.cell) else (n,k)).lookup x = some .cell ∨
  (names.map fun (n,k) => if (k == NameKind.free && env.scope.kind == .function && env.kindOf n == some .cell) then (n,NameKind.cell) else (n,k)).lookup x = some .free) -> (x,NameKind.free) ∈ names
 | [],_,_,h => by simp at h
 | (n,k) :: r,x,hn,h => by
  have ih:=@relabel_back env r x fun y hy => hn y (List.mem_cons_of_mem _ hy)
  by_cases hc:(k == NameKind.free && env.scope.kind == .function && env.kindOf n == some .cell) = true
  ·simp only [List.map_cons,if_pos hc,List.lookup_cons] at h
   have hk:k = .free:=by
    simp only [Bool.and_eq_true] at hc
    exact eq_of_beq hc.1.1
   cases hx:x == n with
   | true => rw [eq_of_beq hx,hk]; exact List.mem_cons_self
   | false =>
    simp only [hx] at h
    exact List.mem_cons_of_mem _ (ih h)
  ·simp only [List.map_cons,if_neg hc,List.lookup_cons] at h
   cases hx:x == n with
   | true =>
    simp only [hx] at h
    rcases h with h | h
    ·have e:k = .cell:=Option.some.inj h
     exact absurd e (hn (n,k) List.mem_cons_self)
    ·have e:k = .free:=Option.some.inj h
     rw [eq_of_beq hx,e]; exact List.mem_cons_self
   | false =>
    simp only [hx] at h
    exact List.mem_cons_of_mem _ (ih h)
noncomputable def compCx (X:Cx) (N:List Str) (scope:Scope) (C:Addr) (s:Shared) (H:Hp) (fp:List Addr):Cx where
 prog:=X.prog
 w:=X.w
 K:=X.K
 mg:=X.mg
 base:=X.base
 A:=X.A
 N:=N
 s₀:=s
 H₀:=H
 env:=compEnvC scope (clos X.env.cells scope.names []) C X.env
 outer:=X.stack
 stack:=X.stack
 ex:=fp
 fn:=fun _ => false
 calm:=X.calm
 pn:=[]
 xe:=fun _ _ => False
structure CompScope (X:Cx) (N:List Str) (js:List (Option Nat)) (scope:Scope):Prop where
 kind:scope.kind = .function
 nocell:∀ y ∈ scope.names,y.2 ≠ .cell
 locs:∀ y ∈ scope.names,y.2 = .local -> scope.names.lookup y.1 = some .local
 free:∀ y ∈ scope.names,y.2 = .free -> X.env.kindOf y.1 = some .cell ∨ X.env.kindOf y.1 = some .free
 len:js.length = N.length
 js:∀ (i j:Nat) (x:Str),js[i]? = some (some j) -> N[i]? = some x -> X.N[j]? = some x∧scope.names.lookup x = some .free
noncomputable def innerSt (js:List (Option Nat)) (σ:St):St:=js.map fun j => (j.bind fun j => σ[j]?).join
section
variable {X:Cx} {pins:List (Addr × Obj)} {σ:St} {H:Hp} {s:Shared} {N:List Str} {js:List (Option Nat)} {scope:Scope} {fp:List Addr} {C D:Addr} {h₁:Heap} {m:Str -> Option Value} {tk:Nat}
theorem lookup_mem {α β:Type} [BEq α] [LawfulBEq α] {x:α} {y:β}:∀ {l:List (α × β)},l.lookup x = some y -> (x,y) ∈ l
 | [],h => by simp at h
 | (a,b) :: r,h => by
  rw [List.lookup_cons] at h
  split at h
  ·rename_i hx
   cases h
   rw [eq_of_beq hx]; exact List.mem_cons_self
  ·exact List.mem_cons_of_mem _ (lookup_mem h)
theorem inv_comp (S:CompScope X N js scope) (I:Inv X pins σ H s) (f2:∀ b ∈ fp,FpOk X pins H b) (hfp:∀ b ∈ fp,b < s.heap.objs.size) (keep:∀ b o,s.heap.get? b = some o -> h₁.get? b = some o)
  (hD0:s.heap.objs.size ≤ D) (hC0:s.heap.objs.size ≤ C) (hDC:D ≠ C) (hD:∃ n, h₁.get? D = some { cls:=.type "list", data:=.seq ([]:List Value).toArray n }) (hns:h₁.Ns C m) :
  Inv (compCx X N scope C s H fp) [] (innerSt js σ) (upd H D (.lst [])) { s with heap:=h₁,toks:=tk }:=by
 have hc:∀ x ∈ scope.names,x.2 = .free -> ∃ c,X.env.cells.lookup x.1 = some c:=fun x hx e => I.ok.has _ (S.free x hx e)
 have sub:∀ x c,(clos X.env.cells scope.names []).lookup x = some c -> X.env.cells.lookup x = some c:=fun x c e => clos_sub _ _ (fun _ _ z => by simp at z) e
 have clt:∀ x c,X.env.cells.lookup x = some c -> c < s.heap.objs.size:=fun x c e => by obtain ⟨v,q⟩:=I.cell x c e; exact q.lt
 have hasF:∀ x,(x,NameKind.free) ∈ scope.names -> ∃ c,(clos X.env.cells scope.names []).lookup x = some c:=fun x hx => clos_has _ _ hx (hc (x,.free) hx rfl)
 have fD:H D = none:=I.hok.fresh hD0
 have fC:H C = none:=I.hok.fresh hC0
 refine ⟨⟨I.ok.mod,S.kind,I.ok.glob,I.ok.blt,hC0,fun x y c h1 h2 => I.ok.inj x y c (sub _ _ h1) (sub _ _ h2),fun x hx => ?_,fun x c h _ => (Bool.noConfusion h),I.ok.hd,I.ok.frames,.inl rfl,fun b hb => ⟨?_,fun x c e => (f2 b hb).2.2.2.2.1 x c (sub _ _ e)⟩,I.bs,
   Nat.le_trans I.ok.bsz I.sz,fun b o e hb => ?_,fun b hb z => ?_,I.stack,I.stkFree⟩,
  rfl,I.bare,Un.laid keep hD0 fD,⟨m,hns,fun i x v h1 h2 h3 => ?_⟩,fun x c e => ?_,?_,fun x c e => ?_,fun p hp => absurd hp (by simp [compCx]),I.hok.laid keep hD0 ?_,?_⟩
 ·exact hasF x (relabel_back S.nocell hx)
 ·exact Nat.ne_of_lt (Nat.lt_of_lt_of_le (hfp b hb) hC0)
 ·rcases (f2 b hb).2.2.2.1 with q | q
  ·exact I.ok.noex b o e q
  ·exact absurd (Nat.lt_of_lt_of_le (Heap.lt_size e) (Nat.le_trans I.ok.bsz q)) (Nat.lt_irrefl _)
 ·rcases List.mem_cons.mp (I.stkSub b z) with q | q
  ·exact (f2 b hb).2.1 q
  ·exact (f2 b hb).2.2.1 q
 ·have h2':(js[i]?.map fun j => (j.bind fun j => σ[j]?).join) = some (some v):=by rw [← List.getElem?_map]; exact h2
  cases ej:js[i]? with
  | none => rw [ej] at h2'; cases h2'
  | some j =>
   rw [ej] at h2'
   cases j with
   | none => simp at h2'
   | some j =>
    have e2:σ[j]? = some (some v):=by
     simp only [Option.map_some,Option.bind_some,Option.some.injEq] at h2'
     cases q:σ[j]? with
     | none => rw [q] at h2'; simp at h2'
     | some z => rw [q] at h2'; simp at h2'; rw [h2']
    obtain ⟨n1,n2⟩:=S.js i j x ej h1
    have hx:=lookup_mem n2
    have hk:=S.free _ hx rfl
    obtain ⟨m0,_,hl⟩:=I.loc
    obtain ⟨u,r,l⟩:=hl j x v n1 e2 (hk.elim (fun z => .inr (.inl z)) fun z => .inr (.inr z))
    refine ⟨u,r,?_⟩
    rcases l with ⟨k,_⟩ | ⟨_,c,e,z⟩
    ·have k':X.env.kindOf x = some .local:=k
     rcases hk with q | q <;> (rw [show X.env.kindOf x = _ from q] at k'; cases k')
    ·obtain ⟨c',e'⟩:=hasF x hx
     have:=sub _ _ e'
     rw [e] at this; cases this
     exact .inr ⟨relabel_free n2,c,e',z.keeps keep⟩
 ·obtain ⟨v,q⟩:=I.cell x c (sub _ _ e)
  exact ⟨v,q.keeps keep⟩
 ·show upd H D _ C = none
  rw [upd_ne (Ne.symm hDC)]; exact fC
 ·show upd H D _ c = none
  have hlt:=clt x c (sub _ _ e)
  rw [upd_ne (Nat.ne_of_lt (Nat.lt_of_lt_of_le hlt hD0))]
  exact I.freeC x c (sub _ _ e)
 ·obtain ⟨n,hD⟩:=hD
  exact ⟨Nat.zero_le _,[],n,.nil,hD⟩
 ·show (innerSt js σ).length = N.length
  unfold innerSt
  rw [List.length_map,S.len]
end
noncomputable def PIfs (X:Cx) (ifs:List Expr) (t:TT):Prop :=
 ∀ (pins:List (Addr × Obj)) (s:Shared) (σ:St) (H:Hp) (Q:Bool -> Hp -> Prop),Inv X pins σ H s -> t σ H Q →
  wpAny (model X.prog X.w) X.A (forIn ifs true fun c r => if r = true then do let ok ← isTrue c X.env (eval c X.env); pure (ForInStep.yield ok) else pure (ForInStep.yield r)) (TP X pins σ Q) X.xe s
noncomputable def tTrue:TT:=fun _ H Q => Q true H
theorem pif_nil {X:Cx}:PIfs X [] tTrue:=fun _ _ _ H _ I h => wpAny_tests_nil ⟨H,I,h⟩
theorem pif_one {X:Cx} {c:Expr} {t:TT} (h:PT X c t):PIfs X [c] t:=fun pins s σ H Q I hw => wpAny_tests_one (h pins s σ H Q I hw)
theorem compLoop_gen {prog:Program} {w:World} {A:Around} {R:Result -> Shared -> Prop} {s:Shared} {elt target iter:Expr} {ifs:List Expr} {scope:Scope} {pos:Pos} {it acc:Value} {env:Env} (I:Nat -> Shared -> Prop)
  (turn:∀ n s,I n s -> wpAny (model prog w) A (pyNext it) (fun r s₁ => match r with
   | none => R (.ok .next) s₁
   | some v => wpAny (model prog w) A (letOwnedTupleGo target it v) (fun _ s₁' => wpAny (model prog w) A (assign target env v) (fun _ s₂ =>
     wpAny (model prog w) A (forIn ifs true fun c r => if r = true then do let ok ← isTrue c env (eval c env); pure (ForInStep.yield ok) else pure (ForInStep.yield r)) (fun ok s₃ =>
      if ok = true then wpAny (model prog w) A (eval elt env) (fun x s₄ =>
       wpAny (model prog w) A (call (.builtin "list.append") [acc, x]) (fun _ s₅ => ∃ m, m < n∧I m s₅) (fun _ _ => False) s₄) (fun _ _ => False) s₃
      else ∃ m,m < n∧I m s₃) (fun _ _ => False) s₂) (fun _ _ => False) s₁') (fun _ _ => False) s₁) (fun _ _ => False) s)
  (n:Nat) (h:I n s) :
  codeAny (model prog w) A (.compLoop (.ListComp elt [⟨target,iter,ifs,0⟩] scope pos) 0 it acc env) R s:=by
 refine codeAny_loop rfl I (fun n s hI => ?_) n h
 show wpAny _ A ((compTurn (.ListComp elt [⟨target,iter,ifs,0⟩] scope pos) 0 it acc env).onRaise (fun x => do noteFrame x env; theTreesLotGoes x)) _ _ s
 refine wpAny_noted ?_
 rw [compTurn_list]
 refine wpAny_bind (wpAny_standAt (wpAny_bind (wpAny_mono (turn n s hI) (fun r s₁ h₁ => ?_) fun _ _ h' => h'.elim)))
 cases r with
 | none => exact wpAny_pure h₁
 | some v =>
  refine wpAny_bind (wpAny_mono h₁ (fun _ s₁' h₁' => ?_) fun _ _ h' => h'.elim)
  refine wpAny_bind (wpAny_mono h₁' (fun _ s₂ h₂ => wpAny_bind (wpAny_mono h₂ (fun ok s₃ h₃ => ?_) fun _ _ h' => h'.elim)) fun _ _ h' => h'.elim)
  cases ok with
  | false => exact wpAny_pure ⟨rfl,h₃⟩
  | true =>
   exact wpAny_bind (wpAny_bind (wpAny_mono h₃ (fun x s₄ h₄ => wpAny_bind (wpAny_mono h₄ (fun _ s₅ h₅ => wpAny_pure (wpAny_pure ⟨rfl,h₅⟩)) fun _ _ h' => h'.elim)) fun _ _ h' => h'.elim))
noncomputable def tComp (js:List (Option Nat)) (wi:TI) (g:TG) (tc:TT) (te:TE):TE:=fun σ H Q =>
 wi σ H fun J H1 => ∀ D,H1 D = none -> ∃ W:Nat -> Nat -> St -> Hp -> Prop,(∃ m,W 0 m (innerSt js σ) (upd H1 D (.lst []))) ∧
  ∀ i m σ' H',W i m σ' H' -> (J.stop i H'∧Q (.ref D) H') ∨ (J.go i H'∧∀ x H2,J.yld i H' x H2 -> g x σ' H2 fun σ2 H3 => tc σ2 H3 fun b H4 =>
   if b = true then te σ2 H4 fun v H5 => rAppend (.ref D) [v] H5 fun _ H6 => ∃ m',m' < m∧W (i + 1) m' σ2 H6 else ∃ m',m' < m∧W (i + 1) m' σ2 H4)
theorem pe_comp {X:Cx} {elt tg iter:Expr} {ifs:List Expr} {scope:Scope} {pos:Pos} {N:List Str} {js:List (Option Nat)} {wi:TI} {g:TG} {tc:TT} {te:TE} (hcalm:X.calm = true) (S:CompScope X N js scope)
  (hi:PI X tg iter wi) (hg:∀ C s H fp,PG (compCx X N scope C s H fp) tg g) (ht:∀ C s H fp,PIfs (compCx X N scope C s H fp) ifs tc) (he:∀ C s H fp,PE (compCx X N scope C s H fp) elt te)
  (hs:∀ x,foldedSetIterable iter X.env x = pure x:=by intro _; rfl):PE X (.ListComp elt [⟨tg,iter,ifs,0⟩] scope pos) (tComp js wi g tc te):=by
 intro pins s σ H Q I h
 have hc:∀ x ∈ scope.names,x.2 = .free -> ∃ c,X.env.cells.lookup x.1 = some c:=fun x hx e => I.ok.has _ (S.free x hx e)
 rw [eval_ListComp]
 refine wpAny_comprehension_free (use:=none) rfl hs (clos_eq hc) S.kind S.locs (thn (hi pins s σ H _ I h) fun v s1 h1 => thn h1 fun itv s2 h2 => ?_)
 obtain ⟨it,fp,tn,J,H2,e,I2,T,st2,f2,q⟩:=h2
 subst e
 refine wpAny_newObj_type (wpAny_newFunctionEnv S.nocell (by intro y hy; simp at hy) (fun h₁ hns₁ hsb₁ => ?_) S.kind)
 dsimp only at hns₁ hsb₁ ⊢
 generalize hH2:s2.heap.push { cls:=.type "list", dict:=none, data:=.seq ([]:List Value).toArray } = G2 at hns₁ hsb₁ ⊢
 have hC:G2.objs.size = s2.heap.objs.size + 1:=by rw [← hH2,Heap.size_push]
 have hDC:s2.heap.objs.size ≠ G2.objs.size:=by rw [hC]; exact Nat.ne_of_lt (Nat.lt_succ_self _)
 have hC0:s2.heap.objs.size ≤ G2.objs.size:=by rw [hC]; exact Nat.le_succ _
 have below:∀ b,b < s2.heap.objs.size -> b ≠ G2.objs.size:=fun b hb => by rw [hC]; exact Nat.ne_of_lt (Nat.lt_succ_of_lt hb)
 have old:∀ b o,s2.heap.get? b = some o -> h₁.get? b = some o:=fun b o e => hsb₁.extBut b o (below b (Heap.lt_size e)) (Heap.get?_push_of_some _ (hH2 ▸ Heap.get?_push_of_some _ e))
 have hacc:h₁.get? s2.heap.objs.size = some { cls:=.type "list", data:=.seq ([]:List Value).toArray }:=hsb₁.extBut _ _ hDC (Heap.get?_push_of_some _ (hH2 ▸ Heap.get?_push_size _ rfl))
 have hfp:∀ b ∈ fp,b < s2.heap.objs.size:=fun b hb => by obtain ⟨o,e,_⟩:=T.obj 0 _ st2 b hb; exact Heap.lt_size e
 obtain ⟨W,⟨m0,w0⟩,turn⟩:=q s2.heap.objs.size (I2.hok.fresh (Nat.le_refl _))
 have stat:∀ {H':Hp},(∀ b ∈ fp,H' b = none) -> ∀ b ∈ fp,FpOk (compCx X N scope G2.objs.size s2 H2 fp) [] H' b:=fun {H'} hn b hb =>
  ⟨hn b hb,below b (hfp b hb),fun z => by
   rcases List.mem_cons.mp (I2.stkSub b z) with q | q
   ·exact (f2 b hb).2.1 q
   ·exact (f2 b hb).2.2.1 q,.inl hb,fun x c e => (f2 b hb).2.2.2.2.1 x c (clos_sub _ _ (fun _ _ z => by simp at z) e),fun p hp => absurd hp (by simp [compCx])⟩
 have loop:∀ s3:Shared,s3 = { s2 with heap:=h₁,toks:=s2.toks + ([]:List (Str × Value)).length } →
   codeAny (model X.prog X.w) X.A (.compLoop (.ListComp elt [⟨tg,iter,ifs,0⟩] scope pos) 0 (.ref it) (.ref s2.heap.objs.size) (compEnvC scope (clos X.env.cells scope.names []) G2.objs.size X.env))
    (compPost (model X.prog X.w) X.A X.xe none (EP X pins σ Q) (.ref s2.heap.objs.size) G2.objs.size) s3:=by
  rintro s3 rfl
  have I3:Inv (compCx X N scope G2.objs.size s2 H2 fp) [] (innerSt js σ) (upd H2 s2.heap.objs.size (.lst [])) { s2 with heap:=h₁,toks:=s2.toks + ([]:List (Str × Value)).length } :=
   inv_comp S I2 f2 hfp old (Nat.le_refl _) hC0 hDC ⟨_,hacc⟩ hns₁
  refine compLoop_gen (fun n s' => ∃ i σ' H',Inv (compCx X N scope G2.objs.size s2 H2 fp) [] σ' H' s'∧tn i s'.heap∧(∀ b ∈ fp,H' b = none)∧W i n σ' H') ?_ m0
   ⟨0,_,_,I3,T.keep 0 _ _ st2 fun b _ o e => old b o e,fun b hb => by rw [upd_ne (Nat.ne_of_lt (hfp b hb))]; exact (f2 b hb).1,w0⟩
  rintro n s4 ⟨i,σ4,H4,I4,st4,fr4,w4⟩
  rcases turn i n σ4 H4 w4 with ⟨stop,qn⟩ | ⟨go,step⟩
  ·refine thn (T.done (compCx X N scope G2.objs.size s2 H2 fp) rfl rfl rfl hcalm i [] s4 σ4 H4 (fun _ _ => False) I4 (stat fr4) st4 stop) fun r s5 ⟨hr,I5⟩ => ?_
   subst hr
   obtain ⟨m5,n5,_⟩:=I5.loc
   refine ⟨m5,n5,fun h' sb => ?_⟩
   have hos:s5.os = s2.os:=I5.os
   obtain ⟨hh,gg,dd,tt,os5⟩:=s5
   obtain rfl:os5 = s2.os:=hos
   have un:Un (frs X.stack) fp H2 H4 s2.heap h':=by
    have u:=I5.base
    have nC:∀ b o,s2.heap.get? b = some o -> b ≠ G2.objs.size:=fun b o e => below b (Heap.lt_size e)
    exact ⟨fun b o e n hf hx => sb.extBut b o (nC b o e) (u.keep b o e n hf hx),fun b o e n hf hx => by
      obtain ⟨sl,z⟩:=u.slot b o e n hf hx
      exact ⟨sl,sb.extBut b _ (nC b o e) z⟩,u.free,fun b o e hx => by
      obtain ⟨o',z⟩:=u.there b o e hx
      exact ⟨o',sb.extBut b _ (nC b o e) z⟩,u.tups,u.frzs,u.tbls⟩
   have hok:HOk X.prog X.w H4 h':=fun b ob e => (I5.hok b ob e).stay (fun c v hcv z => sb.extBut c v (fun q => by
    rcases hcv with hcv | hcv
    ·rw [← hcv,q] at e
     have:=I5.free
     have this':H4 G2.objs.size = none:=this
     rw [e] at this'; cases this'
    ·rw [q] at hcv
     have this':H4 G2.objs.size = none:=I5.free
     rw [hcv] at this'; cases this') z) (fun _ z => z) fun _ _ z => z
   have IE:=I2.call (h':=h') (g':=gg) (d':=dd) (t':=tt) (ch:=fp) un hok I5.bare fun b hb => ⟨(f2 b hb).2.2.2.1,(f2 b hb).2.1,(f2 b hb).2.2.2.2.1,(f2 b hb).2.2.2.2.2⟩
   exact ⟨.ref s2.heap.objs.size,H4,IE,rfl,qn⟩
  ·refine thn (T.item (compCx X N scope G2.objs.size s2 H2 fp) rfl rfl rfl hcalm i [] s4 σ4 H4 (fun _ _ => False) I4 (stat fr4) st4 go) fun r s5 ⟨u,hr,h5⟩ => ?_
   subst hr
   refine thn h5 fun _ s6 ⟨x,H6,I6,r6,y6,st6,fr6⟩ => ?_
   have I6':=I6.pinned (stat fr6) (T.obj _ _ st6)
   refine thn (hg _ _ _ _ _ s6 σ4 H6 x u _ I6' r6 (step x H6 y6)) fun _ s7 ⟨σ7,H7,I7,q7⟩ => ?_
   refine thn (ht _ _ _ _ _ s7 σ7 H7 _ I7 q7) fun b s8 ⟨H8,I8,q8⟩ => ?_
   have again:∀ {s9:Shared} {H9:Hp},Inv (compCx X N scope G2.objs.size s2 H2 fp) ([] ++ pinsAt fp s6.heap) σ7 H9 s9 -> (∃ m',m' < n∧W (i + 1) m' σ7 H9) -> ∃ m,m < n∧∃ i σ' H',Inv (compCx X N scope G2.objs.size s2 H2 fp) [] σ' H' s9∧tn i s9.heap∧(∀ b ∈ fp,H' b = none)∧W i m σ' H':=fun {s9 H9} I9 ⟨m',hm,w9⟩ => by
    refine ⟨m',hm,i + 1,σ7,H9,I9.unpinned,T.keep _ _ _ st6 fun b hb o e => (I9.pin (b,o) (List.mem_append_right _ (List.mem_append_right _ (mem_pinsAt hb e)))).1,fun b hb => ?_,w9⟩
    obtain ⟨o,e,d⟩:=T.obj _ _ st6 b hb
    exact (I9.pin (b,o) (List.mem_append_right _ (List.mem_append_right _ (mem_pinsAt hb e)))).2.1
   cases b with
   | false =>
    rw [if_neg Bool.false_ne_true] at q8 ⊢
    exact again I8 q8
   | true =>
    rw [if_pos rfl] at q8 ⊢
    refine thn (he _ _ _ _ _ s8 σ7 H8 _ I8 q8) fun xv s9 ⟨xx,H9,I9,r9,q9⟩ => ?_
    refine thn (mt_append _ s9 σ7 H9 (.ref s2.heap.objs.size) [xx] (.ref s2.heap.objs.size) [xv] _ I9 rfl (.cons r9 .nil) q9) fun _ s10 ⟨_,H10,I10,_,q10⟩ => ?_
    exact again I10 q10
 exact codeAny_compStart_list (loop _ rfl) (T.self _ _ _ _ _ (T.keep 0 _ _ st2 fun b _ o e => old b o e) (loop _ rfl))
end L2
set_option Elab.async false
set_option linter.all false
set_option maxRecDepth 100000
namespace L2
open PySem PySem.Spec PyProof.Rows
theorem ObjOk.obj {P:Program} {w:World} {H:Hp} {h:Heap} {a:Addr} {o:HO} (x:ObjOk P w H h a o):∃ ob,h.get? a = some ob:=by
 cases o with
 | lst xs => obtain ⟨_,_,_,_,e⟩:=x; exact ⟨_,e⟩
 | tup xs => obtain ⟨_,_,_,o,e,_⟩:=x; exact ⟨_,e⟩
 | dK kvs => obtain ⟨_,_,_,_,o,_,_,e,_⟩:=x; exact ⟨_,e⟩
 | dT kvs => obtain ⟨_,_,_,_,o,_,_,e,_⟩:=x; exact ⟨_,e⟩
 | set S n => obtain ⟨o,_,_,_,e,_⟩:=x; exact ⟨_,e⟩
 | ins C dx fs => obtain ⟨_,_,_,e,_⟩:=x; exact ⟨_,e⟩
 | own y => exact x
 | xd fs => obtain ⟨_,⟨_,_,_,e,_⟩,_⟩:=x; exact ⟨_,e⟩
 | rng lo hi => obtain ⟨_,_,_,e⟩:=x; exact ⟨_,e⟩
 | frz ob u => obtain ⟨e,_⟩:=x; exact ⟨_,e⟩
 | tbl ps => exact ⟨_,(show h.get? a = some _ from x)⟩
 | met f y => exact ⟨_,(show h.get? a = some _ from x)⟩
 | ext φ => obtain ⟨_,e,_⟩:=x; exact e
noncomputable def CXW (P:Program) (w:World):CXT:=fun outer H s E e s' => ∃ (a:Addr) (cls a0:Value) (H':Hp) (B:Heap),e = .ref a∧s'.os = s.os∧AllBare s'.gens∧Un (frs outer) [] H H' s.heap s'.heap∧HOk P w H' B ∧
 Heap.FlyingW B outer a cls a0 s'.heap∧(∀ b o,s.heap.get? b = some o -> H b = none -> b ∉ frs outer -> B.get? b = some o)∧(∀ b o,s.heap.get? b = some o -> b ∉ frs outer -> ∃ o',B.get? b = some o')∧E cls none H'
theorem passN {P:Program} {w:World} {X:Cx}:Passes (CXW P w) X E0:=fun _ _ _ _ _ _ _ h => by
 obtain ⟨_,_,_,_,_,_,_,_,_,_,_,_,_,hE⟩:=h
 exact hE.elim
theorem mem_frs {env:Env} {L b:Addr} {outer:List Env} (hf:env.frame = some L):b ∈ frs (env :: outer) ↔ b = L ∨ b ∈ frs outer:=by
 unfold frs
 rw [List.filterMap_cons,hf]
 exact List.mem_cons
section
variable {P:Program} {w:World} {K:PySem.W.Frag} {mg:Str -> Option Value} {base:Heap} {N:List Str} {qual:Str} {scope:Scope} {f:Addr} {cd:Value} {A:Around} {outer:List Env} {s:Shared} {H:Hp} {E:XK}
 {pins:List (Addr × Obj)} {σ:St} {H1:Hp} {s1:Shared}
theorem cxw_out (I:Inv (cxOf (CXW P w) P w K mg base N qual scope f cd A outer s H E) pins σ H1 s1) {a:Addr} {cls a0:Value} {H':Hp} {B:Heap} {s2:Shared}
  (hos:s2.os = s1.os) (hb:AllBare s2.gens) (hokB:HOk P w H' B) (hfl:Heap.FlyingW B outer a cls a0 s2.heap)
  (keepB:∀ b o,s1.heap.get? b = some o -> H1 b = none -> b ∉ frs (envOfC qual scope s.heap.objs.size f cd :: outer) -> B.get? b = some o)
  (thereB:∀ b o,s1.heap.get? b = some o -> b ∉ frs (envOfC qual scope s.heap.objs.size f cd :: outer) -> ∃ o',B.get? b = some o')
  (up:∀ b o,s1.heap.get? b = some o -> (∀ vs,o.data ≠ .fields vs) -> b ∈ frs outer -> H1 b = none -> ∃ sl,s2.heap.get? b = some { o with slots:=sl })
  (free1:∀ b o,s1.heap.get? b = some o -> H1 b = none -> H' b = none)
  (tups:∀ b xs,H1 b = some (.tup xs) -> H' b = some (.tup xs)) (frzs:∀ b o u,H1 b = some (.frz o u) -> H' b = some (.frz o u)) (tbls:∀ b ps,H1 b = some (.tbl ps) -> ∃ more,H' b = some (.tbl (ps ++ more)))
  (hE:E cls none H'):CXW P w outer H s E (.ref a) s2:=by
 have u:=I.base
 have notL:∀ b o,s.heap.get? b = some o -> b ∉ frs outer -> b ∉ frs (envOfC qual scope s.heap.objs.size f cd :: outer):=fun b o e nf z => by
  rcases (mem_frs (env:=envOfC qual scope s.heap.objs.size f cd) rfl).mp z with q | q
  ·rw [q] at e; exact absurd (Heap.lt_size e) (Nat.lt_irrefl _)
  ·exact nf q
 have inB:∀ b o,s.heap.get? b = some o -> H b = none -> b ∉ frs outer -> B.get? b = some o:=fun b o e n nf =>
  keepB b o (u.keep b o e n nf (by simp [cxOf])) (u.free b o e n (by simp [cxOf])) (notL b o e nf)
 have thB:∀ b o,s.heap.get? b = some o -> b ∉ frs outer -> ∃ o',B.get? b = some o':=fun b o e nf => by
  obtain ⟨o1,e1⟩:=u.there b o e (by simp [cxOf])
  exact thereB b o1 e1 (notL b o e nf)
 have sl:∀ b o,s.heap.get? b = some o -> H b = none -> b ∈ frs outer -> ∃ sl,s2.heap.get? b = some { o with slots:=sl }:=fun b o e n hb => by
  obtain ⟨sl1,e1⟩:=u.slot b o e n hb (by simp [cxOf])
  obtain ⟨_,o',e',nf⟩:=I.ok.funs.mem hb
  have e'':s.heap.get? b = some o':=e'
  rw [e] at e''; cases e''
  obtain ⟨sl2,e2⟩:=up b _ e1 nf hb (u.free b o e n (by simp [cxOf]))
  exact ⟨sl2,e2⟩
 refine ⟨a,cls,a0,H',B,rfl,hos.trans I.os,hb,⟨fun b o e n nf _ => hfl.1 b o (inB b o e n nf),fun b o e n hb _ => sl b o e n hb,fun b o e n _ => ?_,fun b o e _ => ?_,fun b xs e => tups b xs (u.tups b xs e),fun b o x e => frzs b o x (u.frzs b o x e),fun b ps e => ?_⟩,hokB,hfl,inB,thB,hE⟩
 ·obtain ⟨o1,e1⟩:=u.there b o e (by simp [cxOf])
  exact free1 b o1 e1 (u.free b o e n (by simp [cxOf]))
 ·by_cases hb:b ∈ frs outer
  ·obtain ⟨sl,q⟩:=sl b o e (I.ok.frf b hb) hb
   exact ⟨_,q⟩
  ·obtain ⟨o',q⟩:=thB b o e hb
   exact ⟨o',hfl.1 b o' q⟩
 ·obtain ⟨m1,e1⟩:=u.tbls b ps e
  obtain ⟨m2,e2⟩:=tbls b _ e1
  exact ⟨m1 ++ m2,by rw [e2,Array.append_assoc]⟩
theorem passW:Passes (CXW P w) (cxOf (CXW P w) P w K mg base N qual scope f cd A outer s H E) E:=by
 intro pins σ H1 s1 e s' I hx
 obtain ⟨a,cls,a0,H',B,rfl,hos,hb,un,hokB,hfl,keepB,thereB,hE⟩:=hx
 show wpAny _ _ (leaving _ (.ref a)) _ _ s'
 refine wpAny_leaves_onW (L:=s.heap.objs.size) I.ok.frames rfl hfl fun h'' hfl' hup => ?_
 refine cxw_out I (s2:={ s' with heap:=h'' }) hos hb hokB hfl' keepB thereB (fun b o e nf hb n => ?_) (fun b o e n => un.free b o e n (by simp)) un.tups un.frzs un.tbls hE
 obtain ⟨sl,e1⟩:=un.slot b o e n ((mem_frs (env:=envOfC qual scope s.heap.objs.size f cd) rfl).mpr (.inr hb)) (by simp)
 obtain ⟨sl2,e2⟩:=hup b _ e1 nf
 exact ⟨sl2,e2⟩
theorem madeW (I:Inv (cxOf (CXW P w) P w K mg base N qual scope f cd A outer s H E) pins σ H1 s1) {h':Heap} {a:Addr} {cls:Value} {vs:List Value} (hx:Heap.MadeExcOf s1.heap h' a cls vs) (hE:E cls none H1) :
  (cxOf (CXW P w) P w K mg base N qual scope f cd A outer s H E).xe (.ref a) { s1 with heap:=h' }:=by
 have hin:∀ env ∈ (envOfC qual scope s.heap.objs.size f cd :: outer),∀ b,env.frame = some b -> b ∈ frs (envOfC qual scope s.heap.objs.size f cd :: outer):=fun env he b hb => List.mem_filterMap.mpr ⟨env,he,hb⟩
 have stk:s1.heap.FunFrames base (envOfC qual scope s.heap.objs.size f cd :: outer):=I.stack
 have fr0:∀ b,b ∈ frs (envOfC qual scope s.heap.objs.size f cd :: outer) -> H1 b = none:=I.stkFree
 show wpAny _ _ (leaving _ (.ref a)) _ _ _
 refine wpAny_leaves_madeW (base:=PySem.W.hideAll s1.heap (frs (envOfC qual scope s.heap.objs.size f cd :: outer))) (h:=s1.heap) (L:=s.heap.objs.size) (s:={ s1 with heap:=h' }) I.ok.frames rfl (fun b o q => PySem.W.of_hideAll _ q) (PySem.W.funFrames_hide stk hin) hx fun h'' t x1 x2 x3 x4 => ?_
 have hg:∀ b o,s1.heap.get? b = some o -> b ∉ frs (envOfC qual scope s.heap.objs.size f cd :: outer) -> (PySem.W.hideAll s1.heap (frs (envOfC qual scope s.heap.objs.size f cd :: outer))).get? b = some o:=fun b o e nf => PySem.W.hideAll_get _ e nf
 refine cxw_out I (s2:={ s1 with heap:=h'' }) (H':=H1) rfl I.bare (fun b ob e => (I.hok b ob e).stay (fun c v hcv z => hg c v z fun q => ?_) (fun _ z => z) fun _ _ z => z) x1 (fun b o e _ nf => hg b o e nf) (fun b o e nf => ⟨o,hg b o e nf⟩) (fun b o e nf hb n => ?_) (fun _ _ _ n => n) (fun _ _ e => e) (fun _ _ _ e => e) (fun b ps e => ⟨#[],by rw [e]; simp⟩) hE
 ·have z:=fr0 c q
  rcases hcv with r | r
  ·rw [← r,z] at e; cases e
  ·rw [z] at r; cases r
 ·exact x4 b o (hx.keeps b o e) nf
theorem pown:PassesOwn (model (cxOf (CXW P w) P w K mg base N qual scope f cd A outer s H E).prog (cxOf (CXW P w) P w K mg base N qual scope f cd A outer s H E).w) (cxOf (CXW P w) P w K mg base N qual scope f cd A outer s H E).A
  (cxOf (CXW P w) P w K mg base N qual scope f cd A outer s H E).env (cxOf (CXW P w) P w K mg base N qual scope f cd A outer s H E).xe:=PassesOwn.leaving
end
theorem exc_obj {K:PySem.W.Frag} {h:Heap} {C:Addr} {bmB:List Value} {newId:String} (X:K.In h) (q:PySem.W.excIn K C bmB newId = true) :
  ∃ bm N nm qn bs hdct sn sub ab col dd k0 k1 k2 k3 k5 mN, h.get? C = some (excClassObj nm qn C N bs bm hdct sn sub ab col dd k0 k1 k2 k3 k5 newId)∧h.Ns N mN∧mN "__init__" = none∧OwnTail h bmB bm:=by
 unfold PySem.W.excIn at q
 split at q
 ·rename_i dd cd sl ho
  split at q
  ·rename_i C' bm k0 k1 k2 k3 n k5 hm hs
   simp only [Bool.and_eq_true,beq_iff_eq,Bool.not_eq_true'] at q
   obtain ⟨⟨⟨⟨⟨rfl,rfl⟩,hdel⟩,ht⟩,hok⟩,hni⟩:=q
   obtain ⟨nm,bs,mro,ns,qn,hd,sn,sub,ab,col,del⟩:=cd
   dsimp only at hm hdel hok hni
   subst hm hdel
   have hsl:sl = #[k0,k1,k2,k3,some (.builtin n),k5]:=by
    obtain ⟨l⟩:=sl
    simp only at hs
    rw [hs]
   subst hsl
   exact ⟨bm,ns,nm,qn,bs,hd,sn,sub,ab,col,dd,k0,k1,k2,k3,k5,_,X _ _ ho,.of_isNs (PySem.W.isNs_of_in X hok),PySem.W.nsMap_none_of_in X hok hni,PySem.W.tail_of_in X ht⟩
  ·cases q
 ·cases q
noncomputable def tRaise (E:XK) (C:Addr):TS:=fun _ _ H => E (.ref C) none H
theorem ps_raise {P:Program} {w:World} {K:PySem.W.Frag} {mg:Str -> Option Value} {base:Heap} {N:List Str} {qual:Str} {scope:Scope} {f:Addr} {cd:Value} {A:Around} {outer:List Env} {s:Shared} {H:Hp} {E:XK}
  {x msg:Str} {C:Addr} {B newId initId:String} {bmB:List Value} {np cpos pos p3:Pos} {j:Nat} (FB:ExcBaseFacts B newId initId bmB) (q:PySem.W.excIn K C bmB newId = true)
  (hm:mg x = some (.ref C)) (hg:Gl (cxOf (CXW P w) P w K mg base N qual scope f cd A outer s H E) x) (hd:(x == ("__debug__":Str)) = false:=by decide) :
  PS (cxOf (CXW P w) P w K mg base N qual scope f cd A outer s H E) (.Raise (some (.Call (.Name x np) [.Constant (.str msg) j p3] [] cpos)) none pos) (tRaise E C):=by
 intro pins s1 σ H1 D I h
 obtain ⟨bm,Nn,nm,qn,bs,hdct,sn,sub,ab,col,dd,k0,k1,k2,k3,k5,mN,hC,hN,hni,T⟩:=exc_obj I.ok.mod.kin q
 refine wpAny_Raise_call_subT (C:=C) (nm:=nm) (q:=qn) (N:=Nn) (bs:=bs) (bm:=bm) (hdct:=hdct) (sn:=sn) (sub:=sub) (ab:=ab) (col:=col) (dd:=dd) (k0:=k0) (k1:=k1) (k2:=k2) (k3:=k3) (k5:=k5)
  FB (mN:=mN) (T.hasType FB.hasBase) (I.ok.hd rfl) rfl hni (ld_glob I hg hm ⟨rfl,?_⟩ hd)
 have ha:PA (cxOf (CXW P w) P w K mg base N qual scope f cd A outer s H E) [.Constant (.str msg) j p3] (tCons (tC (.str msg)) tNil):=pa_cons pe_str pa_nil
 have hw:=ha cpos pins s1 σ H1 (fun vs H2 => vs.length = 1∧H2 = H1) I ⟨rfl,rfl⟩
 refine Calls.evalArgs_plain (thn hw fun us s2 ⟨vs,H2,I2,r,hl,e2⟩ => ?_)
 subst e2
 refine ⟨rfl,?_,I2.bk _ _ hC,hN.keeps I2.bk,T.keeps I2.bk,fun h' e hx => madeW I2 hx h⟩
 show us.length ≤ sizeLine
 rw [← r.length,hl]; decide
section
variable {P:Program} {w:World} {K:PySem.W.Frag} {mg:Str -> Option Value} {base:Heap}
theorem Fun.okX {x qual:Str} {st:Stmt} {f:Addr} {fd:FuncData} {N ps:List Str} {k:Nat} {sp:Sp} (F:Fun K x qual st f fd) (S:FnScope N ps (defScope st)) (len:∀ vs H Q E,sp vs H Q E -> vs.length = ps.length)
  (hbody:∀ (cdv:Value) (A:Around) (outer:List Env) (s:Shared) (H:Hp) (vs:List V) (Q:VK) (E:XK),Room k (A.deeper (envOfC qual (defScope st) s.heap.objs.size f cdv)) -> sp vs H Q E →
   ∃ t,PSs (cxOf (CXW P w) P w K mg base N qual (defScope st) f cdv A outer s H E) (defBody st) t∧t { nx:=fun _ H' => Q .non H',rt:=Q } (start N vs) H):FnOk P w K mg base (CXW P w) (k + 1) f fd ps sp:=by
 obtain ⟨oc,od,kV,doc,pm,an,cdv,ct,osl,rfl,lk,hcd⟩:=F.ex
 exact fn_of lk hcd S len fun A outer s H vs Q E hr hsp => hbody cdv A outer s H vs Q E hr hsp
theorem Fun.okN {x qual:Str} {st:Stmt} {f:Addr} {fd:FuncData} {N ps:List Str} {k:Nat} {sp:Sp} (F:Fun K x qual st f fd) (S:FnScope N ps (defScope st)) (len:∀ vs H Q E,sp vs H Q E -> vs.length = ps.length)
  (hbody:∀ (cdv:Value) (A:Around) (outer:List Env) (s:Shared) (H:Hp) (vs:List V) (Q:VK) (E:XK),Room k (A.deeper (envOfC qual (defScope st) s.heap.objs.size f cdv)) -> sp vs H Q E →
   ∃ t,PSs (cxOf (CXW P w) P w K mg base N qual (defScope st) f cdv A outer s H E).nox (defBody st) t∧t { nx:=fun _ H' => Q .non H',rt:=Q } (start N vs) H):FnOk P w K mg base (CXW P w) (k + 1) f fd ps sp :=
 F.okX S len fun cdv A outer s H vs Q E hr hsp => by
  obtain ⟨t,h,q⟩:=hbody cdv A outer s H vs Q E hr hsp
  exact ⟨t,h.nox,q⟩
end
end L2
set_option Elab.async false
set_option linter.all false
set_option maxRecDepth 100000
namespace L2
open PySem PySem.Spec PyProof.Rows PySem.W
structure ExcC (K:Frag) (C:Addr):Prop where
 ga:findIn K (.ref C) "__getattribute__" = some (some (.builtin "BaseException.__getattribute__"))
 gt:findIn K (.ref C) "__getattr__" = some none
 ca:findIn K (.ref C) "__class__" = some (some (.builtin "object.__class__"))
 ob:mroIn K C (.type "object") = some true
 be:mroIn K C (.type "BaseException") = some true
 ty:typeIn K (.ref C) = some (.type "type")
theorem ExcC.cls {K:Frag} {C:Addr} (T:ExcC K C):(clsIn K C).isSome = true:=by
 have h:=T.ob
 unfold mroIn at h
 cases e:clsIn K C with
 | none => rw [e] at h; cases h
 | some cd => rfl
noncomputable def ExcAt (a C:Addr) (h:Heap):Prop:=∃ o vs,h.get? a = some o∧o.cls = .ref C∧o.data = .fields vs
section
variable {prog:Program} {w:World} {A:Around} {E:Value -> Shared -> Prop} {h:Heap} {g:Array GenState} {d:Drawn} {t:Nat} {os:OsState} {a C:Addr} {o:Obj} {K:Frag}
theorem exc_class_get {R:Result -> Shared -> Prop} (X:K.In h) (T:ExcC K C) (hx:h.get? a = some o) (hc:o.cls = .ref C) (hq:R (.ok (.ret (.ref C))) ⟨h,g,d,t,os⟩) :
  codeAny (model prog w) A (.call (.builtin "getset_descriptor.__get__") ⟨[.builtin "object.__class__", .ref a, .ref C], []⟩) R ⟨h, g, d, t, os⟩:=by
 have hT5:(⟨h, g, d, t, os⟩:Shared).TypeIs (.builtin "object.__class__") "getset_descriptor":=F.typeOf_object_class
 have L1:=looks_mroIn (M:=model prog w) X T.ob
 refine codeAny_call_builtin F.slot_gs_get.plain F.entry_gs_get (F.slot_gs_get.check _ _ _ _ _ _ _ _ hT5 (F.args_gs_get _ _ _) ?_)
 repeat (any_goals (first | assumption | (with_reducible refine wpAny_loadPart_at hx ?_; rw [hc]) | (rw [F.owner_object_class]; with_reducible refine L1.at ?_) | wp_step))
 refine ⟨Code.quiet_builtin _ (by decide +kernel),codeAny_builtin F.entry_object_class ?_⟩
 repeat (any_goals (first | assumption | (with_reducible refine wpAny_loadPart_at hx ?_; rw [hc]) | wp_step))
theorem exc_class_entry {tk:Tok} {Q:Fin -> Shared -> Prop} (X:K.In h) (T:ExcC K C) (hx:h.get? a = some o) (hc:o.cls = .ref C) (hq:Q (.done (.ret (.ref C))) ⟨h,g,d,t,os⟩) :
  wpAny (model prog w) A (Builtin.«object.__getattribute__» ⟨[.ref a, .str "__class__" tk], []⟩) Q E ⟨h, g, d, t, os⟩:=by
 have hT5:(⟨h, g, d, t, os⟩:Shared).TypeIs (.builtin "object.__class__") "getset_descriptor":=F.typeOf_object_class
 have f5:=F.typeOf_object_class
 have f6:=F.slot_gs_get.lookup
 have f7:=F.slot_gs_set.lookup
 have L1:=looks_findIn (M:=model prog w) X T.ca
 repeat (any_goals (first | assumption | (with_reducible refine wpAny_loadPart_at hx ?_; rw [hc]) | with_reducible refine L1.at ?_ | wp_step))
 refine exc_class_get X T hx hc ?_
 repeat (any_goals (first | assumption | wp_step))
theorem exc_check_ga {M:Model} {nameV:Value} {Q:Unit -> Shared -> Prop} (X:K.In h) (T:ExcC K C) (hx:h.get? a = some o) (hc:o.cls = .ref C) (hq:Q () ⟨h,g,d,t,os⟩) :
  wpAny M A (checkBuiltinCall "BaseException.__getattribute__" ⟨[.ref a, nameV], []⟩) Q E ⟨h, g, d, t, os⟩:=by
 have hk:builtinKind "BaseException.__getattribute__" = some .slot:=by decide +kernel
 have hsplit:splitId "BaseException.__getattribute__" = some ("BaseException", "__getattribute__"):=by decide +kernel
 have ha:=F.args_bexc_ga (.ref a) nameV
 have L1:=looks_mroIn (M:=M) X T.be
 simp only [checkBuiltinCall,hk,hsplit]
 refine wpAny_bind ?_
 ·unfold isInstance
  repeat (first | (with_reducible refine wpAny_loadPart_at hx ?_; rw [hc]) | with_reducible refine L1.at ?_ | wp_step)
  exact hq
theorem exc_class_by {tk:Tok} {Q:Value -> Shared -> Prop} (X:K.In h) (T:ExcC K C) (hx:h.get? a = some o) (hc:o.cls = .ref C) (hq:Q (.ref C) ⟨h,g,d,t,os⟩) :
  wpAny (model prog w) A (getAttrBy (.ref a) (.str "__class__" tk) false) Q E ⟨h, g, d, t, os⟩:=by
 have FB:=PySem.F.attrBase_ValueError
 have f3:=FB.ga.bind (.ref a)
 have hx0:(false && onTheHeap (Value.builtin "BaseException.__getattribute__")) = false:=rfl
 have hx2:(Value.builtin "BaseException.__getattribute__" == Value.builtin "object.__getattribute__") = false:=by decide +kernel
 have hx1:(onTheHeap (Value.ref C) && Value.builtin "BaseException.__getattribute__" == Value.builtin "object.__getattribute__") = false:=by rw [hx2]; rfl
 have L1:=looks_findIn (M:=model prog w) X T.ga
 have L2:=looks_findIn (M:=model prog w) X T.gt
 repeat (any_goals (first | assumption | (with_reducible refine wpAny_loadPart_at hx ?_; rw [hc]) | with_reducible refine L1.at ?_ | with_reducible refine L2.at ?_ | wp_step))
 refine codeAny_call_builtin FB.ga.plain F.entry_bexc_ga (exc_check_ga X T hx hc (exc_class_entry X T hx hc ?_))
 repeat (any_goals (first | assumption | wp_step))
theorem exc_class_attr {Q:Option Value -> Shared -> Prop} (X:K.In h) (T:ExcC K C) (hx:h.get? a = some o) (hc:o.cls = .ref C) (hq:Q (some (.ref C)) ⟨h,g,d,t + 1,os⟩) :
  wpAny (model prog w) A (getAttr? (.ref a) "__class__") Q E ⟨h, g, d, t, os⟩:=by
 unfold getAttr? getAttrBy?
 repeat (any_goals (first | assumption | with_reducible apply exc_class_by X T hx hc | wp_step))
end
theorem kitx_exc {K:Frag} {a C:Addr} (T:ExcC K C):KitX K (.ref a) (.ref C) (ExcAt a C) where
 ty:=fun M h _ p => by
  obtain ⟨o,vs,h1,h2,_⟩:=p
  exact h2 ▸ (Looks.ld h1).andThen .now
 it:=fun _ _ X _ => by
  obtain ⟨cdD,hcD⟩:=Option.isSome_iff_exists.mp T.cls
  unfold clsIn at hcD
  split at hcD
  ·rename_i c' d' cd' sl' ho
   intro A' Q' E' s' k q
   unfold isType loadHead
   exact wpAny_bind (wpAny_loadPart (k _ _ (X _ _ ho)) (wpAny_pure q))
  ·cases hcD
 ne:=fun h tp dd its n sl X htp => by
  obtain ⟨cdD,hcD⟩:=Option.isSome_iff_exists.mp T.cls
  refine Bool.eq_false_iff.mpr fun q => ?_
  have e:C = tp:=Value.ref.inj (beq_iff_eq.mp q)
  subst e
  unfold clsIn at hcD
  split at hcD
  ·rename_i c' d' cd' sl' ho
   have z:=(X _ _ ho).symm.trans htp
   cases z
  ·cases hcD
 ca:=fun {_ _ _ _ _ s} X p k => by
  obtain ⟨o,vs,h1,h2,_⟩:=p
  obtain ⟨hh,g,d,t,os⟩:=s
  exact exc_class_attr X T h1 h2 k
noncomputable def excO (a C:Addr):HO:=.ext (ExcAt a C)
theorem excO_ok {P:Program} {w:World} {H:Hp} {h:Heap} {a C:Addr} (p:ExcAt a C h):ObjOk P w H h a (excO a C):=by
 refine ⟨p,?_,fun h1 h2 q k => ?_⟩
 ·obtain ⟨o,_,e,_⟩:=p; exact ⟨o,e⟩
 ·obtain ⟨o,vs,e,r⟩:=q; exact ⟨o,vs,k o e,r⟩
inductive TyX (K:Frag) (H:Hp):V -> Value -> Prop where
 | of {x:V} {t:Value} (h:TyOf K H x t):TyX K H x t
 | exc {a C:Addr} (T:ExcC K C) (e:H a = some (excO a C)):TyX K H (.ref a) (.ref C)
theorem isinst_x {X:Cx} {pins:List (Addr × Obj)} {σ:St} {H:Hp} {s:Shared} {A:Around} {E:Value -> Shared -> Prop} {Q:Value -> Shared -> Prop} {c:Value} {b:Bool} {x:V} {u t:Value} (I:Inv X pins σ H s) (rx:RelV x u) (ty:TyX X.K H x t)
  (e:kitOne X.K t c = some b) (h:∀ tk, Q (.bool b) { s with toks:=tk }):wpAny (model X.prog X.w) A (call (.builtin "isinstance") [u, c]) Q E s:=by
 cases ty with
 | of ty => exact isinst_ok I rx ty e h
 | @exc a C T ea =>
  cases (show u = Value.ref a from rx)
  obtain ⟨p,_,_⟩:=(show ObjOk X.prog X.w H s.heap a (excO a C) from I.hok a _ ea)
  exact kia_one (kitx_exc T) I.kIn p e (fun z => nomatch z) h
noncomputable def clsV:V -> Option Value
 | .ref a => some (.ref a)
 | .ty n => some (.type n)
 | _ => none
theorem clsV_rel {x:V} {c u:Value} (h:clsV x = some c) (r:RelV x u):u = c:=by
 cases x with
 | ref a => cases h; exact r
 | ty n => cases h; exact r
 | _ => cases h
noncomputable def rIsi (K:Frag):List V -> Hp -> VK -> Prop:=fun xs H Q => ∃ x t vc c b,xs = [x,vc]∧TyX K H x t∧clsV vc = some c∧kitOne K t c = some b∧Q (.bl b) H
theorem call_isi {X:Cx}:CallR X (.builtin "isinstance") (rIsi X.K):=by
 intro pins s σ H xs us Q I rv h
 obtain ⟨x,t,vc,c,b,rfl,ty,rc,e,q⟩:=h
 obtain ⟨u,v,rfl,r1,r2⟩:=rv.two
 rw [clsV_rel rc r2]
 exact isinst_x I r1 ty e fun tk => ⟨.bl b,H,I.tok _,rfl,q⟩
end L2
set_option Elab.async false
set_option linter.all false
set_option maxRecDepth 100000
namespace L2
open PySem PySem.Spec PyProof.Rows PySem.W
noncomputable def PassesAt (CX:CXT) (X:Cx) (E:XK) (pins:List (Addr × Obj)) (σ:St):Prop:=∀ (H:Hp) (s:Shared) (e:Value) (s':Shared),Inv X pins σ H s -> CX X.stack H s E e s' -> X.xe e s'
noncomputable def PEAt (X:Cx) (pins:List (Addr × Obj)) (σ:St) (e:Expr) (t:TE):Prop:=∀ (s:Shared) (H:Hp) (Q:VK),Inv X pins σ H s -> t σ H Q -> wpAny (model X.prog X.w) X.A (eval e X.env) (EP X pins σ Q) X.xe s
noncomputable def PSsAt (X:Cx) (pins:List (Addr × Obj)) (σ:St) (st:List Stmt) (t:TS):Prop:=∀ (s:Shared) (H:Hp) (D:Ends),Inv X pins σ H s -> t D σ H -> wpAny (model X.prog X.w) X.A (execs st X.env) (SP X pins D) X.xe s
section
variable {X:Cx} {CX:CXT} {k:Nat} {f:Addr} {fd:FuncData} {ps:List Str} {sp:Sp} {dvs:List V} {ds:List Value} {E:XK} {x:Str} {p pos:Pos} {e:Expr} {es:List Expr} {te:TE} {t:TA} {pins:List (Addr × Obj)} {σ:St} {ta tb:TS}
theorem psa_expr (he:PEAt X pins σ e te) (hs:swapsWith e none pos.line X.env = pure false:=by rfl):PSsAt X pins σ [.Expr e pos] (tDrop te):=by
 intro s H D I h
 refine wpAny_execs_cons (wpAny_Expr_any (thn (he s H _ I h) fun v s1 ⟨x,H1,I1,r1,q1⟩ => ?_) I.quiet hs)
 exact wpAny_execs_nil ⟨σ,H1,I1,q1⟩
end
theorem HOk.add {P:Program} {w:World} {H:Hp} {h:Heap} {a:Addr} {o:HO} (x:HOk P w H h) (hn:H a = none) (new:ObjOk P w (upd H a o) h a o):HOk P w (upd H a o) h:=fun b u e => by
 by_cases hb:b = a
 ·subst hb; rw [upd_same] at e; cases e; exact new
 ·rw [upd_ne hb] at e
  exact (x b u e).stay (fun c v _ q => q) (fun c q => by rw [upd_ne (ne_of_none q hn)]; exact q) fun c xs q => by rw [upd_ne (ne_of_none q hn)]; exact q
noncomputable abbrev hdCx (X:Cx) (a:Addr):Cx:={ X with A:=X.A.mark (some (.ref a)),calm:=false,xe:=fun _ _ => False }
theorem Inv.hd {X:Cx} {pins:List (Addr × Obj)} {σ:St} {H:Hp} {s:Shared} {a:Addr} (I:Inv X pins σ H s):Inv (hdCx X a) pins σ H s :=
 ⟨⟨I.ok.mod,I.ok.kind,I.ok.glob,I.ok.blt,I.ok.above,I.ok.inj,I.ok.has,I.ok.cab,fun z => Bool.noConfusion z,I.ok.frames,I.ok.stk,I.ok.exf,I.ok.bs,I.ok.bsz,I.ok.noex,I.ok.exfs,I.ok.funs,I.ok.frf⟩,I.os,I.bare,I.base,I.loc,I.cell,I.free,I.freeC,I.pin,I.hok,I.len⟩
theorem Inv.unhd {X:Cx} {pins:List (Addr × Obj)} {σ:St} {H:Hp} {s:Shared} {a:Addr} (hd:X.calm = true -> X.A.handled = none) (I:Inv (hdCx X a) pins σ H s):Inv X pins σ H s :=
 ⟨⟨I.ok.mod,I.ok.kind,I.ok.glob,I.ok.blt,I.ok.above,I.ok.inj,I.ok.has,I.ok.cab,hd,I.ok.frames,I.ok.stk,I.ok.exf,I.ok.bs,I.ok.bsz,I.ok.noex,I.ok.exfs,I.ok.funs,I.ok.frf⟩,I.os,I.bare,I.base,I.loc,I.cell,I.free,I.freeC,I.pin,I.hok,I.len⟩
theorem Inv.gone {X:Cx} {pins:List (Addr × Obj)} {σ:St} {H:Hp} {s:Shared} {n:Str} {i:Nat} {h':Heap} {v:Option Value} {m:Str -> Option Value} {t':Nat} (I:Inv X pins σ H s) (hN:X.N.Nodup) (hi:X.N[i]? = some n)
  (hl:∀ (j:Nat) (x:Str) (v:V),X.N[j]? = some x -> σ[j]? = some (some v) -> Vis X.env.scope x -> ∃ u,RelV v u∧Look X.env s.heap m x u)
  (hn:h'.Ns X.env.locals (fun x => if x = n then v else m x)) (hs:Heap.SameBut X.env.locals s.heap h'):Inv X pins (σ.set i none) H { s with heap:=h',toks:=t' }:=by
 have cne:=I.cne
 have hiσ:i < σ.length:=by rw [I.len]; exact (List.getElem?_eq_some_iff.mp hi).1
 obtain ⟨m0,⟨oL,es,ep,hoL,_⟩,_⟩:=I.loc
 have tracked:HOk X.prog X.w H h':=fun b ob e => by
  refine (I.hok b ob e).stay (fun c w' hc q => (hs.2 c ?_).trans q) (fun _ q => q) fun _ _ q => q
  rintro rfl
  have fr:=I.free
  rcases hc with rfl | hc
  ·rw [fr] at e; cases e
  ·rw [fr] at hc; cases hc
 refine ⟨I.ok,I.os,I.bare,⟨fun b o e n hb hx => ?_,fun b o e n hb hx => ?_,I.base.free,fun b o e hx => ?_,I.base.tups,I.base.frzs,I.base.tbls⟩,⟨_,hn,fun j y v' e1 e2 e3 => ?_⟩,fun y c e => ?_,I.free,I.freeC,fun p hp => ?_,tracked,by simpa using I.len⟩
 ·exact (hs.2 b (Nat.ne_of_lt (Nat.lt_of_lt_of_le (Heap.lt_size e) I.ok.above))).trans (I.base.keep b o e n hb hx)
 ·obtain ⟨sl,e1⟩:=I.base.slot b o e n hb hx
  exact ⟨sl,(hs.2 b (Nat.ne_of_lt (Nat.lt_of_lt_of_le (Heap.lt_size e) I.ok.above))).trans e1⟩
 ·obtain ⟨o',e1⟩:=I.base.there b o e hx
  exact ⟨o',(hs.2 b (Nat.ne_of_lt (Nat.lt_of_lt_of_le (Heap.lt_size e) I.ok.above))).trans e1⟩
 ·by_cases hj:j = i
  ·subst hj
   rw [List.getElem?_set_self hiσ] at e2
   cases e2
  ·rw [List.getElem?_set_ne (Ne.symm hj)] at e2
   obtain ⟨u',r',q⟩:=hl j y v' e1 e2 e3
   refine ⟨u',r',?_⟩
   rcases q with ⟨k,e⟩ | ⟨k,c,e,z⟩
   ·refine .inl ⟨k,?_⟩
    have:y ≠ n:=fun e => hj (nodup_ix hN e1 (e ▸ hi))
    simp [this,e]
   ·exact .inr ⟨k,c,e,z.sameBut hs (cne y c e)⟩
 ·obtain ⟨w',z⟩:=I.cell y c e
  exact ⟨w',z.sameBut hs (cne y c e)⟩
 ·obtain ⟨e,n,ne,nf,d⟩:=I.pin p hp
  exact ⟨(hs.2 p.1 ne).trans e,n,ne,nf,d⟩
theorem exc_isType {M:Model} {h:Heap} {Cp:Addr} {K:Frag} (X:K.In h) (Tp:ExcC K Cp):Looks M h (isType (.ref Cp)) true:=by
 obtain ⟨cdD,hcD⟩:=Option.isSome_iff_exists.mp Tp.cls
 unfold clsIn at hcD
 split at hcD
 ·rename_i c' d' cd' sl' ho
  intro A' Q' E' s' k q
  unfold isType loadHead
  exact wpAny_bind (wpAny_loadPart (k _ _ (X _ _ ho)) (wpAny_pure q))
 ·cases hcD
theorem exc_matches {M:Model} {A:Around} {E:Value -> Shared -> Prop} {h:Heap} {g:Array GenState} {d:Drawn} {t:Nat} {os:OsState} {a C Cp:Addr} {o:Obj} {K:Frag} {b:Bool} {Q:Bool -> Shared -> Prop} (X:K.In h) (Tp:ExcC K Cp) (hm:mroIn K C (.ref Cp) = some b)
  (hx:h.get? a = some o) (hc:o.cls = .ref C) (hq:Q b ⟨h,g,d,t,os⟩):wpAny M A (excMatches (.ref a) (.ref Cp)) Q E ⟨h,g,d,t,os⟩:=by
 have L1:=looks_typeIn (M:=M) X Tp.ty
 have L3:=looks_mroIn (M:=M) X Tp.be
 have L4:=looks_mroIn (M:=M) X hm
 have L5:Looks M h (isType (.ref Cp)) true:=exc_isType X Tp
 have f:=tc_notTuple
 unfold excMatches
 repeat (first | (with_reducible refine wpAny_loadPart_at hx ?_; rw [hc]) | with_reducible refine L1.at ?_ | with_reducible refine L3.at ?_ | with_reducible refine L4.at ?_ | with_reducible refine L5.at ?_ | wp_step)
 cases b <;> (wp_walk; exact hq)
noncomputable def tTry (K:Frag) (Cp:Addr) (i:Nat) (tb:XK -> TS) (th:TS):TS:=fun D σ H =>
 tb (fun cls _ H' => ∃ C,cls = .ref C∧ExcC K C∧mroIn K C (.ref Cp) = some true∧∀ a,H' a = none -> th { nx:=fun σ2 H2 => D.nx (σ2.set i none) H2,rt:=fun _ _ => False } (σ.set i (some (.ref a))) (upd H' a (excO a C))) D σ H
theorem ps_try {X:Cx} {body suite:List Stmt} {b₀:Stmt} {x n:Str} {np hpos pos:Pos} {Cp:Addr} {i:Nat} {tb:XK -> TS} {th:TS}
  (hstk:X.stack = X.env :: X.outer) (hfr:X.env.frame = some X.env.locals) (hN:X.N.Nodup) (hi:X.N[i]? = some n) (hl:X.env.kindOf n = some .local) (hg:Gl X x) (hm:X.mg x = some (.ref Cp)) (Tp:ExcC X.K Cp)
  (hb:∀ (pins:List (Addr × Obj)) (σ:St) (xe':Value -> Shared -> Prop) (E':XK),PassesAt (CXW X.prog X.w) (X.wish xe') E' pins σ -> PSsAt (X.wish xe') pins σ body (tb E'))
  (hh:∀ a, PSs (hdCx X a) (b₀ :: suite) th) (hd:(x == ("__debug__":Str)) = false:=by decide) :
  PS X (.Try body [.ExceptHandler (some (.Name x np)) (some n) (b₀ :: suite) hpos] [] [] pos) (tTry X.K Cp i tb th):=by
 intro pins s σ H D I h
 refine wpAny_Try_except (wpAny_mono (hb pins σ (fun e s₁ => wpAny (model X.prog X.w) X.A (noteFrame e X.env) (fun _ s₂ => wpAny (model X.prog X.w) X.A (setFlight e none) (fun _ s₃ =>
  wpAny (model X.prog X.w) X.A (handleBy e X.env [.ExceptHandler (some (.Name x np)) (some n) (b₀ :: suite) hpos]) (SP X pins D) X.xe s₃) X.xe s₂) X.xe s₁) _ ?pass s H D (I.wish _) h) (fun f s1 q => ?_) (fun e s1 q => q))
 case pass =>
  intro H1 s1 e s' I1 hx
  obtain ⟨a,cls,a0,H',B,rfl,hos,hbare,un,hokB,hfl,keepB,thereB,C,rfl,T,hmC,hth⟩:=hx
  have J:Inv X pins σ H1 s1:=I1.unwish
  have hfl0:Heap.FlyingW B (X.env :: X.outer) a (.ref C) a0 s'.heap:=by rw [← hstk]; exact hfl
  have hfrm:X.A.frames = some (X.env :: X.outer):=by rw [← hstk]; exact J.ok.frames
  have nBa:B.get? a = none:=hfl.2.1
  have nHa:H' a = none:=by
   cases q:H' a with
   | none => rfl
   | some u =>
    obtain ⟨ob,eb⟩:=(hokB a u q).obj
    rw [nBa] at eb; cases eb
  have frame_ne:∀ b,b ∈ frs X.stack -> b ≠ a:=fun b hb z => by
   obtain ⟨_,o,ho,nf⟩:=hfl.2.2.1.mem hb
   obtain ⟨oe,vs,_,_,_,he,_,hd',_⟩:=hfl.2.2.2
   rw [z,he] at ho; cases ho
   exact nf vs hd'
  have old_ne:∀ b o,s1.heap.get? b = some o -> b ≠ a:=fun b o e z => by
   by_cases hb:b ∈ frs X.stack
   ·exact frame_ne b hb z
   ·obtain ⟨o',e'⟩:=thereB b o e hb
    rw [z,nBa] at e'; cases e'
  -- the heap at any later station
  have station:∀ h5:Heap,Heap.FlyingW B (X.env :: X.outer) a (.ref C) a0 h5 -> s'.heap.UpToSlots h5 -> ∀ t5,Inv X pins σ (upd H' a (excO a C)) { s' with heap:=h5,toks:=t5 }:=fun h5 f5 up5 t5 => by
   have sl:∀ b o,s1.heap.get? b = some o -> H1 b = none -> b ∈ frs X.stack -> ∃ sl,h5.get? b = some { o with slots:=sl }:=fun b o e n hb => by
    obtain ⟨sl1,e1⟩:=un.slot b o e n hb (by simp)
    obtain ⟨_,o',e',nf⟩:=J.stack.mem hb
    rw [e] at e'; cases e'
    obtain ⟨sl2,e2⟩:=up5 b _ e1 nf
    exact ⟨sl2,e2⟩
   have un5:Un (frs X.stack) [] H1 (upd H' a (excO a C)) s1.heap h5:=⟨fun b o e n nf _ => f5.1 b o (keepB b o e n nf),fun b o e n hb _ => sl b o e n hb,fun b o e n _ => by rw [upd_ne (old_ne b o e)]; exact un.free b o e n (by simp),fun b o e _ => by
     by_cases hb:b ∈ frs X.stack
     ·obtain ⟨sl,q⟩:=sl b o e (J.stkFree b hb) hb
      exact ⟨_,q⟩
     ·obtain ⟨o',q⟩:=thereB b o e hb
      exact ⟨o',f5.1 b o' q⟩,fun b xs e => by
     have q:=un.tups b xs e
     rw [upd_ne (ne_of_none q nHa)]; exact q,fun b o x e => by
     have q:=un.frzs b o x e
     rw [upd_ne (ne_of_none q nHa)]; exact q,fun b ps e => by
     obtain ⟨m,q⟩:=un.tbls b ps e
     exact ⟨m,by rw [upd_ne (ne_of_none q nHa)]; exact q⟩⟩
   have at5:ExcAt a C h5:=by
    obtain ⟨oe,vs,_,_,_,he,hc,hd',_⟩:=f5.2.2.2
    exact ⟨oe,vs,he,hc.1,hd'⟩
   have hok5:HOk X.prog X.w (upd H' a (excO a C)) h5:=HOk.add (hokB.kept f5.1) nHa (excO_ok at5)
   obtain ⟨hh',gg,dd,tt,os'⟩:=s'
   obtain rfl:os' = s1.os:=hos
   have IE:=J.call (h':=h5) (g':=gg) (d':=dd) (t':=t5) (ch:=[]) un5 hok5 hbare (fun b z => absurd z (by simp))
   exact IE
  refine wpAny_looks_onW hfrm hfr hfl0 fun h4 held4 up4 => ?_
  refine wpAny_landsW held4 fun h5 f5 up5 => ?_
  have up5':=up4.trans up5
  have I5:=(station h5 f5 up5' s'.toks).hd (a:=a)
  have at5:ExcAt a C h5:=by
   obtain ⟨oe,vs,_,_,_,he,hc,hd',_⟩:=f5.2.2.2
   exact ⟨oe,vs,he,hc.1,hd'⟩
  refine wpAny_handleBy_cons (codeAny_handlers_test ?_) (by intro q; cases q)
  refine ld_glob (X:=hdCx X a) I5 hg hm ?_ hd
  obtain ⟨oe,vs,he,hc,_⟩:=at5
  refine exc_matches I5.kIn Tp hmC he hc ?_
  refine codeAny_handlers_suite_as ?_
  refine lands_againW f5 fun h6 f6 up6 => ?_
  have I6:=(station h6 f6 (up5'.trans up6) s'.toks).hd (a:=a)
  refine store_ok (X:=hdCx X a) I6 hN hi (.inl hl) (v:=.ref a) rfl (fun s7 I7 => ?_) (.inr hl)
  refine wpAny_mono (hh a pins s7 _ _ { nx:=fun σ2 H2 => D.nx (σ2.set i none) H2,rt:=fun _ _ => False } I7 (hth a nHa)) (fun f s8 q8 => ?_) fun _ _ z => z.elim
  cases f with
  | brk => obtain ⟨_,_,_,z⟩:=q8; exact z.elim
  | cont => obtain ⟨_,_,_,z⟩:=q8; exact z.elim
  | ret v => obtain ⟨_,_,_,_,_,z⟩:=q8; exact z.elim
  | next =>
   obtain ⟨σ8,H8,I8,q8⟩:=q8
   have J8:Inv X pins σ8 H8 s8:=I8.unhd J.ok.hd
   obtain ⟨m8,n8,l8⟩:=J8.loc
   refine wpAny_nameGoes_keeps hl n8 (by rw [J8.ok.kind]; rfl) fun h9 v n9 sb9 => ?_
   exact ⟨σ8.set i none,H8,J8.gone hN hi l8 n9 sb9,q8⟩
 ·have q':=q.unwish
  cases f with
  | next => exact wpAny_execs_nil q'
  | ret v => exact q'
  | brk => exact q'
  | cont => exact q'
end L2
set_option Elab.async false
set_option linter.all false
set_option maxRecDepth 100000
namespace L2
open PySem PySem.Spec PyProof.Rows PySem.W
inductive DV where
 | non | bl (b:Bool) | int (i:Int) | str (x:Str) | lst (xs:List DV) | tup (xs:List DV)
mutual
noncomputable def eqD:DV -> DV -> Bool
 | .non,.non => true
 | .bl a,.bl b => a == b
 | .bl a,.int b => (if a then 1 else 0) == b
 | .int a,.bl b => a == (if b then 1 else 0)
 | .int a,.int b => a == b
 | .str a,.str b => a == b
 | .lst a,.lst b => eqDs a b
 | .tup a,.tup b => eqDs a b
 | _,_ => false
noncomputable def eqDs:List DV -> List DV -> Bool
 | [],[] => true
 | a :: r,b :: t => eqD a b && eqDs r t
 | _,_ => false
end
mutual
noncomputable def ht:DV -> Nat
 | .lst xs => hts xs + 1
 | .tup xs => hts xs + 1
 | _ => 0
noncomputable def hts:List DV -> Nat
 | [] => 0
 | a :: r => max (ht a) (hts r)
end
theorem ht_lst (ds:List DV):ht (.lst ds) = hts ds + 1:=by unfold ht; rfl
theorem ht_tup (ds:List DV):ht (.tup ds) = hts ds + 1:=by unfold ht; rfl
mutual
inductive Deep (K:Frag) (H:Hp):V -> DV -> Prop where
 | non:Deep K H .non .non
 | bl (b:Bool):Deep K H (.bl b) (.bl b)
 | int (i:Int):Deep K H (.int i) (.int i)
 | str (x:Str):Deep K H (.str x) (.str x)
 | lst {a:Addr} {xs:List V} {ds:List DV} (h:SqL K H a xs) (t:Deeps K H xs ds):Deep K H (.ref a) (.lst ds)
 | tup {a:Addr} {xs:List V} {ds:List DV} (h:SqT K H a xs) (t:Deeps K H xs ds):Deep K H (.ref a) (.tup ds)
inductive Deeps (K:Frag) (H:Hp):List V -> List DV -> Prop where
 | nil:Deeps K H [] []
 | cons {x:V} {d:DV} {xs:List V} {ds:List DV} (h:Deep K H x d) (t:Deeps K H xs ds):Deeps K H (x :: xs) (d :: ds)
end
theorem Deeps.length {K:Frag} {H:Hp}:∀ {xs:List V} {ds:List DV},Deeps K H xs ds -> xs.length = ds.length
 | _,_,.nil => rfl
 | _,_,.cons _ t => by rw [List.length_cons,List.length_cons,Deeps.length t]
theorem Deeps.get {K:Frag} {H:Hp}:∀ {xs:List V} {ds:List DV} {i:Nat} {d:DV},Deeps K H xs ds -> ds[i]? = some d -> ∃ x,xs[i]? = some x∧Deep K H x d
 | _,_,_,_,.nil,e => by simp at e
 | _,_,0,_,.cons h _,e => by simp at e; subst e; exact ⟨_,rfl,h⟩
 | _,_,i + 1,d,.cons _ t,e => by
  obtain ⟨x,h1,h2⟩:=Deeps.get (i:=i) (d:=d) t (by simpa using e)
  exact ⟨x,by simpa using h1,h2⟩
theorem Deeps.ints {K:Frag} {H:Hp}:∀ ns:List Int,Deeps K H (ns.map V.int) (ns.map DV.int)
 | [] => .nil
 | n :: r => .cons (.int n) (Deeps.ints r)
theorem eqDs_len:∀ {a b:List DV},eqDs a b = true -> a.length = b.length
 | [],[],_ => rfl
 | a :: r,b :: t,h => by
  unfold eqDs at h
  rw [Bool.and_eq_true] at h
  rw [List.length_cons,List.length_cons,eqDs_len h.2]
 | [],_ :: _,h => by unfold eqDs at h; cases h
 | _ :: _,[],h => by unfold eqDs at h; cases h
noncomputable def eAt (ds es:List DV) (j:Nat):Bool:=match ds[j]?,es[j]? with
 | some d,some e => eqD d e
 | _,_ => true
theorem all_eAt:∀ (ds es:List DV),ds.length = es.length -> (List.range ds.length).all (eAt ds es) = eqDs ds es
 | [],[],_ => by unfold eqDs; rfl
 | d :: r,e :: t,h => by
  have ih:=all_eAt r t (by simpa using h)
  rw [List.length_cons,List.range_succ_eq_map,List.all_cons,List.all_map]
  unfold eqDs
  rw [← ih]
  congr 1
 | [],_ :: _,h => by cases h
 | _ :: _,[],h => by cases h
theorem all_eAt_min:∀ (ds es:List DV),((List.range (min ds.length es.length)).all (eAt ds es) && ds.length == es.length) = eqDs ds es:=fun ds es => by
 by_cases h:ds.length = es.length
 ·rw [h,Nat.min_self,← h,all_eAt ds es h]; simp
 ·have h1:(ds.length == es.length) = false:=by simpa using h
  rw [h1,Bool.and_false]
  cases q:eqDs ds es with
  | false => rfl
  | true => exact absurd (eqDs_len q) h
theorem hts_get:∀ {ds:List DV} {i:Nat} {d:DV},ds[i]? = some d -> ht d ≤ hts ds
 | [],_,_,e => by simp at e
 | a :: r,0,d,e => by simp at e; subst e; unfold hts; exact Nat.le_max_left _ _
 | a :: r,i + 1,d,e => by
  have:=hts_get (ds:=r) (i:=i) (d:=d) (by simpa using e)
  unfold hts; exact Nat.le_trans this (Nat.le_max_right _ _)
section
variable {X:Cx} {pins:List (Addr × Obj)} {σ:St} {H:Hp} {s:Shared}
theorem lt_ne {a:Addr} {xs ys:List V} (I:Inv X pins σ H s) (h1:SqL X.K H a xs) (h2:SqT X.K H a ys):False:=by
 obtain ⟨its,_,p,_⟩:=I.list h1
 obtain ⟨its2,_,q,_⟩:=I.tuple h2
 exact SeqAt.ne_of_list_tuple p.isList (show s.heap.IsTuple a its2.toArray from q) rfl
mutual
theorem Deep.inj (I:Inv X pins σ H s):∀ {d:DV} {x:V} {e:DV},Deep X.K H x d -> Deep X.K H x e -> d = e
 | .non,_,_,.non,h => by cases h; rfl
 | .bl b,_,_,.bl _,h => by cases h; rfl
 | .int b,_,_,.int _,h => by cases h; rfl
 | .str b,_,_,.str _,h => by cases h; rfl
 | .lst ds,_,_,.lst h t,h' => by
  cases h' with
  | lst h2 t2 =>
   have e:=I.list_inj h h2
   subst e
   rw [Deeps.inj I t t2]
  | tup h2 t2 => exact (lt_ne I h h2).elim
 | .tup ds,_,_,.tup h t,h' => by
  cases h' with
  | tup h2 t2 =>
   have e:=I.tuple_inj h h2
   subst e
   rw [Deeps.inj I t t2]
  | lst h2 t2 => exact (lt_ne I h2 h).elim
theorem Deeps.inj (I:Inv X pins σ H s):∀ {ds:List DV} {xs:List V} {es:List DV},Deeps X.K H xs ds -> Deeps X.K H xs es -> ds = es
 | [],_,_,.nil,h => by cases h; rfl
 | d :: ds,_,_,.cons h t,h' => by
  cases h' with
  | cons h2 t2 => rw [Deep.inj I h h2,Deeps.inj I t t2]
end
mutual
theorem eqD_refl:∀ d:DV,eqD d d = true
 | .non => by unfold eqD; rfl
 | .bl b => by unfold eqD; simp
 | .int b => by unfold eqD; simp
 | .str b => by unfold eqD; simp
 | .lst ds => by unfold eqD; exact eqDs_refl ds
 | .tup ds => by unfold eqD; exact eqDs_refl ds
theorem eqDs_refl:∀ ds:List DV,eqDs ds ds = true
 | [] => by unfold eqDs; rfl
 | d :: r => by unfold eqDs; rw [eqD_refl d,eqDs_refl r]; rfl
end
theorem items_eq {A:Around} {xs ys:List V} {us vs:List Value} {ds es:List DV} (rx:Vals xs us) (ry:Vals ys vs) (t1:Deeps X.K H xs ds) (t2:Deeps X.K H ys es)
  (ih:∀ d ∈ ds,∀ (e:DV) (x y:V) (u v:Value),Deep X.K H x d -> Deep X.K H y e -> RelV x u -> RelV y v -> SeqAt.EqAt A s u v (eqD d e)) (j:Nat) (h1:j < us.toArray.size) (h2:j < vs.toArray.size) :
  SeqAt.EqAt A s us.toArray[j] vs.toArray[j] (eAt ds es j):=by
 have l1:=rx.length
 have l2:=ry.length
 have m1:=t1.length
 have m2:=t2.length
 simp only [List.size_toArray] at h1 h2
 have g1:ds[j]? = some ds[j]:=List.getElem?_eq_getElem (by trivial)
 have g2:es[j]? = some es[j]:=List.getElem?_eq_getElem (by trivial)
 obtain ⟨x,ex,dx⟩:=t1.get g1
 obtain ⟨y,ey,dy⟩:=t2.get g2
 obtain ⟨u,eu,ru⟩:=rx.get ex
 obtain ⟨v,ev,rv⟩:=ry.get ey
 have e1:us.toArray[j] = u:=by
  rw [List.getElem_toArray]
  exact Option.some.inj ((List.getElem?_eq_getElem h1).symm.trans eu)
 have e2:vs.toArray[j] = v:=by
  rw [List.getElem_toArray]
  exact Option.some.inj ((List.getElem?_eq_getElem h2).symm.trans ev)
 have e3:eAt ds es j = eqD ds[j] es[j]:=by unfold eAt; rw [g1,g2]
 rw [e1,e2,e3]
 exact ih _ (List.getElem_mem _) _ x y u v dx dy ru rv
theorem rc_deep (I:Inv X pins σ H s) {A:Around} (d e:DV) (x y:V) (u v:Value) (hx:Deep X.K H x d) (hy:Deep X.K H y e) (rx:RelV x u) (ry:RelV y v) (hu:A.units < cLine)
  (ih:∀ (d':DV),ht d' < ht d -> ∀ (e:DV) (x y:V) (u v:Value),Deep X.K H x d' -> Deep X.K H y e -> RelV x u -> RelV y v -> SeqAt.EqAt A.in1 s u v (eqD d' e)):SeqAt.RcAt A s u v (eqD d e):=by
 have hlt:∀ {ds:List DV} {d':DV},d' ∈ ds -> ht d' < hts ds + 1:=fun {ds d'} hm => by
  obtain ⟨i,hi,e⟩:=List.getElem_of_mem hm
  exact Nat.lt_succ_of_le (hts_get (i:=i) (by rw [List.getElem?_eq_getElem hi,e]))
 cases hx with
 | non =>
  cases (show u = Value.none from rx)
  cases hy with
  | non => cases (show v = Value.none from ry); unfold eqD; exact SeqAt.RcAt.none_none
  | bl b => cases (show v = Value.bool b from ry); unfold eqD; exact SeqAt.RcAt.none_bool b
  | int b => obtain ⟨t,rfl⟩:=ry; unfold eqD; exact SeqAt.RcAt.none_int b t
  | str b => obtain ⟨t,rfl⟩:=ry; unfold eqD; exact SeqAt.RcAt.none_str b t
  | lst h t => cases ry; obtain ⟨its,r,p,_⟩:=I.list h; unfold eqD; exact SeqAt.RcAt.none_list p.isList hu
  | tup h t => cases ry; obtain ⟨its,r,p,_⟩:=I.tuple h; unfold eqD; exact SeqAt.RcAt.none_tuple (show s.heap.IsTuple _ its.toArray from p) hu
 | bl a =>
  cases (show u = Value.bool a from rx)
  cases hy with
  | non => cases (show v = Value.none from ry); unfold eqD; exact SeqAt.RcAt.bool_none a
  | bl b => cases (show v = Value.bool b from ry); unfold eqD; exact SeqAt.RcAt.bool_bool a b
  | int b => obtain ⟨t,rfl⟩:=ry; unfold eqD; exact SeqAt.RcAt.bool_int a b t
  | str b => obtain ⟨t,rfl⟩:=ry; unfold eqD; exact SeqAt.RcAt.bool_str a b t
  | lst h t => cases ry; obtain ⟨its,r,p,_⟩:=I.list h; unfold eqD; exact SeqAt.RcAt.bool_list a p.isList hu
  | tup h t => cases ry; obtain ⟨its,r,p,_⟩:=I.tuple h; unfold eqD; exact SeqAt.RcAt.bool_tuple a (show s.heap.IsTuple _ its.toArray from p) hu
 | int a =>
  obtain ⟨t',rfl⟩:=rx
  cases hy with
  | non => cases (show v = Value.none from ry); unfold eqD; exact SeqAt.RcAt.int_none a t'
  | bl b => cases (show v = Value.bool b from ry); unfold eqD; exact SeqAt.RcAt.int_bool a t' b
  | int b => obtain ⟨t,rfl⟩:=ry; unfold eqD; exact SeqAt.RcAt.int_int a t' b t
  | str b => obtain ⟨t,rfl⟩:=ry; unfold eqD; exact SeqAt.RcAt.int_str a t' b t
  | lst h t => cases ry; obtain ⟨its,r,p,_⟩:=I.list h; unfold eqD; exact SeqAt.RcAt.int_list a t' p.isList hu
  | tup h t => cases ry; obtain ⟨its,r,p,_⟩:=I.tuple h; unfold eqD; exact SeqAt.RcAt.int_tuple a t' (show s.heap.IsTuple _ its.toArray from p) hu
 | str a =>
  obtain ⟨t',rfl⟩:=rx
  cases hy with
  | non => cases (show v = Value.none from ry); unfold eqD; exact SeqAt.RcAt.str_none a t'
  | bl b => cases (show v = Value.bool b from ry); unfold eqD; exact SeqAt.RcAt.str_bool a t' b
  | int b => obtain ⟨t,rfl⟩:=ry; unfold eqD; exact SeqAt.RcAt.str_int a t' b t
  | str b => obtain ⟨t,rfl⟩:=ry; unfold eqD; exact SeqAt.RcAt.str_str a t' b t
  | lst h t => cases ry; obtain ⟨its,r,p,_⟩:=I.list h; unfold eqD; exact SeqAt.RcAt.str_list a t' p.isList hu
  | tup h t => cases ry; obtain ⟨its,r,p,_⟩:=I.tuple h; unfold eqD; exact SeqAt.RcAt.str_tuple a t' (show s.heap.IsTuple _ its.toArray from p) hu
 | @lst a xs ds h t1 =>
  cases rx
  obtain ⟨its,r,p,_⟩:=I.list h
  cases hy with
  | non => cases (show v = Value.none from ry); unfold eqD; exact SeqAt.RcAt.list_none p.isList hu
  | bl b => cases (show v = Value.bool b from ry); unfold eqD; exact SeqAt.RcAt.list_bool b p.isList hu
  | int b => obtain ⟨t,rfl⟩:=ry; unfold eqD; exact SeqAt.RcAt.list_int b t p.isList hu
  | str b => obtain ⟨t,rfl⟩:=ry; unfold eqD; exact SeqAt.RcAt.list_str b t p.isList hu
  | @lst b ys es h2 t2 =>
   cases ry
   obtain ⟨its2,r2,p2,_⟩:=I.list h2
   have l1:=r.length
   have l2:=r2.length
   have m1:=t1.length
   have m2:=t2.length
   have it:=items_eq (A:=A.in1) r r2 t1 t2 fun d' hd' e x y u v a b c d => ih d' (by rw [ht_lst]; exact hlt hd') e x y u v a b c d
   unfold eqD
   by_cases hl:ds.length = es.length
   ·have q:=SeqAt.RcAt.lists (e:=eAt ds es) p.isList p2.isList (by simp only [List.size_toArray]; trivial) hu it
    rw [← all_eAt ds es hl]
    have e1:its.toArray.size = ds.length:=by simp only [List.size_toArray]; trivial
    rw [e1] at q
    exact q
   ·have q:=SeqAt.RcAt.lists_lengths (A:=A) p.isList p2.isList (by simp only [List.size_toArray,bne_iff_ne]; trivial) hu
    cases z:eqDs ds es with
    | false => exact q
    | true => exact absurd (eqDs_len z) hl
  | @tup b ys es h2 t2 =>
   cases ry
   obtain ⟨its2,r2,p2,_⟩:=I.tuple h2
   unfold eqD
   exact SeqAt.RcAt.list_tuple p.isList (show s.heap.IsTuple b its2.toArray from p2) hu
 | @tup a xs ds h t1 =>
  cases rx
  obtain ⟨its,r,p,_⟩:=I.tuple h
  have p':s.heap.IsTuple a its.toArray:=p
  cases hy with
  | non => cases (show v = Value.none from ry); unfold eqD; exact SeqAt.RcAt.tuple_none p' hu
  | bl b => cases (show v = Value.bool b from ry); unfold eqD; exact SeqAt.RcAt.tuple_bool b p' hu
  | int b => obtain ⟨t,rfl⟩:=ry; unfold eqD; exact SeqAt.RcAt.tuple_int b t p' hu
  | str b => obtain ⟨t,rfl⟩:=ry; unfold eqD; exact SeqAt.RcAt.tuple_str b t p' hu
  | @lst b ys es h2 t2 =>
   cases ry
   obtain ⟨its2,r2,p2,_⟩:=I.list h2
   unfold eqD
   exact SeqAt.RcAt.tuple_list p' p2.isList hu
  | @tup b ys es h2 t2 =>
   cases ry
   obtain ⟨its2,r2,p2,_⟩:=I.tuple h2
   have p2':s.heap.IsTuple b its2.toArray:=p2
   have l1:=r.length
   have l2:=r2.length
   have m1:=t1.length
   have m2:=t2.length
   have it:=items_eq (A:=A.in1) r r2 t1 t2 fun d' hd' e x y u v a b c d => ih d' (by rw [ht_tup]; exact hlt hd') e x y u v a b c d
   unfold eqD
   have q:=SeqAt.RcAt.tuples (e:=eAt ds es) p' p2' hu it
   have e1:its.toArray.size = ds.length:=by simp only [List.size_toArray]; trivial
   have e2:its2.toArray.size = es.length:=by simp only [List.size_toArray]; trivial
   rw [e1,e2,all_eAt_min] at q
   exact q
theorem eq_deep (I:Inv X pins σ H s):∀ (n:Nat) {A:Around} (d:DV),ht d ≤ n -> A.units + n < cLine -> ∀ (e:DV) (x y:V) (u v:Value),Deep X.K H x d -> Deep X.K H y e -> RelV x u -> RelV y v -> SeqAt.EqAt A s u v (eqD d e):=by
 intro n
 induction n with
 | zero =>
  intro A d hd hu e x y u v hx hy rx ry
  have rc:=rc_deep I (A:=A) d e x y u v hx hy rx ry (by trivial) (fun d' h => absurd h (by trivial))
  exact eq_of_rc I hx hy rx ry rc
 | succ n ihn =>
  intro A d hd hu e x y u v hx hy rx ry
  have rc:=rc_deep I (A:=A) d e x y u v hx hy rx ry (by trivial) (fun d' h => ihn (A:=A.in1) d' (by trivial) (by rw [Around.in1_units]; trivial))
  exact eq_of_rc I hx hy rx ry rc
where
 eq_of_rc (I:Inv X pins σ H s) {A:Around} {d e:DV} {x y:V} {u v:Value} (hx:Deep X.K H x d) (hy:Deep X.K H y e) (rx:RelV x u) (ry:RelV y v) (rc:SeqAt.RcAt A s u v (eqD d e)):SeqAt.EqAt A s u v (eqD d e):=by
  intro prog w E Q hq
  unfold eqBool
  refine wpAny_holding ?_
  refine wpAny_ite_split (fun hab => ?_) (fun hab => ?_)
  ·have e1:x = y:=by
    have e0:=eq_of_beq hab
    rw [e0] at rx
    exact rx.inj ry
   subst e1
   have e2:=Deep.inj I hx hy
   subst e2
   rw [eqD_refl] at hq
   exact wpAny_bind (wpAny_rule (wpAny_pure hq))
  ·cases hx <;> cases hy <;> first
    | (cases rx; cases ry; exact wpAny_bind (rc prog w E _ (wpAny_truthy_bool hq)))
    | (obtain ⟨t,rfl⟩:=rx; cases ry; exact wpAny_bind (rc prog w E _ (wpAny_truthy_bool hq)))
    | (cases rx; obtain ⟨t,rfl⟩:=ry; exact wpAny_bind (rc prog w E _ (wpAny_truthy_bool hq)))
    | (obtain ⟨t,rfl⟩:=rx; obtain ⟨t',rfl⟩:=ry; exact wpAny_bind (rc prog w E _ (wpAny_truthy_bool hq)))
theorem rcne_deep (I:Inv X pins σ H s) {A:Around} (d e:DV) (x y:V) (u v:Value) (hx:Deep X.K H x d) (hy:Deep X.K H y e) (rx:RelV x u) (ry:RelV y v) (hu:A.units < cLine)
  (ih:∀ (d':DV),ht d' < ht d -> ∀ (e:DV) (x y:V) (u v:Value),Deep X.K H x d' -> Deep X.K H y e -> RelV x u -> RelV y v -> SeqAt.EqAt A.in1 s u v (eqD d' e)):SeqAt.RcNeAt A s u v (!eqD d e):=by
 have hlt:∀ {ds:List DV} {d':DV},d' ∈ ds -> ht d' < hts ds + 1:=fun {ds d'} hm => by
  obtain ⟨i,hi,e⟩:=List.getElem_of_mem hm
  exact Nat.lt_succ_of_le (hts_get (i:=i) (by rw [List.getElem?_eq_getElem hi,e]))
 cases hx with
 | non =>
  cases (show u = Value.none from rx)
  cases hy with
  | non => cases (show v = Value.none from ry); unfold eqD; exact SeqAt.RcNeAt.none_none
  | bl b => cases (show v = Value.bool b from ry); unfold eqD; exact SeqAt.RcNeAt.none_bool b
  | int b => obtain ⟨t,rfl⟩:=ry; unfold eqD; exact SeqAt.RcNeAt.none_int b t
  | str b => obtain ⟨t,rfl⟩:=ry; unfold eqD; exact SeqAt.RcNeAt.none_str b t
  | lst h t => cases ry; obtain ⟨its,r,p,_⟩:=I.list h; unfold eqD; exact SeqAt.RcNeAt.none_list p.isList hu
  | tup h t => cases ry; obtain ⟨its,r,p,_⟩:=I.tuple h; unfold eqD; exact SeqAt.RcNeAt.none_tuple (show s.heap.IsTuple _ its.toArray from p) hu
 | bl a =>
  cases (show u = Value.bool a from rx)
  cases hy with
  | non => cases (show v = Value.none from ry); unfold eqD; exact SeqAt.RcNeAt.bool_none a
  | bl b => cases (show v = Value.bool b from ry); unfold eqD; exact SeqAt.RcNeAt.bool_bool a b
  | int b => obtain ⟨t,rfl⟩:=ry; unfold eqD; exact SeqAt.RcNeAt.bool_int a b t
  | str b => obtain ⟨t,rfl⟩:=ry; unfold eqD; exact SeqAt.RcNeAt.bool_str a b t
  | lst h t => cases ry; obtain ⟨its,r,p,_⟩:=I.list h; unfold eqD; exact SeqAt.RcNeAt.bool_list a p.isList hu
  | tup h t => cases ry; obtain ⟨its,r,p,_⟩:=I.tuple h; unfold eqD; exact SeqAt.RcNeAt.bool_tuple a (show s.heap.IsTuple _ its.toArray from p) hu
 | int a =>
  obtain ⟨t',rfl⟩:=rx
  cases hy with
  | non => cases (show v = Value.none from ry); unfold eqD; exact SeqAt.RcNeAt.int_none a t'
  | bl b => cases (show v = Value.bool b from ry); unfold eqD; exact SeqAt.RcNeAt.int_bool a t' b
  | int b => obtain ⟨t,rfl⟩:=ry; unfold eqD; exact SeqAt.RcNeAt.int_int a t' b t
  | str b => obtain ⟨t,rfl⟩:=ry; unfold eqD; exact SeqAt.RcNeAt.int_str a t' b t
  | lst h t => cases ry; obtain ⟨its,r,p,_⟩:=I.list h; unfold eqD; exact SeqAt.RcNeAt.int_list a t' p.isList hu
  | tup h t => cases ry; obtain ⟨its,r,p,_⟩:=I.tuple h; unfold eqD; exact SeqAt.RcNeAt.int_tuple a t' (show s.heap.IsTuple _ its.toArray from p) hu
 | str a =>
  obtain ⟨t',rfl⟩:=rx
  cases hy with
  | non => cases (show v = Value.none from ry); unfold eqD; exact SeqAt.RcNeAt.str_none a t'
  | bl b => cases (show v = Value.bool b from ry); unfold eqD; exact SeqAt.RcNeAt.str_bool a t' b
  | int b => obtain ⟨t,rfl⟩:=ry; unfold eqD; exact SeqAt.RcNeAt.str_int a t' b t
  | str b => obtain ⟨t,rfl⟩:=ry; unfold eqD; exact SeqAt.RcNeAt.str_str a t' b t
  | lst h t => cases ry; obtain ⟨its,r,p,_⟩:=I.list h; unfold eqD; exact SeqAt.RcNeAt.str_list a t' p.isList hu
  | tup h t => cases ry; obtain ⟨its,r,p,_⟩:=I.tuple h; unfold eqD; exact SeqAt.RcNeAt.str_tuple a t' (show s.heap.IsTuple _ its.toArray from p) hu
 | @lst a xs ds h t1 =>
  cases rx
  obtain ⟨its,r,p,_⟩:=I.list h
  cases hy with
  | non => cases (show v = Value.none from ry); unfold eqD; exact SeqAt.RcNeAt.list_none p.isList hu
  | bl b => cases (show v = Value.bool b from ry); unfold eqD; exact SeqAt.RcNeAt.list_bool b p.isList hu
  | int b => obtain ⟨t,rfl⟩:=ry; unfold eqD; exact SeqAt.RcNeAt.list_int b t p.isList hu
  | str b => obtain ⟨t,rfl⟩:=ry; unfold eqD; exact SeqAt.RcNeAt.list_str b t p.isList hu
  | @lst b ys es h2 t2 =>
   cases ry
   obtain ⟨its2,r2,p2,_⟩:=I.list h2
   have l1:=r.length
   have l2:=r2.length
   have m1:=t1.length
   have m2:=t2.length
   have it:=items_eq (A:=A.in1) r r2 t1 t2 fun d' hd' e x y u v a b c d => ih d' (by rw [ht_lst]; exact hlt hd') e x y u v a b c d
   unfold eqD
   by_cases hl:ds.length = es.length
   ·have q:=SeqAt.RcNeAt.lists (e:=eAt ds es) p.isList p2.isList (by simp only [List.size_toArray]; trivial) hu it
    rw [← all_eAt ds es hl]
    have e1:its.toArray.size = ds.length:=by simp only [List.size_toArray]; trivial
    rw [e1] at q
    exact q
   ·have q:=SeqAt.RcNeAt.lists_lengths (A:=A) p.isList p2.isList (by simp only [List.size_toArray,bne_iff_ne]; trivial) hu
    cases z:eqDs ds es with
    | false => exact q
    | true => exact absurd (eqDs_len z) hl
  | @tup b ys es h2 t2 =>
   cases ry
   obtain ⟨its2,r2,p2,_⟩:=I.tuple h2
   unfold eqD
   exact SeqAt.RcNeAt.list_tuple p.isList (show s.heap.IsTuple b its2.toArray from p2) hu
 | @tup a xs ds h t1 =>
  cases rx
  obtain ⟨its,r,p,_⟩:=I.tuple h
  have p':s.heap.IsTuple a its.toArray:=p
  cases hy with
  | non => cases (show v = Value.none from ry); unfold eqD; exact SeqAt.RcNeAt.tuple_none p' hu
  | bl b => cases (show v = Value.bool b from ry); unfold eqD; exact SeqAt.RcNeAt.tuple_bool b p' hu
  | int b => obtain ⟨t,rfl⟩:=ry; unfold eqD; exact SeqAt.RcNeAt.tuple_int b t p' hu
  | str b => obtain ⟨t,rfl⟩:=ry; unfold eqD; exact SeqAt.RcNeAt.tuple_str b t p' hu
  | @lst b ys es h2 t2 =>
   cases ry
   obtain ⟨its2,r2,p2,_⟩:=I.list h2
   unfold eqD
   exact SeqAt.RcNeAt.tuple_list p' p2.isList hu
  | @tup b ys es h2 t2 =>
   cases ry
   obtain ⟨its2,r2,p2,_⟩:=I.tuple h2
   have p2':s.heap.IsTuple b its2.toArray:=p2
   have l1:=r.length
   have l2:=r2.length
   have m1:=t1.length
   have m2:=t2.length
   have it:=items_eq (A:=A.in1) r r2 t1 t2 fun d' hd' e x y u v a b c d => ih d' (by rw [ht_tup]; exact hlt hd') e x y u v a b c d
   unfold eqD
   have q:=SeqAt.RcNeAt.tuples (e:=eAt ds es) p' p2' hu it
   have e1:its.toArray.size = ds.length:=by simp only [List.size_toArray]; trivial
   have e2:its2.toArray.size = es.length:=by simp only [List.size_toArray]; trivial
   rw [e1,e2,all_eAt_min] at q
   exact q
end
noncomputable def rEqD (K:Frag):R2:=fun x y H Q => ∃ d e,Deep K H x d∧Deep K H y e∧ht d ≤ 60∧Q (.bl (eqD d e)) H
theorem op_eqD {X:Cx} (hu:X.A.units + 64 < cLine):OpR X (compareOp .Eq) (rEqD X.K):=by
 intro pins s σ H x y v u Q I rx ry h
 obtain ⟨d,e,hx,hy,hh,q⟩:=h
 have rc:=rc_deep I (A:=X.A) d e x y v u hx hy rx ry (by trivial) (fun d' h => eq_deep I 60 d' (by trivial) (by rw [Around.in1_units]; trivial))
 exact rc X.prog X.w X.xe _ ⟨.bl _,H,I,rfl,q⟩
noncomputable def rNeD (K:Frag):R2:=fun x y H Q => ∃ d e,Deep K H x d∧Deep K H y e∧ht d ≤ 60∧Q (.bl (!eqD d e)) H
theorem op_neD {X:Cx} (hu:X.A.units + 64 < cLine):OpR X (compareOp .NotEq) (rNeD X.K):=by
 intro pins s σ H x y v u Q I rx ry h
 obtain ⟨d,e,hx,hy,hh,q⟩:=h
 have rc:=rcne_deep I (A:=X.A) d e x y v u hx hy rx ry (by trivial) (fun d' h => eq_deep I 60 d' (by trivial) (by rw [Around.in1_units]; trivial))
 exact rc X.prog X.w X.xe _ ⟨.bl _,H,I,rfl,q⟩
end L2
set_option Elab.async false
set_option linter.all false
set_option maxRecDepth 100000
namespace L2
open PySem PySem.Spec PyProof.Rows PySem.W
noncomputable def compOk (osc:Scope) (XN N:List Str) (js:List (Option Nat)) (scope:Scope):Bool :=
 scope.names.all (fun y => !(y.2 == NameKind.cell)) && scope.names.all (fun y => !(y.2 == NameKind.local) || scope.names.lookup y.1 == some .local) &&
 scope.names.all (fun y => !(y.2 == NameKind.free) || osc.names.lookup y.1 == some .cell || osc.names.lookup y.1 == some .free) && js.length == N.length &&
 (js.zip N).all (fun p => match p.1 with | none => true | some j => XN[j]? == some p.2 && scope.names.lookup p.2 == some .free)
theorem comp_scope {X:Cx} {N:List Str} {js:List (Option Nat)} {scope:Scope} {osc:Scope} {XN:List Str} (hk:scope.kind = .function) (e1:X.env.scope = osc) (e2:X.N = XN) (h:compOk osc XN N js scope = true):CompScope X N js scope:=by
 unfold compOk at h
 simp only [Bool.and_eq_true,List.all_eq_true,Bool.or_eq_true,Bool.not_eq_true',beq_iff_eq] at h
 obtain ⟨⟨⟨⟨h1,h2⟩,h3⟩,h4⟩,h5⟩:=h
 refine ⟨hk,fun y hy z => ?_,fun y hy z => ?_,fun y hy z => ?_,h4,fun i j x ej ex => ?_⟩
 ·have:=h1 y hy
  rw [z] at this; cases this
 ·rcases h2 y hy with q | q
  ·rw [z] at q; cases q
  ·exact q
 ·show X.env.scope.names.lookup y.1 = _ ∨ X.env.scope.names.lookup y.1 = _
  rw [e1]
  rcases h3 y hy with (q | q) | q
  ·rw [z] at q; cases q
  ·exact .inl q
  ·exact .inr q
 ·have hm:(some j,x) ∈ js.zip N:=by
   refine List.mem_iff_getElem?.mpr ⟨i,?_⟩
   rw [List.getElem?_zip_eq_some]
   exact ⟨ej,ex⟩
  have q:=h5 _ hm
  simp only [Bool.and_eq_true,beq_iff_eq] at q
  rw [e2]
  exact q
noncomputable def CW (n:Nat) (Pv:Nat -> St -> Hp -> Prop) (i m:Nat) (σ:St) (H:Hp):Prop:=m = n - i∧i ≤ n∧Pv i σ H
theorem CW.next {n:Nat} {Pv:Nat -> St -> Hp -> Prop} {i:Nat} {σ:St} {H:Hp} (hi:i < n) (h:Pv (i + 1) σ H):∃ m',m' < n - i∧CW n Pv (i + 1) m' σ H:=⟨n - (i + 1),by trivial,rfl,hi,h⟩
theorem comp_rng {lo:Int} {n:Nat} {D:Addr} {σ0:St} {H1:Hp} {Q:VK} {g:TG} {tc:TT} {te:TE} (Pv:Nat -> St -> Hp -> Prop) (h0:Pv 0 σ0 (upd H1 D (.lst [])))
  (hs:∀ i σ' H',i < n -> Pv i σ' H' -> g (.int (lo + i)) σ' H' fun σ2 H3 => tc σ2 H3 fun b H4 => if b = true then te σ2 H4 fun v H5 => rAppend (.ref D) [v] H5 fun _ H6 => ∃ m',m' < n - i∧CW n Pv (i + 1) m' σ2 H6 else ∃ m',m' < n - i∧CW n Pv (i + 1) m' σ2 H4)
  (hd:∀ σ' H',Pv n σ' H' -> Q (.ref D) H') :
  ∃ W:Nat -> Nat -> St -> Hp -> Prop,(∃ m,W 0 m σ0 (upd H1 D (.lst [])))∧∀ i m σ' H',W i m σ' H' -> ((Itr lo n).stop i H'∧Q (.ref D) H') ∨ ((Itr lo n).go i H'∧∀ x H2,(Itr lo n).yld i H' x H2 -> g x σ' H2 fun σ2 H3 => tc σ2 H3 fun b H4 =>
   if b = true then te σ2 H4 fun v H5 => rAppend (.ref D) [v] H5 fun _ H6 => ∃ m',m' < m∧W (i + 1) m' σ2 H6 else ∃ m',m' < m∧W (i + 1) m' σ2 H4):=by
 refine ⟨CW n Pv,⟨n,rfl,Nat.zero_le _,h0⟩,?_⟩
 rintro i m σ' H' ⟨rfl,hi,p⟩
 by_cases hlt:i < n
 ·refine .inr ⟨hlt,fun x H2 y => ?_⟩
  obtain ⟨e,y⟩:=y
  subst e y
  exact hs i σ' _ hlt p
 ·have e:i = n:=by trivial
  subst e
  exact .inl ⟨Nat.le_refl _,hd σ' H' p⟩
theorem comp_lst {K:Frag} {a:Addr} {xs:List V} {D:Addr} {σ0:St} {H1:Hp} {Q:VK} {g:TG} {tc:TT} {te:TE} (Pv:Nat -> St -> Hp -> Prop) (h0:Pv 0 σ0 (upd H1 D (.lst []))) (hl:∀ i σ H,i ≤ xs.length -> Pv i σ H -> SqL K H a xs)
  (hs:∀ i x σ' H',xs[i]? = some x -> Pv i σ' H' -> g x σ' H' fun σ2 H3 => tc σ2 H3 fun b H4 => if b = true then te σ2 H4 fun v H5 => rAppend (.ref D) [v] H5 fun _ H6 => ∃ m',m' < xs.length - i∧CW xs.length Pv (i + 1) m' σ2 H6 else ∃ m',m' < xs.length - i∧CW xs.length Pv (i + 1) m' σ2 H4)
  (hd:∀ σ' H',Pv xs.length σ' H' -> Q (.ref D) H') :
  ∃ W:Nat -> Nat -> St -> Hp -> Prop,(∃ m,W 0 m σ0 (upd H1 D (.lst [])))∧∀ i m σ' H',W i m σ' H' -> ((Itl K a).stop i H'∧Q (.ref D) H') ∨ ((Itl K a).go i H'∧∀ x H2,(Itl K a).yld i H' x H2 -> g x σ' H2 fun σ2 H3 => tc σ2 H3 fun b H4 =>
   if b = true then te σ2 H4 fun v H5 => rAppend (.ref D) [v] H5 fun _ H6 => ∃ m',m' < m∧W (i + 1) m' σ2 H6 else ∃ m',m' < m∧W (i + 1) m' σ2 H4):=by
 refine ⟨CW xs.length Pv,⟨xs.length,rfl,Nat.zero_le _,h0⟩,?_⟩
 rintro i m σ' H' ⟨rfl,hi,p⟩
 have q:=hl i σ' H' hi p
 by_cases hlt:i < xs.length
 ·refine .inr ⟨⟨xs,xs[i],q,by simp [hlt]⟩,fun x H2 y => ?_⟩
  obtain ⟨e,y⟩:=y
  subst e
  exact hs i x σ' _ (y xs q) p
 ·have e:i = xs.length:=by trivial
  subst e
  exact .inl ⟨⟨xs,q,Nat.le_refl _⟩,hd σ' H' p⟩
theorem eqDs_ints:∀ (a b:List Int),eqDs (a.map DV.int) (b.map DV.int) = decide (a = b)
 | [],[] => by unfold eqDs; rfl
 | [],_ :: _ => by simp [eqDs]
 | _ :: _,[] => by simp [eqDs]
 | x :: r,y :: t => by
  rw [List.map_cons,List.map_cons]
  unfold eqDs eqD
  rw [eqDs_ints r t]
  by_cases h:x = y <;> by_cases h2:r = t <;> simp [h,h2]
theorem hts_ints:∀ a:List Int,hts (a.map DV.int) = 0
 | [] => by unfold hts; rfl
 | x :: r => by rw [List.map_cons]; unfold hts ht; rw [hts_ints r]; rfl
noncomputable def rEqI (K:Frag):R2:=fun x y H Q => ∃ (a b:Addr) (ns ms:List Int),x = .ref a∧y = .ref b∧SqL K H a (ns.map V.int)∧SqL K H b (ms.map V.int)∧Q (.bl (decide (ns = ms))) H
noncomputable def rNeI (K:Frag):R2:=fun x y H Q => ∃ (a b:Addr) (ns ms:List Int),x = .ref a∧y = .ref b∧SqL K H a (ns.map V.int)∧SqL K H b (ms.map V.int)∧Q (.bl (!decide (ns = ms))) H
theorem units_of {A:Around} {k:Nat} (hr:Room k A):A.units + 64 < cLine:=by have:=hr.un; trivial
noncomputable def rIndex (K:Frag):V -> List V -> Hp -> VK -> Prop:=fun x vs H Q => ∃ (p:Addr) (pre:List Int) (k:Int) (post:List Int),x = .ref p∧vs = [.int k]∧SqL K H p ((pre ++ k :: post).map V.int)∧k ∉ pre∧Q (.int (pre.length:Nat)) H
theorem mt_index {X:Cx}:MtR X "list.index" (rIndex X.K):=by
 intro pins s σ H x vs v us Q I rx rv h
 obtain ⟨p,pre,k,post,rfl,rfl,hs,hn,q⟩:=h
 cases rx
 obtain ⟨u,rfl,ru⟩:=rv.one
 obtain ⟨t,rfl⟩:=ru
 obtain ⟨its,r,pl,hz⟩:=I.list hs
 obtain ⟨⟨oc,od,dt,sl⟩,n,e,hc,hdn,hdt⟩:=id pl
 dsimp only at hc hdn hdt
 subst hc hdn hdt
 have hl:=r.length
 rw [List.length_map,List.length_append,List.length_cons] at hl hz
 have fl:((pre ++ k :: post).map V.int).all flatV = true:=by
  rw [List.all_eq_true]
  intro y hy
  obtain ⟨z,_,rfl⟩:=List.mem_map.mp hy
  rfl
 have at':∀ (j:Nat) (z:Int),(pre ++ k :: post)[j]? = some z -> ∀ (h:j < its.toArray.size),eqU (.int k) its.toArray[j] = (z == k):=fun j z ez h => by
  obtain ⟨u,eu,ru⟩:=r.get (i:=j) (x:=.int z) (by rw [List.getElem?_map,ez]; rfl)
  have e1:its.toArray[j] = u:=by
   rw [List.getElem_toArray]
   exact Option.some.inj ((List.getElem?_eq_getElem (by simpa using h)).symm.trans eu)
  rw [e1,eqU_of ru rfl]; rfl
 refine call_meets F.slot_list_index ⟨_,e,rfl⟩ F.entry_list_index (F.args_list_index_2 _ _) (SeqAt.list_indexAt p its.toArray n none sl (.int k t) (eqU (.int k)) pre.length (by rw [List.size_toArray]; trivial) ?_ ?_ ?_) ⟨e,fun y hy => mem_eqAt (x:=.int k) ⟨t,rfl⟩ rfl r fl y (by simpa using hy),?_⟩
 ·have h24:sizeLine = 16777216:=by decide
  trivial
 ·rw [at' pre.length k (by rw [List.getElem?_append_right (Nat.le_refl _)]; simp)]
  simp
 ·intro m hm hlt
  have hp:m < pre.length:=hlt
  rw [at' m pre[m] (by rw [List.getElem?_append_left hp,List.getElem?_eq_getElem hp])]
  have:pre[m] ≠ k:=fun z => hn (z ▸ List.getElem_mem hp)
  simpa using this
 ·exact ⟨.int _,H,I.tok _,⟨_,rfl⟩,q⟩
theorem ifT {σ:St} {H:Hp} {A B:Hp -> Prop} (h:A H):tTrue σ H (fun b H4 => if b = true then A H4 else B H4):=by
 show if true = true then A H else B H
 exact iteT h
theorem nameT {j:Nat} {v:V} {σ:St} {H:Hp} {A B:St -> Hp -> Prop} (h:A (σ.set j (some v)) H):gName j v σ H (fun σ2 H3 => tTrue σ2 H3 (fun b H4 => if b = true then A σ2 H4 else B σ2 H4)):=by
 show if true = true then A (σ.set j (some v)) H else B (σ.set j (some v)) H
 exact iteT h
end L2
namespace PH
end PH
set_option Elab.async false
set_option linter.all false
set_option maxRecDepth 100000
set_option maxHeartbeats 4000000
namespace PH
open PySem L2 PySem.W
theorem same_new {H:Hp} {p:Addr} (h:H p = none) (o:HO):Same H (upd H p o):=fun b u q => by rw [upd_ne (ne_of_none q h)]; exact q
noncomputable def deckO (a b c:Int):HO:=.lst [.int a,.int b,.int c]
noncomputable def lsI (ns:List Int):HO:=.lst (ns.map V.int)
theorem int_at {ns:List Int} {i:Nat} {y:V} (h:(ns.map V.int)[i]? = some y):∃ z,y = V.int z∧ns[i]? = some z:=by
 rw [List.getElem?_map] at h
 cases e:ns[i]? with
 | none => rw [e] at h; cases h
 | some z => rw [e] at h; exact ⟨z,(Option.some.inj h).symm,rfl⟩
theorem take_at {α:Type} {ns:List α} {i:Nat} {z:α} (h:ns[i]? = some z):ns.take (i + 1) = ns.take i ++ [z]:=by rw [List.take_add_one,h]; rfl
theorem cut_to {α:Type} {f:Int -> V} (ns:List Int) (k:Nat):cutV (ns.map f) none (some (k:Int)) = (ns.take k).map f:=by
 unfold cutV
 rw [HT.sIx_none,HT.sIx_nat,List.drop_zero,Nat.sub_zero,List.length_map,← List.map_take]
 congr 1
 rcases Nat.le_total k ns.length with h | h
 ·rw [Nat.min_eq_left h]
 ·rw [Nat.min_eq_right h,List.take_of_length_le (Nat.le_refl _),List.take_of_length_le h]
abbrev bmV:List Value:=[.type "ValueError", .type "Exception", .type "BaseException", .type "object"]
structure Ex (K:Frag) (mg:Str -> Option Value) (x:Str) (C:Addr):Prop where
 mg:mg x = some (.ref C)
 ex:excIn K C bmV "ValueError.__new__" = true
 cl:ExcC K C
theorem kit_refl (K:Frag) (t:Value):kitOne K t t = some true:=by unfold kitOne; rw [if_pos (beq_self_eq_true t)]
theorem kit_ib (K:Frag):kitOne K (.type "int") (.type "bool") = some false:=by rfl
theorem boot_isi:bootBuiltins "isinstance" = some (.builtin "isinstance"):=by decide +kernel
theorem boot_list':bootBuiltins "list" = some (.type "list"):=by decide +kernel
theorem boot_int':bootBuiltins "int" = some (.type "int"):=by decide +kernel
theorem boot_bool':bootBuiltins "bool" = some (.type "bool"):=by decide +kernel
theorem boot_VE:bootBuiltins "ValueError" = some (.type "ValueError"):=by decide +kernel
theorem boot_max':bootBuiltins "max" = some (.builtin "max"):=by decide +kernel
structure Bl (mg:Str -> Option Value):Prop where
 isi:mg "isinstance" = none
 list:mg "list" = none
 int:mg "int" = none
 bool:mg "bool" = none
 len:mg "len" = none
 range:mg "range" = none
 max:mg "max" = none
 ve:mg "ValueError" = none
theorem cut_from (ns:List Int) (k:Nat):cutV (ns.map V.int) (some (k:Int)) none = (ns.drop k).map V.int:=by
 unfold cutV
 rw [HT.sIx_none,HT.sIx_nat,List.length_map]
 rcases Nat.le_total k ns.length with h | h
 ·rw [Nat.min_eq_left h,← List.map_drop,List.take_of_length_le (by rw [List.length_map,List.length_drop]; exact Nat.le_refl _)]
 ·rw [Nat.min_eq_right h,Nat.sub_self,List.take_zero,List.drop_of_length_le h]; rfl
theorem fits {n:Nat} (h:n ≤ 1000000):n ≤ sizeLine:=by
 have:sizeLine = 16777216:=by decide
 trivial
theorem fits_lt {n:Nat} (h:n ≤ 1000000):n < sizeLine:=by
 have:sizeLine = 16777216:=by decide
 trivial
end PH
namespace PH
end PH
set_option Elab.async false
set_option linter.all false
set_option maxRecDepth 100000
namespace L2
open PySem PySem.Spec PyProof.Rows PySem.W
noncomputable def Itrs (lo c:Int) (n:Nat):It:=⟨fun i _ => i < n,fun i H x H' => H' = H∧x = .int (lo + i * c),fun i _ => n ≤ i⟩
theorem turn_rangeS {P:Program} {w:World} {K:PySem.W.Frag} {tg:Expr} (it:Addr) (lo c:Int) (n:Nat):Turn P w K tg (Itrs lo c n) [it] it (fun i h => IsRangeIter h it (lo + (i:Nat) * c) ((n:Int) - (i:Nat)) c) where
 mem:=by simp
 obj:=fun i h st b hb => by
  have e:b = it:=by simpa using hb
  subst e
  exact ⟨_,st,fun v z => by
   have z':Data.fields _ = Data.cell v:=z
   cases z'⟩
 keep:=fun i h h' st k => k it (by simp) _ st
 item:=by
  intro X hP hw hK hc i pins s σ H E I hf st hg
  subst hP hw hK
  obtain ⟨f0,f1,f2,f3,f4,f5⟩:=hf it (by simp)
  have W:=Walks.range (prog:=X.prog) (w:=X.w) (I.ok.hd hc) it lo c n
  refine W.item i s _ _ hg st fun v h' tk hv st' kk => ?_
  obtain ⟨t,rfl⟩:=hv
  have I1:Inv X pins σ H { s with heap:=h',toks:=tk }:=I.turned (fun b o hb e => kk b o (by simpa using hb) e) f0 f1 f3 f4 f5
  exact ⟨_, rfl, go_of (s:={ s with heap:=h', toks:=tk }) (n:="range_iterator") st' rfl rfl (by decide) ⟨.int (lo + i * c), H, I1, ⟨t, rfl⟩, ⟨rfl, rfl⟩, st', fun b hb => (hf b hb).1⟩⟩
 done:=by
  intro X hP hw hK hc i pins s σ H E I hf st hg
  subst hP hw hK
  obtain ⟨f0,f1,f2,f3,f4,f5⟩:=hf it (by simp)
  exact wpAny_pyNext_range_end (I.ok.hd hc) st (by have:n ≤ i:=hg; trivial) fun h' eb => ⟨rfl,I.turned (t':=s.toks) (fun b o hb e => eb b o hb e) f0 f1 f3 f4 f5⟩
 self:=fun _ _ _ _ _ st h => wpAny_pyIter_rangeiter st h
theorem rangeSize_nn (a b c:Int):0 ≤ Builtin.Range.rangeSize a b c:=by
 unfold Builtin.Range.rangeSize
 split
 ·split
  ·have:=Int.ediv_nonneg (a:=b - a - 1) (b:=c) (by trivial) (by trivial)
   trivial
  ·trivial
 ·split
  ·by_cases hc:c = 0
   ·subst hc; simp
   ·have:=Int.ediv_nonneg (a:=a - b - 1) (b:=-c) (by trivial) (by trivial)
    trivial
  ·trivial
section
variable {X:Cx} {tg:Expr}
theorem range_itS {pins:List (Addr × Obj)} {σ:St} {H:Hp} {s:Shared} {R:It -> Hp -> Prop} {E:Value -> Shared -> Prop} {lo hi c:Int} {t u v:Tok} {tk:Nat} (I:Inv X pins σ H s) (h1:Builtin.Range.small lo hi c = true)
  (q:R (Itrs lo c (Builtin.Range.rangeSize lo hi c).toNat) H):wpAny (model X.prog X.w) X.A (pyIter (.ref s.heap.objs.size)) (PIE X pins σ tg R) E { s with heap:=s.heap.push { cls:=.type "range", data:=.fields #[.int lo t, .int hi u, .int c v] }, toks:=tk }:=by
 refine wpAny_pyIter_range (IsRange.new ..) h1 ?_
 have I1:Inv X pins σ H { s with heap:=s.heap.push { cls:=.type "range", data:=.fields #[.int lo t, .int hi u, .int c v] }, toks:=tk }:=I.kept fun b o e => Heap.get?_push_of_some _ e
 refine ⟨(s.heap.push { cls:=.type "range", data:=.fields #[.int lo t, .int hi u, .int c v] }).objs.size, [(s.heap.push { cls:=.type "range", data:=.fields #[.int lo t, .int hi u, .int c v] }).objs.size], _, _, H, rfl,
  I1.kept (t':=tk) fun b o e => Heap.get?_push_of_some _ e,turn_rangeS _ lo c (Builtin.Range.rangeSize lo hi c).toNat,?_,fun b hb => ?_,q⟩
 ·have e1:lo + ((0:Nat):Int) * c = lo:=by simp
  have e2:(((Builtin.Range.rangeSize lo hi c).toNat:Nat):Int) - ((0:Nat):Int) = Builtin.Range.rangeSize lo hi c:=by have:=rangeSize_nn lo hi c; trivial
  show IsRangeIter _ _ (lo + ((0:Nat):Int) * c) ((((Builtin.Range.rangeSize lo hi c).toNat:Nat):Int) - ((0:Nat):Int)) c
  rw [e1,e2]
  exact Heap.get?_push_size _ rfl
 ·have e:b = (s.heap.push { cls:=.type "range", data:=.fields #[.int lo t, .int hi u, .int c v] }).objs.size:=by simpa using hb
  subst e
  exact I1.fpOk (Nat.le_refl _) (I1.hok.fresh (Nat.le_refl _))
noncomputable def iRng3 (ta:TA):TI:=fun σ H R => ta σ H fun vs H1 => ∃ i j c:Int,vs = [.int i,.int j,.int c]∧(c ≠ 0∧c.natAbs < 1073741824)∧Builtin.Range.small i j c = true∧R (Itrs i c (Builtin.Range.rangeSize i j c).toNat) H1
theorem pi_range3 {a b d:Expr} {ta:TA} {p pos:Pos} (hg:Gl X "range") (hm:X.mg "range" = none) (ha:PA X [a, b, d] ta) (hs:starEach [a, b, d] X.env = (false, eval a X.env) :: starEach [b, d] X.env:=by rfl) (hpl:(backTo pos (starEach [b, d] X.env)).any (·.1) = false:=by rfl) :
  PI X tg (.Call (.Name "range" p) [a, b, d] [] pos) (iRng3 ta):=by
 intro pins s σ H R I h
 refine Call_ (ld_blt I hg hm boot_range (PyProof.Rows.callWith_type1 (thn (ha pos pins s σ H _ I h) fun us s1 ⟨vs,H1,I1,r1,q1⟩ => ?_) hs hpl))
 obtain ⟨i,j,c,e,⟨c0,c1⟩,sm,q⟩:=q1
 subst e
 cases r1 with
 | cons r rr =>
  cases rr with
  | cons r' rr =>
   cases rr with
   | cons r'' rr =>
    cases rr
    obtain ⟨t,rfl⟩:=r
    obtain ⟨t',rfl⟩:=r'
    obtain ⟨t'',rfl⟩:=r''
    exact call_range_3 c0 (range_itS (tk:=s1.toks) I1 sm q) (.inl (PyProof.noPylong_small c1))
end
theorem for_rangeS {lo c:Int} {n:Nat} {g:TG} {tb:TS} {D:Ends} {σ:St} {H:Hp} (Pv:Nat -> St -> Hp -> Prop) (h0:Pv 0 σ H)
  (hs:∀ i σ H,i < n -> Pv i σ H -> g (.int (lo + i * c)) σ H fun σ2 H2 => tb { D with nx:=Pv (i + 1),ct:=Pv (i + 1),bk:=D.nx } σ2 H2) (hd:∀ σ H,Pv n σ H -> D.nx σ H) :
  ∃ W:Nat -> Nat -> St -> Hp -> Prop,(∃ m,W 0 m σ H)∧∀ i m σ H,W i m σ H →
   ((Itrs lo c n).stop i H∧D.nx σ H) ∨ ((Itrs lo c n).go i H∧∃ N:St -> Hp -> Prop,(∀ σ' H',N σ' H' -> ∃ m',m' < m∧W (i + 1) m' σ' H')∧∀ x H',(Itrs lo c n).yld i H x H' -> g x σ H' fun σ2 H2 => tb { D with nx:=N,ct:=N,bk:=D.nx } σ2 H2):=by
 refine ⟨fun i m σ H => m = n - i∧i ≤ n∧Pv i σ H,⟨n,by simp,Nat.zero_le _,h0⟩,?_⟩
 rintro i m σ H ⟨rfl,hi,p⟩
 by_cases hlt:i < n
 ·refine .inr ⟨hlt,Pv (i + 1),fun σ' H' p' => ⟨n - (i + 1),by trivial,rfl,hlt,p'⟩,fun x H' y => ?_⟩
  obtain ⟨e,y⟩:=y
  subst e y
  exact hs i σ _ hlt p
 ·have e:i = n:=by trivial
  subst e
  exact .inl ⟨Nat.le_refl _,hd σ H p⟩
theorem comp_rngQ {lo:Int} {n:Nat} {D:Addr} {σ0:St} {H1:Hp} {Qd:Hp -> Prop} {g:TG} {tc:TT} {te:TE} (Pv:Nat -> St -> Hp -> Prop) (h0:Pv 0 σ0 (upd H1 D (.lst [])))
  (hs:∀ i σ' H',i < n -> Pv i σ' H' -> g (.int (lo + i)) σ' H' fun σ2 H3 => tc σ2 H3 fun b H4 => if b = true then te σ2 H4 fun v H5 => rAppend (.ref D) [v] H5 fun _ H6 => ∃ m',m' < n - i∧CW n Pv (i + 1) m' σ2 H6 else ∃ m',m' < n - i∧CW n Pv (i + 1) m' σ2 H4)
  (hd:∀ σ' H',Pv n σ' H' -> Qd H') :
  ∃ W:Nat -> Nat -> St -> Hp -> Prop,(∃ m,W 0 m σ0 (upd H1 D (.lst [])))∧∀ i m σ' H',W i m σ' H' -> ((Itr lo n).stop i H'∧Qd H') ∨ ((Itr lo n).go i H'∧∀ x H2,(Itr lo n).yld i H' x H2 -> g x σ' H2 fun σ2 H3 => tc σ2 H3 fun b H4 =>
   if b = true then te σ2 H4 fun v H5 => rAppend (.ref D) [v] H5 fun _ H6 => ∃ m',m' < m∧W (i + 1) m' σ2 H6 else ∃ m',m' < m∧W (i + 1) m' σ2 H4) :=
 comp_rng (Q:=fun _ H => Qd H) Pv h0 hs hd
theorem comp_lstQ {K:Frag} {a:Addr} {xs:List V} {D:Addr} {σ0:St} {H1:Hp} {Qd:Hp -> Prop} {g:TG} {tc:TT} {te:TE} (Pv:Nat -> St -> Hp -> Prop) (h0:Pv 0 σ0 (upd H1 D (.lst []))) (hl:∀ i σ H,i ≤ xs.length -> Pv i σ H -> SqL K H a xs)
  (hs:∀ i x σ' H',xs[i]? = some x -> Pv i σ' H' -> g x σ' H' fun σ2 H3 => tc σ2 H3 fun b H4 => if b = true then te σ2 H4 fun v H5 => rAppend (.ref D) [v] H5 fun _ H6 => ∃ m',m' < xs.length - i∧CW xs.length Pv (i + 1) m' σ2 H6 else ∃ m',m' < xs.length - i∧CW xs.length Pv (i + 1) m' σ2 H4)
  (hd:∀ σ' H',Pv xs.length σ' H' -> Qd H') :
  ∃ W:Nat -> Nat -> St -> Hp -> Prop,(∃ m,W 0 m σ0 (upd H1 D (.lst [])))∧∀ i m σ' H',W i m σ' H' -> ((Itl K a).stop i H'∧Qd H') ∨ ((Itl K a).go i H'∧∀ x H2,(Itl K a).yld i H' x H2 -> g x σ' H2 fun σ2 H3 => tc σ2 H3 fun b H4 =>
   if b = true then te σ2 H4 fun v H5 => rAppend (.ref D) [v] H5 fun _ H6 => ∃ m',m' < m∧W (i + 1) m' σ2 H6 else ∃ m',m' < m∧W (i + 1) m' σ2 H4) :=
 comp_lst (Q:=fun _ H => Qd H) Pv h0 hl hs hd
end L2
set_option Elab.async false
set_option linter.all false
set_option maxRecDepth 100000
set_option maxHeartbeats 4000000
namespace PH
open PySem L2 PySem.W
structure ExR (K:Frag) (cP cN c1 c2 c3 c4 c5 c6:Addr):Prop where
 m:mroIn K cN (.ref cP) = some true
 v:kitOne K (.ref cN) (.type "ValueError") = some true
 o:kitAny K (.ref cN) [.ref c1,.ref c2,.ref c3,.ref c4,.ref c5,.ref c6] = some false
end PH
namespace PH
end PH
set_option Elab.async false
set_option linter.all false
namespace L2
open PySem PySem.Spec PyProof.Rows
section
variable {X:Cx}
end
end L2
set_option Elab.async false
set_option linter.all false
set_option maxRecDepth 100000
set_option maxHeartbeats 4000000
namespace PH
open PySem L2 PySem.W
theorem boot_min':bootBuiltins "min" = some (.builtin "min"):=by decide +kernel
structure Bls (mg:Str -> Option Value):Prop where
 isi:mg "isinstance" = none
 list:mg "list" = none
 int:mg "int" = none
 bool:mg "bool" = none
 len:mg "len" = none
 range:mg "range" = none
 max:mg "max" = none
 ve:mg "ValueError" = none
 tuple:mg "tuple" = none
 min:mg "min" = none
 sorted:mg "sorted" = none
 all:mg "all" = none
 dict:mg "dict" = none
theorem same_upd {H H':Hp} (s:Same H H') {q:Addr} (u:HO) (hq:H q = none):Same H (upd H' q u):=fun b w e => by
 rw [upd_ne (ne_of_none e hq)]; exact s b w e
theorem lsI_app1 (a:List Int) (z:Int):(.lst (a.map V.int ++ [V.int z]):HO) = lsI (a ++ [z]):=by unfold lsI; rw [List.map_append]; rfl
theorem len_lsI (a:List Int):(a.map V.int).length = a.length:=List.length_map _
end PH
set_option Elab.async false
set_option linter.all false
set_option maxRecDepth 100000
set_option maxHeartbeats 4000000
namespace PH
open PySem L2 PySem.W
structure Dks (ps:List Addr) (D:Addr) (H:Hp):Prop where
 at_:H D = some (.lst (ps.map V.ref))
 each:∀ p ∈ ps,p ≠ D∧∃ a b c,H p = some (deckO a b c)
theorem ht_pair (ns:List Int) (b:Int):ht (.tup [.lst (ns.map DV.int),.int b]) ≤ 60:=by
 rw [ht_tup]
 unfold hts
 rw [ht_lst,hts_ints]
 unfold hts
 unfold ht
 unfold hts
 decide
end PH
set_option Elab.async false
set_option linter.all false
set_option maxRecDepth 100000
namespace L2
open PySem PySem.Spec PyProof.Rows PySem.W
end L2
set_option Elab.async false
set_option linter.all false
set_option maxRecDepth 100000
namespace L2
open PySem PySem.Spec PyProof.Rows
section
variable {κ:Type} [DecidableEq κ]
noncomputable def valV (kvs:List (κ × V)) (k:κ):Option V:=(kvs.find? fun kv => decide (kv.1 = k)).map (·.2)
noncomputable def putK (kvs:List (κ × V)) (k:κ) (v:V):List (κ × V) :=
 if (kvs.any fun kv => decide (kv.1 = k)) = true then kvs.map (fun kv => if kv.1 = k then (kv.1,v) else kv) else kvs ++ [(k,v)]
theorem valV_pos {p:κ × V} {r:List (κ × V)} {k:κ} (e:p.1 = k):valV (p :: r) k = some p.2:=by simp [valV,List.find?_cons,e]
theorem valV_neg {p:κ × V} {r:List (κ × V)} {k:κ} (e:¬ p.1 = k):valV (p :: r) k = valV r k:=by simp [valV,List.find?_cons,e]
theorem valV_any (k:κ):∀ kvs:List (κ × V),(kvs.any fun kv => decide (kv.1 = k)) = (valV kvs k).isSome
 | [] => rfl
 | p :: r => by
  rw [List.any_cons]
  by_cases e:p.1 = k
  ·simp only [valV_pos e,decide_eq_true e,Bool.true_or,Option.isSome_some]
  ·rw [valV_neg e,decide_eq_false e,Bool.false_or]; exact valV_any k r
theorem valV_map (k j:κ) (y:V):∀ kvs:List (κ × V),valV (kvs.map fun kv => if kv.1 = k then (kv.1,y) else kv) j = (valV kvs j).map fun x => if j = k then y else x
 | [] => rfl
 | p :: r => by
  have ih:=valV_map k j y r
  rw [List.map_cons]
  by_cases h:p.1 = k
  ·rw [if_pos h]
   by_cases e:p.1 = j
   ·rw [valV_pos (p:=(p.1,y)) e,valV_pos e,Option.map_some,if_pos (e.symm.trans h)]
   ·rw [valV_neg (p:=(p.1,y)) e,valV_neg e,ih]
  ·rw [if_neg h]
   by_cases e:p.1 = j
   ·rw [valV_pos (p:=p) e,valV_pos e,Option.map_some,if_neg (fun z => h (e.trans z))]
   ·rw [valV_neg (p:=p) e,valV_neg e,ih]
theorem valV_snoc (k j:κ) (y:V):∀ kvs:List (κ × V),valV kvs k = none -> valV (kvs ++ [(k,y)]) j = if j = k then some y else valV kvs j
 | [],_ => by
  by_cases e:k = j
  ·rw [if_pos e.symm]; exact valV_pos (p:=(k,y)) e
  ·rw [if_neg (fun z => e z.symm)]; exact valV_neg (p:=(k,y)) e
 | p :: r,hn => by
  rw [List.cons_append]
  have hk:¬ p.1 = k:=fun z => by rw [valV_pos z] at hn; cases hn
  rw [valV_neg hk] at hn
  have ih:=valV_snoc k j y r hn
  by_cases e:p.1 = j
  ·rw [valV_pos e,valV_pos e,if_neg (fun z => hk (e.trans z))]
  ·rw [valV_neg e,valV_neg e,ih]
theorem valV_put (kvs:List (κ × V)) (k j:κ) (y:V):valV (putK kvs k y) j = if j = k then some y else valV kvs j:=by
 unfold putK
 by_cases a:(kvs.any fun kv => decide (kv.1 = k)) = true
 ·rw [if_pos a,valV_map]
  rw [valV_any] at a
  by_cases e:j = k
  ·obtain ⟨x,hx⟩:=Option.isSome_iff_exists.mp a
   rw [if_pos e,e,hx,Option.map_some,if_pos rfl]
  ·rw [if_neg e]
   cases valV kvs j with
   | none => rfl
   | some x => rw [Option.map_some,if_neg e]
 ·rw [if_neg a]
  refine valV_snoc k j y kvs ?_
  rw [valV_any] at a
  cases q:valV kvs k with
  | none => rfl
  | some x => rw [q] at a; exact (a rfl).elim
theorem length_putK (kvs:List (κ × V)) (k:κ) (v:V):(putK kvs k v).length ≤ kvs.length + 1:=by
 unfold putK
 split
 ·rw [List.length_map]; trivial
 ·rw [List.length_append,List.length_cons,List.length_nil]; trivial
theorem RelO.isSome_eq {o:Option V} {u:Option Value} (r:RelO o u):o.isSome = u.isSome:=by
 cases o with
 | none => cases u with
  | none => rfl
  | some _ => exact (show False from r).elim
 | some _ => cases u with
  | none => exact (show False from r).elim
  | some _ => rfl
theorem RelO.getD {o:Option V} {u:Option Value} {d:V} {d':Value} (r:RelO o u) (rd:RelV d d'):RelV (o.getD d) (u.getD d'):=by
 cases o with
 | none => cases u with
  | none => exact rd
  | some _ => exact (show False from r).elim
 | some _ => cases u with
  | none => exact (show False from r).elim
  | some _ => exact r
theorem KV.val {kvs:List (κ × V)} {vs:List (κ × Value)} (r:KV kvs vs) (k:κ):RelO (valV kvs k) (valueAt vs k):=by
 unfold KV at r
 induction r with
 | nil => exact True.intro
 | @cons p q ps qs h t ih =>
  obtain ⟨h1,h2⟩:=h
  by_cases e:p.1 = k
  ·have e':q.1 = k:=h1.symm.trans e
   have b:valueAt (q :: qs) k = some q.2:=by simp [valueAt,List.find?_cons,e']
   rw [valV_pos e,b]; exact h2
  ·have e':¬ q.1 = k:=fun z => e (h1.trans z)
   have b:valueAt (q :: qs) k = valueAt qs k:=by simp [valueAt,List.find?_cons,e']
   rw [valV_neg e,b]; exact ih
theorem KV.any {kvs:List (κ × V)} {vs:List (κ × Value)} (r:KV kvs vs) (k:κ):(kvs.any fun kv => decide (kv.1 = k)) = vs.any fun kv => decide (kv.1 = k):=by
 unfold KV at r
 induction r with
 | nil => rfl
 | cons h t ih => rw [List.any_cons,List.any_cons,ih,h.1]
theorem KV.repl {kvs:List (κ × V)} {vs:List (κ × Value)} (r:KV kvs vs) (k:κ) {y:V} {u:Value} (ry:RelV y u) :
  KV (kvs.map fun kv => if kv.1 = k then (kv.1,y) else kv) (vs.map fun kv => if kv.1 = k then (kv.1,u) else kv):=by
 unfold KV at r ⊢
 induction r with
 | nil => exact .nil
 | @cons p q ps qs h t ih =>
  rw [List.map_cons,List.map_cons]
  refine .cons ?_ ih
  obtain ⟨h1,h2⟩:=h
  by_cases e:p.1 = k
  ·rw [if_pos e,if_pos (h1.symm.trans e)]; exact ⟨h1,ry⟩
  ·rw [if_neg e,if_neg (fun z => e (h1.trans z))]; exact ⟨h1,h2⟩
theorem KV.put {kvs:List (κ × V)} {vs:List (κ × Value)} (r:KV kvs vs) (k:κ) {y:V} {u:Value} (ry:RelV y u):KV (putK kvs k y) (stored vs k u):=by
 unfold putK stored
 rw [r.any k]
 by_cases e:(vs.any fun kv => decide (kv.1 = k)) = true
 ·rw [if_pos e,if_pos e]; exact r.repl k ry
 ·rw [if_neg e,if_neg e]; exact Paired.snoc r ⟨rfl,ry⟩
theorem KV.keys {kvs:List (κ × V)} {vs:List (κ × Value)} (r:KV kvs vs):kvs.map (·.1) = vs.map (·.1):=by
 unfold KV at r
 induction r with
 | nil => rfl
 | cons h t ih => rw [List.map_cons,List.map_cons,ih,h.1]
theorem KV.length {kvs:List (κ × V)} {vs:List (κ × Value)} (r:KV kvs vs):kvs.length = vs.length:=Paired.length r
end
theorem kV_is {P:Program} {w:World} {k:Key} {u:Value} (r:RelV (kV k) u):(mixKind P w).is k u = true:=by
 cases k with
 | inl i => obtain ⟨t,e⟩:=(show ∃ t,u = Value.int i t from r); subst e; exact mixKind_int P w i t
 | inr x => obtain ⟨t,e⟩:=(show ∃ t,u = Value.str x t from r); subst e; exact mixKind_str P w x t
theorem items_are {P:Program} {w:World}:∀ {ks:List Key} {us:List Value},Vals (ks.map kV) us -> ItemsAre (mixKind P w) ks us
 | [],_,r => by rw [List.map_nil] at r; cases r; exact .nil
 | k :: ks,_,r => by
  rw [List.map_cons] at r
  cases r with
  | cons h t => exact .cons (kV_is h) (items_are t)
noncomputable abbrev KT (H:Hp):List (List Key × V) -> List (List Key × Addr × Value) -> Prop:=Paired fun p q => p.1 = q.1∧H q.2.1 = some (.tup (p.1.map kV))∧RelV p.2 q.2.2
theorem KT.val {H:Hp} {kvs:List (List Key × V)} {xs:List (List Key × Addr × Value)} (r:KT H kvs xs) (k:List Key):RelO (valV kvs k) ((atKey xs k).map (·.2)):=by
 induction r with
 | nil => exact True.intro
 | @cons p q ps qs h t ih =>
  obtain ⟨h1,_,h2⟩:=h
  by_cases e:p.1 = k
  ·have e':q.1 = k:=h1.symm.trans e
   have b:atKey (q :: qs) k = some q.2:=by simp [atKey,List.find?_cons,e']
   rw [valV_pos e,b]; exact h2
  ·have e':¬ q.1 = k:=fun z => e (h1.trans z)
   have b:atKey (q :: qs) k = atKey qs k:=by simp [atKey,List.find?_cons,e']
   rw [valV_neg e,b]; exact ih
theorem KT.repl {H:Hp} {kvs:List (List Key × V)} {xs:List (List Key × Addr × Value)} (r:KT H kvs xs) (k:List Key) {y:V} {u:Value} (ry:RelV y u) :
  KT H (kvs.map fun kv => if kv.1 = k then (kv.1,y) else kv) (xs.map (putAt k u)):=by
 induction r with
 | nil => exact .nil
 | @cons p q ps qs h t ih =>
  rw [List.map_cons,List.map_cons]
  refine .cons ?_ ih
  obtain ⟨h1,h2,h3⟩:=h
  unfold putAt
  by_cases e:p.1 = k
  ·rw [if_pos e,if_pos (h1.symm.trans e)]; exact ⟨h1,h2,ry⟩
  ·rw [if_neg e,if_neg (fun z => e (h1.trans z))]; exact ⟨h1,h2,h3⟩
theorem KT.put {H:Hp} {kvs:List (List Key × V)} {xs:List (List Key × Addr × Value)} (r:KT H kvs xs) (k:List Key) {b:Addr} {y:V} {u:Value} (hb:H b = some (.tup (k.map kV))) (ry:RelV y u) :
  KT H (putK kvs k y) (storedH xs k b u):=by
 have e:(kvs.any fun kv => decide (kv.1 = k)) = (atKey xs k).isSome:=by
  rw [valV_any,(r.val k).isSome_eq,Option.isSome_map]
 unfold putK storedH
 rw [e]
 by_cases q:(atKey xs k).isSome = true
 ·rw [if_pos q,if_pos q]; exact r.repl k ry
 ·rw [if_neg q,if_neg q]; exact Paired.snoc r ⟨rfl,hb,ry⟩
theorem KT.keeps {H H':Hp} {kvs:List (List Key × V)} {xs:List (List Key × Addr × Value)} (r:KT H kvs xs) (ht:∀ b ys,H b = some (.tup ys) -> H' b = some (.tup ys)):KT H' kvs xs :=
 Paired.mapP r fun _ _ z => ⟨z.1,ht _ _ z.2.1,z.2.2⟩
section
variable {P:Program} {w:World} {H:Hp} {h:Heap} {a:Addr}
theorem rd_of {u:HO} (ok:HOk P w H h) (e:Rd H a u):ObjOk P w H h a u:=e.ok ok
theorem dk_rd {kvs:List (Key × V)} (ok:HOk P w H h) (e:Rd H a (.dK kvs)):kvs.length ≤ sizeLine∧(a == sysModules) = false∧∃ vs,KV kvs vs∧h.DictOf (mixKind P w) a vs :=
 show ObjOk P w H h a (.dK kvs) from rd_of ok e
theorem dk_of {kvs:List (Key × V)} (ok:HOk P w H h) (e:H a = some (.dK kvs)):kvs.length ≤ sizeLine∧(a == sysModules) = false∧∃ vs,KV kvs vs∧h.DictOf (mixKind P w) a vs:=dk_rd ok (.inl e)
theorem key_of {ks:List Key} (ok:HOk P w H h) (e:H a = some (.tup (ks.map kV))):(tupleKind (mixKind P w)).is h ks a:=by
 obtain ⟨_,its,r,o,h1,h2,n,h3⟩:=(show ObjOk P w H h a (.tup (ks.map kV)) from ok a _ e)
 exact ⟨o,its.toArray,n,h1,h2,h3,by simpa using items_are r⟩
theorem dt_rd {kvs:List (List Key × V)} (ok:HOk P w H h) (e:Rd H a (.dT kvs)):kvs.length ≤ sizeLine∧(a == sysModules) = false ∧
  ∃ xs,KT H kvs xs∧h.DictOfH (tupleKind (mixKind P w)) a xs:=by
 obtain ⟨z,y,xs,r,o,es,ep,h1,h2,h3,h4,h5⟩:=(show ObjOk P w H h a (.dT kvs) from rd_of ok e)
 refine ⟨z,y,xs,r,o,es,ep,h1,h2,h3,h4,fun x hx => ?_,h5⟩
 have all:∀ {l:List (List Key × V)} {m:List (List Key × Addr × Value)},KT H l m -> ∀ x ∈ m,(tupleKind (mixKind P w)).is h x.1 x.2.1:=by
  intro l m q
  induction q with
  | nil => intro x hx; exact nomatch hx
  | @cons p q ps qs hq t ih =>
   intro x hx
   rcases List.mem_cons.mp hx with e | hx
   ·subst e
    exact key_of ok (by rw [← hq.1]; exact hq.2.1)
   ·exact ih x hx
 exact all r x hx
theorem dt_of {kvs:List (List Key × V)} (ok:HOk P w H h) (e:H a = some (.dT kvs)):kvs.length ≤ sizeLine∧(a == sysModules) = false ∧
  ∃ xs,KT H kvs xs∧h.DictOfH (tupleKind (mixKind P w)) a xs:=dt_rd ok (.inl e)
end
noncomputable def DGet (H:Hp) (a:Addr) (y:V) (r:Option V):Prop :=
 (∃ kvs k,Rd H a (.dK kvs)∧y = kV k∧r = valV kvs k) ∨ ∃ kvs k b,Rd H a (.dT kvs)∧y = .ref b∧H b = some (.tup (k.map kV))∧r = valV kvs k
noncomputable def DPut (H:Hp) (a:Addr) (y v:V) (H':Hp):Prop :=
 (∃ kvs k,H a = some (.dK kvs)∧y = kV k∧kvs.length < sizeLine∧H' = upd H a (.dK (putK kvs k v))) ∨
 ∃ kvs k b,H a = some (.dT kvs)∧y = .ref b∧H b = some (.tup (k.map kV))∧kvs.length < sizeLine∧H' = upd H a (.dT (putK kvs k v))
theorem DGet.k {H:Hp} {a:Addr} {kvs:List (Key × V)} {k:Key} (e:H a = some (.dK kvs)):DGet H a (kV k) (valV kvs k):=.inl ⟨kvs,k,.inl e,rfl,rfl⟩
theorem DGet.t {H:Hp} {a b:Addr} {kvs:List (List Key × V)} {k:List Key} (e:H a = some (.dT kvs)) (eb:H b = some (.tup (k.map kV))):DGet H a (.ref b) (valV kvs k):=.inr ⟨kvs,k,b,.inl e,rfl,eb,rfl⟩
theorem DPut.k {H:Hp} {a:Addr} {kvs:List (Key × V)} {k:Key} {v:V} (e:H a = some (.dK kvs)) (hl:kvs.length < sizeLine):DPut H a (kV k) v (upd H a (.dK (putK kvs k v))):=.inl ⟨kvs,k,e,rfl,hl,rfl⟩
theorem DPut.t {H:Hp} {a b:Addr} {kvs:List (List Key × V)} {k:List Key} {v:V} (e:H a = some (.dT kvs)) (eb:H b = some (.tup (k.map kV))) (hl:kvs.length < sizeLine) :
  DPut H a (.ref b) v (upd H a (.dT (putK kvs k v))):=.inr ⟨kvs,k,b,e,rfl,eb,hl,rfl⟩
section
variable {X:Cx} {pins:List (Addr × Obj)} {σ:St} {H:Hp} {s:Shared} {a:Addr} {y v:V} {u r:Value} {o:Option V} {A:Around} {E:Value -> Shared -> Prop}
theorem Inv.big (I:Inv X pins σ H s):sysModules < s.heap.objs.size:=by
 have h:mainGlobals < s.heap.objs.size:=(I.mod.glob.keeps I.bk).lt
 exact Nat.lt_trans (by decide) h
theorem d_getItem {Q:Value -> Shared -> Prop} (hu:A.units + 1 < cLine) (I:Inv X pins σ H s) (g:DGet H a y (some v)) (ry:RelV y u) (h:∀ w' s',Inv X pins σ H s' -> RelV v w' -> Q w' s') :
  wpAny (model X.prog X.w) A (getItem (.ref a) u) Q E s:=by
 rcases g with ⟨kvs,k,e,ey,l⟩ | ⟨kvs,k,b,e,ey,eb,l⟩
 ·subst ey
  obtain ⟨z,hd,vs,rel,dd⟩:=dk_rd I.hok e
  obtain ⟨w',hw,rw'⟩:=RelO.some_of (v:=v) (o:=valueAt vs k) (by rw [l]; exact rel.val k)
  exact wpAny_getItem_of (kV_is ry) dd.mapOf hw (h w' _ (I.tok _) rw')
 ·subst ey
  cases (show u = Value.ref b from ry)
  obtain ⟨z,hd,xs,rel,dd⟩:=dt_rd I.hok e
  obtain ⟨w',hw,rw'⟩:=RelO.some_of (v:=v) (o:=(atKey xs k).map (·.2)) (by rw [l]; exact rel.val k)
  obtain ⟨p,hp,hp2⟩:=Option.map_eq_some_iff.mp hw
  refine wpAny_getItem_heap (tupleKind_room_in1 hu) (key_of I.hok eb) dd hp ?_
  rw [hp2]
  exact h w' _ (I.tok _) rw'
theorem d_write {h':Heap} {t':Nat} {ob:HO} (I:Inv X pins σ H s) (mu:Mut (H a)) (hs:Heap.SameBut a s.heap h') (he:∃ q,h'.get? a = some q) (new:ObjOk X.prog X.w (upd H a ob) h' a ob) :
  Inv X pins σ (upd H a ob) { s with heap:=h',toks:=t' } :=
 I.write (x:=a) (e:=a) mu (.inl rfl) (fun b q hb z => (hs.2 b hb).trans z) he new
theorem dk_new {P:Program} {w:World} {H':Hp} {h':Heap} {kvs:List (Key × V)} {vs:List (Key × Value)} (z:kvs.length ≤ sizeLine) (hd:(a == sysModules) = false) (rel:KV kvs vs) (dd:h'.DictOf (mixKind P w) a vs) :
  ObjOk P w H' h' a (.dK kvs):=⟨z,hd,vs,rel,dd⟩
theorem d_setItem {H':Hp} {Q:Unit -> Shared -> Prop} (hu:A.units + 1 < cLine) (I:Inv X pins σ H s) (g:DPut H a y v H') (ry:RelV y u) (rv:RelV v r) (h:∀ s',Inv X pins σ H' s' -> Q () s') :
  wpAny (model X.prog X.w) A (setItem (.ref a) u r) Q E s:=by
 rcases g with ⟨kvs,k,e,ey,l,eH⟩ | ⟨kvs,k,b,e,ey,eb,l,eH⟩
 ·subst ey eH
  obtain ⟨z,hd,vs,rel,dd⟩:=dk_of I.hok e
  have hz:vs.length ≤ sizeLine:=by rw [← rel.length]; exact z
  have hl:(putK kvs k v).length ≤ sizeLine:=by have:=length_putK kvs k v; trivial
  refine wpAny_setItem_pairs (hsz:=hz) (kV_is ry) dd fun h' dd' hs => h _ ?_
  have he:∃ q,h'.get? a = some q:=let ⟨q,_,_,hq,_⟩:=dd'; ⟨q,hq⟩
  exact d_write I (by rw [e]; exact True.intro) hs he (dk_new hl hd (rel.put k rv) dd')
 ·subst ey eH
  cases (show u = Value.ref b from ry)
  obtain ⟨z,hd,xs,rel,dd⟩:=dt_of I.hok e
  have hz:xs.length ≤ sizeLine:=by rw [← Paired.length rel]; exact z
  have hl:(putK kvs k v).length ≤ sizeLine:=by have:=length_putK kvs k v; trivial
  refine wpAny_setItem_heap (hsz:=hz) (tupleKind_room_in1 hu) (key_of I.hok eb) dd fun h' dd' hs => h _ ?_
  obtain ⟨q,es,ep,hq,h2,h3,h4,_,h5⟩:=dd'
  refine d_write I (by rw [e]; exact True.intro) hs ⟨q,hq⟩ ⟨hl,hd,_,(rel.put k eb rv).keeps fun c ys ec => ?_,q,es,ep,hq,h2,h3,h4,h5⟩
  rw [upd_ne (ne_of ec e (fun z => nomatch z))]
  exact ec
end
section
variable {X:Cx} {pins:List (Addr × Obj)} {σ:St} {H:Hp} {s:Shared} {a:Addr} {kvs:List (Key × V)} {k:Key} {u:Value} {A:Around} {E:Value -> Shared -> Prop}
end
noncomputable def NoSl (i:Expr):Prop:=∀ ov iv,subscripted i false ov iv = operate [ov,iv] (getItem ov iv)
theorem subD_of {prog:Program} {w:World} {A:Around} {E:Value -> Shared -> Prop} {s:Shared} {env:Env} {value slice:Expr} {pos:Pos} {T id:String} {Q:Value -> Shared -> Prop}
  (hl:typeLookup (.type T) "__getitem__" = pure (some (.builtin id))) (hs:NoSl slice)
  (h:wpAny (model prog w) A (eval value env) (fun o s₁ => wpAny (model prog w) A (eval slice env) (fun i s₂ => s₂.TypeIs o T∧wpAny (model prog w) A (getItem o i) Q E s₂) E s₁) E s) :
  wpAny (model prog w) A (eval (.Subscript value slice pos) env) Q E s:=by
 refine Subscript_ (wpAny_mono h (fun o s₁ h₁ => wpAny_mono h₁ (fun i s₂ h₂ => ?_) fun _ _ x => x) fun _ _ x => x)
 obtain ⟨hT,h₂⟩:=h₂
 unfold subscriptTail
 refine wpAny_bind ?_
 rw [getitemInPython_of_ne hT.not_modules]
 refine wpAny_bind (wpAny_specialOf hT hl ?_)
 have fin:wpAny (model prog w) A (subscripted slice false o i) (fun r s₃ => wpAny (model prog w) A (letTemporaryGo value o r >>= fun _ => pure r) Q E s₃) E s₂:=by
  rw [hs o i]
  exact wpAny_operating (wpAny_mono h₂ (fun r s₃ h₃ => wpAny_bind (wpAny_letTemporaryGo (wpAny_pure h₃))) fun _ _ x => x)
 first
  | exact wpAny_pure (wpAny_bind fin)
  | exact wpAny_bind (wpAny_pure (wpAny_bind fin))
  | exact wpAny_bind fin
theorem dict_typeIs {X:Cx} {pins:List (Addr × Obj)} {σ:St} {H:Hp} {s:Shared} {a:Addr} {y:V} {o:Option V} (I:Inv X pins σ H s) (g:DGet H a y o):s.TypeIs (.ref a) "dict":=by
 rcases g with ⟨kvs,k,e,_,_⟩ | ⟨kvs,k,b,e,_,_,_⟩
 ·obtain ⟨_,_,vs,_,dd⟩:=dk_rd I.hok e
  exact dd.typeIs
 ·obtain ⟨_,_,xs,_,dd⟩:=dt_rd I.hok e
  exact dd.typeIs
noncomputable def tDGet (td ty:TE):TE:=fun σ H Q => td σ H fun x H1 => ty σ H1 fun y H2 => ∃ a v,x = .ref a∧DGet H2 a y (some v)∧Q v H2
noncomputable def sDPut (td ty tv:TE):TS:=fun D σ H => tv σ H fun v H1 => td σ H1 fun x H2 => ty σ H2 fun y H3 => ∃ a H4,x = .ref a∧DPut H3 a y v H4∧D.nx σ H4
section
variable {X:Cx} {o i e value:Expr} {pos pos' tpos:Pos} {td ty tv:TE}
theorem pe_dget (hu:X.A.units + 1 < cLine) (ho:PE X o td) (hi:PE X i ty) (hs:NoSl i):PE X (.Subscript o i pos) (tDGet td ty):=by
 intro pins s σ H Q I h
 refine subD_of PySem.F.slot_dict_getitem.lookup hs (thn (ho pins s σ H _ I h) fun u s1 ⟨x,H1,I1,rx,q1⟩ => thn (hi pins s1 σ H1 _ I1 q1) fun iv s2 ⟨y,H2,I2,ry,a,v,ex,g,q2⟩ => ?_)
 subst ex
 obtain rfl:u = Value.ref a:=rx
 exact ⟨dict_typeIs I2 g,d_getItem hu I2 g ry fun w' s3 I3 rw' => ⟨v,H2,I3,rw',q2⟩⟩
theorem ps_dput (hu:X.A.units + 1 < cLine) (ho:PE X o td) (hi:PE X i ty) (hv:PE X value tv) (hs:swapsWith value (some (.Subscript o i pos')) pos.line X.env = pure false) :
  PS X (.Assign [.Subscript o i pos'] value pos) (sDPut td ty tv):=by
 intro pins s σ H D I h
 refine wpAny_Assign_Subscript (thn (hv pins s σ H _ I h) fun r s1 ⟨v,H1,I1,rv,q1⟩ => thn (ho pins s1 σ H1 _ I1 q1) fun u s2 ⟨x,H2,I2,rx,q2⟩ => thn (hi pins s2 σ H2 _ I2 q2) fun iv s3 ⟨y,H3,I3,ry,a,H4,ex,g,q3⟩ => ?_) hs
 subst ex
 obtain rfl:u = Value.ref a:=rx
 exact d_setItem hu I3 g ry rv fun s4 I4 => ⟨σ,H4,I4,q3⟩
end
theorem dk_empty {P:Program} {w:World} {H:Hp} (h:Heap) (hb:sysModules < h.objs.size):ObjOk P w H (h.push { cls:=.type "dict", data:=.dict #[] }) h.objs.size (.dK []) :=
 ⟨Nat.zero_le _,beq_eq_false_iff_ne.mpr (Ne.symm (Nat.ne_of_lt hb)),[],.nil,Heap.DictOf.new h⟩
noncomputable def tDNewK:TE:=fun _ H Q => ∀ p,H p = none -> Q (.ref p) (upd H p (.dK []))
section
variable {X:Cx} {pos:Pos}
theorem pe_dnewK:PE X (.Dict [] [] pos) tDNewK:=fun pins s σ H Q I h =>
 wpAny_Dict_empty ⟨.ref s.heap.objs.size,_,I.laid (a:=s.heap.objs.size) (o:=.dK []) (t':=s.toks) (fun _ _ q => Heap.get?_push_of_some _ q) (Nat.le_refl _) (dk_empty s.heap I.big),rfl,h _ (I.hok.fresh (Nat.le_refl _))⟩
end
structure M1 (X:Cx) (o:Expr) (m:Str) (apos:Pos) (e:Expr) (cpos:Pos):Prop where
 base:attributeBase o m X.env (eval o X.env) = eval o X.env
 few:((backTo cpos (starEach [e] X.env)).all (fun x => !x.1) && (backToKw cpos (keywordEach [] X.env)).all (fun x => x.1.isSome)
  && decide (([e]:List Expr).length + ([]:List Keyword).length + (if ([]:List Keyword).isEmpty then 0 else 1) < 30)) = true
 line:(apos.endLine == cpos.line) = true
 trees:backTo cpos (starEach [e] X.env) = [(false,eval e X.env)]
structure M2 (X:Cx) (o:Expr) (m:Str) (apos:Pos) (e f:Expr) (cpos:Pos):Prop where
 base:attributeBase o m X.env (eval o X.env) = eval o X.env
 few:((backTo cpos (starEach [e,f] X.env)).all (fun x => !x.1) && (backToKw cpos (keywordEach [] X.env)).all (fun x => x.1.isSome)
  && decide (([e,f]:List Expr).length + ([]:List Keyword).length + (if ([]:List Keyword).isEmpty then 0 else 1) < 30)) = true
 line:(apos.endLine == cpos.line) = true
 trees:backTo cpos (starEach [e,f] X.env) = [(false,eval e X.env),(false,eval f X.env)]
noncomputable def IsD (H:Hp) (a:Addr):Prop:=(∃ kvs,Rd H a (.dK kvs)) ∨ ∃ kvs,Rd H a (.dT kvs)
theorem isD_at {X:Cx} {pins:List (Addr × Obj)} {σ:St} {H:Hp} {s:Shared} {a:Addr} (I:Inv X pins σ H s) (d:IsD H a) :
  s.TypeIs (.ref a) "dict"∧(∀ b, Value.ref a = .ref b -> ∃ ob, s.heap.get? b = some ob∧ob.dict = none)∧(a == sysModules) = false:=by
 rcases d with ⟨kvs,e⟩ | ⟨kvs,e⟩
 ·obtain ⟨_,hd,vs,_,dd⟩:=dk_rd I.hok e
  refine ⟨dd.typeIs,fun b q => ?_,hd⟩
  cases q
  obtain ⟨ob,_,_,h1,h2,_⟩:=dd
  exact ⟨ob,h1,h2.2.1⟩
 ·obtain ⟨_,hd,xs,_,dd⟩:=dt_rd I.hok e
  refine ⟨dd.typeIs,fun b q => ?_,hd⟩
  cases q
  obtain ⟨ob,_,_,h1,h2,_⟩:=dd
  exact ⟨ob,h1,h2.2.1⟩
section
variable {X:Cx} {pins:List (Addr × Obj)} {σ:St} {H:Hp} {s:Shared} {a:Addr} {y d:V} {u r:Value} {o:Option V} {A:Around} {E:Value -> Shared -> Prop}
theorem d_get2 {Q:Value -> Shared -> Prop} (hu:A.units + 1 < cLine) (I:Inv X pins σ H s) (g:DGet H a y o) (ry:RelV y u) (rd:RelV d r) (h:∀ w' s',Inv X pins σ H s' -> RelV (o.getD d) w' -> Q w' s') :
  wpAny (model X.prog X.w) A (call (.builtin "dict.get") [.ref a, u, r]) Q E s:=by
 rcases g with ⟨kvs,k,e,ey,l⟩ | ⟨kvs,k,b,e,ey,eb,l⟩
 ·subst ey
  obtain ⟨z,hd,vs,rel,dd⟩:=dk_rd I.hok e
  refine call_meetsIn PySem.F.slot_dict_get dd.typeIs PySem.F.entry_dict_get (PySem.F.args_dict_get_3 _ _ _) (meets_dict_get_default (mixKind X.prog X.w) a (kV_is ry) hd r) ⟨_,dd.mapOf,h _ _ (I.tok _) ?_⟩
  rw [l]
  exact (rel.val k).getD rd
 ·subst ey
  cases (show u = Value.ref b from ry)
  obtain ⟨z,hd,xs,rel,dd⟩:=dt_rd I.hok e
  refine call_meetsIn PySem.F.slot_dict_get dd.typeIs PySem.F.entry_dict_get (PySem.F.args_dict_get_3 _ _ _) (meetsH_dict_get_default (tupleKind (mixKind X.prog X.w)) a b hd r) ⟨tupleKind_room_in1 hu,k,xs,key_of I.hok eb,dd,h _ _ (I.tok _) ?_⟩
  rw [l]
  exact (rel.val k).getD rd
end
noncomputable def tDGet2 (td ty tx:TE):TE:=fun σ H Q => td σ H fun x H1 => ∃ a,x = .ref a∧IsD H1 a∧ty σ H1 fun y H2 => tx σ H2 fun z H3 => ∃ o,DGet H3 a y o∧Q (o.getD z) H3
section
variable {X:Cx} {o e f:Expr} {apos cpos:Pos} {td ty tx:TE}
theorem pe_dget2 (hu:X.A.units + 1 < cLine) (ho:PE X o td) (he:PE X e ty) (hf:PE X f tx) (m:M2 X o "get" apos e f cpos):PE X (.Call (.Attribute o "get" apos) [e, f] [] cpos) (tDGet2 td ty tx):=by
 intro pins s σ H Q I h
 refine wpAny_Call_method m.base m.few m.line PySem.F.plainAttrs_dict PySem.F.slot_dict_get PySem.F.type_dict_get (thn (ho pins s σ H _ I h) fun u s1 ⟨x,H1,I1,rx,a,ex,d,q1⟩ => ?_)
 subst ex
 obtain rfl:u = Value.ref a:=rx
 obtain ⟨t1,t2,_⟩:=isD_at I1 d
 refine ⟨t1,t2,?_⟩
 rw [m.trees]
 refine Calls.callWith_builtin rfl (Calls.evalArgs_plain (Calls.spliced_cons (thn (he pins s1 σ H1 _ I1 q1) fun iv s2 ⟨y,H2,I2,ry,q2⟩ =>
  Calls.spliced_cons (thn (hf pins s2 σ H2 _ I2 q2) fun fv s3 ⟨z,H3,I3,rz,ov,g,q3⟩ => Calls.spliced_nil ?_))))
 exact d_get2 hu I3 g ry rz fun w' s4 I4 rw' => ⟨_,H3,I4,rw',q3⟩
end
section
variable {X:Cx} {pins:List (Addr × Obj)} {σ:St} {H:Hp} {s:Shared} {a:Addr} {kvs:List (Key × V)} {A:Around} {E:Value -> Shared -> Prop}
theorem d_copyOf {Q:Value -> Shared -> Prop} (I:Inv X pins σ H s) (e:Rd H a (.dK kvs)) (h:∀ p s', H p = none -> Inv X pins σ (upd H p (.dK kvs)) s' -> Q (.ref p) s'):wpAny (model X.prog X.w) A (call (.type "dict") [.ref a]) Q E s:=by
 obtain ⟨z,hd,vs,rel,dd⟩:=dk_rd I.hok e
 refine kt_call_dict hd dd (by rw [← rel.length]; exact z) fun h' dd' hs => ?_
 refine h _ _ (I.hok.fresh (Nat.le_refl _)) (I.laid (a:=s.heap.objs.size) (o:=.dK kvs) (t':=s.toks) (fun b q hq => ?_) (Nat.le_refl _) (dk_new z (beq_eq_false_iff_ne.mpr (Ne.symm (Nat.ne_of_lt I.big))) rel dd'))
 exact (hs.2 b (Nat.ne_of_lt (Heap.lt_size hq))).trans (Heap.get?_push_of_some _ hq)
end
section
variable {X:Cx} {pins:List (Addr × Obj)} {σ:St} {H:Hp} {s:Shared} {a:Addr} {y:V} {u:Value} {A:Around} {E:Value -> Shared -> Prop}
end
end L2
namespace L2
open PySem PySem.Spec PyProof.Rows
section
variable {X:Cx}
end
section
variable {κ:Type} [DecidableEq κ]
theorem nd_snoc:∀ {l:List κ} {k:κ},l.Nodup -> ¬ k ∈ l -> (l ++ [k]).Nodup
 | [],k,_,_ => by simp
 | a :: r,k,h,hk => by
  obtain ⟨h1,h2⟩:=List.nodup_cons.mp h
  show (a :: (r ++ [k])).Nodup
  refine List.nodup_cons.mpr ⟨fun m => ?_,nd_snoc h2 fun m => hk (List.mem_cons.mpr (Or.inr m))⟩
  rcases List.mem_append.mp m with q | q
  ·exact h1 q
  ·exact hk (List.mem_cons.mpr (Or.inl (List.mem_singleton.mp q).symm))
end
end L2
set_option linter.all false
namespace TS
open PySem PyProof.Rows
noncomputable def gallop':Bool -> Keyed -> Array Keyed -> Nat -> Nat -> Nat -> StateT SortSt Sem (Option Nat):=sortPriv% PySem.Builtin.gallop
noncomputable def mergeLo':Array Keyed -> Array Keyed -> StateT SortSt Sem (Array Keyed):=sortPriv% PySem.Builtin.mergeLo
noncomputable def mergeHi':Array Keyed -> Array Keyed -> StateT SortSt Sem (Array Keyed):=sortPriv% PySem.Builtin.mergeHi
noncomputable def mergeAt':Nat -> StateT SortSt Sem Bool:=sortPriv% PySem.Builtin.mergeAt
section
variable {prog:Program} {w:World} {A:Around} {E:Value -> Shared -> Prop} {s:Shared}
structure Cmp (prog:Program) (w:World) (A:Around) (s:Shared) (kd:SortKind) (O:KeyOrd) (ky:Keyed -> O.α) (S:Keyed -> Prop):Prop where
 lt:∀ p q,S p -> S q -> ∀ {E:Value -> Shared -> Prop} {Q:Bool -> Shared -> Prop},Q (O.blt (ky p) (ky q)) s -> wpAny (model prog w) A (keyLt' kd p.1 q.1) Q E s
variable {kd:SortKind} {O:KeyOrd} {ky:Keyed -> O.α} {S:Keyed -> Prop}
theorem wpS_lt (C:Cmp prog w A s kd O ky S) {st:SortSt} {p q:Keyed} {Q:Option Bool -> SortSt -> Prop} (hk:kindOf st = kd) (hp:S p) (hq:S q) (h:Q (some (O.blt (ky p) (ky q))) st):wpS (model prog w) A E s (lt' p q) Q st:=by
 rw [lt'_eq]
 refine wpS_bind (wpS_get ?_)
 rw [hk]
 refine wpS_bind (wpS_lift (wpAny_attempt (C.lt p q hp hq ⟨rfl,?_⟩)))
 exact wpS_pure h
theorem wpS_elem {arr:Array Keyed} {i:Nat} {p:Keyed} {Q:Keyed -> SortSt -> Prop} {st:SortSt} (h:arr[i]? = some p) (hq:Q p st):wpS (model prog w) A E s (elem' arr i) Q st:=by
 rw [elem'_eq,h]
 exact wpS_pure hq
noncomputable def bey (O:KeyOrd) (ky:Keyed -> O.α) (left:Bool) (key p:Keyed):Bool:=if left then O.blt (ky p) (ky key) else !O.blt (ky key) (ky p)
theorem wpS_bey (C:Cmp prog w A s kd O ky S) {st:SortSt} {left:Bool} {key p:Keyed} {arr:Array Keyed} {i:Nat} {Q:Option Bool -> SortSt -> Prop} (hk:kindOf st = kd) (hs:S key) (hp:arr[i]? = some p) (hsp:S p) (h:Q (some (bey O ky left key p)) st) :
  wpS (model prog w) A E s (do
   let x ← elem' arr i
   if left = true then lt' x key else do
    let r ← lt' key x
    pure (Option.map (fun x => !x) r)) Q st:=by
 refine wpS_bind (wpS_elem hp ?_)
 unfold bey at h
 cases left with
 | true =>
  rw [if_pos rfl] at h ⊢
  exact wpS_lt C hk hsp hs h
 | false =>
  rw [if_neg Bool.false_ne_true] at h ⊢
  exact wpS_bind (wpS_lt C hk hs hsp (wpS_pure h))
theorem wpS_gallop (C:Cmp prog w A s kd O ky S) {st:SortSt} {left:Bool} {key:Keyed} {arr:Array Keyed} {base n hint:Nat} {Q:Option Nat -> SortSt -> Prop} (hk:kindOf st = kd) (hs:S key) {el:Nat -> Keyed} (hel:∀ i,i < n -> arr[base + i]? = some (el i)∧S (el i))
  (anti:∀ i j,i ≤ j -> j < n -> bey O ky left key (el j) = true -> bey O ky left key (el i) = true) (hh:hint < n)
  (h:∀ k,k ≤ n -> (∀ i,i < k -> bey O ky left key (el i) = true) -> (∀ i,k ≤ i -> i < n -> bey O ky left key (el i) = false) -> Q (some k) st) :
  wpS (model prog w) A E s (gallop' left key arr base n hint) Q st:=by
 have anti':∀ i j,i ≤ j -> j < n -> bey O ky left key (el i) = false -> bey O ky left key (el j) = false:=fun i j h1 h2 h3 => by
  cases e:bey O ky left key (el j) with
  | false => rfl
  | true => rw [anti i j h1 h2 e] at h3; cases h3
 have ask:∀ (i:Nat) {Q:Option Bool -> SortSt -> Prop},i < n -> Q (some (bey O ky left key (el i))) st -> wpS (model prog w) A E s (do
   let x ← elem' arr (base + i)
   if left = true then lt' x key else do
    let r ← lt' key x
    pure (Option.map (fun x => !x) r)) Q st:=fun i Q hi hq => wpS_bey C hk hs (hel i hi).1 (hel i hi).2 hq
 unfold gallop'
 refine wpS_bind (ask hint hh ?_)
 -- the last search
 have fin:∀ lo hi,lo ≤ hi -> hi ≤ n -> (∀ i,i < lo -> bey O ky left key (el i) = true) -> (∀ i,hi ≤ i -> i < n -> bey O ky left key (el i) = false) -> ∀ {f:Nat -> Option (Option Nat) × Nat × Nat -> StateT SortSt Sem (ForInStep (Option (Option Nat) × Nat × Nat))},
   (∀ (x:Nat) lo hi,lo ≤ hi -> hi ≤ n -> ∀ {R:ForInStep (Option (Option Nat) × Nat × Nat) -> SortSt -> Prop},(lo ≥ hi -> R (.done (none,lo,hi)) st) -> (∀ m,lo ≤ m -> m < hi -> bey O ky left key (el m) = true -> R (.yield (none,m + 1,hi)) st) -> (∀ m,lo ≤ m -> m < hi -> bey O ky left key (el m) = false -> R (.yield (none,lo,m)) st) -> wpS (model prog w) A E s (f x (none,lo,hi)) R st) →
   ∀ {g:Option (Option Nat) × Nat × Nat -> StateT SortSt Sem (Option Nat)},(∀ lo hi,g (none,lo,hi) = pure (some hi)) -> wpS (model prog w) A E s (forIn [:n] (none,lo,hi) f >>= g) Q st:=by
  intro lo hi h1 h2 h3 h4 f hf g hg
  refine wpS_bind (wpS_mono (wpS_forRange (I:=fun x c st' => st' = st∧∃ lo hi,c = (none,lo,hi)∧lo ≤ hi∧hi ≤ n∧hi - lo ≤ n - x∧(∀ i,i < lo -> bey O ky left key (el i) = true)∧(∀ i,hi ≤ i -> i < n -> bey O ky left key (el i) = false))
   (Q:=fun c st' => st' = st∧∃ hi,c = (none,hi,hi)∧hi ≤ n∧(∀ i,i < hi -> bey O ky left key (el i) = true)∧(∀ i,hi ≤ i -> i < n -> bey O ky left key (el i) = false)) ?step ?fin ⟨rfl,lo,hi,rfl,h1,h2,by trivial,h3,h4⟩) ?post)
  case fin =>
   rintro c st' ⟨rfl,lo,hi,rfl,a1,a2,a3,a4,a5⟩
   have:lo = hi:=by trivial
   subst this
   exact ⟨rfl,lo,rfl,a2,a4,a5⟩
  case post =>
   rintro c st' ⟨rfl,hi,rfl,a2,a4,a5⟩
   rw [hg]
   exact wpS_pure (h hi a2 a4 a5)
  case step =>
   rintro x c st' _ hx ⟨rfl,lo,hi,rfl,a1,a2,a3,a4,a5⟩
   refine hf x lo hi a1 a2 (fun q => ?_) (fun m m1 m2 mb => ?_) (fun m m1 m2 mb => ?_)
   ·have:lo = hi:=by trivial
    subst this
    exact ⟨rfl,lo,rfl,a2,a4,a5⟩
   ·exact ⟨rfl,m + 1,hi,rfl,by trivial,a2,by trivial,fun i hi' => anti i m (by trivial) (by trivial) mb,a5⟩
   ·exact ⟨rfl,lo,m,rfl,m1,by trivial,by trivial,a4,fun i i1 i2 => anti' m i i1 i2 mb⟩
 have body:∀ (x:Nat) lo hi,lo ≤ hi -> hi ≤ n -> ∀ {R:ForInStep (Option (Option Nat) × Nat × Nat) -> SortSt -> Prop},(lo ≥ hi -> R (.done (none,lo,hi)) st) -> (∀ m,lo ≤ m -> m < hi -> bey O ky left key (el m) = true -> R (.yield (none,m + 1,hi)) st) -> (∀ m,lo ≤ m -> m < hi -> bey O ky left key (el m) = false -> R (.yield (none,lo,m)) st) →
   wpS (model prog w) A E s (if lo ≥ hi then pure (ForInStep.done ((none:Option (Option Nat)),lo,hi)) else do
    let r ← (do
     let x ← elem' arr (base + (lo + (hi - lo) / 2))
     if left = true then lt' x key else do
      let r ← lt' key x
      pure (Option.map (fun x => !x) r))
    match r with
     | some more => if more = true then pure (ForInStep.yield (none,lo + (hi - lo) / 2 + 1,hi)) else pure (ForInStep.yield (none,lo,lo + (hi - lo) / 2))
     | x => pure (ForInStep.done (some none,lo,hi))) R st:=by
  intro x lo hi h1 h2 R r1 r2 r3
  by_cases hge:lo ≥ hi
  ·rw [if_pos hge]; exact wpS_pure (r1 hge)
  ·rw [if_neg hge]
   refine wpS_bind (ask _ (by trivial) ?_)
   dsimp only
   cases e:bey O ky left key (el (lo + (hi - lo) / 2)) with
   | true => rw [if_pos rfl]; exact wpS_pure (r2 _ (by trivial) (by trivial) e)
   | false => rw [if_neg Bool.false_ne_true]; exact wpS_pure (r3 _ (by trivial) (by trivial) e)
 dsimp only
 cases e0:bey O ky left key (el hint) with
 | true =>
  rw [if_pos rfl]
  refine wpS_bind (wpS_mono (wpS_forRange (I:=fun x c st' => st' = st∧∃ la of_,c = (none,la,of_)∧la < of_∧hint + la < n∧x + 1 ≤ of_∧bey O ky left key (el (hint + la)) = true)
   (Q:=fun c st' => st' = st∧∃ la of_,c = (none,la,of_)∧la < of_∧hint + la < n∧bey O ky left key (el (hint + la)) = true∧(n - hint ≤ of_ ∨ (hint + of_ < n∧bey O ky left key (el (hint + of_)) = false))) ?step ?fin ⟨rfl,0,1,rfl,by trivial,by trivial,by trivial,e0⟩) ?post)
  case fin =>
   rintro c st' ⟨rfl,la,of_,rfl,a1,a2,a3,a4⟩
   exact ⟨rfl,la,of_,rfl,a1,a2,a4,.inl (by trivial)⟩
  case step =>
   rintro x c st' _ hx ⟨rfl,la,of_,rfl,a1,a2,a3,a4⟩
   dsimp only
   by_cases hge:of_ ≥ n - hint
   ·rw [if_pos hge]; exact wpS_pure ⟨rfl,la,of_,rfl,a1,a2,a4,.inl hge⟩
   ·rw [if_neg hge]
    refine wpS_bind (ask (hint + of_) (by trivial) ?_)
    dsimp only
    cases e:bey O ky left key (el (hint + of_)) with
    | true =>
     rw [if_neg (by decide)]
     exact wpS_pure ⟨rfl,of_,2 * of_ + 1,rfl,by trivial,by trivial,by trivial,e⟩
    | false =>
     rw [if_pos (by decide)]
     exact wpS_pure ⟨rfl,la,of_,rfl,a1,a2,a4,.inr ⟨by trivial,e⟩⟩
  case post =>
   rintro c st' ⟨rfl,la,of_,rfl,a1,a2,a4,a5⟩
   dsimp only
   refine fin (hint + la + 1) (hint + min of_ (n - hint)) (by trivial) (by trivial) (fun i hi => anti i (hint + la) (by trivial) a2 a4) (fun i i1 i2 => ?_) (body) (fun lo hi => rfl)
   rcases a5 with a5 | ⟨a5,a6⟩
   ·trivial
   ·exact anti' (hint + of_) i (by trivial) i2 a6
 | false =>
  rw [if_neg Bool.false_ne_true]
  refine wpS_bind (wpS_mono (wpS_forRange (I:=fun x c st' => st' = st∧∃ la of_,c = (none,la,of_)∧la < of_∧la ≤ hint∧x + 1 ≤ of_∧bey O ky left key (el (hint - la)) = false)
   (Q:=fun c st' => st' = st∧∃ la of_,c = (none,la,of_)∧la < of_∧la ≤ hint∧bey O ky left key (el (hint - la)) = false∧(hint + 1 ≤ of_ ∨ (of_ ≤ hint∧bey O ky left key (el (hint - of_)) = true))) ?step ?fin ⟨rfl,0,1,rfl,by trivial,by trivial,by trivial,e0⟩) ?post)
  case fin =>
   rintro c st' ⟨rfl,la,of_,rfl,a1,a2,a3,a4⟩
   exact ⟨rfl,la,of_,rfl,a1,a2,a4,.inl (by trivial)⟩
  case step =>
   rintro x c st' _ hx ⟨rfl,la,of_,rfl,a1,a2,a3,a4⟩
   dsimp only
   by_cases hge:of_ ≥ hint + 1
   ·rw [if_pos hge]; exact wpS_pure ⟨rfl,la,of_,rfl,a1,a2,a4,.inl hge⟩
   ·rw [if_neg hge]
    refine wpS_bind (ask (hint - of_) (by trivial) ?_)
    dsimp only
    cases e:bey O ky left key (el (hint - of_)) with
    | true =>
     rw [if_pos rfl]
     exact wpS_pure ⟨rfl,la,of_,rfl,a1,a2,a4,.inr ⟨by trivial,e⟩⟩
    | false =>
     rw [if_neg Bool.false_ne_true]
     exact wpS_pure ⟨rfl,of_,2 * of_ + 1,rfl,by trivial,by trivial,by trivial,e⟩
  case post =>
   rintro c st' ⟨rfl,la,of_,rfl,a1,a2,a4,a5⟩
   dsimp only
   refine fin (hint + 1 - min of_ (hint + 1)) (hint - la) (by trivial) (by trivial) (fun i hi => ?_) (fun i i1 i2 => anti' (hint - la) i (by trivial) i2 a4) (body) (fun lo hi => rfl)
   rcases a5 with a5 | ⟨a5,a6⟩
   ·trivial
   ·exact anti i (hint - of_) (by trivial) (by trivial) a6
end
end TS
set_option linter.all false
namespace TT
open PySem PyProof.Rows TS
section
variable (O:KeyOrd) (ky:Keyed -> O.α) (ix:Keyed -> Nat)
noncomputable def R (p q:Keyed):Prop:=O.kle (ky p) (ky q)∧(O.kle (ky q) (ky p) -> ix p ≤ ix q)
theorem R.refl {O:KeyOrd} {ky:Keyed -> O.α} {ix:Keyed -> Nat} (p:Keyed):R O ky ix p p:=⟨KeyOrd.kle_refl _,fun _ => Nat.le_refl _⟩
theorem R.trans {O:KeyOrd} {ky:Keyed -> O.α} {ix:Keyed -> Nat} {p q r:Keyed} (h:R O ky ix p q) (h':R O ky ix q r):R O ky ix p r:=⟨KeyOrd.kle_trans h.1 h'.1,fun z => Nat.le_trans (h.2 (KeyOrd.kle_trans h'.1 z)) (h'.2 (KeyOrd.kle_trans z h.1))⟩
theorem R.lt {O:KeyOrd} {ky:Keyed -> O.α} {ix:Keyed -> Nat} {p q:Keyed} (h:O.klt (ky p) (ky q)):R O ky ix p q:=⟨KeyOrd.kle_of_klt h,fun z => by
 unfold KeyOrd.klt at h
 unfold KeyOrd.kle at z
 rw [h] at z; cases z⟩
theorem R.le {O:KeyOrd} {ky:Keyed -> O.α} {ix:Keyed -> Nat} {p q:Keyed} (h:O.kle (ky p) (ky q)) (h':ix p ≤ ix q):R O ky ix p q:=⟨h,fun _ => h'⟩
noncomputable def Srt (l:List Keyed):Prop:=l.Pairwise (R O ky ix)
structure MI (a b out:Array Keyed) (ia ib:Nat):Prop where
 ha:ia ≤ a.size
 hb:ib ≤ b.size
 perm:out.toList.Perm (a.toList.take ia ++ b.toList.take ib)
 srt:Srt O ky ix out.toList
 ra:∀ x ∈ out.toList,∀ y ∈ a.toList.drop ia,R O ky ix x y
 rb:∀ x ∈ out.toList,∀ y ∈ b.toList.drop ib,R O ky ix x y
noncomputable def Good (a b o:Array Keyed):Prop:=o.toList.Perm (a.toList ++ b.toList)∧Srt O ky ix o.toList
variable {O ky ix} {a b out o:Array Keyed} {ia ib:Nat}
theorem drop_srt {l:List Keyed} (h:Srt O ky ix l) (k:Nat):Srt O ky ix (l.drop k):=List.Pairwise.sublist (List.drop_sublist k l) h
theorem take_srt {l:List Keyed} (h:Srt O ky ix l) (k:Nat):Srt O ky ix (l.take k):=List.Pairwise.sublist (List.take_sublist k l) h
theorem split_srt {l:List Keyed} (h:Srt O ky ix l) (k:Nat):∀ x ∈ l.take k,∀ y ∈ l.drop k,R O ky ix x y:=by
 have e:=(List.take_append_drop k l).symm
 unfold Srt at h
 rw [e,List.pairwise_append] at h
 exact h.2.2
theorem mem_drop_le {l:List Keyed} {i j:Nat} (h:i ≤ j) {x:Keyed} (hx:x ∈ l.drop j):x ∈ l.drop i:=by
 rw [show j = i + (j - i) by trivial,← List.drop_drop] at hx
 exact List.mem_of_mem_drop hx
theorem mem_take_le {l:List Keyed} {i j:Nat} (h:i ≤ j) {x:Keyed} (hx:x ∈ l.take i):x ∈ l.take j:=by
 rw [show i = min i j by trivial,← List.take_take] at hx
 exact List.mem_of_mem_take hx
theorem MI.addA (h:MI O ky ix a b out ia ib) (sa:Srt O ky ix a.toList) {k:Nat} (hk:ia + k ≤ a.size) (hx:∀ x ∈ (a.toList.drop ia).take k,∀ y ∈ b.toList.drop ib,R O ky ix x y) (ho:o.toList = out.toList ++ (a.toList.drop ia).take k):MI O ky ix a b o (ia + k) ib:=by
 refine ⟨hk,h.hb,?_,?_,fun x hm y hy => ?_,fun x hm y hy => ?_⟩
 ·rw [ho,List.take_add,List.append_assoc]
  refine (h.perm.append_right _).trans ?_
  rw [List.append_assoc]
  exact List.Perm.append_left _ List.perm_append_comm
 ·unfold Srt
  rw [ho,List.pairwise_append]
  exact ⟨h.srt,take_srt (drop_srt sa _) _,fun x hx' y hy => h.ra x hx' y (List.mem_of_mem_take hy)⟩
 ·rw [ho] at hm
  rcases List.mem_append.mp hm with hm | hm
  ·exact h.ra x hm y (mem_drop_le (by trivial) hy)
  ·rw [← List.drop_drop] at hy
   exact split_srt (drop_srt sa ia) k x hm y hy
 ·rw [ho] at hm
  rcases List.mem_append.mp hm with hm | hm
  ·exact h.rb x hm y hy
  ·exact hx x hm y hy
theorem MI.swap (h:MI O ky ix a b out ia ib):MI O ky ix b a out ib ia:=⟨h.hb,h.ha,h.perm.trans List.perm_append_comm,h.srt,h.rb,h.ra⟩
theorem MI.addB (h:MI O ky ix a b out ia ib) (sb:Srt O ky ix b.toList) {k:Nat} (hk:ib + k ≤ b.size) (hx:∀ x ∈ (b.toList.drop ib).take k,∀ y ∈ a.toList.drop ia,R O ky ix x y) (ho:o.toList = out.toList ++ (b.toList.drop ib).take k):MI O ky ix a b o ia (ib + k):=(h.swap.addA sb hk hx ho).swap
theorem ext_all (x:Array Keyed) (i:Nat):(x.extract i x.size).toList = x.toList.drop i:=by simp [List.extract,List.take_of_length_le]
theorem ext_some (x:Array Keyed) (i k:Nat):(x.extract i (i + k)).toList = (x.toList.drop i).take k:=by simp [List.extract]
theorem MI.done (h:MI O ky ix a b out ia ib) (sa:Srt O ky ix a.toList) (sb:Srt O ky ix b.toList) (hor:ia = a.size ∨ ib = b.size):Good O ky ix a b (out ++ a.extract ia a.size ++ b.extract ib b.size):=by
 unfold Good Srt
 rw [Array.toList_append,Array.toList_append,ext_all,ext_all]
 refine ⟨?_,?_⟩
 ·have e1:=List.take_append_drop ia a.toList
  have e2:=List.take_append_drop ib b.toList
  conv => rhs; rw [← e1,← e2]
  rw [List.append_assoc]
  refine (h.perm.append_right _).trans ?_
  rw [List.append_assoc,List.append_assoc]
  refine List.Perm.append_left _ ?_
  rw [← List.append_assoc,← List.append_assoc]
  exact List.perm_append_comm.append_right _
 ·rw [List.pairwise_append,List.pairwise_append]
  refine ⟨⟨h.srt,drop_srt sa _,h.ra⟩,drop_srt sb _,fun x hx y hy => ?_⟩
  rcases List.mem_append.mp hx with hx | hx
  ·exact h.rb x hx y hy
  ·rcases hor with q | q
   ·rw [q,List.drop_of_length_le (by simp)] at hx; cases hx
   ·rw [q,List.drop_of_length_le (by simp)] at hy; cases hy
theorem MI.last (h:MI O ky ix a b out ia ib) (sa:Srt O ky ix a.toList) (sb:Srt O ky ix b.toList) (hl:∀ y ∈ b.toList,∀ x ∈ a.toList.drop ia,R O ky ix y x):Good O ky ix a b (out ++ b.extract ib b.size ++ a.extract ia a.size):=by
 unfold Good Srt
 rw [Array.toList_append,Array.toList_append,ext_all,ext_all]
 refine ⟨?_,?_⟩
 ·have e1:=List.take_append_drop ia a.toList
  have e2:=List.take_append_drop ib b.toList
  conv => rhs; rw [← e1,← e2]
  rw [List.append_assoc]
  refine (h.perm.append_right _).trans ?_
  rw [List.append_assoc,List.append_assoc]
  refine List.Perm.append_left _ ?_
  rw [← List.append_assoc]
  exact List.perm_append_comm
 ·rw [List.pairwise_append,List.pairwise_append]
  refine ⟨⟨h.srt,drop_srt sb _,h.rb⟩,drop_srt sa _,fun x hx y hy => ?_⟩
  rcases List.mem_append.mp hx with hx | hx
  ·exact h.ra x hx y hy
  ·exact hl x (List.mem_of_mem_drop hx) y hy
structure MH (O:KeyOrd) (ky:Keyed -> O.α) (ix:Keyed -> Nat) (a b out:Array Keyed) (na nb:Nat):Prop where
 ha:na ≤ a.size
 hb:nb ≤ b.size
 perm:out.toList.Perm (a.toList.drop na ++ b.toList.drop nb)
 srt:out.toList.Pairwise fun x y => R O ky ix y x
 ra:∀ x ∈ out.toList,∀ y ∈ a.toList.take na,R O ky ix y x
 rb:∀ x ∈ out.toList,∀ y ∈ b.toList.take nb,R O ky ix y x
theorem MH.swap {na nb:Nat} (h:MH O ky ix a b out na nb):MH O ky ix b a out nb na:=⟨h.hb,h.ha,h.perm.trans List.perm_append_comm,h.srt,h.rb,h.ra⟩
theorem MH.addA {na nb k:Nat} (h:MH O ky ix a b out na nb) (sa:Srt O ky ix a.toList) (hk:k ≤ na) (hx:∀ x ∈ (a.toList.take na).drop k,∀ y ∈ b.toList.take nb,R O ky ix y x) (ho:o.toList = out.toList ++ ((a.toList.take na).drop k).reverse):MH O ky ix a b o k nb:=by
 have hd:a.toList.drop k = (a.toList.take na).drop k ++ a.toList.drop na:=by
  conv => lhs; rw [← List.take_append_drop na a.toList]
  rw [List.drop_append_of_le_length (by have:=h.ha; rw [List.length_take]; simp; trivial)]
 refine ⟨Nat.le_trans hk h.ha,h.hb,?_,?_,fun x hm y hy => ?_,fun x hm y hy => ?_⟩
 ·rw [ho,hd]
  refine (h.perm.append_right _).trans ?_
  refine (List.perm_append_comm).trans ?_
  rw [← List.append_assoc]
  exact ((List.reverse_perm _).append_right _).append_right _
 ·rw [ho,List.pairwise_append]
  refine ⟨h.srt,?_,fun x hx' y hy => h.ra x hx' y (List.mem_of_mem_drop (List.mem_reverse.mp hy))⟩
  rw [List.pairwise_reverse]
  exact drop_srt (take_srt sa _) _
 ·rw [ho] at hm
  rcases List.mem_append.mp hm with hm | hm
  ·exact h.ra x hm y (mem_take_le hk hy)
  ·have:=split_srt (take_srt sa na) k y (by rw [List.take_take,Nat.min_eq_left hk]; exact hy) x (List.mem_reverse.mp hm)
   exact this
 ·rw [ho] at hm
  rcases List.mem_append.mp hm with hm | hm
  ·exact h.rb x hm y hy
  ·exact hx x (List.mem_reverse.mp hm) y hy
theorem MH.addB {na nb k:Nat} (h:MH O ky ix a b out na nb) (sb:Srt O ky ix b.toList) (hk:k ≤ nb) (hx:∀ x ∈ (b.toList.take nb).drop k,∀ y ∈ a.toList.take na,R O ky ix y x) (ho:o.toList = out.toList ++ ((b.toList.take nb).drop k).reverse):MH O ky ix a b o na k:=(h.swap.addA sb hk hx ho).swap
theorem ext0 (x:Array Keyed) (k:Nat):(x.extract 0 k).toList = x.toList.take k:=by simp [List.extract]
theorem ext2 (x:Array Keyed) {i j:Nat}:(x.extract i j).toList = (x.toList.take j).drop i:=by
 simp [List.extract]
 rw [List.drop_take]
theorem MH.done {na nb:Nat} (h:MH O ky ix a b out na nb) (sa:Srt O ky ix a.toList) (sb:Srt O ky ix b.toList) (hor:na = 0 ∨ nb = 0):Good O ky ix a b (a.extract 0 na ++ b.extract 0 nb ++ out.reverse):=by
 unfold Good Srt
 rw [Array.toList_append,Array.toList_append,ext0,ext0,Array.toList_reverse]
 refine ⟨?_,?_⟩
 ·have e1:=List.take_append_drop na a.toList
  have e2:=List.take_append_drop nb b.toList
  conv => rhs; rw [← e1,← e2]
  refine (List.Perm.append_left _ ((List.reverse_perm _).trans h.perm)).trans ?_
  rw [List.append_assoc,List.append_assoc]
  refine List.Perm.append_left _ ?_
  rw [← List.append_assoc,← List.append_assoc]
  exact List.perm_append_comm.append_right _
 ·rw [List.pairwise_append,List.pairwise_append,List.pairwise_reverse]
  refine ⟨⟨take_srt sa _,take_srt sb _,fun x hx y hy => ?_⟩,h.srt,fun x hx y hy => ?_⟩
  ·rcases hor with q | q
   ·rw [q,List.take_zero] at hx; cases hx
   ·rw [q,List.take_zero] at hy; cases hy
  ·rcases List.mem_append.mp hx with hx | hx
   ·exact h.ra y (List.mem_reverse.mp hy) x hx
   ·exact h.rb y (List.mem_reverse.mp hy) x hx
theorem MH.first {na nb:Nat} (h:MH O ky ix a b out na nb) (sa:Srt O ky ix a.toList) (sb:Srt O ky ix b.toList) (hl:∀ x ∈ b.toList.take nb,∀ y ∈ a.toList,R O ky ix x y):Good O ky ix a b (b.extract 0 nb ++ a.extract 0 na ++ out.reverse):=by
 unfold Good Srt
 rw [Array.toList_append,Array.toList_append,ext0,ext0,Array.toList_reverse]
 refine ⟨?_,?_⟩
 ·have e1:=List.take_append_drop na a.toList
  have e2:=List.take_append_drop nb b.toList
  conv => rhs; rw [← e1,← e2]
  refine (List.Perm.append_left _ ((List.reverse_perm _).trans h.perm)).trans ?_
  refine (List.perm_append_comm.append_right _).trans ?_
  rw [List.append_assoc,List.append_assoc]
  refine List.Perm.append_left _ ?_
  rw [← List.append_assoc,← List.append_assoc]
  exact List.perm_append_comm.append_right _
 ·rw [List.pairwise_append,List.pairwise_append,List.pairwise_reverse]
  refine ⟨⟨take_srt sb _,take_srt sa _,fun x hx y hy => hl x hx y (List.mem_of_mem_take hy)⟩,h.srt,fun x hx y hy => ?_⟩
  rcases List.mem_append.mp hx with hx | hx
  ·exact h.rb y (List.mem_reverse.mp hy) x hx
  ·exact h.ra y (List.mem_reverse.mp hy) x hx
end
end TT
set_option linter.all false
namespace TT
open PySem PyProof.Rows TS
structure SameSt (st st':SortSt):Prop where
 kind:kindOf st' = kindOf st
 arr:arrOf st' = arrOf st
 pend:pendingOf st' = pendingOf st
 fail:failedOf st' = failedOf st
theorem SameSt.refl (st:SortSt):SameSt st st:=⟨rfl,rfl,rfl,rfl⟩
theorem SameSt.trans {a b c:SortSt} (h:SameSt a b) (h':SameSt b c):SameSt a c:=⟨h'.kind.trans h.kind,h'.arr.trans h.arr,h'.pend.trans h.pend,h'.fail.trans h.fail⟩
noncomputable def at_ (a:Array Keyed) (i:Nat):Keyed:=(a[i]?).getD (.none,.none)
theorem at_eq {a:Array Keyed} {i:Nat} (h:i < a.size):a[i]? = some (at_ a i):=by unfold at_; rw [getElem?_pos a i h]; rfl
theorem at_list {a:Array Keyed} {i:Nat} (h:i < a.size):a.toList[i]? = some (at_ a i):=by rw [← at_eq h]; simp
theorem at_mem {a:Array Keyed} {i:Nat} (h:i < a.size):at_ a i ∈ a.toList:=List.mem_of_getElem? (at_list h)
theorem at_cons {a:Array Keyed} {i:Nat} (h:i < a.size):a.toList.drop i = at_ a i :: a.toList.drop (i + 1):=by
 have e:=at_list h
 obtain ⟨hl,e2⟩:=List.getElem?_eq_some_iff.mp e
 rw [List.drop_eq_getElem_cons hl,e2]
theorem at_one {a:Array Keyed} {i:Nat} (h:i < a.size):(a.toList.drop i).take 1 = [at_ a i]:=by rw [at_cons h]; rfl
section
variable {O:KeyOrd} {ky:Keyed -> O.α} {ix:Keyed -> Nat}
theorem at_le {a:Array Keyed} (sa:Srt O ky ix a.toList) {i:Nat} (h:i < a.size):∀ y ∈ a.toList.drop i,R O ky ix (at_ a i) y:=by
 intro y hy
 have s:=drop_srt sa i
 rw [at_cons h] at hy s
 rcases List.mem_cons.mp hy with e | hy
 ·rw [e]; exact R.refl _
 ·exact (List.pairwise_cons.mp s).1 y hy
theorem at_ij {a:Array Keyed} (sa:Srt O ky ix a.toList) {i j:Nat} (hij:i ≤ j) (h:j < a.size):R O ky ix (at_ a i) (at_ a j):=at_le sa (by trivial) _ (by
 have:at_ a j ∈ a.toList.drop j:=by rw [at_cons h]; exact List.mem_cons_self
 exact mem_drop_le hij this)
theorem mem_at {a:Array Keyed} {i k:Nat} {x:Keyed} (hx:x ∈ (a.toList.drop i).take k):∃ j,j < k∧i + j < a.size∧x = at_ a (i + j):=by
 obtain ⟨j,hj,e⟩:=List.getElem_of_mem hx
 rw [List.length_take,List.length_drop] at hj
 have hl:i + j < a.size:=by simp at hj; trivial
 refine ⟨j,by trivial,hl,?_⟩
 have e2:((a.toList.drop i).take k)[j]? = some x:=by rw [← e]; exact List.getElem?_eq_getElem _
 rw [List.getElem?_take,if_pos (by trivial),List.getElem?_drop,at_list hl] at e2
 exact (Option.some.inj e2).symm
end
section
variable {prog:Program} {w:World} {A:Around} {E:Value -> Shared -> Prop} {s:Shared}
variable {kd:SortKind} {O:KeyOrd} {ky:Keyed -> O.α} {ix:Keyed -> Nat} {S:Keyed -> Prop}
theorem wpS_gal (C:Cmp prog w A s kd O ky S) {st:SortSt} {left:Bool} {key:Keyed} {arr:Array Keyed} {base n hint:Nat} {Q:Option Nat -> SortSt -> Prop} (hk:kindOf st = kd) (hs:S key) (hS:∀ p ∈ arr.toList,S p) (sr:∀ i j,i ≤ j -> j < n -> R O ky ix (at_ arr (base + i)) (at_ arr (base + j))) (hix:∀ i,i < n -> if left then ix key ≤ ix (at_ arr (base + i)) else ix (at_ arr (base + i)) ≤ ix key) (hn:base + n ≤ arr.size) (hh:hint < n)
  (h:∀ k,k ≤ n -> (∀ i,i < k -> if left then O.klt (ky (at_ arr (base + i))) (ky key) else R O ky ix (at_ arr (base + i)) key) -> (∀ i,k ≤ i -> i < n -> if left then R O ky ix key (at_ arr (base + i)) else O.klt (ky key) (ky (at_ arr (base + i)))) -> Q (some k) st) :
  wpS (model prog w) A E s (gallop' left key arr base n hint) Q st:=by
 refine wpS_gallop C hk hs (el:=fun i => at_ arr (base + i)) (fun i hi => ⟨at_eq (by trivial),hS _ (at_mem (by trivial))⟩) (fun i j hij hj hb => ?_) hh (fun k hkn h1 h2 => h k hkn (fun i hi => ?_) (fun i hi hin => ?_))
 ·have r:=sr i j hij hj
  unfold bey at hb ⊢
  cases left with
  | true =>
   rw [if_pos rfl] at hb ⊢
   exact KeyOrd.klt_of_kle_of_klt r.1 hb
  | false =>
   rw [if_neg Bool.false_ne_true] at hb ⊢
   have hb':O.blt (ky key) (ky (at_ arr (base + j))) = false:=by simpa using hb
   have:O.kle (ky (at_ arr (base + i))) (ky key):=KeyOrd.kle_trans r.1 hb'
   unfold KeyOrd.kle at this
   rw [this]; rfl
 ·have:=h1 i hi
  unfold bey at this
  cases left with
  | true =>
   rw [if_pos rfl] at this ⊢
   exact this
  | false =>
   rw [if_neg Bool.false_ne_true] at this ⊢
   have hb':O.blt (ky key) (ky (at_ arr (base + i))) = false:=by simpa using this
   have hx:=hix i (by trivial)
   rw [if_neg Bool.false_ne_true] at hx
   exact R.le hb' hx
 ·have:=h2 i hi hin
  unfold bey at this
  cases left with
  | true =>
   rw [if_pos rfl] at this ⊢
   have hx:=hix i hin
   rw [if_pos rfl] at hx
   exact R.le this hx
  | false =>
   rw [if_neg Bool.false_ne_true] at this ⊢
   have hb':O.blt (ky key) (ky (at_ arr (base + i))) = true:=by simpa using this
   exact hb'
theorem wpS_mergeLo (C:Cmp prog w A s kd O ky S) {st:SortSt} {a b:Array Keyed} {Q:Array Keyed -> SortSt -> Prop} (hk:kindOf st = kd) (hSa:∀ p ∈ a.toList,S p) (hSb:∀ p ∈ b.toList,S p) (sa:Srt O ky ix a.toList) (sb:Srt O ky ix b.toList) (hix:∀ x ∈ a.toList,∀ y ∈ b.toList,ix x ≤ ix y) (na:1 ≤ a.size) (nb:1 ≤ b.size)
  (h0:∀ y ∈ a.toList,R O ky ix (at_ b 0) y) (hl:∀ y ∈ b.toList,R O ky ix y (at_ a (a.size - 1))) (h:∀ o st',Good O ky ix a b o -> SameSt st st' -> Q o st'):wpS (model prog w) A E s (mergeLo' a b) Q st:=by
 have lst:∀ {ia},ia + 1 = a.size -> ∀ y ∈ b.toList,∀ x ∈ a.toList.drop ia,R O ky ix y x:=fun {ia} e y hy x hx => by
  rw [at_cons (by trivial),List.drop_of_length_le (by simp; trivial)] at hx
  have:x = at_ a ia:=by simpa using hx
  rw [this,show ia = a.size - 1 by trivial]
  exact hl y hy
 unfold mergeLo'
 refine wpS_bind (wpS_lift (wpAny_rule ⟨rfl,?_⟩))
 dsimp only
 refine wpS_bind (wpS_elem (at_eq (by trivial)) ?_)
 have m0:MI O ky ix a b #[at_ b 0] 0 1:=by
  have z:MI O ky ix a b #[] 0 0:=⟨by trivial,by trivial,by simp,List.Pairwise.nil,fun x hx => by simp at hx,fun x hx => by simp at hx⟩
  have:=z.addB sb (k:=1) (o:=#[at_ b 0]) (by trivial) (fun x hx y hy => ?_) (by rw [at_one (by trivial)]; rfl)
  ·exact this
  ·rw [at_one (by trivial)] at hx
   have:x = at_ b 0:=by simpa using hx
   rw [this]; exact h0 y hy
 by_cases e1:(1 == b.size) = true
 ·rw [if_pos e1]
  exact wpS_pure (h _ _ (m0.done sa sb (.inr (by simpa using e1))) (SameSt.refl _))
 rw [if_neg e1]
 have e1':¬ 1 = b.size:=by simpa using e1
 by_cases e2:(0 + 1 == a.size) = true
 ·rw [if_pos e2]
  exact wpS_pure (h _ _ (m0.last sa sb (lst (by simpa using e2))) (SameSt.refl _))
 rw [if_neg e2]
 have e2':¬ 0 + 1 = a.size:=by simpa using e2
 refine wpS_bind (wpS_get ?_)
 refine wpS_bind (wpS_mono (wpS_forRange
  (I:=fun x c st' => SameSt st st'∧c.1 = none∧MI O ky ix a b c.2.1 c.2.2.1 c.2.2.2.1∧c.2.2.1 + 1 < a.size∧c.2.2.2.1 < b.size∧x + 1 ≤ c.2.2.1 + c.2.2.2.1)
  (Q:=fun c st' => SameSt st st'∧∃ r,c.1 = some r∧Good O ky ix a b r) ?step ?fin ⟨SameSt.refl _,rfl,m0,by dsimp only; trivial,by dsimp only; trivial,by dsimp only; trivial⟩) ?post)
 case fin =>
  rintro c st' ⟨_,_,m,c1,c2,c3⟩
  trivial
 case post =>
  rintro ⟨r,out,ia,ib,mg⟩ st' ⟨ss,r',hr,g⟩
  dsimp only at hr ⊢
  subst hr
  exact wpS_pure (h _ _ g ss)
 case step =>
  rintro x ⟨r,out,ia,ib,mg⟩ st1 _ hx ⟨ss,hr,m,c1,c2,c3⟩
  dsimp only at hr m c1 c2 c3 ⊢
  subst hr
  -- one by one
  refine wpS_bind (wpS_mono (wpS_forRange
   (I:=fun y c st' => st' = st1∧c.1 = none∧MI O ky ix a b c.2.1 c.2.2.1 c.2.2.2.1∧c.2.2.1 + 1 < a.size∧c.2.2.2.1 < b.size∧ia + ib + y ≤ c.2.2.1 + c.2.2.2.1)
   (Q:=fun c st' => st' = st1∧((∃ r,c.1 = some r∧Good O ky ix a b r) ∨ (c.1 = none∧MI O ky ix a b c.2.1 c.2.2.1 c.2.2.2.1∧c.2.2.1 + 1 < a.size∧c.2.2.2.1 < b.size∧ia + ib + 1 ≤ c.2.2.1 + c.2.2.2.1))) ?step1 ?fin1 ⟨rfl,rfl,m,c1,c2,by dsimp only; trivial⟩) ?post1)
  case fin1 =>
   rintro c st' ⟨_,_,m,c1,c2,c3⟩
   trivial
  case step1 =>
   rintro y ⟨r,out,ia',ib',ac,bc⟩ st' _ hy ⟨rfl,hr,m,c1,c2,c3⟩
   dsimp only at hr m c1 c2 c3 ⊢
   subst hr
   have ka:kindOf st' = kd:=ss.kind.trans hk
   refine wpS_bind (wpS_elem (at_eq c2) (wpS_bind (wpS_elem (at_eq (by trivial)) (wpS_bind (wpS_lt C ka (hSb _ (at_mem c2)) (hSa _ (at_mem (by trivial))) ?_)))))
   dsimp only
   cases hw:O.blt (ky (at_ b ib')) (ky (at_ a ia')) with
   | true =>
    rw [if_pos rfl]
    have m1:MI O ky ix a b (out.push (at_ b ib')) ia' (ib' + 1):=m.addB sb (k:=1) (by trivial) (fun x hx y hy => by
     rw [at_one c2] at hx
     have:x = at_ b ib':=by simpa using hx
     rw [this]
     exact R.trans (R.lt hw) (at_le sa (by trivial) y hy)) (by rw [at_one c2]; simp)
    refine wpS_bind (wpS_elem (at_eq c2) ?_)
    split
    ·rename_i q
     exact wpS_pure ⟨rfl,.inl ⟨_,rfl,m1.done sa sb (.inr (by simpa using q))⟩⟩
    ·rename_i q
     have q':¬ ib' + 1 = b.size:=by simpa using q
     split
     ·exact wpS_pure ⟨rfl,.inr ⟨rfl,m1,c1,by dsimp only; trivial,by dsimp only; trivial⟩⟩
     ·exact wpS_pure ⟨rfl,rfl,m1,c1,by dsimp only; trivial,by dsimp only; trivial⟩
   | false =>
    rw [if_neg Bool.false_ne_true]
    have m1:MI O ky ix a b (out.push (at_ a ia')) (ia' + 1) ib':=m.addA sa (k:=1) (by trivial) (fun x hx y hy => by
     rw [at_one (by trivial)] at hx
     have:x = at_ a ia':=by simpa using hx
     rw [this]
     exact R.trans (R.le hw (hix _ (at_mem (by trivial)) _ (at_mem c2))) (at_le sb c2 y hy)) (by rw [at_one (by trivial)]; simp)
    refine wpS_bind (wpS_elem (at_eq (by trivial)) ?_)
    split
    ·rename_i q
     exact wpS_pure ⟨rfl,.inl ⟨_,rfl,m1.last sa sb (lst (by simpa using q))⟩⟩
    ·rename_i q
     have q':¬ ia' + 1 + 1 = a.size:=by simpa using q
     split
     ·exact wpS_pure ⟨rfl,.inr ⟨rfl,m1,by dsimp only; trivial,c2,by dsimp only; trivial⟩⟩
     ·exact wpS_pure ⟨rfl,rfl,m1,by dsimp only; trivial,c2,by dsimp only; trivial⟩
  case post1 =>
   rintro ⟨r,out,ia1,ib1,ac,bc⟩ st' ⟨rfl,hc⟩
   dsimp only at hc ⊢
   rcases hc with ⟨r,rfl,g⟩ | ⟨rfl,m,c1',c2',c3'⟩
   ·exact wpS_pure ⟨ss,r,rfl,g⟩
   dsimp only
   refine wpS_bind (wpS_lift (wpAny_rule ⟨rfl,?_⟩))
   refine wpS_bind (wpS_mono (wpS_forRange
    (I:=fun y c st' => SameSt st st'∧c.1 = none∧MI O ky ix a b c.2.1 c.2.2.1 c.2.2.2.1∧c.2.2.1 + 1 < a.size∧c.2.2.2.1 < b.size∧ia + ib + 1 ≤ c.2.2.1 + c.2.2.2.1)
    (Q:=fun c st' => SameSt st st'∧((∃ r,c.1 = some r∧Good O ky ix a b r) ∨ (c.1 = none∧MI O ky ix a b c.2.1 c.2.2.1 c.2.2.2.1∧c.2.2.1 + 1 < a.size∧c.2.2.2.1 < b.size∧ia + ib + 1 ≤ c.2.2.1 + c.2.2.2.1))) ?step2 ?fin2 ⟨ss,rfl,m,c1',c2',by dsimp only; trivial⟩) ?post2)
   case fin2 =>
    rintro c st' ⟨s',h1,h2,h3,h4,h5⟩
    exact ⟨s',.inr ⟨h1,h2,h3,h4,h5⟩⟩
   case post2 =>
    rintro ⟨r,out,ia2,ib2,mg2,ac2,bc2⟩ st2 ⟨s2,hc⟩
    dsimp only at hc ⊢
    rcases hc with ⟨r,rfl,g⟩ | ⟨rfl,m,d1,d2,d3⟩
    ·exact wpS_pure ⟨s2,r,rfl,g⟩
    dsimp only
    refine wpS_bind (wpS_modify (wpS_pure ⟨⟨s2.kind,s2.arr,s2.pend,s2.fail⟩,rfl,m,d1,d2,by dsimp only; trivial⟩))
   case step2 =>
    rintro y ⟨r,out,ia',ib',mg',ac',bc'⟩ st2 _ hy ⟨s2,hr,m,c1,c2,c3⟩
    dsimp only at hr m c1 c2 c3 ⊢
    subst hr
    -- behind the gallop in a
    have T2:∀ {out:Array Keyed} {ia2 ib2:Nat},MI O ky ix a b out ia2 ib2 -> ia2 + 1 < a.size -> ib2 < b.size -> ia + ib + 1 ≤ ia2 + ib2 -> (∀ y ∈ b.toList.drop ib2,R O ky ix (at_ a ia2) y) -> MI O ky ix a b (out.push (at_ a ia2)) (ia2 + 1) ib2:=fun {out ia2 ib2} m i1 i2 i3 hle => m.addA sa (k:=1) (by trivial) (fun x hx y hy => by
      rw [at_one (by trivial)] at hx
      have:x = at_ a ia2:=by simpa using hx
      rw [this]; exact hle y hy) (by rw [at_one (by trivial)]; simp)
    have T1:∀ {out:Array Keyed} {ia2 ib2:Nat},MI O ky ix a b out ia2 ib2 -> ib2 < b.size -> (∀ y ∈ a.toList.drop ia2,R O ky ix (at_ b ib2) y) -> MI O ky ix a b (out.push (at_ b ib2)) ia2 (ib2 + 1):=fun {out ia2 ib2} m i2 hle => m.addB sb (k:=1) (by trivial) (fun x hx y hy => by
      rw [at_one (by trivial)] at hx
      have:x = at_ b ib2:=by simpa using hx
      rw [this]; exact hle y hy) (by rw [at_one (by trivial)]; simp)
    by_cases hmg:mg' > 1
    ·rw [if_pos hmg]
     refine wpS_bind (wpS_modify ?_)
     refine wpS_bind (wpS_elem (at_eq c2) ?_)
     refine wpS_bind (wpS_gal C (s2.kind.trans hk) (hSb _ (at_mem c2)) hSa (fun i j hij hj => at_ij sa (by trivial) (by trivial)) (fun i hi => by simp only [Bool.false_eq_true,if_false]; exact hix _ (at_mem (by trivial)) _ (at_mem (by trivial))) (by trivial) (by trivial) fun k hkn k1 k2 => ?_)
     dsimp only
     simp only [Bool.false_eq_true,if_false] at k1 k2
     have hle:∀ y ∈ a.toList.drop (ia' + k),R O ky ix (at_ b ib') y:=fun y hy => by
      by_cases hlt:ia' + k < a.size
      ·exact R.trans (R.lt (k2 k (Nat.le_refl _) (by trivial))) (at_le sa hlt y hy)
      ·rw [List.drop_of_length_le (by simp; trivial)] at hy; cases hy
     have mA:MI O ky ix a b (out ++ a.extract ia' (ia' + k)) (ia' + k) ib':=m.addA sa (by trivial) (fun x hx y hy => by
      obtain ⟨j,j1,j2,rfl⟩:=mem_at hx
      exact R.trans (k1 j j1) (at_le sb c2 y hy)) (by rw [Array.toList_append,ext_some])
     by_cases hk0:k > 0
     ·rw [if_pos hk0]
      by_cases p1:(ia' + k + 1 == a.size) = true
      ·rw [if_pos p1]
       exact wpS_pure ⟨⟨s2.kind,s2.arr,s2.pend,s2.fail⟩,.inl ⟨_,rfl,mA.last sa sb (lst (by simpa using p1))⟩⟩
      rw [if_neg p1]
      by_cases p2:(ia' + k == a.size) = true
      ·rw [if_pos p2]
       exact wpS_pure ⟨⟨s2.kind,s2.arr,s2.pend,s2.fail⟩,.inl ⟨_,rfl,mA.done sa sb (.inl (by simpa using p2))⟩⟩
      rw [if_neg p2]
      have p1':¬ ia' + k + 1 = a.size:=by simpa using p1
      have p2':¬ ia' + k = a.size:=by simpa using p2
      refine wpS_bind (wpS_elem (at_eq c2) ?_)
      have m1:=T1 mA c2 hle
      by_cases q1:(ib' + 1 == b.size) = true
      ·rw [if_pos q1]
       exact wpS_pure ⟨⟨s2.kind,s2.arr,s2.pend,s2.fail⟩,.inl ⟨_,rfl,m1.done sa sb (.inr (by simpa using q1))⟩⟩
      rw [if_neg q1]
      have q1':¬ ib' + 1 = b.size:=by simpa using q1
      refine wpS_bind (wpS_elem (at_eq (by trivial)) ?_)
      refine wpS_bind (wpS_gal C (s2.kind.trans hk) (hSa _ (at_mem (by trivial))) hSb (fun i j hij hj => at_ij sb (by trivial) (by trivial)) (fun i hi => by simp only [if_true]; exact hix _ (at_mem (by trivial)) _ (at_mem (by trivial))) (by trivial) (by trivial) fun k' hkn' k1' k2' => ?_)
      dsimp only
      simp only [if_true] at k1' k2'
      have hle2:∀ y ∈ b.toList.drop (ib' + 1 + k'),R O ky ix (at_ a (ia' + k)) y:=fun y hy => by
       by_cases hlt:ib' + 1 + k' < b.size
       ·exact R.trans (k2' k' (Nat.le_refl _) (by trivial)) (at_le sb hlt y hy)
       ·rw [List.drop_of_length_le (by simp; trivial)] at hy; cases hy
      have mB:=m1.addB sb (k:=k') (o:=(out ++ a.extract ia' (ia' + k)).push (at_ b ib') ++ b.extract (ib' + 1) (ib' + 1 + k')) (by trivial) (fun x hx y hy => by
       obtain ⟨j,j1,j2,rfl⟩:=mem_at hx
       exact R.trans (R.lt (k1' j j1)) (at_le sa (by trivial) y hy)) (by rw [Array.toList_append,ext_some])
      by_cases hk1:k' > 0
      ·rw [if_pos hk1]
       by_cases q2:(ib' + 1 + k' == b.size) = true
       ·rw [if_pos q2]
        exact wpS_pure ⟨⟨s2.kind,s2.arr,s2.pend,s2.fail⟩,.inl ⟨_,rfl,mB.done sa sb (.inr (by simpa using q2))⟩⟩
       rw [if_neg q2]
       have q2':¬ ib' + 1 + k' = b.size:=by simpa using q2
       refine wpS_bind (wpS_elem (at_eq (by trivial)) ?_)
       have m2:=T2 mB (by trivial) (by trivial) (by trivial) hle2
       by_cases q3:(ia' + k + 1 + 1 == a.size) = true
       ·rw [if_pos q3]
        exact wpS_pure ⟨⟨s2.kind,s2.arr,s2.pend,s2.fail⟩,.inl ⟨_,rfl,m2.last sa sb (lst (by simpa using q3))⟩⟩
       rw [if_neg q3]
       have q3':¬ ia' + k + 1 + 1 = a.size:=by simpa using q3
       by_cases q4:(decide (k < 7) && decide (k' < 7)) = true
       ·rw [if_pos q4]
        exact wpS_pure ⟨⟨s2.kind,s2.arr,s2.pend,s2.fail⟩,.inr ⟨rfl,m2,by dsimp only; trivial,by dsimp only; trivial,by dsimp only; trivial⟩⟩
       ·rw [if_neg q4]
        exact wpS_pure ⟨⟨s2.kind,s2.arr,s2.pend,s2.fail⟩,rfl,m2,by dsimp only; trivial,by dsimp only; trivial,by dsimp only; trivial⟩
      ·rw [if_neg hk1]
       have hle3:∀ y ∈ b.toList.drop (ib' + 1),R O ky ix (at_ a (ia' + k)) y:=by
        have h':=hle2
        rw [show ib' + 1 + k' = ib' + 1 by trivial] at h'
        exact h'
       refine wpS_bind (wpS_elem (at_eq (by trivial)) ?_)
       have m2:=T2 m1 (by trivial) (by trivial) (by trivial) hle3
       by_cases q3:(ia' + k + 1 + 1 == a.size) = true
       ·rw [if_pos q3]
        exact wpS_pure ⟨⟨s2.kind,s2.arr,s2.pend,s2.fail⟩,.inl ⟨_,rfl,m2.last sa sb (lst (by simpa using q3))⟩⟩
       rw [if_neg q3]
       have q3':¬ ia' + k + 1 + 1 = a.size:=by simpa using q3
       by_cases q4:(decide (k < 7) && decide (k' < 7)) = true
       ·rw [if_pos q4]
        exact wpS_pure ⟨⟨s2.kind,s2.arr,s2.pend,s2.fail⟩,.inr ⟨rfl,m2,by dsimp only; trivial,by dsimp only; trivial,by dsimp only; trivial⟩⟩
       ·rw [if_neg q4]
        exact wpS_pure ⟨⟨s2.kind,s2.arr,s2.pend,s2.fail⟩,rfl,m2,by dsimp only; trivial,by dsimp only; trivial,by dsimp only; trivial⟩
     ·rw [if_neg hk0]
      have hle0:∀ y ∈ a.toList.drop ia',R O ky ix (at_ b ib') y:=by
       have h':=hle
       rw [show ia' + k = ia' by trivial] at h'
       exact h'
      refine wpS_bind (wpS_elem (at_eq c2) ?_)
      have m1:=T1 m c2 hle0
      by_cases q1:(ib' + 1 == b.size) = true
      ·rw [if_pos q1]
       exact wpS_pure ⟨⟨s2.kind,s2.arr,s2.pend,s2.fail⟩,.inl ⟨_,rfl,m1.done sa sb (.inr (by simpa using q1))⟩⟩
      rw [if_neg q1]
      have q1':¬ ib' + 1 = b.size:=by simpa using q1
      refine wpS_bind (wpS_elem (at_eq (by trivial)) ?_)
      refine wpS_bind (wpS_gal C (s2.kind.trans hk) (hSa _ (at_mem (by trivial))) hSb (fun i j hij hj => at_ij sb (by trivial) (by trivial)) (fun i hi => by simp only [if_true]; exact hix _ (at_mem (by trivial)) _ (at_mem (by trivial))) (by trivial) (by trivial) fun k' hkn' k1' k2' => ?_)
      dsimp only
      simp only [if_true] at k1' k2'
      have hle2:∀ y ∈ b.toList.drop (ib' + 1 + k'),R O ky ix (at_ a (ia')) y:=fun y hy => by
       by_cases hlt:ib' + 1 + k' < b.size
       ·exact R.trans (k2' k' (Nat.le_refl _) (by trivial)) (at_le sb hlt y hy)
       ·rw [List.drop_of_length_le (by simp; trivial)] at hy; cases hy
      have mB:=m1.addB sb (k:=k') (o:=out.push (at_ b ib') ++ b.extract (ib' + 1) (ib' + 1 + k')) (by trivial) (fun x hx y hy => by
       obtain ⟨j,j1,j2,rfl⟩:=mem_at hx
       exact R.trans (R.lt (k1' j j1)) (at_le sa (by trivial) y hy)) (by rw [Array.toList_append,ext_some])
      by_cases hk1:k' > 0
      ·rw [if_pos hk1]
       by_cases q2:(ib' + 1 + k' == b.size) = true
       ·rw [if_pos q2]
        exact wpS_pure ⟨⟨s2.kind,s2.arr,s2.pend,s2.fail⟩,.inl ⟨_,rfl,mB.done sa sb (.inr (by simpa using q2))⟩⟩
       rw [if_neg q2]
       have q2':¬ ib' + 1 + k' = b.size:=by simpa using q2
       refine wpS_bind (wpS_elem (at_eq (by trivial)) ?_)
       have m2:=T2 mB (by trivial) (by trivial) (by trivial) hle2
       by_cases q3:(ia' + 1 + 1 == a.size) = true
       ·rw [if_pos q3]
        exact wpS_pure ⟨⟨s2.kind,s2.arr,s2.pend,s2.fail⟩,.inl ⟨_,rfl,m2.last sa sb (lst (by simpa using q3))⟩⟩
       rw [if_neg q3]
       have q3':¬ ia' + 1 + 1 = a.size:=by simpa using q3
       by_cases q4:(decide (k < 7) && decide (k' < 7)) = true
       ·rw [if_pos q4]
        exact wpS_pure ⟨⟨s2.kind,s2.arr,s2.pend,s2.fail⟩,.inr ⟨rfl,m2,by dsimp only; trivial,by dsimp only; trivial,by dsimp only; trivial⟩⟩
       ·rw [if_neg q4]
        exact wpS_pure ⟨⟨s2.kind,s2.arr,s2.pend,s2.fail⟩,rfl,m2,by dsimp only; trivial,by dsimp only; trivial,by dsimp only; trivial⟩
      ·rw [if_neg hk1]
       have hle3:∀ y ∈ b.toList.drop (ib' + 1),R O ky ix (at_ a (ia')) y:=by
        have h':=hle2
        rw [show ib' + 1 + k' = ib' + 1 by trivial] at h'
        exact h'
       refine wpS_bind (wpS_elem (at_eq (by trivial)) ?_)
       have m2:=T2 m1 (by trivial) (by trivial) (by trivial) hle3
       by_cases q3:(ia' + 1 + 1 == a.size) = true
       ·rw [if_pos q3]
        exact wpS_pure ⟨⟨s2.kind,s2.arr,s2.pend,s2.fail⟩,.inl ⟨_,rfl,m2.last sa sb (lst (by simpa using q3))⟩⟩
       rw [if_neg q3]
       have q3':¬ ia' + 1 + 1 = a.size:=by simpa using q3
       by_cases q4:(decide (k < 7) && decide (k' < 7)) = true
       ·rw [if_pos q4]
        exact wpS_pure ⟨⟨s2.kind,s2.arr,s2.pend,s2.fail⟩,.inr ⟨rfl,m2,by dsimp only; trivial,by dsimp only; trivial,by dsimp only; trivial⟩⟩
       ·rw [if_neg q4]
        exact wpS_pure ⟨⟨s2.kind,s2.arr,s2.pend,s2.fail⟩,rfl,m2,by dsimp only; trivial,by dsimp only; trivial,by dsimp only; trivial⟩
    ·rw [if_neg hmg]
     refine wpS_bind (wpS_modify ?_)
     refine wpS_bind (wpS_elem (at_eq c2) ?_)
     refine wpS_bind (wpS_gal C (s2.kind.trans hk) (hSb _ (at_mem c2)) hSa (fun i j hij hj => at_ij sa (by trivial) (by trivial)) (fun i hi => by simp only [Bool.false_eq_true,if_false]; exact hix _ (at_mem (by trivial)) _ (at_mem (by trivial))) (by trivial) (by trivial) fun k hkn k1 k2 => ?_)
     dsimp only
     simp only [Bool.false_eq_true,if_false] at k1 k2
     have hle:∀ y ∈ a.toList.drop (ia' + k),R O ky ix (at_ b ib') y:=fun y hy => by
      by_cases hlt:ia' + k < a.size
      ·exact R.trans (R.lt (k2 k (Nat.le_refl _) (by trivial))) (at_le sa hlt y hy)
      ·rw [List.drop_of_length_le (by simp; trivial)] at hy; cases hy
     have mA:MI O ky ix a b (out ++ a.extract ia' (ia' + k)) (ia' + k) ib':=m.addA sa (by trivial) (fun x hx y hy => by
      obtain ⟨j,j1,j2,rfl⟩:=mem_at hx
      exact R.trans (k1 j j1) (at_le sb c2 y hy)) (by rw [Array.toList_append,ext_some])
     by_cases hk0:k > 0
     ·rw [if_pos hk0]
      by_cases p1:(ia' + k + 1 == a.size) = true
      ·rw [if_pos p1]
       exact wpS_pure ⟨⟨s2.kind,s2.arr,s2.pend,s2.fail⟩,.inl ⟨_,rfl,mA.last sa sb (lst (by simpa using p1))⟩⟩
      rw [if_neg p1]
      by_cases p2:(ia' + k == a.size) = true
      ·rw [if_pos p2]
       exact wpS_pure ⟨⟨s2.kind,s2.arr,s2.pend,s2.fail⟩,.inl ⟨_,rfl,mA.done sa sb (.inl (by simpa using p2))⟩⟩
      rw [if_neg p2]
      have p1':¬ ia' + k + 1 = a.size:=by simpa using p1
      have p2':¬ ia' + k = a.size:=by simpa using p2
      refine wpS_bind (wpS_elem (at_eq c2) ?_)
      have m1:=T1 mA c2 hle
      by_cases q1:(ib' + 1 == b.size) = true
      ·rw [if_pos q1]
       exact wpS_pure ⟨⟨s2.kind,s2.arr,s2.pend,s2.fail⟩,.inl ⟨_,rfl,m1.done sa sb (.inr (by simpa using q1))⟩⟩
      rw [if_neg q1]
      have q1':¬ ib' + 1 = b.size:=by simpa using q1
      refine wpS_bind (wpS_elem (at_eq (by trivial)) ?_)
      refine wpS_bind (wpS_gal C (s2.kind.trans hk) (hSa _ (at_mem (by trivial))) hSb (fun i j hij hj => at_ij sb (by trivial) (by trivial)) (fun i hi => by simp only [if_true]; exact hix _ (at_mem (by trivial)) _ (at_mem (by trivial))) (by trivial) (by trivial) fun k' hkn' k1' k2' => ?_)
      dsimp only
      simp only [if_true] at k1' k2'
      have hle2:∀ y ∈ b.toList.drop (ib' + 1 + k'),R O ky ix (at_ a (ia' + k)) y:=fun y hy => by
       by_cases hlt:ib' + 1 + k' < b.size
       ·exact R.trans (k2' k' (Nat.le_refl _) (by trivial)) (at_le sb hlt y hy)
       ·rw [List.drop_of_length_le (by simp; trivial)] at hy; cases hy
      have mB:=m1.addB sb (k:=k') (o:=(out ++ a.extract ia' (ia' + k)).push (at_ b ib') ++ b.extract (ib' + 1) (ib' + 1 + k')) (by trivial) (fun x hx y hy => by
       obtain ⟨j,j1,j2,rfl⟩:=mem_at hx
       exact R.trans (R.lt (k1' j j1)) (at_le sa (by trivial) y hy)) (by rw [Array.toList_append,ext_some])
      by_cases hk1:k' > 0
      ·rw [if_pos hk1]
       by_cases q2:(ib' + 1 + k' == b.size) = true
       ·rw [if_pos q2]
        exact wpS_pure ⟨⟨s2.kind,s2.arr,s2.pend,s2.fail⟩,.inl ⟨_,rfl,mB.done sa sb (.inr (by simpa using q2))⟩⟩
       rw [if_neg q2]
       have q2':¬ ib' + 1 + k' = b.size:=by simpa using q2
       refine wpS_bind (wpS_elem (at_eq (by trivial)) ?_)
       have m2:=T2 mB (by trivial) (by trivial) (by trivial) hle2
       by_cases q3:(ia' + k + 1 + 1 == a.size) = true
       ·rw [if_pos q3]
        exact wpS_pure ⟨⟨s2.kind,s2.arr,s2.pend,s2.fail⟩,.inl ⟨_,rfl,m2.last sa sb (lst (by simpa using q3))⟩⟩
       rw [if_neg q3]
       have q3':¬ ia' + k + 1 + 1 = a.size:=by simpa using q3
       by_cases q4:(decide (k < 7) && decide (k' < 7)) = true
       ·rw [if_pos q4]
        exact wpS_pure ⟨⟨s2.kind,s2.arr,s2.pend,s2.fail⟩,.inr ⟨rfl,m2,by dsimp only; trivial,by dsimp only; trivial,by dsimp only; trivial⟩⟩
       ·rw [if_neg q4]
        exact wpS_pure ⟨⟨s2.kind,s2.arr,s2.pend,s2.fail⟩,rfl,m2,by dsimp only; trivial,by dsimp only; trivial,by dsimp only; trivial⟩
      ·rw [if_neg hk1]
       have hle3:∀ y ∈ b.toList.drop (ib' + 1),R O ky ix (at_ a (ia' + k)) y:=by
        have h':=hle2
        rw [show ib' + 1 + k' = ib' + 1 by trivial] at h'
        exact h'
       refine wpS_bind (wpS_elem (at_eq (by trivial)) ?_)
       have m2:=T2 m1 (by trivial) (by trivial) (by trivial) hle3
       by_cases q3:(ia' + k + 1 + 1 == a.size) = true
       ·rw [if_pos q3]
        exact wpS_pure ⟨⟨s2.kind,s2.arr,s2.pend,s2.fail⟩,.inl ⟨_,rfl,m2.last sa sb (lst (by simpa using q3))⟩⟩
       rw [if_neg q3]
       have q3':¬ ia' + k + 1 + 1 = a.size:=by simpa using q3
       by_cases q4:(decide (k < 7) && decide (k' < 7)) = true
       ·rw [if_pos q4]
        exact wpS_pure ⟨⟨s2.kind,s2.arr,s2.pend,s2.fail⟩,.inr ⟨rfl,m2,by dsimp only; trivial,by dsimp only; trivial,by dsimp only; trivial⟩⟩
       ·rw [if_neg q4]
        exact wpS_pure ⟨⟨s2.kind,s2.arr,s2.pend,s2.fail⟩,rfl,m2,by dsimp only; trivial,by dsimp only; trivial,by dsimp only; trivial⟩
     ·rw [if_neg hk0]
      have hle0:∀ y ∈ a.toList.drop ia',R O ky ix (at_ b ib') y:=by
       have h':=hle
       rw [show ia' + k = ia' by trivial] at h'
       exact h'
      refine wpS_bind (wpS_elem (at_eq c2) ?_)
      have m1:=T1 m c2 hle0
      by_cases q1:(ib' + 1 == b.size) = true
      ·rw [if_pos q1]
       exact wpS_pure ⟨⟨s2.kind,s2.arr,s2.pend,s2.fail⟩,.inl ⟨_,rfl,m1.done sa sb (.inr (by simpa using q1))⟩⟩
      rw [if_neg q1]
      have q1':¬ ib' + 1 = b.size:=by simpa using q1
      refine wpS_bind (wpS_elem (at_eq (by trivial)) ?_)
      refine wpS_bind (wpS_gal C (s2.kind.trans hk) (hSa _ (at_mem (by trivial))) hSb (fun i j hij hj => at_ij sb (by trivial) (by trivial)) (fun i hi => by simp only [if_true]; exact hix _ (at_mem (by trivial)) _ (at_mem (by trivial))) (by trivial) (by trivial) fun k' hkn' k1' k2' => ?_)
      dsimp only
      simp only [if_true] at k1' k2'
      have hle2:∀ y ∈ b.toList.drop (ib' + 1 + k'),R O ky ix (at_ a (ia')) y:=fun y hy => by
       by_cases hlt:ib' + 1 + k' < b.size
       ·exact R.trans (k2' k' (Nat.le_refl _) (by trivial)) (at_le sb hlt y hy)
       ·rw [List.drop_of_length_le (by simp; trivial)] at hy; cases hy
      have mB:=m1.addB sb (k:=k') (o:=out.push (at_ b ib') ++ b.extract (ib' + 1) (ib' + 1 + k')) (by trivial) (fun x hx y hy => by
       obtain ⟨j,j1,j2,rfl⟩:=mem_at hx
       exact R.trans (R.lt (k1' j j1)) (at_le sa (by trivial) y hy)) (by rw [Array.toList_append,ext_some])
      by_cases hk1:k' > 0
      ·rw [if_pos hk1]
       by_cases q2:(ib' + 1 + k' == b.size) = true
       ·rw [if_pos q2]
        exact wpS_pure ⟨⟨s2.kind,s2.arr,s2.pend,s2.fail⟩,.inl ⟨_,rfl,mB.done sa sb (.inr (by simpa using q2))⟩⟩
       rw [if_neg q2]
       have q2':¬ ib' + 1 + k' = b.size:=by simpa using q2
       refine wpS_bind (wpS_elem (at_eq (by trivial)) ?_)
       have m2:=T2 mB (by trivial) (by trivial) (by trivial) hle2
       by_cases q3:(ia' + 1 + 1 == a.size) = true
       ·rw [if_pos q3]
        exact wpS_pure ⟨⟨s2.kind,s2.arr,s2.pend,s2.fail⟩,.inl ⟨_,rfl,m2.last sa sb (lst (by simpa using q3))⟩⟩
       rw [if_neg q3]
       have q3':¬ ia' + 1 + 1 = a.size:=by simpa using q3
       by_cases q4:(decide (k < 7) && decide (k' < 7)) = true
       ·rw [if_pos q4]
        exact wpS_pure ⟨⟨s2.kind,s2.arr,s2.pend,s2.fail⟩,.inr ⟨rfl,m2,by dsimp only; trivial,by dsimp only; trivial,by dsimp only; trivial⟩⟩
       ·rw [if_neg q4]
        exact wpS_pure ⟨⟨s2.kind,s2.arr,s2.pend,s2.fail⟩,rfl,m2,by dsimp only; trivial,by dsimp only; trivial,by dsimp only; trivial⟩
      ·rw [if_neg hk1]
       have hle3:∀ y ∈ b.toList.drop (ib' + 1),R O ky ix (at_ a (ia')) y:=by
        have h':=hle2
        rw [show ib' + 1 + k' = ib' + 1 by trivial] at h'
        exact h'
       refine wpS_bind (wpS_elem (at_eq (by trivial)) ?_)
       have m2:=T2 m1 (by trivial) (by trivial) (by trivial) hle3
       by_cases q3:(ia' + 1 + 1 == a.size) = true
       ·rw [if_pos q3]
        exact wpS_pure ⟨⟨s2.kind,s2.arr,s2.pend,s2.fail⟩,.inl ⟨_,rfl,m2.last sa sb (lst (by simpa using q3))⟩⟩
       rw [if_neg q3]
       have q3':¬ ia' + 1 + 1 = a.size:=by simpa using q3
       by_cases q4:(decide (k < 7) && decide (k' < 7)) = true
       ·rw [if_pos q4]
        exact wpS_pure ⟨⟨s2.kind,s2.arr,s2.pend,s2.fail⟩,.inr ⟨rfl,m2,by dsimp only; trivial,by dsimp only; trivial,by dsimp only; trivial⟩⟩
       ·rw [if_neg q4]
        exact wpS_pure ⟨⟨s2.kind,s2.arr,s2.pend,s2.fail⟩,rfl,m2,by dsimp only; trivial,by dsimp only; trivial,by dsimp only; trivial⟩
end
end TT
set_option linter.all false
namespace TT
open PySem PyProof.Rows TS
section
variable {O:KeyOrd} {ky:Keyed -> O.α} {ix:Keyed -> Nat}
theorem at_snoc {a:Array Keyed} {i:Nat} (h:i < a.size):a.toList.take (i + 1) = a.toList.take i ++ [at_ a i]:=by rw [List.take_add_one,at_list h]; rfl
theorem at_ge {a:Array Keyed} (sa:Srt O ky ix a.toList) {i:Nat} (h:i < a.size):∀ y ∈ a.toList.take (i + 1),R O ky ix y (at_ a i):=by
 intro y hy
 have s:=take_srt sa (i + 1)
 unfold Srt at s
 rw [at_snoc h] at hy s
 rcases List.mem_append.mp hy with hy | hy
 ·exact (List.pairwise_append.mp s).2.2 y hy _ List.mem_cons_self
 ·have:y = at_ a i:=by simpa using hy
  rw [this]; exact R.refl _
theorem at_one' {a:Array Keyed} {i:Nat} (h:i < a.size):(a.toList.take (i + 1)).drop i = [at_ a i]:=by
 rw [at_snoc h,List.drop_append_of_le_length (by simp; trivial),List.drop_of_length_le (by simp; trivial)]; rfl
theorem mem_at' {a:Array Keyed} {i k:Nat} (hk:k ≤ a.size) {x:Keyed} (hx:x ∈ (a.toList.take k).drop i):∃ j,i ≤ j∧j < k∧x = at_ a j:=by
 rw [List.drop_take] at hx
 obtain ⟨j,j1,j2,e⟩:=mem_at hx
 exact ⟨i + j,by trivial,by trivial,e⟩
theorem mem_take' {a:Array Keyed} {k:Nat} (hk:k ≤ a.size) {x:Keyed} (hx:x ∈ a.toList.take k):∃ j,j < k∧x = at_ a j:=by
 obtain ⟨j,_,j2,e⟩:=mem_at' (i:=0) hk (by rw [List.drop_zero]; exact hx)
 exact ⟨j,j2,e⟩
theorem MH.pushA {a b out:Array Keyed} {na nb:Nat} (m:MH O ky ix a b out na nb) (sa:Srt O ky ix a.toList) (h1:1 ≤ na) (hx:∀ y ∈ b.toList.take nb,R O ky ix y (at_ a (na - 1))):MH O ky ix a b (out.push (at_ a (na - 1))) (na - 1) nb:=by
 have ha:=m.ha
 obtain ⟨j,rfl⟩:∃ j,na = j + 1:=⟨na - 1,by trivial⟩
 rw [Nat.add_sub_cancel] at hx ⊢
 exact m.addA sa (by trivial) (fun x hx' y hy => by
  rw [at_one' (by trivial)] at hx'
  have:x = at_ a j:=by simpa using hx'
  rw [this]; exact hx y hy) (by rw [at_one' (by trivial)]; simp)
theorem MH.pushB {a b out:Array Keyed} {na nb:Nat} (m:MH O ky ix a b out na nb) (sb:Srt O ky ix b.toList) (h1:1 ≤ nb) (hx:∀ y ∈ a.toList.take na,R O ky ix y (at_ b (nb - 1))):MH O ky ix a b (out.push (at_ b (nb - 1))) na (nb - 1):=(m.swap.pushA sb h1 hx).swap
end
section
variable {prog:Program} {w:World} {A:Around} {E:Value -> Shared -> Prop} {s:Shared}
variable {kd:SortKind} {O:KeyOrd} {ky:Keyed -> O.α} {ix:Keyed -> Nat} {S:Keyed -> Prop}
theorem wpS_mergeHi (C:Cmp prog w A s kd O ky S) {st:SortSt} {a b:Array Keyed} {Q:Array Keyed -> SortSt -> Prop} (hk:kindOf st = kd) (hSa:∀ p ∈ a.toList,S p) (hSb:∀ p ∈ b.toList,S p) (sa:Srt O ky ix a.toList) (sb:Srt O ky ix b.toList) (hix:∀ x ∈ a.toList,∀ y ∈ b.toList,ix x ≤ ix y) (na1:1 ≤ a.size) (nb1:1 ≤ b.size)
  (h0:∀ y ∈ a.toList,R O ky ix (at_ b 0) y) (hl:∀ y ∈ b.toList,R O ky ix y (at_ a (a.size - 1))) (h:∀ o st',Good O ky ix a b o -> SameSt st st' -> Q o st'):wpS (model prog w) A E s (mergeHi' a b) Q st:=by
 have fst:∀ {nb},nb = 1 -> ∀ x ∈ b.toList.take nb,∀ y ∈ a.toList,R O ky ix x y:=fun {nb} e x hx y hy => by
  obtain ⟨j,j1,rfl⟩:=mem_take' (by trivial) hx
  rw [show j = 0 by trivial]
  exact h0 y hy
 unfold mergeHi'
 refine wpS_bind (wpS_lift (wpAny_rule ⟨rfl,?_⟩))
 dsimp only
 refine wpS_bind (wpS_elem (at_eq (by trivial)) ?_)
 have m0:MH O ky ix a b #[at_ a (a.size - 1)] (a.size - 1) b.size:=by
  have z:MH O ky ix a b #[] a.size b.size:=⟨Nat.le_refl _,Nat.le_refl _,by simp,List.Pairwise.nil,fun x hx => by simp at hx,fun x hx => by simp at hx⟩
  exact z.pushA sa na1 (fun y hy => hl y (List.mem_of_mem_take hy))
 by_cases e1:(a.size - 1 == 0) = true
 ·rw [if_pos e1]
  exact wpS_pure (h _ _ (m0.done sa sb (.inl (by simpa using e1))) (SameSt.refl _))
 rw [if_neg e1]
 have e1':¬ a.size - 1 = 0:=by simpa using e1
 by_cases e2:(b.size == 1) = true
 ·rw [if_pos e2]
  exact wpS_pure (h _ _ (m0.first sa sb (fst (by simpa using e2))) (SameSt.refl _))
 rw [if_neg e2]
 have e2':¬ b.size = 1:=by simpa using e2
 refine wpS_bind (wpS_get ?_)
 refine wpS_bind (wpS_mono (wpS_forRange
  (I:=fun x c st' => SameSt st st'∧c.1 = none∧MH O ky ix a b c.2.2.2.1 c.2.1 c.2.2.1∧1 ≤ c.2.1∧2 ≤ c.2.2.1∧c.2.1 + c.2.2.1 + x + 1 ≤ a.size + b.size)
  (Q:=fun c st' => SameSt st st'∧∃ r,c.1 = some r∧Good O ky ix a b r) ?step ?fin ⟨SameSt.refl _,rfl,m0,by dsimp only; trivial,by dsimp only; trivial,by dsimp only; trivial⟩) ?post)
 case fin =>
  rintro c st' ⟨_,_,m,c1,c2,c3⟩
  trivial
 case post =>
  rintro ⟨r,na,nb,out,mg⟩ st' ⟨ss,r',hr,g⟩
  dsimp only at hr ⊢
  subst hr
  exact wpS_pure (h _ _ g ss)
 case step =>
  rintro x ⟨r,na,nb,out,mg⟩ st1 _ hx ⟨ss,hr,m,c1,c2,c3⟩
  dsimp only at hr m c1 c2 c3 ⊢
  subst hr
  have ha0:=m.ha
  have hb0:=m.hb
  refine wpS_bind (wpS_mono (wpS_forRange
   (I:=fun y c st' => st' = st1∧c.1 = none∧MH O ky ix a b c.2.2.2.1 c.2.1 c.2.2.1∧1 ≤ c.2.1∧2 ≤ c.2.2.1∧c.2.1 + c.2.2.1 + y ≤ na + nb)
   (Q:=fun c st' => st' = st1∧((∃ r,c.1 = some r∧Good O ky ix a b r) ∨ (c.1 = none∧MH O ky ix a b c.2.2.2.1 c.2.1 c.2.2.1∧1 ≤ c.2.1∧2 ≤ c.2.2.1∧c.2.1 + c.2.2.1 + 1 ≤ na + nb))) ?step1 ?fin1 ⟨rfl,rfl,m,c1,c2,by dsimp only; trivial⟩) ?post1)
  case fin1 =>
   rintro c st' ⟨_,_,m,c1,c2,c3⟩
   trivial
  case step1 =>
   rintro y ⟨r,na',nb',out,ac,bc⟩ st' _ hy ⟨rfl,hr,m,c1,c2,c3⟩
   dsimp only at hr m c1 c2 c3 ⊢
   subst hr
   have ha':=m.ha
   have hb':=m.hb
   have ka:kindOf st' = kd:=ss.kind.trans hk
   refine wpS_bind (wpS_elem (at_eq (by trivial)) (wpS_bind (wpS_elem (at_eq (by trivial)) (wpS_bind (wpS_lt C ka (hSb _ (at_mem (by trivial))) (hSa _ (at_mem (by trivial))) ?_)))))
   dsimp only
   cases hw:O.blt (ky (at_ b (nb' - 1))) (ky (at_ a (na' - 1))) with
   | true =>
    rw [if_pos rfl]
    have m1:=m.pushA sa c1 (fun y hy => by
     have:=at_ge sb (i:=nb' - 1) (by trivial) y (by rw [show nb' - 1 + 1 = nb' by trivial]; exact hy)
     exact R.trans this (R.lt hw))
    refine wpS_bind (wpS_elem (at_eq (by trivial)) ?_)
    split
    ·rename_i q
     exact wpS_pure ⟨rfl,.inl ⟨_,rfl,m1.done sa sb (.inl (by simpa using q))⟩⟩
    ·rename_i q
     have q':¬ na' - 1 = 0:=by simpa using q
     split
     ·exact wpS_pure ⟨rfl,.inr ⟨rfl,m1,by dsimp only; trivial,c2,by dsimp only; trivial⟩⟩
     ·exact wpS_pure ⟨rfl,rfl,m1,by dsimp only; trivial,c2,by dsimp only; trivial⟩
   | false =>
    rw [if_neg Bool.false_ne_true]
    have m1:=m.pushB sb (by trivial) (fun y hy => by
     have:=at_ge sa (i:=na' - 1) (by trivial) y (by rw [show na' - 1 + 1 = na' by trivial]; exact hy)
     exact R.trans this (R.le hw (hix _ (at_mem (by trivial)) _ (at_mem (by trivial)))))
    refine wpS_bind (wpS_elem (at_eq (by trivial)) ?_)
    split
    ·rename_i q
     exact wpS_pure ⟨rfl,.inl ⟨_,rfl,m1.first sa sb (fst (by simpa using q))⟩⟩
    ·rename_i q
     have q':¬ nb' - 1 = 1:=by simpa using q
     split
     ·exact wpS_pure ⟨rfl,.inr ⟨rfl,m1,c1,by dsimp only; trivial,by dsimp only; trivial⟩⟩
     ·exact wpS_pure ⟨rfl,rfl,m1,c1,by dsimp only; trivial,by dsimp only; trivial⟩
  case post1 =>
   rintro ⟨r,na2,nb2,out,ac,bc⟩ st' ⟨rfl,hc⟩
   dsimp only at hc ⊢
   rcases hc with ⟨r,rfl,g⟩ | ⟨rfl,m,c1',c2',c3'⟩
   ·exact wpS_pure ⟨ss,r,rfl,g⟩
   dsimp only
   refine wpS_bind (wpS_lift (wpAny_rule ⟨rfl,?_⟩))
   refine wpS_bind (wpS_mono (wpS_forRange
    (I:=fun y c st' => SameSt st st'∧c.1 = none∧MH O ky ix a b c.2.2.2.1 c.2.1 c.2.2.1∧1 ≤ c.2.1∧2 ≤ c.2.2.1∧c.2.1 + c.2.2.1 + 1 ≤ na + nb)
    (Q:=fun c st' => SameSt st st'∧((∃ r,c.1 = some r∧Good O ky ix a b r) ∨ (c.1 = none∧MH O ky ix a b c.2.2.2.1 c.2.1 c.2.2.1∧1 ≤ c.2.1∧2 ≤ c.2.2.1∧c.2.1 + c.2.2.1 + 1 ≤ na + nb))) ?step2 ?fin2 ⟨ss,rfl,m,c1',c2',by dsimp only; trivial⟩) ?post2)
   case fin2 =>
    rintro c st' ⟨s',h1,h2,h3,h4,h5⟩
    exact ⟨s',.inr ⟨h1,h2,h3,h4,h5⟩⟩
   case post2 =>
    rintro ⟨r,na3,nb3,out,mg2,ac2,bc2⟩ st2 ⟨s2,hc⟩
    dsimp only at hc ⊢
    rcases hc with ⟨r,rfl,g⟩ | ⟨rfl,m,d1,d2,d3⟩
    ·exact wpS_pure ⟨s2,r,rfl,g⟩
    dsimp only
    refine wpS_bind (wpS_modify (wpS_pure ⟨⟨s2.kind,s2.arr,s2.pend,s2.fail⟩,rfl,m,d1,d2,by dsimp only; trivial⟩))
   case step2 =>
    rintro y ⟨r,na',nb',out,mg',ac',bc'⟩ st2 _ hy ⟨s2,hr,m,c1,c2,c3⟩
    dsimp only at hr m c1 c2 c3 ⊢
    subst hr
    have ha':=m.ha
    have hb':=m.hb
    by_cases hmg:mg' > 1
    ·rw [if_pos hmg]
     refine wpS_bind (wpS_modify ?_)
     refine wpS_bind (wpS_elem (at_eq (by trivial)) ?_)
     refine wpS_bind (wpS_gal C (s2.kind.trans hk) (hSb _ (at_mem (by trivial))) hSa (fun i j hij hj => at_ij sa (by trivial) (by trivial)) (fun i hi => by simp only [Bool.false_eq_true,if_false]; exact hix _ (at_mem (by trivial)) _ (at_mem (by trivial))) (by trivial) (by trivial) fun k hkn k1 k2 => ?_)
     dsimp only
     simp only [Bool.false_eq_true,if_false,Nat.zero_add] at k1 k2
     have hle:∀ y ∈ a.toList.take k,R O ky ix y (at_ b (nb' - 1)):=fun y hy => by
      obtain ⟨j,j1,rfl⟩:=mem_take' (by trivial) hy
      exact k1 j j1
     have mA:MH O ky ix a b (out ++ (a.extract k na').reverse) k nb':=m.addA sa hkn (fun x hx y hy => by
      obtain ⟨j,j1,j2,rfl⟩:=mem_at' (by trivial) hx
      exact R.trans (at_ge sb (i:=nb' - 1) (by trivial) y (by rw [show nb' - 1 + 1 = nb' by trivial]; exact hy)) (R.lt (k2 j j1 j2))) (by rw [Array.toList_append,Array.toList_reverse,ext2])
     by_cases hk0:na' - k > 0
     ·rw [if_pos hk0]
      by_cases p1:(k == 0) = true
      ·rw [if_pos p1]
       exact wpS_pure ⟨⟨s2.kind,s2.arr,s2.pend,s2.fail⟩,.inl ⟨_,rfl,mA.done sa sb (.inl (by simpa using p1))⟩⟩
      rw [if_neg p1]
      have p1':¬ k = 0:=by simpa using p1
      refine wpS_bind (wpS_elem (at_eq (by trivial)) ?_)
      have m1:=MH.pushB mA sb (by trivial) hle
      by_cases q1:(nb' - 1 == 1) = true
      ·rw [if_pos q1]
       exact wpS_pure ⟨⟨s2.kind,s2.arr,s2.pend,s2.fail⟩,.inl ⟨_,rfl,m1.first sa sb (fst (by simpa using q1))⟩⟩
      rw [if_neg q1]
      have q1':¬ nb' - 1 = 1:=by simpa using q1
      refine wpS_bind (wpS_elem (at_eq (by trivial)) ?_)
      refine wpS_bind (wpS_gal C (s2.kind.trans hk) (hSa _ (at_mem (by trivial))) hSb (fun i j hij hj => at_ij sb (by trivial) (by trivial)) (fun i hi => by simp only [if_true]; exact hix _ (at_mem (by trivial)) _ (at_mem (by trivial))) (by trivial) (by trivial) fun k' hkn' k1' k2' => ?_)
      dsimp only
      simp only [if_true,Nat.zero_add] at k1' k2'
      have hle2:∀ y ∈ b.toList.take k',R O ky ix y (at_ a (k - 1)):=fun y hy => by
       obtain ⟨j,j1,rfl⟩:=mem_take' (by trivial) hy
       exact R.lt (k1' j j1)
      have mB:=m1.addB sb (k:=k') (o:=(out ++ (a.extract k na').reverse).push (at_ b (nb' - 1)) ++ (b.extract k' (nb' - 1)).reverse) hkn' (fun x hx y hy => by
       obtain ⟨j,j1,j2,rfl⟩:=mem_at' (by trivial) hx
       exact R.trans (at_ge sa (i:=k - 1) (by trivial) y (by rw [show k - 1 + 1 = k by trivial]; exact hy)) (k2' j j1 j2)) (by rw [Array.toList_append,Array.toList_reverse,ext2])
      by_cases hk1:nb' - 1 - k' > 0
      ·rw [if_pos hk1]
       by_cases q2:(k' == 1) = true
       ·rw [if_pos q2]
        exact wpS_pure ⟨⟨s2.kind,s2.arr,s2.pend,s2.fail⟩,.inl ⟨_,rfl,mB.first sa sb (fst (by simpa using q2))⟩⟩
       rw [if_neg q2]
       by_cases q5:(k' == 0) = true
       ·rw [if_pos q5]
        exact wpS_pure ⟨⟨s2.kind,s2.arr,s2.pend,s2.fail⟩,.inl ⟨_,rfl,mB.done sa sb (.inr (by simpa using q5))⟩⟩
       rw [if_neg q5]
       have q2':¬ k' = 1:=by simpa using q2
       have q5':¬ k' = 0:=by simpa using q5
       refine wpS_bind (wpS_elem (at_eq (by trivial)) ?_)
       have m2:=MH.pushA mB sa (by trivial) hle2
       by_cases q3:(k - 1 == 0) = true
       ·rw [if_pos q3]
        exact wpS_pure ⟨⟨s2.kind,s2.arr,s2.pend,s2.fail⟩,.inl ⟨_,rfl,m2.done sa sb (.inl (by simpa using q3))⟩⟩
       rw [if_neg q3]
       have q3':¬ k - 1 = 0:=by simpa using q3
       by_cases q4:(decide (na' - k < 7) && decide (nb' - 1 - k' < 7)) = true
       ·rw [if_pos q4]
        exact wpS_pure ⟨⟨s2.kind,s2.arr,s2.pend,s2.fail⟩,.inr ⟨rfl,m2,by dsimp only; trivial,by dsimp only; trivial,by dsimp only; trivial⟩⟩
       ·rw [if_neg q4]
        exact wpS_pure ⟨⟨s2.kind,s2.arr,s2.pend,s2.fail⟩,rfl,m2,by dsimp only; trivial,by dsimp only; trivial,by dsimp only; trivial⟩
      ·rw [if_neg hk1]
       have hle3:∀ y ∈ b.toList.take (nb' - 1),R O ky ix y (at_ a (k - 1)):=by
        have h':=hle2
        rw [show k' = nb' - 1 by trivial] at h'
        exact h'
       refine wpS_bind (wpS_elem (at_eq (by trivial)) ?_)
       have m2:=MH.pushA m1 sa (by trivial) hle3
       by_cases q3:(k - 1 == 0) = true
       ·rw [if_pos q3]
        exact wpS_pure ⟨⟨s2.kind,s2.arr,s2.pend,s2.fail⟩,.inl ⟨_,rfl,m2.done sa sb (.inl (by simpa using q3))⟩⟩
       rw [if_neg q3]
       have q3':¬ k - 1 = 0:=by simpa using q3
       by_cases q4:(decide (na' - k < 7) && decide (nb' - 1 - k' < 7)) = true
       ·rw [if_pos q4]
        exact wpS_pure ⟨⟨s2.kind,s2.arr,s2.pend,s2.fail⟩,.inr ⟨rfl,m2,by dsimp only; trivial,by dsimp only; trivial,by dsimp only; trivial⟩⟩
       ·rw [if_neg q4]
        exact wpS_pure ⟨⟨s2.kind,s2.arr,s2.pend,s2.fail⟩,rfl,m2,by dsimp only; trivial,by dsimp only; trivial,by dsimp only; trivial⟩
     ·rw [if_neg hk0]
      have hle0:∀ y ∈ a.toList.take na',R O ky ix y (at_ b (nb' - 1)):=by
       have h':=hle
       rw [show k = na' by trivial] at h'
       exact h'
      refine wpS_bind (wpS_elem (at_eq (by trivial)) ?_)
      have m1:=MH.pushB m sb (by trivial) hle0
      by_cases q1:(nb' - 1 == 1) = true
      ·rw [if_pos q1]
       exact wpS_pure ⟨⟨s2.kind,s2.arr,s2.pend,s2.fail⟩,.inl ⟨_,rfl,m1.first sa sb (fst (by simpa using q1))⟩⟩
      rw [if_neg q1]
      have q1':¬ nb' - 1 = 1:=by simpa using q1
      refine wpS_bind (wpS_elem (at_eq (by trivial)) ?_)
      refine wpS_bind (wpS_gal C (s2.kind.trans hk) (hSa _ (at_mem (by trivial))) hSb (fun i j hij hj => at_ij sb (by trivial) (by trivial)) (fun i hi => by simp only [if_true]; exact hix _ (at_mem (by trivial)) _ (at_mem (by trivial))) (by trivial) (by trivial) fun k' hkn' k1' k2' => ?_)
      dsimp only
      simp only [if_true,Nat.zero_add] at k1' k2'
      have hle2:∀ y ∈ b.toList.take k',R O ky ix y (at_ a (na' - 1)):=fun y hy => by
       obtain ⟨j,j1,rfl⟩:=mem_take' (by trivial) hy
       exact R.lt (k1' j j1)
      have mB:=m1.addB sb (k:=k') (o:=out.push (at_ b (nb' - 1)) ++ (b.extract k' (nb' - 1)).reverse) hkn' (fun x hx y hy => by
       obtain ⟨j,j1,j2,rfl⟩:=mem_at' (by trivial) hx
       exact R.trans (at_ge sa (i:=na' - 1) (by trivial) y (by rw [show na' - 1 + 1 = na' by trivial]; exact hy)) (k2' j j1 j2)) (by rw [Array.toList_append,Array.toList_reverse,ext2])
      by_cases hk1:nb' - 1 - k' > 0
      ·rw [if_pos hk1]
       by_cases q2:(k' == 1) = true
       ·rw [if_pos q2]
        exact wpS_pure ⟨⟨s2.kind,s2.arr,s2.pend,s2.fail⟩,.inl ⟨_,rfl,mB.first sa sb (fst (by simpa using q2))⟩⟩
       rw [if_neg q2]
       by_cases q5:(k' == 0) = true
       ·rw [if_pos q5]
        exact wpS_pure ⟨⟨s2.kind,s2.arr,s2.pend,s2.fail⟩,.inl ⟨_,rfl,mB.done sa sb (.inr (by simpa using q5))⟩⟩
       rw [if_neg q5]
       have q2':¬ k' = 1:=by simpa using q2
       have q5':¬ k' = 0:=by simpa using q5
       refine wpS_bind (wpS_elem (at_eq (by trivial)) ?_)
       have m2:=MH.pushA mB sa (by trivial) hle2
       by_cases q3:(na' - 1 == 0) = true
       ·rw [if_pos q3]
        exact wpS_pure ⟨⟨s2.kind,s2.arr,s2.pend,s2.fail⟩,.inl ⟨_,rfl,m2.done sa sb (.inl (by simpa using q3))⟩⟩
       rw [if_neg q3]
       have q3':¬ na' - 1 = 0:=by simpa using q3
       by_cases q4:(decide (na' - k < 7) && decide (nb' - 1 - k' < 7)) = true
       ·rw [if_pos q4]
        exact wpS_pure ⟨⟨s2.kind,s2.arr,s2.pend,s2.fail⟩,.inr ⟨rfl,m2,by dsimp only; trivial,by dsimp only; trivial,by dsimp only; trivial⟩⟩
       ·rw [if_neg q4]
        exact wpS_pure ⟨⟨s2.kind,s2.arr,s2.pend,s2.fail⟩,rfl,m2,by dsimp only; trivial,by dsimp only; trivial,by dsimp only; trivial⟩
      ·rw [if_neg hk1]
       have hle3:∀ y ∈ b.toList.take (nb' - 1),R O ky ix y (at_ a (na' - 1)):=by
        have h':=hle2
        rw [show k' = nb' - 1 by trivial] at h'
        exact h'
       refine wpS_bind (wpS_elem (at_eq (by trivial)) ?_)
       have m2:=MH.pushA m1 sa (by trivial) hle3
       by_cases q3:(na' - 1 == 0) = true
       ·rw [if_pos q3]
        exact wpS_pure ⟨⟨s2.kind,s2.arr,s2.pend,s2.fail⟩,.inl ⟨_,rfl,m2.done sa sb (.inl (by simpa using q3))⟩⟩
       rw [if_neg q3]
       have q3':¬ na' - 1 = 0:=by simpa using q3
       by_cases q4:(decide (na' - k < 7) && decide (nb' - 1 - k' < 7)) = true
       ·rw [if_pos q4]
        exact wpS_pure ⟨⟨s2.kind,s2.arr,s2.pend,s2.fail⟩,.inr ⟨rfl,m2,by dsimp only; trivial,by dsimp only; trivial,by dsimp only; trivial⟩⟩
       ·rw [if_neg q4]
        exact wpS_pure ⟨⟨s2.kind,s2.arr,s2.pend,s2.fail⟩,rfl,m2,by dsimp only; trivial,by dsimp only; trivial,by dsimp only; trivial⟩
    ·rw [if_neg hmg]
     refine wpS_bind (wpS_modify ?_)
     refine wpS_bind (wpS_elem (at_eq (by trivial)) ?_)
     refine wpS_bind (wpS_gal C (s2.kind.trans hk) (hSb _ (at_mem (by trivial))) hSa (fun i j hij hj => at_ij sa (by trivial) (by trivial)) (fun i hi => by simp only [Bool.false_eq_true,if_false]; exact hix _ (at_mem (by trivial)) _ (at_mem (by trivial))) (by trivial) (by trivial) fun k hkn k1 k2 => ?_)
     dsimp only
     simp only [Bool.false_eq_true,if_false,Nat.zero_add] at k1 k2
     have hle:∀ y ∈ a.toList.take k,R O ky ix y (at_ b (nb' - 1)):=fun y hy => by
      obtain ⟨j,j1,rfl⟩:=mem_take' (by trivial) hy
      exact k1 j j1
     have mA:MH O ky ix a b (out ++ (a.extract k na').reverse) k nb':=m.addA sa hkn (fun x hx y hy => by
      obtain ⟨j,j1,j2,rfl⟩:=mem_at' (by trivial) hx
      exact R.trans (at_ge sb (i:=nb' - 1) (by trivial) y (by rw [show nb' - 1 + 1 = nb' by trivial]; exact hy)) (R.lt (k2 j j1 j2))) (by rw [Array.toList_append,Array.toList_reverse,ext2])
     by_cases hk0:na' - k > 0
     ·rw [if_pos hk0]
      by_cases p1:(k == 0) = true
      ·rw [if_pos p1]
       exact wpS_pure ⟨⟨s2.kind,s2.arr,s2.pend,s2.fail⟩,.inl ⟨_,rfl,mA.done sa sb (.inl (by simpa using p1))⟩⟩
      rw [if_neg p1]
      have p1':¬ k = 0:=by simpa using p1
      refine wpS_bind (wpS_elem (at_eq (by trivial)) ?_)
      have m1:=MH.pushB mA sb (by trivial) hle
      by_cases q1:(nb' - 1 == 1) = true
      ·rw [if_pos q1]
       exact wpS_pure ⟨⟨s2.kind,s2.arr,s2.pend,s2.fail⟩,.inl ⟨_,rfl,m1.first sa sb (fst (by simpa using q1))⟩⟩
      rw [if_neg q1]
      have q1':¬ nb' - 1 = 1:=by simpa using q1
      refine wpS_bind (wpS_elem (at_eq (by trivial)) ?_)
      refine wpS_bind (wpS_gal C (s2.kind.trans hk) (hSa _ (at_mem (by trivial))) hSb (fun i j hij hj => at_ij sb (by trivial) (by trivial)) (fun i hi => by simp only [if_true]; exact hix _ (at_mem (by trivial)) _ (at_mem (by trivial))) (by trivial) (by trivial) fun k' hkn' k1' k2' => ?_)
      dsimp only
      simp only [if_true,Nat.zero_add] at k1' k2'
      have hle2:∀ y ∈ b.toList.take k',R O ky ix y (at_ a (k - 1)):=fun y hy => by
       obtain ⟨j,j1,rfl⟩:=mem_take' (by trivial) hy
       exact R.lt (k1' j j1)
      have mB:=m1.addB sb (k:=k') (o:=(out ++ (a.extract k na').reverse).push (at_ b (nb' - 1)) ++ (b.extract k' (nb' - 1)).reverse) hkn' (fun x hx y hy => by
       obtain ⟨j,j1,j2,rfl⟩:=mem_at' (by trivial) hx
       exact R.trans (at_ge sa (i:=k - 1) (by trivial) y (by rw [show k - 1 + 1 = k by trivial]; exact hy)) (k2' j j1 j2)) (by rw [Array.toList_append,Array.toList_reverse,ext2])
      by_cases hk1:nb' - 1 - k' > 0
      ·rw [if_pos hk1]
       by_cases q2:(k' == 1) = true
       ·rw [if_pos q2]
        exact wpS_pure ⟨⟨s2.kind,s2.arr,s2.pend,s2.fail⟩,.inl ⟨_,rfl,mB.first sa sb (fst (by simpa using q2))⟩⟩
       rw [if_neg q2]
       by_cases q5:(k' == 0) = true
       ·rw [if_pos q5]
        exact wpS_pure ⟨⟨s2.kind,s2.arr,s2.pend,s2.fail⟩,.inl ⟨_,rfl,mB.done sa sb (.inr (by simpa using q5))⟩⟩
       rw [if_neg q5]
       have q2':¬ k' = 1:=by simpa using q2
       have q5':¬ k' = 0:=by simpa using q5
       refine wpS_bind (wpS_elem (at_eq (by trivial)) ?_)
       have m2:=MH.pushA mB sa (by trivial) hle2
       by_cases q3:(k - 1 == 0) = true
       ·rw [if_pos q3]
        exact wpS_pure ⟨⟨s2.kind,s2.arr,s2.pend,s2.fail⟩,.inl ⟨_,rfl,m2.done sa sb (.inl (by simpa using q3))⟩⟩
       rw [if_neg q3]
       have q3':¬ k - 1 = 0:=by simpa using q3
       by_cases q4:(decide (na' - k < 7) && decide (nb' - 1 - k' < 7)) = true
       ·rw [if_pos q4]
        exact wpS_pure ⟨⟨s2.kind,s2.arr,s2.pend,s2.fail⟩,.inr ⟨rfl,m2,by dsimp only; trivial,by dsimp only; trivial,by dsimp only; trivial⟩⟩
       ·rw [if_neg q4]
        exact wpS_pure ⟨⟨s2.kind,s2.arr,s2.pend,s2.fail⟩,rfl,m2,by dsimp only; trivial,by dsimp only; trivial,by dsimp only; trivial⟩
      ·rw [if_neg hk1]
       have hle3:∀ y ∈ b.toList.take (nb' - 1),R O ky ix y (at_ a (k - 1)):=by
        have h':=hle2
        rw [show k' = nb' - 1 by trivial] at h'
        exact h'
       refine wpS_bind (wpS_elem (at_eq (by trivial)) ?_)
       have m2:=MH.pushA m1 sa (by trivial) hle3
       by_cases q3:(k - 1 == 0) = true
       ·rw [if_pos q3]
        exact wpS_pure ⟨⟨s2.kind,s2.arr,s2.pend,s2.fail⟩,.inl ⟨_,rfl,m2.done sa sb (.inl (by simpa using q3))⟩⟩
       rw [if_neg q3]
       have q3':¬ k - 1 = 0:=by simpa using q3
       by_cases q4:(decide (na' - k < 7) && decide (nb' - 1 - k' < 7)) = true
       ·rw [if_pos q4]
        exact wpS_pure ⟨⟨s2.kind,s2.arr,s2.pend,s2.fail⟩,.inr ⟨rfl,m2,by dsimp only; trivial,by dsimp only; trivial,by dsimp only; trivial⟩⟩
       ·rw [if_neg q4]
        exact wpS_pure ⟨⟨s2.kind,s2.arr,s2.pend,s2.fail⟩,rfl,m2,by dsimp only; trivial,by dsimp only; trivial,by dsimp only; trivial⟩
     ·rw [if_neg hk0]
      have hle0:∀ y ∈ a.toList.take na',R O ky ix y (at_ b (nb' - 1)):=by
       have h':=hle
       rw [show k = na' by trivial] at h'
       exact h'
      refine wpS_bind (wpS_elem (at_eq (by trivial)) ?_)
      have m1:=MH.pushB m sb (by trivial) hle0
      by_cases q1:(nb' - 1 == 1) = true
      ·rw [if_pos q1]
       exact wpS_pure ⟨⟨s2.kind,s2.arr,s2.pend,s2.fail⟩,.inl ⟨_,rfl,m1.first sa sb (fst (by simpa using q1))⟩⟩
      rw [if_neg q1]
      have q1':¬ nb' - 1 = 1:=by simpa using q1
      refine wpS_bind (wpS_elem (at_eq (by trivial)) ?_)
      refine wpS_bind (wpS_gal C (s2.kind.trans hk) (hSa _ (at_mem (by trivial))) hSb (fun i j hij hj => at_ij sb (by trivial) (by trivial)) (fun i hi => by simp only [if_true]; exact hix _ (at_mem (by trivial)) _ (at_mem (by trivial))) (by trivial) (by trivial) fun k' hkn' k1' k2' => ?_)
      dsimp only
      simp only [if_true,Nat.zero_add] at k1' k2'
      have hle2:∀ y ∈ b.toList.take k',R O ky ix y (at_ a (na' - 1)):=fun y hy => by
       obtain ⟨j,j1,rfl⟩:=mem_take' (by trivial) hy
       exact R.lt (k1' j j1)
      have mB:=m1.addB sb (k:=k') (o:=out.push (at_ b (nb' - 1)) ++ (b.extract k' (nb' - 1)).reverse) hkn' (fun x hx y hy => by
       obtain ⟨j,j1,j2,rfl⟩:=mem_at' (by trivial) hx
       exact R.trans (at_ge sa (i:=na' - 1) (by trivial) y (by rw [show na' - 1 + 1 = na' by trivial]; exact hy)) (k2' j j1 j2)) (by rw [Array.toList_append,Array.toList_reverse,ext2])
      by_cases hk1:nb' - 1 - k' > 0
      ·rw [if_pos hk1]
       by_cases q2:(k' == 1) = true
       ·rw [if_pos q2]
        exact wpS_pure ⟨⟨s2.kind,s2.arr,s2.pend,s2.fail⟩,.inl ⟨_,rfl,mB.first sa sb (fst (by simpa using q2))⟩⟩
       rw [if_neg q2]
       by_cases q5:(k' == 0) = true
       ·rw [if_pos q5]
        exact wpS_pure ⟨⟨s2.kind,s2.arr,s2.pend,s2.fail⟩,.inl ⟨_,rfl,mB.done sa sb (.inr (by simpa using q5))⟩⟩
       rw [if_neg q5]
       have q2':¬ k' = 1:=by simpa using q2
       have q5':¬ k' = 0:=by simpa using q5
       refine wpS_bind (wpS_elem (at_eq (by trivial)) ?_)
       have m2:=MH.pushA mB sa (by trivial) hle2
       by_cases q3:(na' - 1 == 0) = true
       ·rw [if_pos q3]
        exact wpS_pure ⟨⟨s2.kind,s2.arr,s2.pend,s2.fail⟩,.inl ⟨_,rfl,m2.done sa sb (.inl (by simpa using q3))⟩⟩
       rw [if_neg q3]
       have q3':¬ na' - 1 = 0:=by simpa using q3
       by_cases q4:(decide (na' - k < 7) && decide (nb' - 1 - k' < 7)) = true
       ·rw [if_pos q4]
        exact wpS_pure ⟨⟨s2.kind,s2.arr,s2.pend,s2.fail⟩,.inr ⟨rfl,m2,by dsimp only; trivial,by dsimp only; trivial,by dsimp only; trivial⟩⟩
       ·rw [if_neg q4]
        exact wpS_pure ⟨⟨s2.kind,s2.arr,s2.pend,s2.fail⟩,rfl,m2,by dsimp only; trivial,by dsimp only; trivial,by dsimp only; trivial⟩
      ·rw [if_neg hk1]
       have hle3:∀ y ∈ b.toList.take (nb' - 1),R O ky ix y (at_ a (na' - 1)):=by
        have h':=hle2
        rw [show k' = nb' - 1 by trivial] at h'
        exact h'
       refine wpS_bind (wpS_elem (at_eq (by trivial)) ?_)
       have m2:=MH.pushA m1 sa (by trivial) hle3
       by_cases q3:(na' - 1 == 0) = true
       ·rw [if_pos q3]
        exact wpS_pure ⟨⟨s2.kind,s2.arr,s2.pend,s2.fail⟩,.inl ⟨_,rfl,m2.done sa sb (.inl (by simpa using q3))⟩⟩
       rw [if_neg q3]
       have q3':¬ na' - 1 = 0:=by simpa using q3
       by_cases q4:(decide (na' - k < 7) && decide (nb' - 1 - k' < 7)) = true
       ·rw [if_pos q4]
        exact wpS_pure ⟨⟨s2.kind,s2.arr,s2.pend,s2.fail⟩,.inr ⟨rfl,m2,by dsimp only; trivial,by dsimp only; trivial,by dsimp only; trivial⟩⟩
       ·rw [if_neg q4]
        exact wpS_pure ⟨⟨s2.kind,s2.arr,s2.pend,s2.fail⟩,rfl,m2,by dsimp only; trivial,by dsimp only; trivial,by dsimp only; trivial⟩
end
end TT
set_option linter.all false
namespace TT
open PySem PyProof.Rows TS
structure Chg (lo:Nat) (st st':SortSt):Prop where
 kind:kindOf st' = kindOf st
 pend:pendingOf st' = pendingOf st
 fail:failedOf st' = failedOf st
 perm:(arrOf st').Perm (arrOf st)
 low:∀ i,i < lo -> (arrOf st')[i]? = (arrOf st)[i]?
theorem Chg.refl (lo:Nat) (st:SortSt):Chg lo st st:=⟨rfl,rfl,rfl,Array.Perm.refl _,fun _ _ => rfl⟩
theorem Chg.trans {lo:Nat} {a b c:SortSt} (h:Chg lo a b) (h':Chg lo b c):Chg lo a c:=⟨h'.kind.trans h.kind,h'.pend.trans h.pend,h'.fail.trans h.fail,h'.perm.trans h.perm,fun i hi => (h'.low i hi).trans (h.low i hi)⟩
theorem Chg.size {lo:Nat} {a b:SortSt} (h:Chg lo a b):(arrOf b).size = (arrOf a).size:=h.perm.size_eq
theorem Chg.all {lo:Nat} {a b:SortSt} {S:Keyed -> Prop} (h:Chg lo a b) (hS:∀ p ∈ (arrOf a).toList,S p):∀ p ∈ (arrOf b).toList,S p:=fun p hp => hS p ((Array.perm_iff_toList_perm.mp h.perm).mem_iff.mp hp)
theorem chg_mirror {lo i j:Nat} {st:SortSt} (h:lo ≤ i) (hj:j ≤ (arrOf st).size):Chg lo st (setArr st (mirror (arrOf st) i j ((j - i) / 2))):=⟨rfl,rfl,rfl,mirror_perm _ _ _ _,fun k hk => by
 show (mirror (arrOf st) i j ((j - i) / 2))[k]? = _
 rw [getElem?_mirror_all hj,if_neg (by trivial)]⟩
theorem chg_bubble {lo src d:Nat} {st:SortSt} (hs:src < (arrOf st).size) (hd:d ≤ src) (h:lo ≤ src - d):Chg lo st (setArr st (bubble (arrOf st) src d)):=⟨rfl,rfl,rfl,bubble_perm _ _ _,fun k hk => by
 show (bubble (arrOf st) src d)[k]? = _
 rw [getElem?_bubble hs d hd,if_neg (by trivial),if_neg (by trivial)]⟩
theorem at_congr {a b:Array Keyed} {i j:Nat} (h:a[i]? = b[j]?):at_ a i = at_ b j:=by unfold at_; rw [h]
theorem at_mirror {xs:Array Keyed} {i j:Nat} (hj:j ≤ xs.size) (k:Nat):at_ (mirror xs i j ((j - i) / 2)) k = if i ≤ k∧k < j then at_ xs (i + j - 1 - k) else at_ xs k:=by
 have e:=getElem?_mirror_all (i:=i) hj k
 split at e
 ·rename_i c; rw [if_pos c]; exact at_congr e
 ·rename_i c; rw [if_neg c]; exact at_congr e
theorem at_bubble {xs:Array Keyed} {src d:Nat} (hs:src < xs.size) (hd:d ≤ src) (k:Nat):at_ (bubble xs src d) k = if k = src - d then at_ xs src else if src - d < k∧k ≤ src then at_ xs (k - 1) else at_ xs k:=by
 have e:=getElem?_bubble hs d hd k
 split at e
 ·rename_i c; rw [if_pos c]; exact at_congr e
 ·rename_i c
  rw [if_neg c]
  split at e
  ·rename_i c2; rw [if_pos c2]; exact at_congr e
  ·rename_i c2; rw [if_neg c2]; exact at_congr e
section
variable {prog:Program} {w:World} {A:Around} {E:Value -> Shared -> Prop} {s:Shared}
variable {kd:SortKind} {O:KeyOrd} {ky:Keyed -> O.α} {ix:Keyed -> Nat} {S:Keyed -> Prop}
noncomputable abbrev kf (ky:Keyed -> O.α) (st:SortSt) (lo i:Nat):O.α:=ky (at_ (arrOf st) (lo + i))
noncomputable def Up (O:KeyOrd) (ky:Keyed -> O.α) (ix:Keyed -> Nat) (st:SortSt) (lo n:Nat):Prop:=∀ i j,i ≤ j -> j < n -> R O ky ix (at_ (arrOf st) (lo + i)) (at_ (arrOf st) (lo + j))
noncomputable def Dn (O:KeyOrd) (ky:Keyed -> O.α) (ix:Keyed -> Nat) (st:SortSt) (lo n:Nat):Prop:=∀ i j,i ≤ j -> j < n -> R O ky ix (at_ (arrOf st) (lo + j)) (at_ (arrOf st) (lo + i))
structure Lap (ix:Keyed -> Nat) (st:SortSt) (lo n m:Nat):Prop where
 cross:∀ i j,i < n -> n ≤ j -> j < m -> ix (at_ (arrOf st) (lo + i)) ≤ ix (at_ (arrOf st) (lo + j))
 rise:∀ i j,n ≤ i -> i ≤ j -> j < m -> ix (at_ (arrOf st) (lo + i)) ≤ ix (at_ (arrOf st) (lo + j))
theorem Lap.on {st:SortSt} {lo n m k:Nat} (h:Lap ix st lo n m) (hk:n ≤ k):Lap ix st lo k m:=⟨fun i j h1 h2 h3 => by
 by_cases c:i < n
 ·exact h.cross i j c (by trivial) h3
 ·exact h.rise i j (by trivial) (by trivial) h3,fun i j h1 h2 h3 => h.rise i j (by trivial) h2 h3⟩
theorem Lap.any {st:SortSt} {lo n m i j:Nat} (h:Lap ix st lo n m) (h1:i ≤ j) (h2:n ≤ j) (h3:j < m):ix (at_ (arrOf st) (lo + i)) ≤ ix (at_ (arrOf st) (lo + j)):=by
 by_cases c:i < n
 ·exact h.cross i j c h2 h3
 ·exact h.rise i j (by trivial) h1 h3
theorem Lap.of {st st':SortSt} {lo n m:Nat} (h:Lap ix st lo n m) (h1:∀ i,i < n -> ∃ k,k < n∧at_ (arrOf st') (lo + i) = at_ (arrOf st) (lo + k)) (h2:∀ i,n ≤ i -> at_ (arrOf st') (lo + i) = at_ (arrOf st) (lo + i)):Lap ix st' lo n m:=⟨fun i j a b c => by
 obtain ⟨k,k1,e⟩:=h1 i a
 rw [e,h2 j b]
 exact h.cross k j k1 b c,fun i j a b c => by
 rw [h2 i a,h2 j (by trivial)]
 exact h.rise i j a b c⟩
theorem Lap.mirror {st:SortSt} {lo n m i j:Nat} (h:Lap ix st lo n m) (hj:lo + j ≤ (arrOf st).size) (hn:j ≤ n):Lap ix (setArr st (mirror (arrOf st) (lo + i) (lo + j) ((lo + j - (lo + i)) / 2))) lo n m:=by
 refine h.of (fun k hk => ?_) (fun k hk => ?_)
 ·show ∃ k',k' < n∧at_ (PyProof.Rows.mirror (arrOf st) (lo + i) (lo + j) ((lo + j - (lo + i)) / 2)) (lo + k) = _
  rw [at_mirror hj]
  by_cases c:lo + i ≤ lo + k∧lo + k < lo + j
  ·rw [if_pos c]
   exact ⟨i + j - 1 - k,by trivial,by congr 1; trivial⟩
  ·rw [if_neg c]; exact ⟨k,hk,rfl⟩
 ·show at_ (PyProof.Rows.mirror (arrOf st) (lo + i) (lo + j) ((lo + j - (lo + i)) / 2)) (lo + k) = _
  rw [at_mirror hj,if_neg (by trivial)]
theorem wpS_ltAt' (C:Cmp prog w A s kd O ky S) {st:SortSt} {i j:Nat} {Q:Option Bool -> SortSt -> Prop} (hk:kindOf st = kd) (hS:∀ p ∈ (arrOf st).toList,S p) (hi:i < (arrOf st).size) (hj:j < (arrOf st).size)
  (h:Q (some (O.blt (ky (at_ (arrOf st) i)) (ky (at_ (arrOf st) j)))) st):wpS (model prog w) A E s (ltAt' i j) Q st:=by
 rw [ltAt'_eq]
 refine wpS_bind (wpS_get ?_)
 exact wpS_bind (wpS_elem (at_eq hi) (wpS_bind (wpS_elem (at_eq hj) (wpS_lt C hk (hS _ (at_mem hi)) (hS _ (at_mem hj)) h))))
theorem asc_loop {st:SortSt} {lo a nrem:Nat} {Q:Option (Option Nat) × Nat -> SortSt -> Prop} {f:Nat -> Option (Option Nat) × Nat -> StateT SortSt Sem (ForInStep (Option (Option Nat) × Nat))} (h1:1 ≤ a) (h2:a ≤ nrem) (hu:Up O ky ix st lo a) (hl:Lap ix st lo a nrem)
  (hf:∀ (x n:Nat),1 ≤ n -> n < nrem -> ∀ {R:ForInStep (Option (Option Nat) × Nat) -> SortSt -> Prop},(O.klt (kf ky st lo n) (kf ky st lo (n - 1)) -> R (.done (none,n)) st) -> (O.kle (kf ky st lo (n - 1)) (kf ky st lo n) -> R (.yield (none,n + 1)) st) -> wpS (model prog w) A E s (f x (none,n)) R st)
  (h:∀ n,a ≤ n -> n ≤ nrem -> Up O ky ix st lo n -> (n = nrem ∨ O.klt (kf ky st lo n) (kf ky st lo (n - 1))) -> Q (none,n) st):wpS (model prog w) A E s (forIn [a:nrem] (none,a) f) Q st:=by
 refine wpS_forRange (I:=fun x c st' => st' = st∧c = (none,x)∧Up O ky ix st lo x) ?step ?fin ⟨rfl,rfl,hu⟩
 case fin =>
  rintro c st' ⟨rfl,rfl,hs'⟩
  rw [show max a nrem = nrem by trivial] at hs' ⊢
  exact h nrem h2 (Nat.le_refl _) hs' (.inl rfl)
 case step =>
  rintro x c st' hax hxn ⟨rfl,rfl,hs'⟩
  refine hf x x (by trivial) hxn (fun q => h x hax (by trivial) hs' (.inr q)) (fun q => ⟨rfl,rfl,fun i j hij hj => ?_⟩)
  by_cases e:j = x
  ·by_cases e2:i = x
   ·rw [e,e2]; exact R.refl _
   ·rw [e]; exact R.trans (hs' i (x - 1) (by trivial) (by trivial)) (R.le q (hl.any (by trivial) hax hxn))
  ·exact hs' i j hij (by trivial)
theorem kf_mirror {st:SortSt} {lo i j k:Nat} (hj:lo + j ≤ (arrOf st).size):kf ky (setArr st (mirror (arrOf st) (lo + i) (lo + j) ((lo + j - (lo + i)) / 2))) lo k = if i ≤ k∧k < j then kf ky st lo (i + j - 1 - k) else kf ky st lo k:=by
 show ky (at_ (mirror (arrOf st) (lo + i) (lo + j) ((lo + j - (lo + i)) / 2)) (lo + k)) = _
 rw [at_mirror hj]
 by_cases c:i ≤ k∧k < j
 ·rw [if_pos c,if_pos (by trivial)]
  show ky (at_ _ _) = ky (at_ _ _)
  congr 2; trivial
 ·rw [if_neg c,if_neg (by trivial)]
theorem kf_mirror_eq {st:SortSt} {lo i j:Nat} (hj:lo + j ≤ (arrOf st).size) (he:∀ k,i ≤ k -> k < j -> kf ky st lo k = kf ky st lo (j - 1)) (k:Nat):kf ky (setArr st (mirror (arrOf st) (lo + i) (lo + j) ((lo + j - (lo + i)) / 2))) lo k = kf ky st lo k:=by
 rw [kf_mirror hj]
 split
 ·rw [he _ (by trivial) (by trivial),he k (by trivial) (by trivial)]
 ·rfl
theorem wpS_rev {st:SortSt} {i j:Nat} {Q:Unit -> SortSt -> Prop} (h:Q () (setArr st (mirror (arrOf st) i j ((j - i) / 2)))):wpS (model prog w) A E s (reverseSlice' i j) Q st:=by
 rw [reverseSlice'_eq]
 exact wpS_modify h
structure Des (O:KeyOrd) (ky:Keyed -> O.α) (ix:Keyed -> Nat) (st:SortSt) (lo x neq m:Nat):Prop where
 le:neq + 1 ≤ x
 dn:Dn O ky ix st lo (x - (neq + 1))
 lt:∀ i j,i < x - (neq + 1) -> x - (neq + 1) ≤ j -> j < x -> O.klt (kf ky st lo j) (kf ky st lo i)
 eq:∀ i,x - (neq + 1) ≤ i -> i < x -> kf ky st lo i = kf ky st lo (x - 1)
 lap:Lap ix st lo (x - (neq + 1)) m
theorem Des.one {st:SortSt} {lo x m:Nat} (hd:Dn O ky ix st lo x) (hx:1 ≤ x) (hlt:O.klt (kf ky st lo x) (kf ky st lo (x - 1))) (hl:Lap ix st lo x m):Des O ky ix st lo (x + 1) 0 m:=by
 refine ⟨by trivial,by rw [show x + 1 - (0 + 1) = x by trivial]; exact hd,fun i j h1 h2 h3 => ?_,fun i h1 h2 => by congr 1; trivial,by rw [show x + 1 - (0 + 1) = x by trivial]; exact hl⟩
 obtain rfl:j = x:=by trivial
 exact KeyOrd.klt_of_klt_of_kle hlt (hd i (j - 1) (by trivial) (by trivial)).1
theorem Des.done {st:SortSt} {lo x m:Nat} (h:Des O ky ix st lo x 0 m):Dn O ky ix st lo x∧Lap ix st lo x m:=by
 have h1:=h.le
 refine ⟨fun i j hij hj => ?_,h.lap.on (by trivial)⟩
 by_cases c:j < x - (0 + 1)
 ·exact h.dn i j hij c
 ·by_cases c2:i = j
  ·rw [c2]; exact R.refl _
  ·exact R.lt (h.lt i j (by trivial) (by trivial) hj)
theorem Des.turn {st:SortSt} {lo x neq m:Nat} (h:Des O ky ix st lo x neq m) (hx:lo + x ≤ (arrOf st).size) (hm:x ≤ m) :
  Dn O ky ix (setArr st (mirror (arrOf st) (lo + (x - (neq + 1))) (lo + x) ((lo + x - (lo + (x - (neq + 1)))) / 2))) lo x∧Lap ix (setArr st (mirror (arrOf st) (lo + (x - (neq + 1))) (lo + x) ((lo + x - (lo + (x - (neq + 1)))) / 2))) lo x m:=by
 have h1:=h.le
 refine ⟨fun i j hij hj => ?_,(h.lap.on (by trivial)).mirror hx (Nat.le_refl _)⟩
 show R O ky ix (at_ (mirror (arrOf st) (lo + (x - (neq + 1))) (lo + x) ((lo + x - (lo + (x - (neq + 1)))) / 2)) (lo + j)) (at_ (mirror (arrOf st) (lo + (x - (neq + 1))) (lo + x) ((lo + x - (lo + (x - (neq + 1)))) / 2)) (lo + i))
 rw [at_mirror hx,at_mirror hx]
 by_cases cj:j < x - (neq + 1)
 ·rw [if_neg (by trivial),if_neg (by trivial)]
  exact h.dn i j hij cj
 ·rw [if_pos (by trivial)]
  rw [show lo + (x - (neq + 1)) + (lo + x) - 1 - (lo + j) = lo + (x - (neq + 1) + x - 1 - j) by trivial]
  by_cases ci:i < x - (neq + 1)
  ·rw [if_neg (by trivial)]
   exact R.lt (h.lt i (x - (neq + 1) + x - 1 - j) ci (by trivial) (by trivial))
  ·rw [if_pos (by trivial)]
   rw [show lo + (x - (neq + 1)) + (lo + x) - 1 - (lo + i) = lo + (x - (neq + 1) + x - 1 - i) by trivial]
   have e1:=h.eq (x - (neq + 1) + x - 1 - j) (by trivial) (by trivial)
   have e2:=h.eq (x - (neq + 1) + x - 1 - i) (by trivial) (by trivial)
   refine R.le ?_ (h.lap.rise _ _ (by trivial) (by trivial) (by trivial))
   rw [show ky (at_ (arrOf st) (lo + (x - (neq + 1) + x - 1 - j))) = ky (at_ (arrOf st) (lo + (x - (neq + 1) + x - 1 - i))) from e1.trans e2.symm]
   exact KeyOrd.kle_refl _
theorem Des.more {st:SortSt} {lo x neq m:Nat} (h:Des O ky ix st lo x neq m) (he:kf ky st lo x = kf ky st lo (x - 1)):Des O ky ix st lo (x + 1) (neq + 1) m:=by
 have h1:=h.le
 have eb:x + 1 - (neq + 1 + 1) = x - (neq + 1):=by trivial
 refine ⟨by trivial,by rw [eb]; exact h.dn,fun i j a b c => ?_,fun i a b => ?_,by rw [eb]; exact h.lap⟩
 ·rw [eb] at a b
  by_cases e:j = x
  ·rw [e,he]; exact h.lt i (x - 1) a (by trivial) (by trivial)
  ·exact h.lt i j a b (by trivial)
 ·rw [eb] at a
  rw [show x + 1 - 1 = x by trivial]
  by_cases e:i = x
  ·rw [e]
  ·rw [he]; exact h.eq i a (by trivial)
theorem Dn.up {st:SortSt} {lo m:Nat} (h:Dn O ky ix st lo m) (hs:lo + m ≤ (arrOf st).size):Up O ky ix (setArr st (mirror (arrOf st) (lo + 0) (lo + m) ((lo + m - (lo + 0)) / 2))) lo m:=fun i j hij hj => by
 show R O ky ix (at_ (mirror (arrOf st) (lo + 0) (lo + m) ((lo + m - (lo + 0)) / 2)) (lo + i)) (at_ (mirror (arrOf st) (lo + 0) (lo + m) ((lo + m - (lo + 0)) / 2)) (lo + j))
 rw [at_mirror hs,at_mirror hs,if_pos (by trivial),if_pos (by trivial),show lo + 0 + (lo + m) - 1 - (lo + i) = lo + (m - 1 - i) by trivial,show lo + 0 + (lo + m) - 1 - (lo + j) = lo + (m - 1 - j) by trivial]
 exact h _ _ (by trivial) (by trivial)
theorem wpS_run (C:Cmp prog w A s kd O ky S) {st0:SortSt} {lo nrem:Nat} {Q:Option Nat -> SortSt -> Prop} (hk0:kindOf st0 = kd) (hS0:∀ p ∈ (arrOf st0).toList,S p) (hn:lo + nrem ≤ (arrOf st0).size) (h1:1 ≤ nrem) (lap0:Lap ix st0 lo 0 nrem)
  (h:∀ n st',Chg lo st0 st' -> 1 ≤ n -> n ≤ nrem -> Up O ky ix st' lo n -> Lap ix st' lo n nrem -> Q (some n) st'):wpS (model prog w) A E s (countRun' lo nrem) Q st0:=by
 have ask:∀ {st:SortSt},Chg lo st0 st -> ∀ (i j:Nat) {Q:Option Bool -> SortSt -> Prop},i < lo + nrem -> j < lo + nrem -> Q (some (O.blt (ky (at_ (arrOf st) i)) (ky (at_ (arrOf st) j)))) st -> wpS (model prog w) A E s (ltAt' i j) Q st:=fun {st} ch i j Q hi hj hq =>
  wpS_ltAt' C (ch.kind.trans hk0) (ch.all hS0) (by rw [ch.size]; trivial) (by rw [ch.size]; trivial) hq
 unfold countRun'
 refine wpS_bind (asc_loop (O:=O) (ky:=ky) (ix:=ix) (lo:=lo) (Nat.le_refl 1) h1 (fun i j hij hj => by rw [show i = j by trivial]; exact R.refl _) (lap0.on (by trivial)) ?hf ?hq)
 case hf =>
  intro x n n1 n2 R r1 r2
  refine wpS_bind (ask (Chg.refl _ _) _ _ (by trivial) (by trivial) ?_)
  dsimp only
  rw [show lo + n - 1 = lo + (n - 1) by trivial]
  cases e:O.blt (ky (at_ (arrOf st0) (lo + n))) (ky (at_ (arrOf st0) (lo + (n - 1)))) with
  | true => exact wpS_pure (r1 e)
  | false => exact wpS_pure (r2 e)
 case hq =>
 intro n n1 n2 hup hor
 dsimp only
 by_cases e1:(n == nrem) = true
 ·rw [if_pos e1]
  exact wpS_pure (h n _ (Chg.refl _ _) n1 n2 hup (lap0.on (by trivial)))
 rw [if_neg e1]
 have e1':¬ n = nrem:=by simpa using e1
 have hlt:=hor.resolve_left e1'
 by_cases hgt:n > 1
 ·rw [if_pos hgt]
  refine wpS_bind (ask (Chg.refl _ _) _ _ (by trivial) (by trivial) ?_)
  dsimp only
  rw [show lo + n - 1 = lo + (n - 1) by trivial]
  cases e:O.blt (ky (at_ (arrOf st0) lo)) (ky (at_ (arrOf st0) (lo + (n - 1)))) with
  | true =>
   rw [if_pos rfl]
   exact wpS_pure (h n _ (Chg.refl _ _) n1 n2 hup (lap0.on (by trivial)))
  | false =>
   rw [if_neg Bool.false_ne_true]
   have hsz0:lo + n ≤ (arrOf st0).size:=by trivial
   have e':O.kle (kf ky st0 lo (n - 1)) (kf ky st0 lo 0):=e
   have hall:∀ k,0 ≤ k -> k < n -> kf ky st0 lo k = kf ky st0 lo (n - 1):=fun k _ hk => by
    have a1:=(hup 0 k (by trivial) hk).1
    have a2:=(hup k (n - 1) (by trivial) (by trivial)).1
    exact KeyOrd.kle_antisymm a2 (KeyOrd.kle_trans e' a1)
   refine wpS_bind (wpS_rev ?_)
   have ch1:=chg_mirror (lo:=lo) (i:=lo + 0) (j:=lo + n) (st:=st0) (by trivial) hsz0
   have dd:Des O ky ix st0 lo n (n - 1) nrem:=by
    have en:n - (n - 1 + 1) = 0:=by trivial
    refine ⟨by trivial,by rw [en]; exact fun i j a b => by trivial,by rw [en]; exact fun i j a => by trivial,fun i a b => hall i (by trivial) b,by rw [en]; exact lap0⟩
   have d1:=dd.turn hsz0 n2
   rw [show n - (n - 1 + 1) = 0 by trivial] at d1
   have hlt1:O.klt (kf ky (setArr st0 (mirror (arrOf st0) (lo + 0) (lo + n) ((lo + n - (lo + 0)) / 2))) lo n) (kf ky (setArr st0 (mirror (arrOf st0) (lo + 0) (lo + n) ((lo + n - (lo + 0)) / 2))) lo (n - 1)):=by
    rw [kf_mirror_eq hsz0 hall,kf_mirror_eq hsz0 hall]; exact hlt
   rw [show mirror (arrOf st0) lo (lo + n) ((lo + n - lo) / 2) = mirror (arrOf st0) (lo + 0) (lo + n) ((lo + n - (lo + 0)) / 2) from rfl]
   generalize setArr st0 (mirror (arrOf st0) (lo + 0) (lo + n) ((lo + n - (lo + 0)) / 2)) = st1 at ch1 d1 hlt1 ⊢
   have des1:=Des.one d1.1 n1 hlt1 d1.2
   refine wpS_bind (wpS_lift (wpAny_rule ⟨rfl,?_⟩))
   refine wpS_bind (wpS_mono (wpS_forRange
    (I:=fun x c st' => ∃ neq,c = (none,x,neq)∧Chg lo st0 st'∧Des O ky ix st' lo x neq nrem)
    (Q:=fun c st' => ∃ m neq,c = (none,m,neq)∧n + 1 ≤ m∧m ≤ nrem∧Chg lo st0 st'∧Des O ky ix st' lo m neq nrem) ?step ?fin ⟨0,rfl,ch1,des1⟩) ?post)
   case fin =>
    rintro c st' ⟨neq,rfl,ch,d⟩
    rw [show max (n + 1) nrem = nrem by trivial] at d ⊢
    exact ⟨nrem,neq,rfl,by trivial,Nat.le_refl _,ch,d⟩
   case step =>
    rintro x c st' hx1 hx2 ⟨neq,rfl,ch,d⟩
    dsimp only
    have q1:=d.le
    have hsz:lo + x ≤ (arrOf st').size:=by rw [ch.size]; trivial
    refine wpS_bind (ask ch _ _ (by trivial) (by trivial) ?_)
    dsimp only
    rw [show lo + x - 1 = lo + (x - 1) by trivial]
    cases e:O.blt (ky (at_ (arrOf st') (lo + x))) (ky (at_ (arrOf st') (lo + (x - 1)))) with
    | true =>
     rw [if_pos rfl]
     by_cases hne:neq > 0
     ·rw [if_pos hne]
      rw [show lo + x - (neq + 1) = lo + (x - (neq + 1)) by trivial]
      have t:=d.turn hsz (by trivial)
      have lt2:O.klt (kf ky (setArr st' (mirror (arrOf st') (lo + (x - (neq + 1))) (lo + x) ((lo + x - (lo + (x - (neq + 1)))) / 2))) lo x) (kf ky (setArr st' (mirror (arrOf st') (lo + (x - (neq + 1))) (lo + x) ((lo + x - (lo + (x - (neq + 1)))) / 2))) lo (x - 1)):=by
       rw [kf_mirror_eq hsz d.eq,kf_mirror_eq hsz d.eq]; exact e
      refine wpS_bind (wpS_rev (wpS_pure ⟨0,rfl,ch.trans (chg_mirror (by trivial) hsz),Des.one t.1 (by trivial) lt2 t.2⟩))
     ·rw [if_neg hne]
      obtain rfl:neq = 0:=by trivial
      exact wpS_pure ⟨0,rfl,ch,Des.one d.done.1 (by trivial) e d.done.2⟩
    | false =>
     rw [if_neg Bool.false_ne_true]
     refine wpS_bind (ask ch _ _ (by trivial) (by trivial) ?_)
     dsimp only
     cases e2:O.blt (ky (at_ (arrOf st') (lo + (x - 1)))) (ky (at_ (arrOf st') (lo + x))) with
     | true =>
      rw [if_pos rfl]
      exact wpS_pure ⟨x,neq,rfl,by trivial,by trivial,ch,d⟩
     | false =>
      rw [if_neg Bool.false_ne_true]
      have heq:kf ky st' lo x = kf ky st' lo (x - 1):=KeyOrd.kle_antisymm e2 e
      exact wpS_pure ⟨neq + 1,rfl,ch,d.more heq⟩
   case post =>
    rintro c st' ⟨m,neq,rfl,m1,m2,ch,d⟩
    dsimp only
    have q1:=d.le
    have hsz:lo + m ≤ (arrOf st').size:=by rw [ch.size]; trivial
    by_cases hne:neq > 0
    ·rw [if_pos hne]
     rw [show lo + m - (neq + 1) = lo + (m - (neq + 1)) by trivial]
     refine wpS_bind (wpS_rev ?_)
     have ch2:=ch.trans (chg_mirror (lo:=lo) (i:=lo + (m - (neq + 1))) (j:=lo + m) (st:=st') (by trivial) hsz)
     have d2:=d.turn hsz m2
     generalize setArr st' (mirror (arrOf st') (lo + (m - (neq + 1))) (lo + m) ((lo + m - (lo + (m - (neq + 1)))) / 2)) = st4 at ch2 d2 ⊢
     refine wpS_bind (wpS_rev ?_)
     have hsz3:lo + m ≤ (arrOf st4).size:=by rw [(ch2).size]; trivial
     have ch3:=(ch2).trans (chg_mirror (lo:=lo) (i:=lo + 0) (j:=lo + m) (st:=st4) (by trivial) hsz3)
     have up3:=d2.1.up hsz3
     have lap3:=d2.2.mirror (i:=0) hsz3 (Nat.le_refl _)
     refine wpS_bind (asc_loop (O:=O) (ky:=ky) (ix:=ix) (lo:=lo) (by trivial) (by trivial) up3 lap3 ?_ (fun n3 a1 a2 a3 _ => wpS_pure (h n3 _ ch3 (by trivial) a2 a3 (lap3.on a1))))
     intro x n' b1 b2 R r1 r2
     refine wpS_bind (ask ch3 _ _ (by trivial) (by trivial) ?_)
     dsimp only
     rw [show lo + n' - 1 = lo + (n' - 1) by trivial]
     cases e:O.blt (ky (at_ (mirror (arrOf st4) (lo + 0) (lo + m) ((lo + m - (lo + 0)) / 2)) (lo + n'))) (ky (at_ (mirror (arrOf st4) (lo + 0) (lo + m) ((lo + m - (lo + 0)) / 2)) (lo + (n' - 1)))) with
     | true => exact wpS_pure (r1 e)
     | false => exact wpS_pure (r2 e)
    ·rw [if_neg hne]
     obtain rfl:neq = 0:=by trivial
     have ch2:=ch
     have d2:=d.done
     generalize st' = st4 at ch2 d2 ⊢
     refine wpS_bind (wpS_rev ?_)
     have hsz3:lo + m ≤ (arrOf st4).size:=by rw [(ch2).size]; trivial
     have ch3:=(ch2).trans (chg_mirror (lo:=lo) (i:=lo + 0) (j:=lo + m) (st:=st4) (by trivial) hsz3)
     have up3:=d2.1.up hsz3
     have lap3:=d2.2.mirror (i:=0) hsz3 (Nat.le_refl _)
     refine wpS_bind (asc_loop (O:=O) (ky:=ky) (ix:=ix) (lo:=lo) (by trivial) (by trivial) up3 lap3 ?_ (fun n3 a1 a2 a3 _ => wpS_pure (h n3 _ ch3 (by trivial) a2 a3 (lap3.on a1))))
     intro x n' b1 b2 R r1 r2
     refine wpS_bind (ask ch3 _ _ (by trivial) (by trivial) ?_)
     dsimp only
     rw [show lo + n' - 1 = lo + (n' - 1) by trivial]
     cases e:O.blt (ky (at_ (mirror (arrOf st4) (lo + 0) (lo + m) ((lo + m - (lo + 0)) / 2)) (lo + n'))) (ky (at_ (mirror (arrOf st4) (lo + 0) (lo + m) ((lo + m - (lo + 0)) / 2)) (lo + (n' - 1)))) with
     | true => exact wpS_pure (r1 e)
     | false => exact wpS_pure (r2 e)
 ·rw [if_neg hgt]
  have ch1:=Chg.refl lo st0
  have des1:Des O ky ix st0 lo (n + 1) 0 nrem:=Des.one (fun i j a b => by rw [show i = j by trivial]; exact R.refl _) n1 hlt (lap0.on (by trivial))
  refine wpS_bind (wpS_lift (wpAny_rule ⟨rfl,?_⟩))
  refine wpS_bind (wpS_mono (wpS_forRange
   (I:=fun x c st' => ∃ neq,c = (none,x,neq)∧Chg lo st0 st'∧Des O ky ix st' lo x neq nrem)
   (Q:=fun c st' => ∃ m neq,c = (none,m,neq)∧n + 1 ≤ m∧m ≤ nrem∧Chg lo st0 st'∧Des O ky ix st' lo m neq nrem) ?step ?fin ⟨0,rfl,ch1,des1⟩) ?post)
  case fin =>
   rintro c st' ⟨neq,rfl,ch,d⟩
   rw [show max (n + 1) nrem = nrem by trivial] at d ⊢
   exact ⟨nrem,neq,rfl,by trivial,Nat.le_refl _,ch,d⟩
  case step =>
   rintro x c st' hx1 hx2 ⟨neq,rfl,ch,d⟩
   dsimp only
   have q1:=d.le
   have hsz:lo + x ≤ (arrOf st').size:=by rw [ch.size]; trivial
   refine wpS_bind (ask ch _ _ (by trivial) (by trivial) ?_)
   dsimp only
   rw [show lo + x - 1 = lo + (x - 1) by trivial]
   cases e:O.blt (ky (at_ (arrOf st') (lo + x))) (ky (at_ (arrOf st') (lo + (x - 1)))) with
   | true =>
    rw [if_pos rfl]
    by_cases hne:neq > 0
    ·rw [if_pos hne]
     rw [show lo + x - (neq + 1) = lo + (x - (neq + 1)) by trivial]
     have t:=d.turn hsz (by trivial)
     have lt2:O.klt (kf ky (setArr st' (mirror (arrOf st') (lo + (x - (neq + 1))) (lo + x) ((lo + x - (lo + (x - (neq + 1)))) / 2))) lo x) (kf ky (setArr st' (mirror (arrOf st') (lo + (x - (neq + 1))) (lo + x) ((lo + x - (lo + (x - (neq + 1)))) / 2))) lo (x - 1)):=by
      rw [kf_mirror_eq hsz d.eq,kf_mirror_eq hsz d.eq]; exact e
     refine wpS_bind (wpS_rev (wpS_pure ⟨0,rfl,ch.trans (chg_mirror (by trivial) hsz),Des.one t.1 (by trivial) lt2 t.2⟩))
    ·rw [if_neg hne]
     obtain rfl:neq = 0:=by trivial
     exact wpS_pure ⟨0,rfl,ch,Des.one d.done.1 (by trivial) e d.done.2⟩
   | false =>
    rw [if_neg Bool.false_ne_true]
    refine wpS_bind (ask ch _ _ (by trivial) (by trivial) ?_)
    dsimp only
    cases e2:O.blt (ky (at_ (arrOf st') (lo + (x - 1)))) (ky (at_ (arrOf st') (lo + x))) with
    | true =>
     rw [if_pos rfl]
     exact wpS_pure ⟨x,neq,rfl,by trivial,by trivial,ch,d⟩
    | false =>
     rw [if_neg Bool.false_ne_true]
     have heq:kf ky st' lo x = kf ky st' lo (x - 1):=KeyOrd.kle_antisymm e2 e
     exact wpS_pure ⟨neq + 1,rfl,ch,d.more heq⟩
  case post =>
   rintro c st' ⟨m,neq,rfl,m1,m2,ch,d⟩
   dsimp only
   have q1:=d.le
   have hsz:lo + m ≤ (arrOf st').size:=by rw [ch.size]; trivial
   by_cases hne:neq > 0
   ·rw [if_pos hne]
    rw [show lo + m - (neq + 1) = lo + (m - (neq + 1)) by trivial]
    refine wpS_bind (wpS_rev ?_)
    have ch2:=ch.trans (chg_mirror (lo:=lo) (i:=lo + (m - (neq + 1))) (j:=lo + m) (st:=st') (by trivial) hsz)
    have d2:=d.turn hsz m2
    generalize setArr st' (mirror (arrOf st') (lo + (m - (neq + 1))) (lo + m) ((lo + m - (lo + (m - (neq + 1)))) / 2)) = st4 at ch2 d2 ⊢
    refine wpS_bind (wpS_rev ?_)
    have hsz3:lo + m ≤ (arrOf st4).size:=by rw [(ch2).size]; trivial
    have ch3:=(ch2).trans (chg_mirror (lo:=lo) (i:=lo + 0) (j:=lo + m) (st:=st4) (by trivial) hsz3)
    have up3:=d2.1.up hsz3
    have lap3:=d2.2.mirror (i:=0) hsz3 (Nat.le_refl _)
    refine wpS_bind (asc_loop (O:=O) (ky:=ky) (ix:=ix) (lo:=lo) (by trivial) (by trivial) up3 lap3 ?_ (fun n3 a1 a2 a3 _ => wpS_pure (h n3 _ ch3 (by trivial) a2 a3 (lap3.on a1))))
    intro x n' b1 b2 R r1 r2
    refine wpS_bind (ask ch3 _ _ (by trivial) (by trivial) ?_)
    dsimp only
    rw [show lo + n' - 1 = lo + (n' - 1) by trivial]
    cases e:O.blt (ky (at_ (mirror (arrOf st4) (lo + 0) (lo + m) ((lo + m - (lo + 0)) / 2)) (lo + n'))) (ky (at_ (mirror (arrOf st4) (lo + 0) (lo + m) ((lo + m - (lo + 0)) / 2)) (lo + (n' - 1)))) with
    | true => exact wpS_pure (r1 e)
    | false => exact wpS_pure (r2 e)
   ·rw [if_neg hne]
    obtain rfl:neq = 0:=by trivial
    have ch2:=ch
    have d2:=d.done
    generalize st' = st4 at ch2 d2 ⊢
    refine wpS_bind (wpS_rev ?_)
    have hsz3:lo + m ≤ (arrOf st4).size:=by rw [(ch2).size]; trivial
    have ch3:=(ch2).trans (chg_mirror (lo:=lo) (i:=lo + 0) (j:=lo + m) (st:=st4) (by trivial) hsz3)
    have up3:=d2.1.up hsz3
    have lap3:=d2.2.mirror (i:=0) hsz3 (Nat.le_refl _)
    refine wpS_bind (asc_loop (O:=O) (ky:=ky) (ix:=ix) (lo:=lo) (by trivial) (by trivial) up3 lap3 ?_ (fun n3 a1 a2 a3 _ => wpS_pure (h n3 _ ch3 (by trivial) a2 a3 (lap3.on a1))))
    intro x n' b1 b2 R r1 r2
    refine wpS_bind (ask ch3 _ _ (by trivial) (by trivial) ?_)
    dsimp only
    rw [show lo + n' - 1 = lo + (n' - 1) by trivial]
    cases e:O.blt (ky (at_ (mirror (arrOf st4) (lo + 0) (lo + m) ((lo + m - (lo + 0)) / 2)) (lo + n'))) (ky (at_ (mirror (arrOf st4) (lo + 0) (lo + m) ((lo + m - (lo + 0)) / 2)) (lo + (n' - 1)))) with
    | true => exact wpS_pure (r1 e)
    | false => exact wpS_pure (r2 e)
theorem wpS_bin (C:Cmp prog w A s kd O ky S) {st0:SortSt} {lo n ok:Nat} {Q:Bool -> SortSt -> Prop} (hk0:kindOf st0 = kd) (hS0:∀ p ∈ (arrOf st0).toList,S p) (hn:lo + n ≤ (arrOf st0).size) (hok:ok ≤ n) (hu:Up O ky ix st0 lo ok) {nrem:Nat} (hnr:n ≤ nrem) (lap0:Lap ix st0 lo ok nrem)
  (h:∀ st',Chg lo st0 st' -> Up O ky ix st' lo n -> Lap ix st' lo n nrem -> Q true st'):wpS (model prog w) A E s (binarySort' lo n ok) Q st0:=by
 unfold binarySort'
 refine wpS_bind (wpS_mono (wpS_forRange (I:=fun k c st' => c = (none,())∧Chg lo st0 st'∧Up O ky ix st' lo (min k n)∧Lap ix st' lo (min k n) nrem) (Q:=fun c st' => c = (none,())∧Chg lo st0 st'∧Up O ky ix st' lo n∧Lap ix st' lo n nrem) ?step ?fin ?init) ?post)
 case post =>
  rintro c st' ⟨rfl,ch,u,lp⟩
  exact wpS_pure (h st' ch u lp)
 case init =>
  refine ⟨rfl,Chg.refl _ _,fun i j hij hj => ?_,lap0.on (by trivial)⟩
  by_cases z:i = j
  ·rw [z]; exact R.refl _
  ·exact hu i j hij (by trivial)
 case fin =>
  rintro c st' ⟨hc,ch,u,lp⟩
  rw [show min (max (max ok 1) n) n = n by trivial] at u lp
  exact ⟨hc,ch,u,lp⟩
 case step =>
  rintro k c st' hk1 hk2 ⟨rfl,ch,u,lp⟩
  rw [show min k n = k by trivial] at u lp
  have hsz:=ch.size
  dsimp only
  refine wpS_bind (wpS_mono (wpS_forRange (I:=fun x c st2 => st2 = st'∧∃ l r,c = (none,l,r)∧l ≤ r∧r ≤ k∧r - l ≤ k - x∧(∀ i,i < l -> R O ky ix (at_ (arrOf st') (lo + i)) (at_ (arrOf st') (lo + k)))∧(∀ i,r ≤ i -> i < k -> O.klt (kf ky st' lo k) (kf ky st' lo i)))
   (Q:=fun c st2 => st2 = st'∧∃ l r,c = (none,l,r)∧l ≤ k∧(∀ i,i < l -> R O ky ix (at_ (arrOf st') (lo + i)) (at_ (arrOf st') (lo + k)))∧(∀ i,l ≤ i -> i < k -> O.klt (kf ky st' lo k) (kf ky st' lo i))) ?s2 ?f2 ⟨rfl,0,k,rfl,by trivial,by trivial,by trivial,fun i hi => by trivial,fun i i1 i2 => by trivial⟩) ?p2)
  case f2 =>
   rintro c st2 ⟨rfl,l,r,rfl,a1,a2,a3,a4,a5⟩
   obtain rfl:l = r:=by trivial
   exact ⟨rfl,l,l,rfl,a2,a4,a5⟩
  case s2 =>
   rintro x c st2 _ hx ⟨rfl,l,r,rfl,a1,a2,a3,a4,a5⟩
   dsimp only
   by_cases hge:l ≥ r
   ·rw [if_pos hge]
    obtain rfl:l = r:=by trivial
    exact wpS_pure ⟨rfl,l,l,rfl,a2,a4,a5⟩
   ·rw [if_neg hge]
    refine wpS_bind (wpS_ltAt' C (ch.kind.trans hk0) (ch.all hS0) (by trivial) (by trivial) ?_)
    dsimp only
    cases e:O.blt (ky (at_ (arrOf st2) (lo + k))) (ky (at_ (arrOf st2) (lo + (l + r) / 2))) with
    | true =>
     rw [if_pos rfl]
     exact wpS_pure ⟨rfl,l,(l + r) / 2,rfl,by trivial,by trivial,by trivial,a4,fun i i1 i2 => KeyOrd.klt_of_klt_of_kle e (u _ i i1 i2).1⟩
    | false =>
     rw [if_neg Bool.false_ne_true]
     exact wpS_pure ⟨rfl,(l + r) / 2 + 1,r,rfl,by trivial,by trivial,by trivial,fun i i1 => R.trans (u i ((l + r) / 2) (by trivial) (by trivial)) (R.le e (lp.any (by trivial) (Nat.le_refl _) (by trivial))),a5⟩
  case p2 =>
   rintro c st2 ⟨rfl,l,r,rfl,a1,a4,a5⟩
   dsimp only
   have hks:lo + k < (arrOf st2).size:=by trivial
   show wpS _ _ _ _ (moveDown' (lo + k) (lo + l) >>= fun _ => pure (ForInStep.yield (none,()))) _ _
   rw [moveDown'_eq]
   refine wpS_bind (wpS_modify (wpS_pure ⟨rfl,ch.trans (chg_bubble hks (by trivial) (by trivial)),?_,?_⟩))
   ·rw [show min (k + 1) n = k + 1 by trivial]
    intro i j hij hj
    show R O ky ix (at_ (bubble (arrOf st2) (lo + k) (lo + k - (lo + l))) (lo + i)) (at_ (bubble (arrOf st2) (lo + k) (lo + k - (lo + l))) (lo + j))
    rw [at_bubble hks (by trivial),at_bubble hks (by trivial),show lo + k - (lo + k - (lo + l)) = lo + l by trivial]
    by_cases i1:i = l
    ·rw [if_pos (by trivial)]
     by_cases j1:j = l
     ·rw [if_pos (by trivial)]; exact R.refl _
     ·rw [if_neg (by trivial),if_pos (by trivial),show lo + j - 1 = lo + (j - 1) by trivial]
      exact R.lt (a5 (j - 1) (by trivial) (by trivial))
    ·rw [if_neg (by trivial)]
     by_cases i2:l < i
     ·rw [if_pos (by trivial),if_neg (by trivial),if_pos (by trivial),show lo + i - 1 = lo + (i - 1) by trivial,show lo + j - 1 = lo + (j - 1) by trivial]
      exact u _ _ (by trivial) (by trivial)
     ·rw [if_neg (by trivial)]
      by_cases j1:j = l
      ·rw [if_pos (by trivial)]; exact a4 i (by trivial)
      ·rw [if_neg (by trivial)]
       by_cases j2:l < j
       ·rw [if_pos (by trivial),show lo + j - 1 = lo + (j - 1) by trivial]; exact u _ _ (by trivial) (by trivial)
       ·rw [if_neg (by trivial)]; exact u _ _ hij (by trivial)
   ·rw [show min (k + 1) n = k + 1 by trivial]
    refine (lp.on (Nat.le_succ k)).of (fun i hi => ?_) (fun i hi => ?_)
    ·show ∃ k',k' < k + 1∧at_ (bubble (arrOf st2) (lo + k) (lo + k - (lo + l))) (lo + i) = _
     rw [at_bubble hks (by trivial),show lo + k - (lo + k - (lo + l)) = lo + l by trivial]
     by_cases i1:lo + i = lo + l
     ·rw [if_pos i1]; exact ⟨k,by trivial,rfl⟩
     ·rw [if_neg i1]
      by_cases i2:lo + l < lo + i∧lo + i ≤ lo + k
      ·rw [if_pos i2,show lo + i - 1 = lo + (i - 1) by trivial]; exact ⟨i - 1,by trivial,rfl⟩
      ·rw [if_neg i2]; exact ⟨i,hi,rfl⟩
    ·show at_ (bubble (arrOf st2) (lo + k) (lo + k - (lo + l))) (lo + i) = _
     rw [at_bubble hks (by trivial),if_neg (by trivial),if_neg (by trivial)]
end
end TT
set_option linter.all false
namespace TT
open PySem PyProof.Rows TS
noncomputable def offs:Nat -> List (List Keyed) -> List (Nat × Nat)
 | _,[] => []
 | o,g :: r => (o,g.length) :: offs (o + g.length) r
theorem offs_append:∀ (p q:List (List Keyed)) (o:Nat),offs o (p ++ q) = offs o p ++ offs (o + p.flatten.length) q
 | [],q,o => by simp [offs]
 | g :: r,q,o => by
  show (o,g.length) :: offs (o + g.length) (r ++ q) = (o,g.length) :: offs (o + g.length) r ++ _
  rw [offs_append r q,List.cons_append,List.flatten_cons,List.length_append,Nat.add_assoc]
theorem offs_length:∀ (p:List (List Keyed)) (o:Nat),(offs o p).length = p.length
 | [],_ => rfl
 | g :: r,o => by show (offs (o + g.length) r).length + 1 = _; rw [offs_length r]; rfl
noncomputable def two (p:Nat × Nat × Nat):Nat × Nat:=(p.1,p.2.1)
noncomputable def Ord (ix:Keyed -> Nat) (l:List (List Keyed)):Prop:=l.Pairwise fun g h => ∀ x ∈ g,∀ y ∈ h,ix x ≤ ix y
theorem Ord.two {ix:Keyed -> Nat} {pre post:List (List Keyed)} {F G:List Keyed} (h:Ord ix (pre ++ F :: G :: post)):∀ x ∈ F,∀ y ∈ G,ix x ≤ ix y :=
 (List.pairwise_cons.mp (List.pairwise_append.mp h).2.1).1 G List.mem_cons_self
theorem Ord.join {ix:Keyed -> Nat} {pre post:List (List Keyed)} {F G M:List Keyed} (h:Ord ix (pre ++ F :: G :: post)) (hm:∀ x ∈ M,x ∈ F ∨ x ∈ G):Ord ix (pre ++ M :: post):=by
 unfold Ord at h ⊢
 rw [List.pairwise_append,List.pairwise_cons,List.pairwise_cons] at h
 rw [List.pairwise_append,List.pairwise_cons]
 obtain ⟨h1,⟨h2,h3,h4⟩,h5⟩:=h
 refine ⟨h1,⟨fun g hg x hx y hy => ?_,h4⟩,fun g hg k hk x hx y hy => ?_⟩
 ·rcases hm x hx with z | z
  ·exact h2 g (List.mem_cons_of_mem _ hg) x z y hy
  ·exact h3 g hg x z y hy
 ·rcases List.mem_cons.mp hk with e | hk
  ·subst e
   rcases hm y hy with z | z
   ·exact h5 g hg F List.mem_cons_self x hx y z
   ·exact h5 g hg G (List.mem_cons_of_mem _ List.mem_cons_self) x hx y z
  ·exact h5 g hg k (List.mem_cons_of_mem _ (List.mem_cons_of_mem _ hk)) x hx y hy
theorem Ord.last {ix:Keyed -> Nat} {l:List (List Keyed)} {r r':List Keyed} (h:Ord ix (l ++ [r])) (hm:∀ x ∈ r',x ∈ r):Ord ix (l ++ [r']):=by
 unfold Ord at h ⊢
 rw [List.pairwise_append] at h ⊢
 refine ⟨h.1,List.pairwise_singleton _ _,fun g hg k hk x hx y hy => ?_⟩
 rw [List.mem_singleton.mp hk] at hy
 exact h.2.2 g hg r List.mem_cons_self x hx y (hm y hy)
theorem Ord.cut {ix:Keyed -> Nat} {l:List (List Keyed)} {a b:List Keyed} (h:Ord ix (l ++ [a ++ b])) (hm:∀ x ∈ a,∀ y ∈ b,ix x ≤ ix y):Ord ix ((l ++ [a]) ++ [b]):=by
 unfold Ord at h ⊢
 rw [List.pairwise_append] at h
 rw [List.append_assoc,List.pairwise_append]
 refine ⟨h.1,List.pairwise_pair.mpr hm,fun g hg k hk x hx y hy => ?_⟩
 have hk':k = a ∨ k = b:=by simpa using hk
 rcases hk' with rfl | rfl
 ·exact h.2.2 g hg _ List.mem_cons_self x hx y (List.mem_append_left _ hy)
 ·exact h.2.2 g hg _ List.mem_cons_self x hx y (List.mem_append_right _ hy)
structure Stk (O:KeyOrd) (ky:Keyed -> O.α) (ix:Keyed -> Nat) (kd:SortKind) (a0:Array Keyed) (st:SortSt) (segs:List (List Keyed)) (rest:List Keyed):Prop where
 kind:kindOf st = kd
 fail:failedOf st = none
 arr:(arrOf st).toList = segs.flatten ++ rest
 perm:(arrOf st).Perm a0
 pend:(pendingOf st).toList.map two = offs 0 segs
 each:∀ g ∈ segs,g ≠ []∧Srt O ky ix g
 ord:Ord ix (segs ++ [rest])
theorem at_seg {arr:Array Keyed} {P G T:List Keyed} (h:arr.toList = P ++ (G ++ T)) {i:Nat} {x:Keyed} (hx:G[i]? = some x):at_ arr (P.length + i) = x:=by
 have e:arr.toList[P.length + i]? = some x:=by
  rw [h,List.getElem?_append_right (by trivial),show P.length + i - P.length = i by trivial,List.getElem?_append_left (List.getElem?_eq_some_iff.mp hx).1]
  exact hx
 unfold at_
 rw [← Array.getElem?_toList,e]; rfl
section
variable {O:KeyOrd} {ky:Keyed -> O.α} {ix:Keyed -> Nat}
theorem srt_ij {G:List Keyed} (h:Srt O ky ix G) {i j:Nat} {x y:Keyed} (hij:i ≤ j) (hx:G[i]? = some x) (hy:G[j]? = some y):R O ky ix x y:=by
 obtain ⟨h1,e1⟩:=List.getElem?_eq_some_iff.mp hx
 obtain ⟨h2,e2⟩:=List.getElem?_eq_some_iff.mp hy
 by_cases e:i = j
 ·subst e
  rw [hx] at hy
  cases hy
  exact R.refl _
 ·have:=List.pairwise_iff_getElem.mp h i j h1 h2 (by trivial)
  rw [e1,e2] at this
  exact this
theorem seg_srt {arr:Array Keyed} {P G T:List Keyed} (h:arr.toList = P ++ (G ++ T)) (hs:Srt O ky ix G):∀ i j,i ≤ j -> j < G.length -> R O ky ix (at_ arr (P.length + i)) (at_ arr (P.length + j)):=fun i j hij hj => by
 have e1:G[i]? = some G[i]:=List.getElem?_eq_getElem _
 have e2:G[j]? = some G[j]:=List.getElem?_eq_getElem _
 rw [at_seg h e1,at_seg h e2]
 exact srt_ij hs hij e1 e2
end
theorem write_back (sa:Nat):∀ (m:List Keyed) (n:Nat) (arr:Array Keyed),sa + n + m.length ≤ arr.size →
  ((m.zipIdx n).foldl (fun a (x:Keyed × Nat) => match x with | (p,j) => a.setIfInBounds (sa + j) p) arr).toList = arr.toList.take (sa + n) ++ (m ++ arr.toList.drop (sa + n + m.length))
 | [],n,arr,_ => by simp
 | p :: r,n,arr,h => by
  rw [List.length_cons] at h
  rw [List.zipIdx_cons,List.foldl_cons]
  have ih:=write_back sa r (n + 1) (arr.setIfInBounds (sa + n) p) (by simp; trivial)
  rw [ih]
  have hlt:sa + n < arr.toList.length:=by simp; trivial
  have el:(arr.setIfInBounds (sa + n) p).toList = arr.toList.set (sa + n) p:=by simp
  rw [el,show sa + (n + 1) = sa + n + 1 by trivial,List.take_add_one,List.length_cons]
  rw [List.take_set_of_le (by trivial),List.getElem?_set_self hlt,List.drop_set_of_lt (by trivial)]
  simp [Nat.add_assoc,Nat.add_comm,Nat.add_left_comm]
section
variable {prog:Program} {w:World} {A:Around} {E:Value -> Shared -> Prop} {s:Shared}
variable {kd:SortKind} {O:KeyOrd} {ky:Keyed -> O.α} {ix:Keyed -> Nat} {S:Keyed -> Prop} {a0:Array Keyed}
theorem pend_split {st:SortSt} {pre post:List (List Keyed)} {F G:List Keyed} (h:(pendingOf st).toList.map two = offs 0 (pre ++ F :: G :: post)):∃ p1 w1 w2 p2,(pendingOf st).toList = p1 ++ (pre.flatten.length,F.length,w1) :: (pre.flatten.length + F.length,G.length,w2) :: p2∧p1.length = pre.length∧p1.map two = offs 0 pre∧p2.map two = offs (pre.flatten.length + F.length + G.length) post:=by
 rw [offs_append] at h
 obtain ⟨p1,p2,e,e1,e2⟩:=List.map_eq_append_iff.mp h
 have h2:p2.map two = (0 + pre.flatten.length,F.length) :: (0 + pre.flatten.length + F.length,G.length) :: offs (0 + pre.flatten.length + F.length + G.length) post:=e2
 rw [Nat.zero_add] at h2
 obtain ⟨q1,p3,rfl,f1,f2⟩:=List.map_eq_cons_iff.mp h2
 obtain ⟨q2,p4,rfl,g1,g2⟩:=List.map_eq_cons_iff.mp f2
 obtain ⟨x1,x2,x3⟩:=q1
 obtain ⟨y1,y2,y3⟩:=q2
 obtain ⟨rfl,rfl⟩:=Prod.mk.inj (show (x1,x2) = _ from f1)
 obtain ⟨rfl,rfl⟩:=Prod.mk.inj (show (y1,y2) = _ from g1)
 refine ⟨p1,x3,y3,p4,e,?_,e1,g2⟩
 have:=congrArg List.length e1
 rw [List.length_map,offs_length] at this
 exact this
theorem wpS_mergeAt (C:Cmp prog w A s kd O ky S) {st:SortSt} {pre post:List (List Keyed)} {F G:List Keyed} {rest:List Keyed} {i:Nat} {Q:Bool -> SortSt -> Prop} (hS:∀ p ∈ a0.toList,S p) (h:Stk O ky ix kd a0 st (pre ++ F :: G :: post) rest) (hi:i = pre.length)
  (k:∀ st' M,Stk O ky ix kd a0 st' (pre ++ M :: post) rest -> M.length = F.length + G.length -> Q true st'):wpS (model prog w) A E s (TS.mergeAt' i) Q st:=by
 obtain ⟨p1,w1,w2,p2,ep,l1,q1,q2⟩:=pend_split h.pend
 have hSa:∀ p ∈ (arrOf st).toList,S p:=fun p hp => hS p ((Array.perm_iff_toList_perm.mp h.perm).mem_iff.mp hp)
 have hF:=h.each F (List.mem_append_right _ List.mem_cons_self)
 have hG:=h.each G (List.mem_append_right _ (List.mem_cons_of_mem _ List.mem_cons_self))
 have lF:1 ≤ F.length:=List.length_pos_iff.mpr hF.1
 have lG:1 ≤ G.length:=List.length_pos_iff.mpr hG.1
 have arrF:(arrOf st).toList = pre.flatten ++ (F ++ (G ++ (post.flatten ++ rest))):=by
  rw [h.arr]; simp
 have arrG:(arrOf st).toList = (pre.flatten ++ F) ++ (G ++ (post.flatten ++ rest)):=by
  rw [arrF]; simp
 have lenG:(pre.flatten ++ F).length = pre.flatten.length + F.length:=List.length_append
 have hsz:pre.flatten.length + F.length + G.length ≤ (arrOf st).size:=by
  have:=congrArg List.length arrF
  rw [List.length_append,List.length_append,List.length_append,Array.length_toList] at this
  trivial
 have srF:=seg_srt arrF hF.2
 have srG:=seg_srt arrG hG.2
 rw [lenG] at srG
 have g1:(pendingOf st)[i]? = some (pre.flatten.length,F.length,w1):=by
  rw [← Array.getElem?_toList,ep,hi,← l1]; simp
 have g2:(pendingOf st)[i + 1]? = some (pre.flatten.length + F.length,G.length,w2):=by
  rw [← Array.getElem?_toList,ep,hi,← l1,List.getElem?_append_right (by trivial)]; simp
 unfold TS.mergeAt'
 refine wpS_bind (wpS_get ?_)
 rw [show (pendingOf st)[i]? = _ from g1,show (pendingOf st)[i + 1]? = _ from g2]
 dsimp only
 -- what is told whatever is merged
 have fin:∀ (st':SortSt) (M:List Keyed),kindOf st' = kindOf st -> failedOf st' = failedOf st -> (arrOf st').toList = pre.flatten ++ (M ++ (post.flatten ++ rest)) -> M.Perm (F ++ G) -> Srt O ky ix M →
   pendingOf st' = ((pendingOf st).setIfInBounds i (pre.flatten.length,F.length + G.length,w1)).eraseIdxIfInBounds (i + 1) -> Q true st':=by
  intro st' M k1 k2 k3 k4 k5 k6
  refine k st' M ⟨k1.trans h.kind,k2.trans h.fail,?_,?_,?_,fun g hg => ?_,?_⟩ (by rw [k4.length_eq,List.length_append])
  ·rw [k3]; simp
  ·refine Array.Perm.trans (Array.perm_iff_toList_perm.mpr ?_) h.perm
   rw [k3,arrF]
   refine List.Perm.append_left _ ?_
   rw [← List.append_assoc F]
   exact k4.append_right _
  ·rw [k6]
   have e:(((pendingOf st).setIfInBounds i (pre.flatten.length,F.length + G.length,w1)).eraseIdxIfInBounds (i + 1)).toList = p1 ++ (pre.flatten.length,F.length + G.length,w1) :: p2:=by
    simp [ep]
    rw [hi,← l1,List.set_append_right _ _ (Nat.le_refl _),Nat.sub_self,List.set_cons_zero,List.eraseIdx_append_of_length_le (by trivial),show p1.length + 1 - p1.length = 1 by trivial]
    rfl
   rw [e,List.map_append,q1,List.map_cons,q2,offs_append,Nat.zero_add]
   show _ = offs 0 pre ++ (pre.flatten.length,M.length) :: offs (pre.flatten.length + M.length) post
   rw [k4.length_eq,List.length_append,← Nat.add_assoc]
   rfl
  ·rcases List.mem_append.mp hg with hg | hg
   ·exact h.each g (List.mem_append_left _ hg)
   ·rcases List.mem_cons.mp hg with hg | hg
    ·subst hg
     refine ⟨fun z => ?_,k5⟩
     have:=k4.length_eq
     rw [z,List.length_append] at this
     simp at this
     trivial
    ·exact h.each g (List.mem_append_right _ (List.mem_cons_of_mem _ (List.mem_cons_of_mem _ hg)))
  ·have o:=h.ord
   rw [List.append_assoc,List.cons_append,List.cons_append] at o
   rw [List.append_assoc,List.cons_append]
   exact o.join fun x hx => List.mem_append.mp (k4.mem_iff.mp hx)
 have fG:∀ {i:Nat},i < G.length -> ∃ x,G[i]? = some x∧at_ (arrOf st) (pre.flatten.length + F.length + i) = x:=fun {i} hi => by
  refine ⟨G[i],List.getElem?_eq_getElem _,?_⟩
  have:=at_seg arrG (i:=i) (List.getElem?_eq_getElem hi)
  rw [lenG] at this
  exact this
 have fF:∀ {i:Nat},i < F.length -> ∃ x,F[i]? = some x∧at_ (arrOf st) (pre.flatten.length + i) = x:=fun {i} hi => ⟨F[i],List.getElem?_eq_getElem _,at_seg arrF (List.getElem?_eq_getElem hi)⟩
 have memF:∀ {x:Keyed} {i j:Nat},x ∈ (F.take j).drop i -> ∃ n,i ≤ n∧n < j∧n < F.length∧at_ (arrOf st) (pre.flatten.length + n) = x:=fun {x i j} hx => by
  obtain ⟨n,hn,e⟩:=List.getElem_of_mem hx
  rw [List.length_drop,List.length_take] at hn
  refine ⟨i + n,by trivial,by trivial,by trivial,at_seg arrF ?_⟩
  have e2:((F.take j).drop i)[n]? = some x:=by rw [← e]; exact List.getElem?_eq_getElem _
  rw [List.getElem?_drop,List.getElem?_take,if_pos (by trivial)] at e2
  exact e2
 have memG:∀ {x:Keyed} {i j:Nat},x ∈ (G.take j).drop i -> ∃ n,i ≤ n∧n < j∧n < G.length∧at_ (arrOf st) (pre.flatten.length + F.length + n) = x:=fun {x i j} hx => by
  obtain ⟨n,hn,e⟩:=List.getElem_of_mem hx
  rw [List.length_drop,List.length_take] at hn
  have e2:((G.take j).drop i)[n]? = some x:=by rw [← e]; exact List.getElem?_eq_getElem _
  rw [List.getElem?_drop,List.getElem?_take,if_pos (by trivial)] at e2
  have:=at_seg arrG e2
  rw [lenG] at this
  exact ⟨i + n,by trivial,by trivial,by trivial,this⟩
 have allF:F = (F.take F.length).drop 0:=by simp
 have allG:G = (G.take G.length).drop 0:=by simp
 have hix:∀ x ∈ F,∀ y ∈ G,ix x ≤ ix y:=by
  have o:=h.ord
  rw [List.append_assoc,List.cons_append,List.cons_append] at o
  exact o.two
 have hixA:∀ m n,m < F.length -> n < G.length -> ix (at_ (arrOf st) (pre.flatten.length + m)) ≤ ix (at_ (arrOf st) (pre.flatten.length + F.length + n)):=fun m n hm hn => by
  obtain ⟨x,x1,x2⟩:=fF hm
  obtain ⟨y,y1,y2⟩:=fG hn
  rw [x2,y2]
  exact hix x (List.mem_of_getElem? x1) y (List.mem_of_getElem? y1)
 refine wpS_bind (wpS_modify (f:=fun _ => _) ?_)
 refine wpS_bind (wpS_elem (at_eq (show pre.flatten.length + F.length < (arrOf st).size by trivial)) ?_)
 refine wpS_bind (wpS_gal C h.kind (hSa _ (at_mem (show pre.flatten.length + F.length < (arrOf st).size by trivial))) hSa srF (fun i hi => by simp only [Bool.false_eq_true,if_false]; exact hixA i 0 hi lG) (show pre.flatten.length + F.length ≤ (arrOf st).size by trivial) (by trivial) fun kk hkk r1 r2 => ?_)
 dsimp only
 simp only [Bool.false_eq_true,if_false] at r1 r2
 have G0:∀ y ∈ G,R O ky ix (at_ (arrOf st) (pre.flatten.length + F.length)) y:=fun y hy => by
  rw [allG] at hy
  obtain ⟨n,_,_,n3,rfl⟩:=memG hy
  exact srG 0 n (by trivial) n3
 by_cases z1:(F.length - kk == 0) = true
 ·rw [if_pos z1]
  have z1':F.length - kk = 0:=by simpa using z1
  refine wpS_pure (fin _ (F ++ G) rfl rfl ?_ (List.Perm.refl _) ?_ rfl)
  ·show (arrOf st).toList = _
   rw [arrF]; simp
  ·unfold Srt
   rw [List.pairwise_append]
   refine ⟨hF.2,hG.2,fun x hx y hy => ?_⟩
   rw [allF] at hx
   obtain ⟨n,_,_,n3,rfl⟩:=memF hx
   exact R.trans (r1 n (by trivial)) (G0 y hy)
 rw [if_neg z1]
 have z1':¬ F.length - kk = 0:=by simpa using z1
 have elast:pre.flatten.length + kk + (F.length - kk) - 1 = pre.flatten.length + (F.length - 1):=by trivial
 rw [elast]
 refine wpS_bind (wpS_elem (at_eq (show pre.flatten.length + (F.length - 1) < (arrOf st).size by trivial)) ?_)
 refine wpS_bind (wpS_gal C h.kind (hSa _ (at_mem (show pre.flatten.length + (F.length - 1) < (arrOf st).size by trivial))) hSa srG (fun i hi => by simp only [if_true]; exact hixA (F.length - 1) i (by trivial) hi) (show pre.flatten.length + F.length + G.length ≤ (arrOf st).size by trivial) (by trivial) fun nn hnn t1 t2 => ?_)
 dsimp only
 simp only [if_true] at t1 t2
 have FL:∀ x ∈ F,R O ky ix x (at_ (arrOf st) (pre.flatten.length + (F.length - 1))):=fun x hx => by
  rw [allF] at hx
  obtain ⟨n,_,_,n3,rfl⟩:=memF hx
  exact srF n (F.length - 1) (by trivial) (by trivial)
 by_cases z2:(nn == 0) = true
 ·rw [if_pos z2]
  have z2':nn = 0:=by simpa using z2
  refine wpS_pure (fin _ (F ++ G) rfl rfl ?_ (List.Perm.refl _) ?_ rfl)
  ·show (arrOf st).toList = _
   rw [arrF]; simp
  ·unfold Srt
   rw [List.pairwise_append]
   refine ⟨hF.2,hG.2,fun x hx y hy => ?_⟩
   rw [allG] at hy
   obtain ⟨n,_,_,n3,rfl⟩:=memG hy
   exact R.trans (FL x hx) (t2 n (by trivial) n3)
 rw [if_neg z2]
 have z2':¬ nn = 0:=by simpa using z2
 have hx:((arrOf st).extract (pre.flatten.length + kk) (pre.flatten.length + F.length)).toList = F.drop kk:=by
  rw [ext2,arrG,← lenG,List.take_append_of_le_length (Nat.le_refl _),List.take_length,← List.drop_drop]
  simp
 have hy:((arrOf st).extract (pre.flatten.length + F.length) (pre.flatten.length + F.length + nn)).toList = G.take nn:=by
  rw [ext_some,arrG,← lenG,List.drop_append_of_le_length (Nat.le_refl _),List.drop_length,List.nil_append,List.take_append_of_le_length hnn]
 have szx:((arrOf st).extract (pre.flatten.length + kk) (pre.flatten.length + F.length)).size = F.length - kk:=by
  rw [← Array.length_toList,hx,List.length_drop]
 have szy:((arrOf st).extract (pre.flatten.length + F.length) (pre.flatten.length + F.length + nn)).size = nn:=by
  rw [← Array.length_toList,hy,List.length_take]; trivial
 generalize (arrOf st).extract (pre.flatten.length + kk) (pre.flatten.length + F.length) = x at hx szx ⊢
 generalize (arrOf st).extract (pre.flatten.length + F.length) (pre.flatten.length + F.length + nn) = y at hy szy ⊢
 have inF:∀ p ∈ F,S p:=fun p hp => hSa p (by rw [arrF]; exact List.mem_append_right _ (List.mem_append_left _ hp))
 have inG:∀ p ∈ G,S p:=fun p hp => hSa p (by rw [arrF]; exact List.mem_append_right _ (List.mem_append_right _ (List.mem_append_left _ hp)))
 have hSx:∀ p ∈ x.toList,S p:=fun p hp => inF p (by rw [hx] at hp; exact List.mem_of_mem_drop hp)
 have hSy:∀ p ∈ y.toList,S p:=fun p hp => inG p (by rw [hy] at hp; exact List.mem_of_mem_take hp)
 have sx:Srt O ky ix x.toList:=by rw [hx]; exact drop_srt hF.2 _
 have sy:Srt O ky ix y.toList:=by rw [hy]; exact take_srt hG.2 _
 have hixy:∀ p ∈ x.toList,∀ q ∈ y.toList,ix p ≤ ix q:=fun p hp q hq => by
  rw [hx] at hp
  rw [hy] at hq
  exact hix p (List.mem_of_mem_drop hp) q (List.mem_of_mem_take hq)
 have y0:at_ y 0 = at_ (arrOf st) (pre.flatten.length + F.length):=by
  obtain ⟨g,hg1,hg2⟩:=fG (i:=0) lG
  have e:y.toList[0]? = some g:=by rw [hy,List.getElem?_take,if_pos (by trivial)]; exact hg1
  rw [show pre.flatten.length + F.length = pre.flatten.length + F.length + 0 from rfl,hg2]
  unfold at_
  rw [← Array.getElem?_toList,e]; rfl
 have xl:at_ x (x.size - 1) = at_ (arrOf st) (pre.flatten.length + (F.length - 1)):=by
  obtain ⟨g,hg1,hg2⟩:=fF (i:=F.length - 1) (by trivial)
  have e:x.toList[x.size - 1]? = some g:=by rw [hx,szx,List.getElem?_drop,show kk + (F.length - kk - 1) = F.length - 1 by trivial]; exact hg1
  rw [hg2]
  unfold at_
  rw [← Array.getElem?_toList,e]; rfl
 have h0:∀ p ∈ x.toList,R O ky ix (at_ y 0) p:=fun p hp => by
  rw [hx,show F.drop kk = (F.take F.length).drop kk by rw [List.take_length]] at hp
  obtain ⟨n,n1,_,n3,rfl⟩:=memF hp
  rw [y0]
  exact R.lt (r2 n n1 n3)
 have hl:∀ p ∈ y.toList,R O ky ix p (at_ x (x.size - 1)):=fun p hp => by
  rw [hy,show G.take nn = (G.take nn).drop 0 by rw [List.drop_zero]] at hp
  obtain ⟨n,_,n2,n3,rfl⟩:=memG hp
  rw [xl]
  exact R.lt (t1 n n2)
 have last:∀ (o:Array Keyed) (st':SortSt),Good O ky ix x y o -> SameSt (SortSt.mk' (kindOf st) (arrOf st) (((pendingOf st).setIfInBounds i (pre.flatten.length,F.length + G.length,w1)).eraseIdxIfInBounds (i + 1)) (gallopOf st) (failedOf st)) st' →
   (failedOf st').isNone = true∧Q true (SortSt.mk' (kindOf st') (o.toList.zipIdx.foldl (fun a (x:Keyed × Nat) => match x with | (p,j) => a.setIfInBounds (pre.flatten.length + kk + j) p) (arrOf st')) (pendingOf st') (gallopOf st') (failedOf st')):=by
  intro o st' go ss
  obtain ⟨pm,so⟩:=go
  rw [hx,hy] at pm
  have lo:o.toList.length = F.length - kk + nn:=by rw [pm.length_eq,List.length_append,List.length_drop,List.length_take]; trivial
  refine ⟨by rw [show failedOf st' = failedOf st from ss.fail,h.fail]; rfl,?_⟩
  refine fin _ (F.take kk ++ (o.toList ++ G.drop nn)) ss.kind ss.fail ?_ ?_ ?_ ss.pend
  ·show (o.toList.zipIdx.foldl _ (arrOf st')).toList = _
   rw [show arrOf st' = arrOf st from ss.arr]
   have wb:=write_back (pre.flatten.length + kk) o.toList 0 (arrOf st) (by trivial)
   rw [Nat.add_zero] at wb
   refine wb.trans ?_
   have d1:(arrOf st).toList.take (pre.flatten.length + kk) = pre.flatten ++ F.take kk:=by
    rw [arrF,List.take_length_add_append,List.take_append_of_le_length (by trivial)]
   have d2:(arrOf st).toList.drop (pre.flatten.length + kk + o.toList.length) = G.drop nn ++ (post.flatten ++ rest):=by
    rw [arrG,lo,show pre.flatten.length + kk + (F.length - kk + nn) = (pre.flatten ++ F).length + nn by rw [lenG]; trivial,List.drop_length_add_append,List.drop_append_of_le_length hnn]
   rw [d1,d2]; simp
  ·have e1:=List.take_append_drop kk F
   have e2:=List.take_append_drop nn G
   conv => rhs; rw [← e1,← e2]
   rw [List.append_assoc]
   refine List.Perm.append_left _ ?_
   rw [← List.append_assoc]
   exact pm.append_right _
  ·have mo:∀ p ∈ o.toList,p ∈ F.drop kk ∨ p ∈ G.take nn:=fun p hp => List.mem_append.mp (pm.mem_iff.mp hp)
   unfold Srt
   rw [List.pairwise_append,List.pairwise_append]
   refine ⟨take_srt hF.2 _,⟨so,drop_srt hG.2 _,fun p hp q hq => ?_⟩,fun p hp q hq => ?_⟩
   ·rcases mo p hp with hp | hp
    ·rw [show G.drop nn = (G.take G.length).drop nn by rw [List.take_length]] at hq
     obtain ⟨n,n1,_,n3,rfl⟩:=memG hq
     exact R.trans (FL p (List.mem_of_mem_drop hp)) (t2 n n1 n3)
    ·exact split_srt hG.2 nn p hp q hq
   ·have ub:R O ky ix p (at_ (arrOf st) (pre.flatten.length + F.length)):=by
     rw [show F.take kk = (F.take kk).drop 0 by rw [List.drop_zero]] at hp
     obtain ⟨n,_,n2,n3,rfl⟩:=memF hp
     exact r1 n n2
    rcases List.mem_append.mp hq with hq | hq
    ·rcases mo q hq with hq | hq
     ·exact split_srt hF.2 kk p hp q hq
     ·exact R.trans ub (G0 q (List.mem_of_mem_take hq))
    ·exact R.trans ub (G0 q (List.mem_of_mem_drop hq))
 by_cases hle:F.length - kk ≤ nn
 ·rw [if_pos hle]
  refine wpS_bind (wpS_mergeLo C h.kind hSx hSy sx sy hixy (by trivial) (by trivial) h0 hl fun o st' go ss => ?_)
  obtain ⟨l1,l2⟩:=last o st' go ss
  refine wpS_bind (wpS_modify (wpS_bind (wpS_get (wpS_pure ?_))))
  rw [show (failedOf st').isNone = true from l1]
  exact l2
 ·rw [if_neg hle]
  refine wpS_bind (wpS_mergeHi C h.kind hSx hSy sx sy hixy (by trivial) (by trivial) h0 hl fun o st' go ss => ?_)
  obtain ⟨l1,l2⟩:=last o st' go ss
  refine wpS_bind (wpS_modify (wpS_bind (wpS_get (wpS_pure ?_))))
  rw [show (failedOf st').isNone = true from l1]
  exact l2
end
end TT
set_option linter.all false
namespace TT
open PySem PyProof.Rows TS
section
variable {prog:Program} {w:World} {A:Around} {E:Value -> Shared -> Prop} {s:Shared}
variable {kd:SortKind} {O:KeyOrd} {ky:Keyed -> O.α} {ix:Keyed -> Nat} {S:Keyed -> Prop} {a0:Array Keyed}
theorem Stk.chg {st st':SortSt} {segs:List (List Keyed)} {rest:List Keyed} {lo:Nat} (h:Stk O ky ix kd a0 st segs rest) (c:Chg lo st st') (hl:segs.flatten.length = lo):Stk O ky ix kd a0 st' segs ((arrOf st').toList.drop lo):=by
 have e:(arrOf st').toList.take lo = segs.flatten:=by
  have e0:(arrOf st).toList.take lo = segs.flatten:=by rw [h.arr,← hl,List.take_append_of_le_length (Nat.le_refl _),List.take_length]
  rw [← e0]
  apply List.ext_getElem?
  intro i
  rw [List.getElem?_take,List.getElem?_take]
  by_cases hi:i < lo
  ·rw [if_pos hi,if_pos hi,Array.getElem?_toList,Array.getElem?_toList]; exact c.low i hi
  ·rw [if_neg hi,if_neg hi]
 have ea:(arrOf st').toList = segs.flatten ++ (arrOf st').toList.drop lo:=by rw [← e,List.take_append_drop]
 refine ⟨c.kind.trans h.kind,c.fail.trans h.fail,ea,c.perm.trans h.perm,by rw [c.pend]; exact h.pend,h.each,h.ord.last fun x hx => ?_⟩
 have p:=Array.perm_iff_toList_perm.mp c.perm
 rw [ea,h.arr] at p
 exact ((List.perm_append_left_iff _).mp p).mem_iff.mp hx
theorem up_srt {st:SortSt} {lo n:Nat} (hn:lo + n ≤ (arrOf st).size) (h:Up O ky ix st lo n):Srt O ky ix (((arrOf st).toList.drop lo).take n):=by
 unfold Srt
 rw [List.pairwise_iff_getElem]
 intro i j hi hj hij
 rw [List.length_take,List.length_drop] at hi hj
 have hat:∀ k (hk:k < (((arrOf st).toList.drop lo).take n).length),(((arrOf st).toList.drop lo).take n)[k] = at_ (arrOf st) (lo + k):=fun k hk => by
  have hk':=hk
  rw [List.length_take,List.length_drop] at hk'
  have e:(((arrOf st).toList.drop lo).take n)[k]? = some (((arrOf st).toList.drop lo).take n)[k]:=List.getElem?_eq_getElem _
  rw [List.getElem?_take,if_pos (by trivial),List.getElem?_drop,at_list (by trivial)] at e
  exact (Option.some.inj e).symm
 rw [hat,hat]
 exact h i j (by trivial) (by trivial)
theorem Stk.push {st:SortSt} {segs:List (List Keyed)} {rest:List Keyed} {lo n:Nat} (h:Stk O ky ix kd a0 st segs rest) (hl:segs.flatten.length = lo) (h1:1 ≤ n) (hn:n ≤ rest.length) (hs:Srt O ky ix (rest.take n)) (hc:∀ x ∈ rest.take n,∀ y ∈ rest.drop n,ix x ≤ ix y) {st':SortSt} (k1:kindOf st' = kindOf st) (k2:failedOf st' = failedOf st) (k3:arrOf st' = arrOf st) (k4:(pendingOf st').toList.map two = (pendingOf st).toList.map two ++ [(lo,n)]) :
  Stk O ky ix kd a0 st' (segs ++ [rest.take n]) (rest.drop n):=by
 have hln:(rest.take n).length = n:=by rw [List.length_take]; trivial
 refine ⟨k1.trans h.kind,k2.trans h.fail,?_,by rw [k3]; exact h.perm,?_,fun g hg => ?_,Ord.cut (by rw [List.take_append_drop]; exact h.ord) hc⟩
 ·rw [k3,h.arr]; simp
 ·rw [k4,h.pend,offs_append,Nat.zero_add,hl]
  show _ = _ ++ [(lo,(rest.take n).length)]
  rw [hln]
 ·rcases List.mem_append.mp hg with hg | hg
  ·exact h.each g hg
  ·have:g = rest.take n:=by simpa using hg
   subst this
   refine ⟨fun z => ?_,hs⟩
   rw [z] at hln
   simp at hln
   trivial
theorem lap_list {st:SortSt} {lo n m:Nat} (h:Lap ix st lo n m) (hm:lo + m = (arrOf st).size) (hn:n ≤ m):(∀ x ∈ ((arrOf st).toList.drop lo).take n,∀ y ∈ ((arrOf st).toList.drop lo).drop n,ix x ≤ ix y)∧(((arrOf st).toList.drop lo).drop n).Pairwise (fun x y => ix x ≤ ix y):=by
 refine ⟨fun x hx y hy => ?_,?_⟩
 ·obtain ⟨i,i1,i2,rfl⟩:=mem_at hx
  obtain ⟨j,j1,e⟩:=List.getElem_of_mem hy
  rw [List.length_drop,List.length_drop,Array.length_toList] at j1
  have e2:(((arrOf st).toList.drop lo).drop n)[j]? = some y:=by rw [← e]; exact List.getElem?_eq_getElem _
  rw [List.getElem?_drop,List.getElem?_drop,at_list (by trivial)] at e2
  rw [← Option.some.inj e2]
  exact h.cross i (n + j) i1 (by trivial) (by trivial)
 ·rw [List.pairwise_iff_getElem]
  intro i j hi hj hij
  have hat:∀ k (hk:k < (((arrOf st).toList.drop lo).drop n).length),(((arrOf st).toList.drop lo).drop n)[k] = at_ (arrOf st) (lo + (n + k)):=fun k hk => by
   have hk':=hk
   rw [List.length_drop,List.length_drop,Array.length_toList] at hk'
   have e2:(((arrOf st).toList.drop lo).drop n)[k]? = some (((arrOf st).toList.drop lo).drop n)[k]:=List.getElem?_eq_getElem _
   rw [List.getElem?_drop,List.getElem?_drop,at_list (by trivial)] at e2
   exact (Option.some.inj e2).symm
  rw [hat,hat]
  rw [List.length_drop,List.length_drop,Array.length_toList] at hi hj
  exact h.rise _ _ (by trivial) (by trivial) (by trivial)
theorem lap_of_list {st:SortSt} {P T:List Keyed} {m:Nat} (h:(arrOf st).toList = P ++ T) (hm:m ≤ T.length) (hp:T.Pairwise (fun x y => ix x ≤ ix y)):Lap ix st P.length 0 m:=by
 refine ⟨fun i j h1 => by trivial,fun i j h1 h2 h3 => ?_⟩
 by_cases e:i = j
 ·rw [e]; exact Nat.le_refl _
 ·have hat:∀ k (hk:k < T.length),at_ (arrOf st) (P.length + k) = T[k]:=fun k hk => by
   have:=at_seg (P:=P) (G:=T) (T:=[]) (i:=k) (by rw [h,List.append_nil]) (List.getElem?_eq_getElem hk)
   exact this
  rw [hat i (by trivial),hat j (by trivial)]
  exact List.pairwise_iff_getElem.mp hp i j (by trivial) (by trivial) (by trivial)
theorem pend_size {st:SortSt} {segs:List (List Keyed)} {rest:List Keyed} (h:Stk O ky ix kd a0 st segs rest):(pendingOf st).size = segs.length:=by
 have:=congrArg List.length h.pend
 rw [List.length_map,offs_length,Array.length_toList] at this
 exact this
theorem two_modify (p:Array (Nat × Nat × Nat)) (i v:Nat):(p.modify i fun x => (x.1,x.2.1,v)).toList.map two = p.toList.map two:=by
 apply List.ext_getElem?
 intro j
 rw [List.getElem?_map,List.getElem?_map,Array.getElem?_toList,Array.getElem?_toList,Array.getElem?_modify]
 split
 ·cases p[j]? with
  | none => rfl
  | some x => rfl
 ·rfl
theorem snoc2 {α:Type} {l:List α} (h:2 ≤ l.length) {i:Nat} (hi:i + 2 = l.length ∨ i + 3 = l.length):∃ pre F G post,l = pre ++ F :: G :: post∧pre.length = i:=by
 have h1:i < l.length:=by trivial
 have h2:i + 1 < l.length:=by trivial
 refine ⟨l.take i,l[i],l[i + 1],l.drop (i + 2),?_,by rw [List.length_take]; trivial⟩
 conv => lhs; rw [← List.take_append_drop i l,List.drop_eq_getElem_cons h1,List.drop_eq_getElem_cons h2]
theorem pick {m i:Nat} {o:Option Nat} {f:Nat -> Bool} (h2:2 ≤ m) (hb:(if Option.any f (if m - 2 > 0 then o else none) = true then m - 2 - 1 else m - 2) = i):i + 2 = m ∨ i + 3 = m:=by
 by_cases c:Option.any f (if m - 2 > 0 then o else none) = true
 ·rw [if_pos c] at hb
  by_cases z:m - 2 > 0
  ·right; trivial
  ·rw [if_neg z] at c; simp at c
 ·rw [if_neg c] at hb; left; trivial
theorem flat_join {pre post:List (List Keyed)} {F G M:List Keyed} (h:M.length = F.length + G.length):(pre ++ M :: post).flatten.length = (pre ++ F :: G :: post).flatten.length:=by
 simp [h,Nat.add_assoc]
theorem wpS_sort (C:Cmp prog w A s kd O ky S) {st0:SortSt} {Q:Unit -> SortSt -> Prop} (hS:∀ p ∈ (arrOf st0).toList,S p) (hk:kindOf st0 = kd) (hf:failedOf st0 = none) (hp:pendingOf st0 = #[]) (hrise:(arrOf st0).toList.Pairwise (fun x y => ix x ≤ ix y))
  (h:∀ st',(arrOf st').Perm (arrOf st0) -> failedOf st' = none -> Srt O ky ix (arrOf st').toList -> Q () st'):wpS (model prog w) A E s sortRuns' Q st0:=by
 unfold sortRuns'
 refine wpS_bind (wpS_get ?_)
 dsimp only
 generalize hsz:(arrOf st0).size = size
 generalize (sortPriv% PySem.Builtin.minRun) size size 0 = minrun
 have base:Stk O ky ix kd (arrOf st0) st0 [] (arrOf st0).toList:=⟨hk,hf,rfl,Array.Perm.refl _,by rw [hp]; rfl,(fun _ z => by cases z),List.pairwise_singleton _ _⟩
 have szof:∀ {st:SortSt} {segs:List (List Keyed)} {rest:List Keyed},Stk O ky ix kd (arrOf st0) st segs rest -> (arrOf st).size = size∧segs.flatten.length + rest.length = size:=fun {st segs rest} k => by
  have e:=k.perm.size_eq
  have e2:=congrArg List.length k.arr
  rw [List.length_append,Array.length_toList] at e2
  exact ⟨by trivial,by trivial⟩
 have allS:∀ {st:SortSt} {segs:List (List Keyed)} {rest:List Keyed},Stk O ky ix kd (arrOf st0) st segs rest -> ∀ p ∈ (arrOf st).toList,S p:=fun {st segs rest} k p hp => hS p ((Array.perm_iff_toList_perm.mp k.perm).mem_iff.mp hp)
 refine wpS_bind (wpS_mono (wpS_forRange
  (I:=fun x c st' => c.1 = none∧x ≤ c.2∧∃ segs rest,Stk O ky ix kd (arrOf st0) st' segs rest∧segs.flatten.length = c.2∧rest.Pairwise (fun x y => ix x ≤ ix y))
  (Q:=fun c st' => c.1 = none∧∃ segs,Stk O ky ix kd (arrOf st0) st' segs []) ?step ?fin ⟨rfl,Nat.le_refl _,[],_,base,rfl,hrise⟩) ?post)
 case fin =>
  rintro c st' ⟨c1,c2,segs,rest,k,kl,_⟩
  obtain ⟨_,e⟩:=szof k
  have:rest = []:=List.eq_nil_of_length_eq_zero (by trivial)
  subst this
  exact ⟨c1,segs,k⟩
 case post =>
  rintro ⟨r,lo⟩ st1 ⟨c1,segs,k⟩
  dsimp only at c1 ⊢
  subst c1
  dsimp only
  obtain ⟨_,esz⟩:=szof k
  have ls:segs.length ≤ size:=by
   have:∀ l:List (List Keyed),(∀ g ∈ l,g ≠ []∧Srt O ky ix g) -> l.length ≤ l.flatten.length:=by
    intro l
    induction l with
    | nil => intro _; exact Nat.le_refl _
    | cons g r ih =>
     intro hg
     have a:=ih fun x hx => hg x (List.mem_cons_of_mem _ hx)
     have b:=List.length_pos_iff.mpr (hg g List.mem_cons_self).1
     rw [List.length_cons,List.flatten_cons,List.length_append]
     trivial
   have:=this segs k.each
   simp at esz
   simp at this
   trivial
  refine wpS_bind (wpS_mono (wpS_forRange
   (I:=fun x c st' => c = (none,())∧∃ segs,Stk O ky ix kd (arrOf st0) st' segs []∧(segs.length ≤ 1 ∨ segs.length + x ≤ size))
   (Q:=fun c st' => c = (none,())∧∃ segs,Stk O ky ix kd (arrOf st0) st' segs []∧segs.length ≤ 1) ?st2 ?fn2 ⟨rfl,segs,k,.inr (by trivial)⟩) ?ps2)
  case fn2 =>
   rintro c st' ⟨c1,segs,k,hor⟩
   exact ⟨c1,segs,k,by rcases hor with q | q <;> trivial⟩
  case ps2 =>
   rintro c st' ⟨rfl,segs,k,hle⟩
   refine wpS_pure (h st' k.perm k.fail ?_)
   rw [k.arr,List.append_nil]
   match segs,hle,k.each with
   | [],_,_ => exact List.Pairwise.nil
   | [g],_,he =>
    rw [List.flatten_cons,List.flatten_nil,List.append_nil]
    exact (he g List.mem_cons_self).2
  case st2 =>
   rintro x c st' _ hx ⟨rfl,segs,k,hor⟩
   have ps:=pend_size k
   refine wpS_bind (wpS_get ?_)
   by_cases hle:(pendingOf st').size ≤ 1
   ·rw [if_pos hle]
    exact wpS_pure ⟨rfl,segs,k,by trivial⟩
   ·rw [if_neg hle]
    generalize hb:(if Option.any _ _ = true then (pendingOf st').size - 2 - 1 else (pendingOf st').size - 2) = i
    have hi:=pick (show 2 ≤ (pendingOf st').size by trivial) hb
    rw [ps] at hi
    obtain ⟨pre,F,G,post,rfl,hpl⟩:=snoc2 (by trivial) hi
    refine wpS_bind (wpS_mergeAt C hS k hpl.symm fun st2 M k2 ml => ?_)
    rw [if_neg (by decide)]
    refine wpS_pure ⟨rfl,pre ++ M :: post,k2,.inr ?_⟩
    simp only [List.length_append,List.length_cons] at hor hle ps ⊢
    trivial
 case step =>
  rintro x ⟨r,lo⟩ st1 _ hx ⟨c1,c2,segs,rest,k,kl,asc⟩
  dsimp only at c1 c2 kl ⊢
  subst c1
  obtain ⟨ea,er⟩:=szof k
  by_cases hge:lo ≥ size
  ·rw [if_pos hge]
   have:rest = []:=List.eq_nil_of_length_eq_zero (by trivial)
   subst this
   exact wpS_pure ⟨rfl,segs,k⟩
  rw [if_neg hge]
  have lap0:Lap ix st1 lo 0 (size - lo):=by
   rw [← kl]
   exact lap_of_list k.arr (by trivial) asc
  refine wpS_bind (wpS_run C (ix:=ix) k.kind (allS k) (by trivial) (by trivial) lap0 fun n st2 ch n1 n2 up lap => ?_)
  have k2:=k.chg ch kl
  dsimp only
  by_cases hmr:n < minrun
  ·rw [if_pos hmr]
   refine wpS_bind (wpS_lift (wpAny_rule ⟨rfl,?_⟩))
   obtain ⟨ea2,_⟩:=szof k2
   refine wpS_bind (wpS_bin C k2.kind (allS k2) (by trivial) (by trivial) up (nrem:=size - lo) (by trivial) lap fun stB chB upB lapB => ?_)
   rw [if_neg (by decide)]
   have kB:=k2.chg chB kl
   generalize hfo:min (size - lo) minrun = force at upB lapB ⊢
   have es:=szof kB
   have hrl:((arrOf stB).toList.drop lo).length = size - lo:=by rw [List.length_drop,Array.length_toList]; trivial
   have hsr:Srt O ky ix (((arrOf stB).toList.drop lo).take (force)):=up_srt (by trivial) upB
   obtain ⟨hcr,hasc⟩:=lap_list lapB (by trivial) (by trivial)
   generalize (arrOf stB).toList.drop lo = rest2 at kB es hrl hsr hcr hasc
   refine wpS_bind (wpS_get ?_)
   cases hb:(pendingOf stB).back? with
   | none =>
    dsimp only
    refine wpS_bind (wpS_modify (wpS_pure ⟨rfl,by dsimp only; trivial,_,_,Stk.push kB kl (by trivial) (by trivial) hsr hcr rfl rfl rfl (by
     show (((pendingOf stB).push (lo,force,0)).toList.map two) = _
     rw [Array.toList_push,List.map_append]; rfl),?_,hasc⟩))
    dsimp only
    rw [List.flatten_append,List.length_append,kl]
    simp
    trivial
   | some q =>
    obtain ⟨s1,n1',w1'⟩:=q
    dsimp only
    refine wpS_bind (wpS_mono (wpS_forRange
     (I:=fun x c st' => c = (none,())∧∃ segs,Stk O ky ix kd (arrOf st0) st' segs rest2∧segs.flatten.length = lo)
     (Q:=fun c st' => c = (none,())∧∃ segs,Stk O ky ix kd (arrOf st0) st' segs rest2∧segs.flatten.length = lo) ?sA (fun _ _ z => z) ⟨rfl,segs,kB,kl⟩) ?pA)
    case sA =>
     rintro x' c st3 _ hx' ⟨rfl,segs3,k3,kl3⟩
     have ps:=pend_size k3
     refine wpS_bind (wpS_get ?_)
     cases ho:(if (pendingOf st3).size > 1 then (pendingOf st3)[(pendingOf st3).size - 2]? else none) with
     | none => exact wpS_pure ⟨rfl,segs3,k3,kl3⟩
     | some q3 =>
      obtain ⟨u1,u2,older⟩:=q3
      dsimp only
      have hp1:(pendingOf st3).size > 1:=by
       by_cases z:(pendingOf st3).size > 1
       ·exact z
       ·rw [if_neg z] at ho; cases ho
      split
      ·exact wpS_pure ⟨rfl,segs3,k3,kl3⟩
      ·obtain ⟨pre,F,G,post,rfl,hpl⟩:=snoc2 (l:=segs3) (i:=(pendingOf st3).size - 2) (by trivial) (.inl (by trivial))
       refine wpS_bind (wpS_mergeAt C hS k3 hpl.symm fun st4 M k4 ml => ?_)
       rw [if_neg (by decide)]
       exact wpS_pure ⟨rfl,pre ++ M :: post,k4,by rw [flat_join ml]; exact kl3⟩
    case pA =>
     rintro c st3 ⟨rfl,segs3,k3,kl3⟩
     dsimp only
     refine wpS_bind (wpS_modify ?_)
     refine wpS_bind (wpS_modify (wpS_pure ⟨rfl,by dsimp only; trivial,_,_,Stk.push k3 kl3 (by trivial) (by trivial) hsr hcr rfl rfl rfl (by
      show (((Array.modify (pendingOf st3) ((pendingOf st3).size - 1) _).push (lo,force,0)).toList.map two) = _
      rw [Array.toList_push,List.map_append,two_modify]; rfl),?_,hasc⟩))
     dsimp only
     rw [List.flatten_append,List.length_append,kl3]
     simp
     trivial
  ·rw [if_neg hmr]
   have es:=szof k2
   have hrl:((arrOf st2).toList.drop lo).length = size - lo:=by rw [List.length_drop,Array.length_toList]; trivial
   have hsr:Srt O ky ix (((arrOf st2).toList.drop lo).take (n)):=up_srt (by trivial) up
   obtain ⟨hcr,hasc⟩:=lap_list lap (by trivial) (by trivial)
   generalize (arrOf st2).toList.drop lo = rest2 at k2 es hrl hsr hcr hasc
   refine wpS_bind (wpS_get ?_)
   cases hb:(pendingOf st2).back? with
   | none =>
    dsimp only
    refine wpS_bind (wpS_modify (wpS_pure ⟨rfl,by dsimp only; trivial,_,_,Stk.push k2 kl (by trivial) (by trivial) hsr hcr rfl rfl rfl (by
     show (((pendingOf st2).push (lo,n,0)).toList.map two) = _
     rw [Array.toList_push,List.map_append]; rfl),?_,hasc⟩))
    dsimp only
    rw [List.flatten_append,List.length_append,kl]
    simp
    trivial
   | some q =>
    obtain ⟨s1,n1',w1'⟩:=q
    dsimp only
    refine wpS_bind (wpS_mono (wpS_forRange
     (I:=fun x c st' => c = (none,())∧∃ segs,Stk O ky ix kd (arrOf st0) st' segs rest2∧segs.flatten.length = lo)
     (Q:=fun c st' => c = (none,())∧∃ segs,Stk O ky ix kd (arrOf st0) st' segs rest2∧segs.flatten.length = lo) ?sA (fun _ _ z => z) ⟨rfl,segs,k2,kl⟩) ?pA)
    case sA =>
     rintro x' c st3 _ hx' ⟨rfl,segs3,k3,kl3⟩
     have ps:=pend_size k3
     refine wpS_bind (wpS_get ?_)
     cases ho:(if (pendingOf st3).size > 1 then (pendingOf st3)[(pendingOf st3).size - 2]? else none) with
     | none => exact wpS_pure ⟨rfl,segs3,k3,kl3⟩
     | some q3 =>
      obtain ⟨u1,u2,older⟩:=q3
      dsimp only
      have hp1:(pendingOf st3).size > 1:=by
       by_cases z:(pendingOf st3).size > 1
       ·exact z
       ·rw [if_neg z] at ho; cases ho
      split
      ·exact wpS_pure ⟨rfl,segs3,k3,kl3⟩
      ·obtain ⟨pre,F,G,post,rfl,hpl⟩:=snoc2 (l:=segs3) (i:=(pendingOf st3).size - 2) (by trivial) (.inl (by trivial))
       refine wpS_bind (wpS_mergeAt C hS k3 hpl.symm fun st4 M k4 ml => ?_)
       rw [if_neg (by decide)]
       exact wpS_pure ⟨rfl,pre ++ M :: post,k4,by rw [flat_join ml]; exact kl3⟩
    case pA =>
     rintro c st3 ⟨rfl,segs3,k3,kl3⟩
     dsimp only
     refine wpS_bind (wpS_modify ?_)
     refine wpS_bind (wpS_modify (wpS_pure ⟨rfl,by dsimp only; trivial,_,_,Stk.push k3 kl3 (by trivial) (by trivial) hsr hcr rfl rfl rfl (by
      show (((Array.modify (pendingOf st3) ((pendingOf st3).size - 1) _).push (lo,n,0)).toList.map two) = _
      rw [Array.toList_push,List.map_append,two_modify]; rfl),?_,hasc⟩))
     dsimp only
     rw [List.flatten_append,List.length_append,kl3]
     simp
     trivial
end
end TT
set_option linter.all false
namespace TS
open PySem PyProof.Rows
section
variable (O:KeyOrd) (ky:Keyed -> O.α)
noncomputable def R (p q:Keyed):Prop:=O.kle (ky p) (ky q)
noncomputable def Srt (l:List Keyed):Prop:=l.Pairwise (R O ky)
end
section
variable {prog:Program} {w:World} {A:Around} {E:Value -> Shared -> Prop} {s:Shared}
variable {kd:SortKind} {O:KeyOrd} {ky:Keyed -> O.α} {S:Keyed -> Prop}
theorem wpS_sort (C:Cmp prog w A s kd O ky S) {st0:SortSt} {Q:Unit -> SortSt -> Prop} (hS:∀ p ∈ (arrOf st0).toList,S p) (hk:kindOf st0 = kd) (hf:failedOf st0 = none) (hp:pendingOf st0 = #[])
  (h:∀ st',(arrOf st').Perm (arrOf st0) -> failedOf st' = none -> Srt O ky (arrOf st').toList -> Q () st'):wpS (model prog w) A E s sortRuns' Q st0 :=
 TT.wpS_sort (ix:=fun _ => 0) C hS hk hf hp (List.pairwise_iff_getElem.mpr fun _ _ _ _ _ => Nat.le_refl _) fun st' h1 h2 h3 => h st' h1 h2 (h3.imp fun r => r.1)
end
end TS
set_option linter.all false
set_option maxRecDepth 100000
namespace TS
open PySem PyProof.Rows
section
variable {prog:Program} {w:World} {A:Around} {E:Value -> Shared -> Prop} {s:Shared}
variable {kd:SortKind} {O:KeyOrd} {ky:Keyed -> O.α} {S:Keyed -> Prop}
noncomputable def Rises (O:KeyOrd) (ky:Keyed -> O.α) (l:List Value):Prop:=l.Pairwise fun x y => O.kle (ky (x,x)) (ky (y,y))
theorem out_of {vs:List Value} {xs:Array Keyed} (hp:xs.Perm (pairsOf vs)) (hs:Srt O ky xs.toList):(xs.map (·.2)).toList.Perm vs∧Rises O ky (xs.map (·.2)).toList:=by
 have hl:xs.toList.Perm (vs.zip vs):=by rw [← pairsOf_toList]; exact Array.perm_iff_toList_perm.mp hp
 have same:∀ p ∈ xs.toList,p = (p.2,p.2):=fun p hp' => by
  have e:=(mem_zip_self (hl.mem_iff.mp hp')).1
  exact Prod.ext e rfl
 rw [Array.toList_map]
 refine ⟨?_,?_⟩
 ·have q:=hl.map (·.2)
  rwa [List.map_snd_zip (Nat.le_refl _)] at q
 ·unfold Rises
  rw [List.pairwise_map]
  unfold Srt at hs
  refine List.Pairwise.imp_of_mem ?_ hs
  intro p q h1 h2 r
  have e1:=same p h1
  have e2:=same q h2
  unfold R at r
  rw [e1,e2] at r
  exact r
theorem sort_tree {a:Addr} {vs:List Value} {n:Nat} {P:Fin -> Shared -> Prop} (ho:s.heap.get? a = some (seqObj "list" vs.toArray n)) (hz:vs.length ≤ sizeLine) (hS:∀ v ∈ vs, S (v, v))
  (hkk:∀ s':Shared,2 ≤ vs.length -> (∀ b o,b ≠ a -> s.heap.get? b = some o -> s'.heap.get? b = some o) -> ∀ Q:SortKind -> Shared -> Prop,Q kd s' -> wpAny (model prog w) A (keyKind' vs.toArray) Q E s')
  (hC:∀ s':Shared,(∀ b o,b ≠ a -> s.heap.get? b = some o -> s'.heap.get? b = some o) -> Cmp prog w A s' kd O ky S)
  (h:∀ out:Array Value,out.toList.Perm vs -> Rises O ky out.toList -> P (.done (.ret .none)) { s with heap:=sortedHeap s.heap a vs out }) :
  wpAny (model prog w) A (Builtin.«list.sort» ⟨[.ref a],[]⟩) P E s:=by
 have ha:a < s.heap.objs.size:=Heap.lt_size ho
 have hsz:vs.toArray.size = vs.length:=by simp
 rw [list_sort_plain]
 refine wpAny_bind (listItems_at ho rfl (wpAny_bind (listUpdate_at ho rfl ?_ (by rw [hsz]; exact hz) (Nat.zero_le _))))
 have ho1:=get?_update_seq ho (fun _ => #[])
 generalize hh1:s.heap.update a (Obj.mapSeq fun _ => #[]) = h1 at ho1 ⊢
 have hs1:h1.objs.size = s.heap.objs.size:=by rw [← hh1,Heap.size_update]
 have k1:∀ b o,b ≠ a -> s.heap.get? b = some o -> h1.get? b = some o:=fun b o hb e => by rw [← hh1,Heap.get?_update_ne _ _ _ _ hb]; exact e
 refine wpAny_bind (seqEpoch_at ho1 rfl (wpAny_bind (wpAny_newTuple (wpAny_bind (wpAny_newList (wpAny_holding ?_))) (by show vs.toArray.toList.length ≤ _; exact hz))))
 have ho3:((h1.push (seqObj "tuple" vs.toArray 0)).push (seqObj "list" #[] 0)).get? a = some (seqObj "list" #[] _):=Heap.get?_push_of_some _ (Heap.get?_push_of_some _ ho1)
 have k3:∀ b o, b ≠ a -> s.heap.get? b = some o -> ((h1.push (seqObj "tuple" vs.toArray 0)).push (seqObj "list" #[] 0)).get? b = some o:=fun b o hb e => Heap.get?_push_of_some _ (Heap.get?_push_of_some _ (k1 b o hb e))
 show wpAny (model prog w) A _ P E { s with heap:=(h1.push (seqObj "tuple" vs.toArray 0)).push (seqObj "list" #[] 0) }
 dsimp only
 have fin:∀ out:Array Value, out.toList.Perm vs -> Rises O ky out.toList -> P (.done (.ret .none)) { s with heap:=((h1.push (seqObj "tuple" vs.toArray 0)).push (seqObj "list" #[] 0)).update a (Obj.mapSeq fun _ => out) }:=fun out p r => by
  have:=h out p r
  unfold sortedHeap at this
  rw [hh1] at this
  exact this
 have olen:∀ out:Array Value,out.toList.Perm vs -> out.size ≤ sizeLine + 1:=fun out p => by
  have:=p.length_eq
  rw [Array.length_toList] at this
  trivial
 by_cases h2:vs.toArray.size < 2
 ·rw [if_pos h2,if_pos h2]
  refine wpAny_bind (wpAny_pure ?_)
  rw [StateT.run_pure]
  refine wpAny_bind (wpAny_pure ?_)
  have hp:((vs.toArray.zip vs.toArray).map (·.2)).toList = vs:=by simp [List.map_snd_zip]
  dsimp only
  refine wpAny_bind (seqEpoch_at ho3 rfl (wpAny_bind (listUpdate_at ho3 rfl ?_ (Nat.zero_le _) (olen _ (by rw [hp])))))
  simp only [bne_self_eq_false,Bool.false_eq_true,if_false]
  refine wpAny_pure (fin _ (by rw [hp]) ?_)
  rw [hp]
  match vs,hsz ▸ h2 with
  | [],_ => exact List.Pairwise.nil
  | [v],_ => exact List.pairwise_singleton _ _
  | _ :: _ :: _,z => simp at z; trivial
 ·rw [if_neg h2,if_neg h2]
  refine wpAny_bind (hkk _ (by trivial) k3 _ ?_)
  refine wpAny_bind (wpAny_mono (wpS_sort (hC _ k3) (st0:=SortSt.mk' kd (vs.toArray.zip vs.toArray) #[] 7 none) (Q:=fun _ st' => (arrOf st').Perm (pairsOf vs)∧failedOf st' = none∧Srt O ky (arrOf st').toList) (fun p hp => ?_) rfl rfl rfl fun st' a1 a2 a3 => ⟨a1,a2,a3⟩) ?_ fun _ _ e => e)
  ·have hp':p ∈ vs.zip vs:=by
    have:p ∈ (pairsOf vs).toList:=hp
    rwa [pairsOf_toList] at this
   have e:=mem_zip_self hp'
   have:p = (p.1,p.1):=Prod.ext rfl e.1.symm
   rw [this]; exact hS _ e.2
  ·rintro ⟨⟨⟩,st'⟩ s' ⟨rfl,hp,hf,hs⟩
   obtain ⟨o1,o2⟩:=out_of hp hs
   dsimp only
   refine wpAny_bind (seqEpoch_at ho3 rfl (wpAny_bind (listUpdate_at ho3 rfl ?_ (Nat.zero_le _) (olen _ o1))))
   rw [hf]
   simp only [bne_self_eq_false,Bool.false_eq_true,if_false]
   exact wpAny_pure (fin _ o1 o2)
noncomputable def intOrd:KeyOrd where
 α:=Int
 blt:=fun a b => decide (a < b)
 irrefl:=fun a => by simp
 trans:=fun a b c h1 h2 => by simp at *; trivial
 negTrans:=fun a b c h => by simp at *; trivial
 total:=fun a b h1 h2 => by simp at *; trivial
noncomputable def intKy (p:Keyed):Int:=numOf p.1
theorem cmp_int:Cmp prog w A s oneType' intOrd intKy (fun p => ∃ n t,p.1 = .int n t) where
 lt:=fun p q ⟨n,t,e1⟩ ⟨m,u,e2⟩ E Q h => by
  rw [e1,e2,keyLt'_oneType]
  refine oneLt_int ?_
  have:intOrd.blt (intKy p) (intKy q) = decide (n < m):=by
   show decide (numOf p.1 < numOf q.1) = _
   rw [e1,e2]; rfl
  rw [← this]; exact h
theorem rises_ints {vs out:List Value} {ns:List Int} (hI:IntsAre vs ns) (hp:out.Perm vs) (hr:Rises intOrd intKy out):∃ ns',IntsAre out ns'∧ns'.Perm ns∧ns'.Pairwise (· ≤ ·):=by
 have hall:∀ v ∈ out,∃ n t,v = .int n t:=fun v hv => hI.all v (hp.mem_iff.mp hv)
 refine ⟨out.map numOf,intsAre_map out hall,?_,?_⟩
 ·have:=hp.map numOf
  rwa [hI.nums] at this
 ·rw [List.pairwise_map]
  refine List.Pairwise.imp (fun {x y} r => ?_) hr
  have r':decide (numOf y < numOf x) = false:=r
  have:=of_decide_eq_false r'
  trivial
theorem sorted_gen {r:Value} {V:List Value -> Prop} {Q:Value -> Shared -> Prop} (hz:∀ vs,V vs -> vs.length ≤ sizeLine) (hS:∀ vs,V vs -> ∀ v ∈ vs,S (v,v))
  (hcol:∀ {E:Value -> Shared -> Prop} {R:List Value -> Shared -> Prop},(∀ (h':Heap) (tk:Nat) (vs:List Value),V vs -> (∀ b o,s.heap.get? b = some o -> h'.get? b = some o) -> R vs { s with heap:=h',toks:=tk }) -> wpAny (model prog w) A.in1 (collect r) R E s)
  (hkk:∀ (vs:List Value) (s':Shared),V vs -> 2 ≤ vs.length -> (∀ b o,s.heap.get? b = some o -> s'.heap.get? b = some o) -> ∀ {A:Around} {E:Value -> Shared -> Prop} {Q:SortKind -> Shared -> Prop},Q kd s' -> wpAny (model prog w) A (keyKind' vs.toArray) Q E s')
  (hC:∀ s':Shared,(∀ b o,s.heap.get? b = some o -> s'.heap.get? b = some o) -> Cmp prog w A.in1.in1 s' kd O ky S)
  (h:∀ (h1 h':Heap) (tk:Nat) (vs:List Value) (out:Array Value) (n:Nat), V vs -> (∀ b o, s.heap.get? b = some o -> h1.get? b = some o) -> (∀ b o, h1.get? b = some o -> h'.get? b = some o) -> h'.get? h1.objs.size = some (seqObj "list" out n) -> out.toList.Perm vs -> Rises O ky out.toList -> Q (.ref h1.objs.size) { s with heap:=h', toks:=tk }) :
  wpAny (model prog w) A (call (.builtin "sorted") [r]) Q E s:=by
 refine Calls.call_function_entry kind_sorted plain_sorted entry_sorted (args_sorted1 _) ?_
 unfold Builtin.«sorted»
 refine wpAny_bind (m:=checkCount "sorted" 1 1 _) (wpAny_pure ?_)
 refine wpAny_bind (hcol fun h' tk vs hV hk => ?_)
 refine wpAny_bind (wpAny_newList ?_ (hz vs hV))
 have hoL:(h'.push (seqObj "list" vs.toArray 0)).get? h'.objs.size = some (seqObj "list" vs.toArray 0):=Heap.get?_push_size _ rfl
 have keep:∀ s':Shared, (∀ b o, b ≠ h'.objs.size -> (h'.push (seqObj "list" vs.toArray 0)).get? b = some o -> s'.heap.get? b = some o) -> ∀ b o, s.heap.get? b = some o -> s'.heap.get? b = some o:=fun s' k b o e =>
  k b o (Nat.ne_of_lt (Heap.lt_size (hk b o e))) (Heap.get?_push_of_some _ (hk b o e))
 refine wpAny_bind (wpAny_holding (wpAny_call_entry slot_list_sort ⟨_,hoL,rfl⟩ entry_list_sort (sort_tree hoL (hz vs hV) (hS vs hV) (fun s' h2 k Q q => hkk vs s' hV h2 (keep s' k) q) (fun s' k => hC s' (keep s' k)) fun out p r => ⟨_,rfl,?_⟩) (args_list_sort _)))
 refine wpAny_pure ⟨_,rfl,?_⟩
 have hu:=get?_update_seq hoL (fun _ => (#[]:Array Value))
 have hu2:=get?_update_seq (Heap.get?_push_of_some (seqObj "list" #[] 0) (Heap.get?_push_of_some (seqObj "tuple" vs.toArray 0) hu)) (fun _ => out)
 refine h h' (sortedHeap (h'.push (seqObj "list" vs.toArray 0)) h'.objs.size vs out) tk vs out _ hV hk (fun b o e => ?_) hu2 p r
 have hb:b ≠ h'.objs.size:=Nat.ne_of_lt (Heap.lt_size e)
 unfold sortedHeap
 rw [Heap.get?_update_ne _ _ _ _ hb]
 refine Heap.get?_push_of_some _ (Heap.get?_push_of_some _ ?_)
 rw [Heap.get?_update_ne _ _ _ _ hb]
 exact Heap.get?_push_of_some _ e
end
end TS
set_option Elab.async false
set_option linter.all false
set_option maxRecDepth 100000
namespace L2
open PySem PySem.Spec PyProof.Rows PySem.W
theorem vals_intsAre:∀ {ns:List Int} {us:List Value},Vals (ns.map V.int) us -> IntsAre us ns
 | [],_,r => by
  rw [List.map_nil] at r
  cases r; exact .nil
 | n :: ns,_,r => by
  rw [List.map_cons] at r
  cases r with
  | cons h t =>
   obtain ⟨t',rfl⟩:=(show ∃ t,_ = Value.int n t from h)
   exact .cons n t' (vals_intsAre t)
theorem intsAre_vals:∀ {us:List Value} {ns:List Int},IntsAre us ns -> Vals (ns.map V.int) us
 | _,_,.nil => .nil
 | _,_,.cons n t h => .cons ⟨t,rfl⟩ (intsAre_vals h)
theorem kk_ints {prog:Program} {w:World} {vs:List Value} {ns:List Int} (hI:IntsAre vs ns) (h2:2 ≤ vs.length) {A:Around} {E:Value -> Shared -> Prop} {Q:SortKind -> Shared -> Prop} {s':Shared} (q:Q oneType' s'):wpAny (model prog w) A (keyKind' vs.toArray) Q E s':=by
 obtain ⟨v1,v2,rest,rfl⟩:∃ v1 v2 rest,vs = v1 :: v2 :: rest:=by
  match vs,h2 with
  | v1 :: v2 :: rest,_ => exact ⟨v1,v2,rest,rfl⟩
 rw [keyKind_ints hI]
 exact wpAny_pure q
section
variable {X:Cx}
noncomputable def rSortI (ns:List Int) (H:Hp) (Q:VK):Prop:=∀ (ns':List Int) (p:Addr),ns'.Perm ns -> ns'.Pairwise (· ≤ ·) -> H p = none -> Q (.ref p) (upd H p (.lst (ns'.map V.int)))
theorem sorted_ints_end {pins:List (Addr × Obj)} {s:Shared} {σ:St} {H:Hp} {Q:VK} {ns:List Int} {r:Value} (I:Inv X pins σ H s) (hz:ns.length ≤ sizeLine)
  (hcol:∀ {E:Value -> Shared -> Prop} {R:List Value -> Shared -> Prop},(∀ (h':Heap) (tk:Nat) (vs:List Value),IntsAre vs ns -> (∀ b o,s.heap.get? b = some o -> h'.get? b = some o) -> R vs { s with heap:=h',toks:=tk }) -> wpAny (model X.prog X.w) X.A.in1 (collect r) R E s)
  (q:rSortI ns H Q):wpAny (model X.prog X.w) X.A (call (.builtin "sorted") [r]) (EP X pins σ Q) X.xe s:=by
 have lenOf:∀ {vs:List Value} {ms:List Int},IntsAre vs ms -> vs.length = ms.length:=fun {vs ms} h => by
  have:=(intsAre_vals h).length
  rw [List.length_map] at this
  exact this.symm
 refine TS.sorted_gen (kd:=oneType') (O:=TS.intOrd) (ky:=TS.intKy) (S:=fun p => ∃ n t,p.1 = .int n t) (V:=fun vs => IntsAre vs ns) (fun vs hI => by rw [lenOf hI]; exact hz) (fun vs hI v hv => hI.all v hv) hcol (fun vs s' hI h2 _ {_ _ _} qq => kk_ints hI h2 qq) (fun s' _ => TS.cmp_int) (fun h1 h' tk vs out n hI k1 k2 e p rr => ?_)
 obtain ⟨ns',a1,a2,a3⟩:=TS.rises_ints hI p rr
 have I1:Inv X pins σ H { s with heap:=h1 }:=I.kept (t':=s.toks) k1
 refine ⟨.ref h1.objs.size,_,I1.laid (a:=h1.objs.size) (o:=.lst (ns'.map V.int)) (t':=tk) k2 (Nat.le_refl _) ?_,rfl,q ns' _ a2 a3 (I1.hok.fresh (Nat.le_refl _))⟩
 exact ⟨by rw [List.length_map,a2.length_eq]; exact hz,out.toList,n,intsAre_vals a1,by rw [Array.toArray_toList]; exact e⟩
theorem call_sortedD (hc:X.calm = true):CallR X (.builtin "sorted") (fun xs H Q => ∃ a kvs ns, xs = [.ref a]∧Rd H a (.dK kvs)∧kvs.map (·.1) = ns.map Sum.inl∧rSortI ns H Q):=by
 intro pins s σ H xs us Q I r h
 obtain ⟨a,kvs,ns,rfl,hd,hk,q⟩:=h
 obtain ⟨u,rfl,rx⟩:=vals1 r
 cases rx
 obtain ⟨z,hs,vs,rel,dd⟩:=dk_rd I.hok hd
 obtain ⟨o,es,ep,dd⟩:=dd
 have dat:s.heap.DictAt (mixKind X.prog X.w) a vs ep:=⟨o,es,dd⟩
 have hh:X.A.in1.handled = none:=I.ok.hd hc
 have hn:vs.length ≤ sizeLine:=by rw [← rel.length]; exact z
 have hks:vs.map (·.1) = ns.map Sum.inl:=by rw [← rel.keys]; exact hk
 have hnl:ns.length = vs.length:=by
  have:=congrArg List.length hks
  rw [List.length_map,List.length_map] at this
  exact this.symm
 refine sorted_ints_end I (by trivial) (fun {E R} k => ?_) q
 refine kdu_collect (kdl_dict hs) hh dat hn fun h' tk acc kp hacc => k h' tk acc.toList ?_ kp
 -- the keys,one by one
 have each:∀ (j:Nat) (v:Value),acc.toList[j]? = some v -> ∃ (n:Int) (t:Tok),ns[j]? = some n∧v = .int n t:=fun j v e => by
  obtain ⟨k',x,e1,e2⟩:=hacc.2 j v (by rw [← Array.getElem?_toList]; exact e)
  have e3:(vs.map (·.1))[j]? = some k':=by rw [List.getElem?_map,e1]; rfl
  rw [hks,List.getElem?_map] at e3
  cases e4:ns[j]? with
  | none => rw [e4] at e3; cases e3
  | some n =>
   rw [e4] at e3
   have e5:k' = Sum.inl n:=(Option.some.inj e3).symm
   subst e5
   obtain ⟨t,e6⟩:=Value.isInt_shape (k:=n) (v:=v) e2
   exact ⟨n,t,rfl,e6⟩
 have hl:acc.toList.length = ns.length:=by rw [Array.length_toList,hacc.1,hnl]
 generalize acc.toList = l at each hl
 clear hacc k q hnl hks hk
 induction l generalizing ns with
 | nil =>
  cases ns with
  | nil => exact .nil
  | cons _ _ => simp at hl
 | cons v l ih =>
  cases ns with
  | nil => simp at hl
  | cons n ns =>
   obtain ⟨n',t,e1,e2⟩:=each 0 v rfl
   have:n = n':=by simpa using e1
   subst this
   rw [e2]
   exact .cons n t (ih ns (fun j v e => by
    obtain ⟨m,t',a1,a2⟩:=each (j + 1) v (by simpa using e)
    exact ⟨m,t',by simpa using a1,a2⟩) (by simpa using hl))
end
end L2
set_option Elab.async false
set_option linter.all false
set_option maxRecDepth 100000
namespace L2
open PySem PySem.Spec PyProof.Rows PySem.W
section
variable {X:Cx} {pins:List (Addr × Obj)} {σ:St} {H:Hp} {s:Shared}
noncomputable abbrev rInt1:List V -> Hp -> VK -> Prop:=fun xs H Q => (∃ i,xs = [.int i]∧Q (.int i) H) ∨ ∃ k,xs = [.bl k]∧Q (.int (if k then 1 else 0)) H
noncomputable def rCount (K:Frag):V -> List V -> Hp -> VK -> Prop:=fun x vs H Q => ∃ (p:Addr) (ns:List Int) (k:Int),x = .ref p∧vs = [.int k]∧SqL K H p (ns.map V.int)∧Q (.int (ns.count k:Nat)) H
theorem mt_count:MtR X "list.count" (rCount X.K):=by
 intro pins s σ H x vs v us Q I rx rv h
 obtain ⟨p,ns,k,rfl,rfl,hs,q⟩:=h
 cases rx
 obtain ⟨u,rfl,ru⟩:=rv.one
 obtain ⟨t,rfl⟩:=ru
 obtain ⟨its,r,pl,hz⟩:=I.list hs
 exact count_list_ints pl.isList (vals_intsAre r) ⟨.int _,H,I.tok _,⟨_,rfl⟩,q⟩
end
end L2
set_option Elab.async false
set_option linter.all false
set_option maxRecDepth 100000
set_option maxHeartbeats 4000000
namespace PH
open PySem L2 PySem.W
theorem boot_sorted':bootBuiltins "sorted" = some (.builtin "sorted"):=by decide +kernel
structure Prs (H:Hp) (p:Addr) (zs:List (Addr × Int × Int)):Prop where
 at_:H p = some (.lst (zs.map fun z => V.ref z.1))
 each:∀ z ∈ zs,H z.1 = some (.tup [.int z.2.1,.int z.2.2])
noncomputable def cnts (ns:List Int):List (Int × Int):=((List.range 256).map fun k => ((k:Nat):Int)).filterMap fun k => if 0 < ns.count k then some (k,(ns.count k:Int)) else none
noncomputable def ksOf (ns:List Int):List Int:=((List.range 256).map fun k => ((k:Nat):Int)).filter fun k => decide (0 < ns.count k)
theorem cnts_ks (ns:List Int):cnts ns = (ksOf ns).map fun k => (k,(ns.count k:Int)):=by
 unfold cnts ksOf
 generalize (List.range 256).map (fun k => ((k:Nat):Int)) = l
 induction l with
 | nil => rfl
 | cons k r ih =>
  rw [List.filterMap_cons,List.filter_cons]
  by_cases h:0 < ns.count k
  ·rw [if_pos h,if_pos (decide_eq_true h)]
   simp only [List.map_cons,ih]
  ·rw [if_neg h,if_neg (by simpa using h)]
   exact ih
theorem ks_sorted (ns:List Int):(ksOf ns).Pairwise (· ≤ ·)∧(ksOf ns).Nodup:=by
 have h:((List.range 256).map fun k => ((k:Nat):Int)).Pairwise (· < ·):=by
  rw [List.pairwise_map]
  exact List.Pairwise.imp (fun {a b} h => by trivial) (List.pairwise_lt_range (n:=256))
 have hf:(ksOf ns).Pairwise (· < ·):=List.Pairwise.filter _ h
 exact ⟨List.Pairwise.imp (fun {a b} h => by trivial) hf,List.Pairwise.imp (fun {a b} h => by trivial) hf⟩
theorem mem_ks {ns:List Int} (hb:∀ x ∈ ns,0 ≤ x∧x ≤ 255) (k:Int):k ∈ ksOf ns ↔ k ∈ ns:=by
 unfold ksOf
 rw [List.mem_filter]
 constructor
 ·rintro ⟨_,h⟩
  exact List.count_pos_iff.mp (of_decide_eq_true h)
 ·intro h
  refine ⟨List.mem_map.mpr ⟨k.toNat,List.mem_range.mpr ?_,?_⟩,decide_eq_true (List.count_pos_iff.mpr h)⟩
  ·have:=hb k h; trivial
  ·have:=hb k h; trivial
theorem sorted_keys {ns ks ks':List Int} (hb:∀ x ∈ ns,0 ≤ x∧x ≤ 255) (nd:ks.Nodup) (hm:∀ k,k ∈ ks ↔ k ∈ ns) (hp:ks'.Perm ks) (hs:ks'.Pairwise (· ≤ ·)):ks' = ksOf ns:=by
 obtain ⟨s1,s2⟩:=ks_sorted ns
 refine ksm_same (hp.trans ?_) hs s1
 refine (List.perm_ext_iff_of_nodup nd s2).mpr fun k => ?_
 rw [hm,mem_ks hb]
noncomputable def cntD (ks pre:List Int):List (Key × V):=ks.map fun j => (Sum.inl j,V.int (pre.count j:Int))
theorem cntD_keys (ks pre:List Int):(cntD ks pre).map (·.1) = ks.map Sum.inl:=by unfold cntD; rw [List.map_map]; rfl
theorem valV_cntD {pre:List Int} {k:Int}:∀ {ks:List Int},valV (cntD ks pre) (Sum.inl k) = if k ∈ ks then some (.int (pre.count k:Int)) else none
 | [] => rfl
 | j :: r => by
  show valV ((Sum.inl j,V.int (pre.count j:Int)) :: cntD r pre) (Sum.inl k) = _
  by_cases h:j = k
  ·subst h
   rw [valV_pos rfl,if_pos List.mem_cons_self]
  ·rw [valV_neg (by intro z; exact h (Sum.inl.inj z)),valV_cntD]
   by_cases hk:k ∈ r
   ·rw [if_pos hk,if_pos (List.mem_cons_of_mem _ hk)]
   ·rw [if_neg hk,if_neg (by intro z; rcases List.mem_cons.mp z with e | e; exact h e.symm; exact hk e)]
theorem count_snoc (pre:List Int) (k j:Int):((pre ++ [k]).count j:Int) = (pre.count j:Int) + if j = k then 1 else 0:=by
 rw [List.count_append]
 by_cases h:j = k
 ·subst h; simp
 ·rw [if_neg h]
  have:List.count j [k] = 0:=by
   rw [List.count_eq_zero]
   simpa using h
  rw [this]; trivial
theorem put_cntD {ks pre:List Int} {k:Int} (hm:∀ j,j ∈ ks ↔ j ∈ pre):putK (cntD ks pre) (Sum.inl k) (.int ((pre.count k:Int) + 1)) = cntD (if k ∈ ks then ks else ks ++ [k]) (pre ++ [k]):=by
 by_cases h:k ∈ ks
 ·rw [if_pos h]
  unfold putK
  rw [valV_any,valV_cntD,if_pos h,if_pos (show (some (V.int (pre.count k:Int))).isSome = true from rfl)]
  unfold cntD
  rw [List.map_map]
  apply List.map_congr_left
  intro j _
  show (if (Sum.inl j:Key) = Sum.inl k then _ else _) = _
  by_cases e:j = k
  ·subst e
   rw [if_pos rfl,count_snoc,if_pos rfl]
  ·rw [if_neg (fun z => e (Sum.inl.inj z)),count_snoc,if_neg e,Int.add_zero]
 ·rw [if_neg h]
  unfold putK
  rw [valV_any,valV_cntD,if_neg h,if_neg (by simp)]
  unfold cntD
  rw [List.map_append]
  congr 1
  ·apply List.map_congr_left
   intro j hj
   have e:¬ j = k:=fun z => h (by rw [← z]; exact hj)
   rw [count_snoc,if_neg e,Int.add_zero]
  ·show [_] = [((Sum.inl k:Key),V.int ((pre ++ [k]).count k:Int))]
   rw [count_snoc,if_pos rfl]
noncomputable def spCounts (K:Frag):Sp:=fun vs H Q _ => ∃ (a:Addr) (ns:List Int),vs = [.ref a]∧SqL K H a (ns.map V.int)∧ns.length ≤ 5000∧(∀ x ∈ ns,0 ≤ x∧x ≤ 255) ∧
 ∀ (p:Addr) (zs:List (Addr × Int × Int)) (H':Hp),Same H H' -> H p = none -> Prs H' p zs -> zs.map (·.2) = cnts ns -> Q (.ref p) H'
theorem ref_at {zs:List (Addr × Int × Int)} {i:Nat} {y:V} (h:(zs.map fun z => V.ref z.1)[i]? = some y):∃ z,zs[i]? = some z∧y = V.ref z.1:=by
 rw [List.getElem?_map] at h
 cases e:zs[i]? with
 | none => rw [e] at h; cases h
 | some z => rw [e] at h; exact ⟨z,rfl,(Option.some.inj h).symm⟩
end PH
set_option Elab.async false
set_option linter.all false
set_option maxRecDepth 100000
namespace L2
open PySem PySem.Spec PyProof.Rows PySem.W
section
variable {X:Cx} {pins:List (Addr × Obj)} {σ:St} {H:Hp} {s:Shared}
theorem Inv.turned2L {h':Heap} {t':Nat} {i1 i2 a:Addr} {o:HO} (I:Inv X pins σ H s) (k:∀ b o,b ≠ i1 -> b ≠ i2 -> s.heap.get? b = some o -> h'.get? b = some o) (f1:FpOk X pins H i1) (f2:FpOk X pins H i2)
  (hp:s.heap.objs.size ≤ a) (new:ObjOk X.prog X.w (upd H a o) h' a o):Inv X pins σ (upd H a o) { s with heap:=h',toks:=t' }:=by
 obtain ⟨a0,a1,a2,a3,a4,a5⟩:=f1
 obtain ⟨b0,b1,b2,b3,b4,b5⟩:=f2
 have n1:∀ b u,H b = some u -> b ≠ i1:=fun b u e z => by rw [z,a0] at e; cases e
 have n2:∀ b u,H b = some u -> b ≠ i2:=fun b u e z => by rw [z,b0] at e; cases e
 have hn:H a = none:=I.hok.fresh hp
 refine I.step (g':=s.gens) (d':=s.drawn) (ch:=[i1,i2]) (fun b hb => ?_) (fun b o _ _ hc e _ => k b o (fun z => hc (by simp [z])) (fun z => hc (by simp [z])) e) (fun b o _ _ hc e _ => ⟨o.slots,k b o (fun z => hc (by simp [z])) (fun z => hc (by simp [z])) e⟩) (fun b u _ q n => ?_)
  (fun b o hc e => ⟨o,k b o (fun z => hc (by simp [z])) (fun z => hc (by simp [z])) e⟩) (fun b xs q => by rw [upd_ne (ne_of_none q hn)]; exact q) (fun b u xs q => by rw [upd_ne (ne_of_none q hn)]; exact q) (fun b ps q => ⟨#[],by rw [upd_ne (ne_of_none q hn),q]; simp⟩) (fun m hm => ?_) (fun b u e => ?_) I.bare
 ·have e:b = i1 ∨ b = i2:=by simpa using hb
  rcases e with e | e
  ·subst e
   exact ⟨a3,a1,a4,a5⟩
  ·subst e
   exact ⟨b3,b1,b4,b5⟩
 ·rw [upd_ne (Nat.ne_of_lt (Nat.lt_of_lt_of_le (Heap.lt_size q) hp))]; exact n
 ·obtain ⟨o,es,ep,ho,r⟩:=hm
  exact ⟨o,es,ep,k _ o (Ne.symm a1) (Ne.symm b1) ho,r⟩
 ·by_cases hb:b = a
  ·subst hb
   rw [upd_same] at e
   cases e
   exact new
  ·rw [upd_ne hb] at e
   refine (I.hok b u e).stay (fun c v hc q => k c v ?_ ?_ q) (fun c q => by rw [upd_ne (ne_of_none q hn)]; exact q) fun c xs q => by rw [upd_ne (ne_of_none q hn)]; exact q
   ·rcases hc with z | z
    ·rw [z]; exact n1 b u e
    ·exact n1 c _ z
   ·rcases hc with z | z
    ·rw [z]; exact n2 b u e
    ·exact n2 c _ z
theorem vals_of:∀ {xs:List V} {us:List Value},xs.length = us.length -> (∀ (i:Nat) x u,xs[i]? = some x -> us[i]? = some u -> RelV x u) -> Vals xs us
 | [],[],_,_ => .nil
 | [],_ :: _,h,_ => by cases h
 | _ :: _,[],h,_ => by cases h
 | x :: xs,u :: us,h,r => .cons (r 0 x u rfl rfl) (vals_of (Nat.succ.inj h) fun i y w e1 e2 => r (i + 1) y w e1 e2)
end
end L2
set_option Elab.async false
set_option linter.all false
set_option maxRecDepth 100000
set_option maxHeartbeats 4000000
namespace PH
open PySem L2 PySem.W
noncomputable def stepS (st:List Int) (x:Int):List Int:=st.erase x ++ [x]
noncomputable def plS (st:List Int) (x:Int):Int:=if x ∈ st then (st.length:Int) - 1 - (st.idxOf x:Nat) else (st.length:Int) + x - ((st.filter fun y => decide (y < x)).length:Nat)
noncomputable def frP (ns:List Int):List Int × List Int:=ns.foldl (fun p x => (stepS p.1 x,p.2 ++ [plS p.1 x])) ([],[])
noncomputable def frs (ns:List Int):List Int:=(frP ns).2
noncomputable def spCell (K:Frag):Sp:=fun vs H Q _ => ∃ (a:Addr) (ns:List Int) (k:Int),vs = [.ref a,.int k]∧SqL K H a (ns.map V.int)∧0 ≤ k∧k ≤ 1000∧∀ z:Int,Q (.int z) H
noncomputable def LSf (mg:Str -> Option Value):Prop:=∃ v:Value, mg "LAST_SIGN" = some v∧RelV (.int 255) v
end PH
namespace PH
open PySem L2 PySem.W
end PH
set_option Elab.async false
set_option linter.all false
set_option maxRecDepth 100000
namespace HT
open PySem PyProof.Rows
open AutoSeq1 (wpAny_loadPart')
open MeetsSeq MeetsSeq3 SeqAt
theorem lt_loopI (l b:Addr) (items items2:Array Value) (n n2:Nat) (dd dd2:Option Addr) (sl sl2:Array (Option Value)):∀ (ns ms:List Int) (i:Nat),i ≤ items.size -> i ≤ items2.size -> IntsAre (items.toList.drop i) ns -> IntsAre (items2.toList.drop i) ms →
  Meets (Builtin.«list.__eq__.loop» ⟨[.ref l,.ref b,rawInt i,rawInt 0],[]⟩)
   (fun _ R s => s.heap.get? l = some { cls:=.type "list", dict:=dd, data:=.seq items n, slots:=sl }∧s.heap.get? b = some { cls:=.type "list", dict:=dd2, data:=.seq items2 n2, slots:=sl2 } ∧
    R (.ok (.ret (.bool (lexLt ns ms)))) s)
 | [],ms,i,h1,h2,hi,hj => by
  intro prog w A R s h
  obtain ⟨hp,g,d,tk,os⟩:=s; obtain ⟨hl,hb,h⟩:=h
  have e1:items.size = i:=by
   have:=hi.length
   simp at this
   trivial
  have hi1:items[((i:Nat):Int).toNat]? = none:=by simp; trivial
  have hv:lexLt [] ms = decide (items.size < items2.size):=by
   have:=hj.length
   simp at this
   cases ms with
   | nil =>
    rw [lexLt_nil_nil]
    simp at this
    exact (decide_eq_false (by trivial)).symm
   | cons c ms =>
    rw [lexLt_nil_cons]
    simp at this
    exact (decide_eq_true (by trivial)).symm
  rw [hv] at h
  wp_walk using wpAny_loadPart' hl,wpAny_loadPart' hb
  rw [hi1]
  wp_walk using wpAny_loadPart' hl,wpAny_loadPart' hb
  exact h
 | a :: ns,[],i,h1,h2,hi,hj => by
  intro prog w A R s h
  obtain ⟨hp,g,d,tk,os⟩:=s; obtain ⟨hl,hb,h⟩:=h
  have e2:items2.size = i:=by
   have:=hj.length
   simp at this
   trivial
  have e1:i < items.size:=by
   have:=hi.length
   simp at this
   trivial
  have hi1:items[((i:Nat):Int).toNat]? = some items[i]:=by simp [e1]
  have hi2:items2[((i:Nat):Int).toNat]? = none:=by simp; trivial
  have hv:lexLt (a :: ns) [] = decide (items.size < items2.size):=by
   rw [lexLt_cons_nil]
   exact (decide_eq_false (by trivial)).symm
  rw [hv] at h
  wp_walk using wpAny_loadPart' hl,wpAny_loadPart' hb
  rw [hi1,hi2]
  wp_walk using wpAny_loadPart' hl,wpAny_loadPart' hb
  exact h
 | a :: ns,c :: ms,i,h1,h2,hi,hj => by
  intro prog w A R s h
  obtain ⟨hp,g,d,tk,os⟩:=s; obtain ⟨hl,hb,h⟩:=h
  have e1:i < items.size:=by
   have:=hi.length
   simp at this
   trivial
  have e2:i < items2.size:=by
   have:=hj.length
   simp at this
   trivial
  have hi1:items[((i:Nat):Int).toNat]? = some items[i]:=by simp [e1]
  have hi2:items2[((i:Nat):Int).toNat]? = some items2[i]:=by simp [e2]
  have hd1:items.toList.drop i = items[i] :: items.toList.drop (i + 1):=by simp [List.drop_eq_getElem_cons,e1]
  have hd2:items2.toList.drop i = items2[i] :: items2.toList.drop (i + 1):=by simp [List.drop_eq_getElem_cons,e2]
  have hc:((i:Int) + 1) = ((i + 1:Nat):Int):=by push_cast; rfl
  rw [hd1] at hi
  rw [hd2] at hj
  generalize items[i] = y1 at hi hi1
  generalize items2[i] = y2 at hj hi2
  cases hi with
  | cons _ t hi' =>
   cases hj with
   | cons _ u hj' =>
    rw [lexLt_cons] at h
    wp_walk using wpAny_loadPart' hl,wpAny_loadPart' hb
    rw [hi1,hi2]
    obtain ⟨e,he,hiff⟩:=eqAt_int A.in1 ⟨hp,g,d,tk,os⟩ a t c u
    refine wpAny_bind (he prog w _ _ ?_)
    cases e with
    | true =>
     rw [if_pos (hiff.mp rfl)] at h
     wp_walk
     rw [hc]
     exact ⟨plainId_quiet plain_eq_loop _,codeAny_builtin entry_eq_loop (by
      rw [Around.under_plainId plain_eq_loop _]
      exact lt_loopI l b items items2 n n2 dd dd2 sl sl2 ns ms (i + 1) (by trivial) (by trivial) hi' hj' prog w A R _ ⟨hl,hb,h⟩)⟩
    | false =>
     rw [if_neg (fun q => absurd (hiff.mpr q) Bool.false_ne_true)] at h
     have hri:=rcLt_int A.in1 ⟨hp,g,d,tk,os⟩ a t c u prog w
     wp_walk using wpAny_loadPart' hl,wpAny_loadPart' hb
     rw [hi1,hi2]
     wp_walk using hri
     exact h
theorem list_ltI (l b:Addr) (items items2:Array Value) (n n2:Nat) (dd dd2:Option Addr) (sl sl2:Array (Option Value)) (ns ms:List Int) (hi:IntsAre items.toList ns) (hj:IntsAre items2.toList ms) :
  Meets (Builtin.«list.__lt__» ⟨[.ref l,.ref b],[]⟩)
   (fun _ R s => s.heap.get? l = some { cls:=.type "list", dict:=dd, data:=.seq items n, slots:=sl }∧s.heap.get? b = some { cls:=.type "list", dict:=dd2, data:=.seq items2 n2, slots:=sl2 } ∧
    R (.ok (.ret (.bool (lexLt ns ms)))) s):=by
 intro prog w A R s h
 obtain ⟨hp,g,d,tk,os⟩:=s; obtain ⟨hl,hb,h⟩:=h
 have f3:=AutoSeq1.sub_list_list
 wp_walk using wpAny_loadPart' hl,wpAny_loadPart' hb
 exact ⟨plainId_quiet plain_eq_loop _,codeAny_builtin entry_eq_loop (by
  rw [Around.under_plainId plain_eq_loop _]
  exact lt_loopI l b items items2 n n2 dd dd2 sl sl2 ns ms 0 (Nat.zero_le _) (Nat.zero_le _) hi hj prog w A R _ ⟨hl,hb,h⟩)⟩
section
variable {prog:Program} {w:World} {A:Around} {E:Value -> Shared -> Prop} {s:Shared}
end
end HT
namespace L2
open PySem PySem.Spec PyProof.Rows PySem.W
section
variable {X:Cx}
end
end L2
set_option Elab.async false
set_option linter.all false
set_option maxRecDepth 100000
namespace L2
open PySem PySem.Spec PyProof.Rows PySem.W PySem.Calls Att
open PySem.Builtin.Int (intBits)
section
variable {X:Cx}
end
end L2
set_option Elab.async false
set_option linter.all false
set_option maxRecDepth 100000
namespace L2
open PySem PySem.Spec PyProof.Rows PySem.W
section
variable {X:Cx}
end
end L2
set_option Elab.async false
set_option linter.all false
set_option maxRecDepth 100000
namespace L2
open PySem PySem.Spec PyProof.Rows PySem.W
section
variable {X:Cx}
noncomputable def lexB (a b:Int × Int):Bool:=decide (a.1 < b.1) || (decide (a.1 = b.1) && decide (a.2 < b.2))
noncomputable def lexLe (a b:Int × Int):Prop:=a.1 < b.1 ∨ (a.1 = b.1∧a.2 ≤ b.2)
theorem lexB_iff {a b:Int × Int}:lexB a b = true ↔ a.1 < b.1 ∨ (a.1 = b.1∧a.2 < b.2):=by unfold lexB; simp
theorem lexB_not {a b:Int × Int}:lexB a b = false ↔ lexLe b a:=by
 have h:=@lexB_iff a b
 cases e:lexB a b with
 | true =>
  have:=h.mp e
  constructor
  ·intro z; cases z
  ·intro z; unfold lexLe at z; trivial
 | false =>
  constructor
  ·intro _
   unfold lexLe
   have:¬ (a.1 < b.1 ∨ (a.1 = b.1∧a.2 < b.2)):=fun z => by rw [h.mpr z] at e; cases e
   trivial
  ·intro _; rfl
noncomputable def lexOrd:KeyOrd where
 α:=Int × Int
 blt:=lexB
 irrefl:=fun a => lexB_not.mpr (by unfold lexLe; trivial)
 trans:=fun a b c h1 h2 => lexB_iff.mpr (by have:=lexB_iff.mp h1; have:=lexB_iff.mp h2; trivial)
 negTrans:=fun a b c h => by
  rw [lexB_iff,lexB_iff]
  have:=lexB_iff.mp h
  trivial
 total:=fun a b h1 h2 => by
  have h1:=lexB_not.mp h1
  have h2:=lexB_not.mp h2
  unfold lexLe at h1 h2
  exact Prod.ext (by trivial) (by trivial)
theorem perm_map {α β:Type} (f:α -> β):∀ {l l':List β},l.Perm l' -> ∀ zs:List α,l' = zs.map f -> ∃ zs':List α,zs'.Perm zs∧l = zs'.map f:=by
 intro l l' h
 induction h with
 | nil => intro zs e; exact ⟨zs,List.Perm.refl _,e⟩
 | cons x _ ih =>
  intro zs e
  cases zs with
  | nil => cases e
  | cons z r =>
   injection e with e1 e2
   obtain ⟨r',p,q⟩:=ih r e2
   exact ⟨z :: r',p.cons z,by rw [List.map_cons,e1,q]⟩
 | swap x y t =>
  intro zs e
  match zs,e with
  | z1 :: z2 :: r,e =>
   injection e with e1 e2
   injection e2 with e2 e3
   exact ⟨z2 :: z1 :: r,List.Perm.swap _ _ _,by rw [List.map_cons,List.map_cons,e1,e2,e3]⟩
  | [z],e => simp at e
  | [],e => simp at e
 | trans _ _ ih1 ih2 =>
  intro zs e
  obtain ⟨z2,p2,q2⟩:=ih2 zs e
  obtain ⟨z1,p1,q1⟩:=ih1 z2 q2
  exact ⟨z1,p1.trans p2,q1⟩
noncomputable def pky (zs:List (Addr × Int × Int)) (p:Keyed):Int × Int:=match p.1 with
 | .ref a => ((zs.find? fun z => decide (z.1 = a)).map (·.2)).getD (0,0)
 | _ => (0,0)
theorem pky_at {zs:List (Addr × Int × Int)} (same:∀ z ∈ zs,∀ y ∈ zs,z.1 = y.1 -> z.2 = y.2) {z:Addr × Int × Int} (hz:z ∈ zs) (v:Value):pky zs (.ref z.1,v) = z.2:=by
 show ((zs.find? fun y => decide (y.1 = z.1)).map (·.2)).getD (0,0) = z.2
 cases e:zs.find? fun y => decide (y.1 = z.1) with
 | none =>
  have:=List.find?_eq_none.mp e z hz
  simp at this
 | some y =>
  have h1:=List.mem_of_find?_eq_some e
  have h2:y.1 = z.1:=by simpa using List.find?_some e
  exact same y h1 z hz h2
noncomputable def PairAt (h:Heap) (z:Addr × Int × Int):Prop:=∃ o n t u, h.get? z.1 = some o∧o.cls = .type "tuple"∧o.data = .seq #[.int z.2.1 t, .int z.2.2 u] n
theorem PairAt.keeps {h h':Heap} {z:Addr × Int × Int} (p:PairAt h z) (k:∀ b o,h.get? b = some o -> h'.get? b = some o):PairAt h' z:=by
 obtain ⟨o,n,t,u,e,r⟩:=p
 exact ⟨o,n,t,u,k _ _ e,r⟩
theorem katTups_of {h:Heap}:∀ {zs:List (Addr × Int × Int)},(∀ z ∈ zs,PairAt h z) -> ∃ fs,KatTups h (zs.map fun z => Value.ref z.1) fs∧fs.length = zs.length∧∀ v ∈ fs,∃ n t,v = Value.int n t
 | [],_ => ⟨[],.nil,rfl,fun _ z => by cases z⟩
 | z :: r,hh => by
  obtain ⟨fs,k,l,a⟩:=katTups_of (zs:=r) fun y hy => hh y (List.mem_cons_of_mem _ hy)
  obtain ⟨o,n,t,u,e,c,d⟩:=hh z List.mem_cons_self
  refine ⟨Value.int z.2.1 t :: fs,.cons e c d rfl k,by rw [List.length_cons,List.length_cons,l],fun v hv => ?_⟩
  rcases List.mem_cons.mp hv with q | q
  ·exact ⟨_,_,q⟩
  ·exact a v q
theorem eqBool_int {prog:Program} {w:World} {A:Around} {E:Value -> Shared -> Prop} {s:Shared} {a b:Int} {t u:Tok} {Q:Bool -> Shared -> Prop} (h:Q (decide (a = b)) s):wpAny (model prog w) A (eqBool (.int a t) (.int b u)) Q E s:=wpAny_eqBool_int (by rw [show (a == b) = decide (a = b) from Bool.beq_eq_decide_eq a b]; exact h)
theorem oneLt_any {prog:Program} {w:World} {A:Around} {E:Value -> Shared -> Prop} {s:Shared} {b:Bool} {x y:Int} {t u:Tok} {Q:Bool -> Shared -> Prop} (h:Q (decide (x < y)) s):wpAny (model prog w) A (oneLt' b (.int x t) (.int y u)) Q E s:=by
 cases b with
 | true => exact oneLt_int h
 | false => exact kat_one _ _ (lt_int h)
theorem cmp_pair {prog:Program} {w:World} {A:Around} {s:Shared} {zs:List (Addr × Int × Int)} {b:Bool} (same:∀ z ∈ zs,∀ y ∈ zs,z.1 = y.1 -> z.2 = y.2) (hh:∀ z ∈ zs,PairAt s.heap z):TS.Cmp prog w A s (tuples' b) lexOrd (pky zs) (fun p => ∃ z ∈ zs,p.1 = .ref z.1) where
 lt:=fun p q ⟨z,hz,e1⟩ ⟨y,hy,e2⟩ {E Q} h => by
  obtain ⟨p1,p2⟩:=p
  obtain ⟨q1,q2⟩:=q
  dsimp only at e1 e2
  subst e1 e2
  rw [pky_at same hz,pky_at same hy] at h
  obtain ⟨o,n,t,u,g1,_,d1⟩:=hh z hz
  obtain ⟨o',n',t',u',g2,_,d2⟩:=hh y hy
  refine kat_lt g1 d1 g2 d2 ?_
  show KatLex prog w A b _ Q [(.int z.2.1 t,.int y.2.1 t'),(.int z.2.2 u,.int y.2.2 u')] 0 s
  have hb:lexOrd.blt z.2 y.2 = lexB z.2 y.2:=rfl
  rw [hb] at h
  unfold lexB at h
  refine kat_cons (eqBool_int ?_)
  by_cases c:z.2.1 = y.2.1
  ·rw [decide_eq_true c]
   refine kat_yes (kat_cons (eqBool_int ?_))
   rw [decide_eq_false (show ¬ z.2.1 < y.2.1 by trivial),decide_eq_true c,Bool.false_or,Bool.true_and] at h
   by_cases c2:z.2.2 = y.2.2
   ·rw [decide_eq_true c2]
    refine kat_yes (kat_nil ?_)
    rw [decide_eq_false (show ¬ z.2.2 < y.2.2 by trivial)] at h
    exact h
   ·rw [decide_eq_false c2]
    exact kat_no (oneLt_any h)
  ·rw [decide_eq_false c]
   rw [decide_eq_false c,Bool.false_and,Bool.or_false] at h
   exact kat_no (oneLt_any h)
noncomputable def rSortT (K:Frag):List V -> Hp -> VK -> Prop:=fun xs H Q => ∃ (p:Addr) (zs:List (Addr × Int × Int)),xs = [.ref p]∧SqL K H p (zs.map fun z => V.ref z.1)∧(∀ z ∈ zs,SqT K H z.1 [.int z.2.1,.int z.2.2]) ∧
 ∀ (zs':List (Addr × Int × Int)) (q:Addr),zs'.Perm zs -> (zs'.map (·.2)).Pairwise lexLe -> H q = none -> Q (.ref q) (upd H q (.lst (zs'.map fun z => V.ref z.1)))
theorem vals_refs:∀ {zs:List (Addr × Int × Int)} {us:List Value},Vals (zs.map fun z => V.ref z.1) us -> us = zs.map fun z => Value.ref z.1
 | [],_,r => by
  rw [List.map_nil] at r
  cases r; rfl
 | z :: zs,_,r => by
  rw [List.map_cons] at r
  cases r with
  | cons h t =>
   have h':_ = Value.ref z.1:=h
   rw [h',vals_refs t]; rfl
theorem refs_vals:∀ (zs:List (Addr × Int × Int)),Vals (zs.map fun z => V.ref z.1) (zs.map fun z => Value.ref z.1)
 | [] => .nil
 | z :: zs => .cons rfl (refs_vals zs)
theorem call_sortedT:CallR X (.builtin "sorted") (rSortT X.K):=by
 intro pins s σ H xs us Q I r h
 obtain ⟨a,zs,rfl,hq,hz,q⟩:=h
 obtain ⟨u,rfl,rx⟩:=vals1 r
 cases rx
 obtain ⟨its,r',pl,hzl⟩:=I.list hq
 obtain ⟨o,ho,hcl,n,hd⟩:=pl.isList
 have hits:=vals_refs r'
 subst hits
 rw [List.length_map] at hzl
 have hpa:∀ z ∈ zs,PairAt s.heap z:=fun z hm => by
  obtain ⟨its2,rv,⟨o2,e2,c2,n2,d2⟩,_⟩:=I.tuple (hz z hm)
  cases rv with
  | cons h1 t1 =>
   cases t1 with
   | cons h2 t2 =>
    cases t2
    obtain ⟨t,rfl⟩:=(show ∃ t,_ = Value.int z.2.1 t from h1)
    obtain ⟨u,rfl⟩:=(show ∃ t,_ = Value.int z.2.2 t from h2)
    exact ⟨o2,n2,t,u,e2,c2,d2⟩
 have same:∀ z ∈ zs,∀ y ∈ zs,z.1 = y.1 -> z.2 = y.2:=fun z h1 y h2 e => by
  have e1:=hz z h1
  have e2:=hz y h2
  rw [← e] at e2
  have:=I.tuple_inj e1 e2
  injection this with a1 a2
  injection a1 with a1
  injection a2 with a2 _
  injection a2 with a2
  exact Prod.ext a1 a2
 refine TS.sorted_gen (kd:=tuples' (Value.type "int" != Value.type "tuple")) (O:=lexOrd) (ky:=pky zs) (S:=fun p => ∃ z ∈ zs, p.1 = .ref z.1) (V:=fun vs => vs = zs.map fun z => Value.ref z.1)
  (fun vs e => by rw [e,List.length_map]; exact hzl) (fun vs e v hv => ?_) (fun {E R} k => ?_) (fun vs s' e h2 kp {A' E' Q'} qq => ?_) (fun s' kp => cmp_pair same fun z hm => (hpa z hm).keeps kp) (fun h1 h' tk vs out n e k1 k2 g p rr => ?_)
 ·rw [e] at hv
  obtain ⟨z,hm,rfl⟩:=List.mem_map.mp hv
  exact ⟨z,hm,rfl⟩
 ·exact wpAny_collect_seq a (.inl rfl) ho hcl hd (fun h' kp => by have:=k h' s.toks _ rfl kp; simpa using this) (by simp; trivial)
 ·rw [e]
  obtain ⟨fs,f1,f2,f3⟩:=katTups_of (h:=s'.heap) fun z hm => (hpa z hm).keeps kp
  refine kat_kind (T:=.type "int") f1 (by rw [f2]; rw [e, List.length_map] at h2; trivial) (fun v hv => ?_) (by rfl) qq
  obtain ⟨m,t,rfl⟩:=f3 v hv
  exact .now
 ·subst e
  obtain ⟨zs',p1,p2⟩:=perm_map (fun z:Addr × Int × Int => Value.ref z.1) p zs rfl
  have I1:Inv X pins σ H { s with heap:=h1 }:=I.kept (t':=s.toks) k1
  refine ⟨.ref h1.objs.size,_,I1.laid (a:=h1.objs.size) (o:=.lst (zs'.map fun z => V.ref z.1)) (t':=tk) k2 (Nat.le_refl _) ?_,rfl,q zs' _ p1 ?_ (I1.hok.fresh (Nat.le_refl _))⟩
  ·refine ⟨by rw [List.length_map,p1.length_eq]; exact hzl,_,n,refs_vals zs',?_⟩
   rw [← p2,Array.toArray_toList]; exact g
  ·unfold TS.Rises at rr
   rw [p2,List.pairwise_map] at rr
   rw [List.pairwise_map]
   refine List.Pairwise.imp_of_mem ?_ rr
   intro x y hx hy hk
   have hx':=p1.mem_iff.mp hx
   have hy':=p1.mem_iff.mp hy
   have hk':lexB (pky zs (.ref y.1,.ref y.1)) (pky zs (.ref x.1,.ref x.1)) = false:=hk
   rw [pky_at same hx',pky_at same hy'] at hk'
   exact lexB_not.mp hk'
end
end L2
set_option Elab.async false
set_option linter.all false
set_option maxRecDepth 100000
set_option maxHeartbeats 4000000
namespace L2
open PySem PySem.Spec PyProof.Rows PySem.W
theorem ints_inj:∀ {a b:List Int},a.map V.int = b.map V.int -> a = b
 | [],[],_ => rfl
 | [],_ :: _,h => by cases h
 | _ :: _,[],h => by cases h
 | x :: xs,y :: ys,h => by
  injection h with h1 h2
  injection h1 with h1
  rw [h1,ints_inj h2]
theorem lex_irr:∀ a:List Int,HT.lexLt a a = false
 | [] => rfl
 | x :: xs => by rw [HT.lexLt_cons,if_pos rfl]; exact lex_irr xs
theorem lex_trans:∀ a b c:List Int,HT.lexLt a b = true -> HT.lexLt b c = true -> HT.lexLt a c = true
 | _,[],c,h,h2 => by
  rename_i a
  cases a with
  | nil => rw [HT.lexLt_nil_nil] at h; cases h
  | cons _ _ => rw [HT.lexLt_cons_nil] at h; cases h
 | _,_ :: _,[],_,h2 => by rw [HT.lexLt_cons_nil] at h2; cases h2
 | [],_ :: _,_ :: _,_,_ => rfl
 | x :: xs,y :: ys,z :: zs,h,h2 => by
  rw [HT.lexLt_cons] at h h2 ⊢
  by_cases e1:x = y
  ·by_cases e2:y = z
   ·rw [if_pos e1] at h
    rw [if_pos e2] at h2
    rw [if_pos (e1.trans e2)]
    exact lex_trans xs ys zs h h2
   ·rw [if_neg e2] at h2
    rw [if_neg (fun c => e2 (e1 ▸ c)),e1]
    exact h2
  ·rw [if_neg e1] at h
   have h:=of_decide_eq_true h
   by_cases e2:y = z
   ·rw [if_neg (fun c => e1 (by trivial))]
    exact decide_eq_true (by trivial)
   ·rw [if_neg e2] at h2
    have h2:=of_decide_eq_true h2
    rw [if_neg (by trivial)]
    exact decide_eq_true (by trivial)
theorem lex_total:∀ a b:List Int,HT.lexLt a b = false -> HT.lexLt b a = false -> a = b
 | [],[],_,_ => rfl
 | [],_ :: _,h,_ => by rw [HT.lexLt_nil_cons] at h; cases h
 | _ :: _,[],_,h => by rw [HT.lexLt_nil_cons] at h; cases h
 | x :: xs,y :: ys,h,h2 => by
  rw [HT.lexLt_cons] at h h2
  by_cases e:x = y
  ·rw [if_pos e] at h
   rw [if_pos e.symm] at h2
   rw [e,lex_total xs ys h h2]
  ·rw [if_neg e] at h
   rw [if_neg (Ne.symm e)] at h2
   have:=of_decide_eq_false h
   have:=of_decide_eq_false h2
   trivial
noncomputable def listOrd:KeyOrd where
 α:=List Int
 blt:=HT.lexLt
 irrefl:=lex_irr
 trans:=lex_trans
 negTrans:=fun a b c h => by
  cases h1:HT.lexLt a b with
  | true => exact .inl rfl
  | false =>
   refine .inr ?_
   cases h2:HT.lexLt b c with
   | true => rfl
   | false =>
    exfalso
    cases h3:HT.lexLt b a with
    | true => rw [lex_trans b a c h3 h] at h2; cases h2
    | false => rw [lex_total a b h1 h3,h2] at h; cases h
 total:=lex_total
section
variable {prog:Program} {w:World} {A:Around} {E:Value -> Shared -> Prop} {s:Shared}
theorem oneLt_list {l b:Addr} {items items2:Array Value} {ns ms:List Int} {Q:Bool -> Shared -> Prop} (hl:s.heap.IsList l items) (hb:s.heap.IsList b items2) (hi:IntsAre items.toList ns) (hj:IntsAre items2.toList ms)
  (hu:A.units < cLine) (h:Q (HT.lexLt ns ms) s):wpAny (model prog w) A (oneLt' true (.ref l) (.ref b)) Q E s:=by
 obtain ⟨⟨cls,dd,data,sl⟩,ho,hc,n,hd⟩:=id hl
 obtain ⟨⟨cls2,dd2,data2,sl2⟩,ho2,hc2,n2,hd2⟩:=id hb
 simp only at hc hd hc2 hd2
 subst hc hd hc2 hd2
 rw [oneLt'_eq]
 simp only [if_true]
 refine wpAny_bind (wpAny_cRoomFor hu ?_)
 refine wpAny_bind (wpAny_callSpecialIfBound?_slot (T:="list") ⟨_, ho, rfl⟩ PySem.F.slot_list_lt (call_meets PySem.F.slot_list_lt ⟨_, ho, rfl⟩ PySem.F.entry_list_lt (PySem.F.args_list_lt_2 _ _) (HT.list_ltI l b items items2 n n2 dd dd2 sl sl2 ns ms hi hj) ⟨ho, ho2, ?_⟩))
 exact wpAny_truthy_bool h
end
noncomputable def fky {α:Type} (d:α) (zs:List (Addr × α)) (p:Keyed):α:=match p.1 with
 | .ref a => ((zs.find? fun z => decide (z.1 = a)).map (·.2)).getD d
 | _ => d
theorem fky_at {α:Type} {d:α} {zs:List (Addr × α)} (same:∀ z ∈ zs,∀ y ∈ zs,z.1 = y.1 -> z.2 = y.2) {z:Addr × α} (hz:z ∈ zs) (v:Value):fky d zs (.ref z.1,v) = z.2:=by
 show ((zs.find? fun y => decide (y.1 = z.1)).map (·.2)).getD d = z.2
 cases e:zs.find? fun y => decide (y.1 = z.1) with
 | none =>
  have:=List.find?_eq_none.mp e z hz
  simp at this
 | some y =>
  have h1:=List.mem_of_find?_eq_some e
  have h2:y.1 = z.1:=by simpa using List.find?_some e
  exact same y h1 z hz h2
theorem vals_refsA {α:Type}:∀ {zs:List (Addr × α)} {us:List Value},Vals (zs.map fun z => V.ref z.1) us -> us = zs.map fun z => Value.ref z.1
 | [],_,r => by
  rw [List.map_nil] at r
  cases r; rfl
 | z :: zs,_,r => by
  rw [List.map_cons] at r
  cases r with
  | cons h t =>
   have h':_ = Value.ref z.1:=h
   rw [h',vals_refsA t]; rfl
theorem refs_valsA {α:Type}:∀ (zs:List (Addr × α)),Vals (zs.map fun z => V.ref z.1) (zs.map fun z => Value.ref z.1)
 | [] => .nil
 | z :: zs => .cons rfl (refs_valsA zs)
noncomputable def LstAt (h:Heap) (z:Addr × List Int):Prop:=∃ items:Array Value,h.IsList z.1 items∧IntsAre items.toList z.2
theorem LstAt.keeps {h h':Heap} {z:Addr × List Int} (p:LstAt h z) (k:∀ b o,h.get? b = some o -> h'.get? b = some o):LstAt h' z:=by
 obtain ⟨items,⟨o,e,r⟩,q⟩:=p
 exact ⟨items,⟨o,k _ _ e,r⟩,q⟩
section
variable {X:Cx}
end
section
variable {X:Cx}
end
end L2
set_option Elab.async false
set_option linter.all false
set_option maxRecDepth 100000
set_option maxHeartbeats 4000000
namespace L2
open PySem PySem.Spec PyProof.Rows PySem.W
section
variable {prog:Program} {w:World} {A:Around} {E:Value -> Shared -> Prop} {s:Shared}
theorem collect_range {R:List Value -> Shared -> Prop} {r:Addr} {a b c:Int} {t u v:Tok} {n:Nat} (hh:A.handled = none) (hr:IsRange s.heap r a b c t u v) (hsmall:Builtin.Range.small a b c = true)
  (hn:Builtin.Range.rangeSize a b c = n) (hlen:n ≤ 2 ^ 24)
  (h:∀ (h':Heap) (tk:Nat) (acc:Array Value),(∀ b o,s.heap.get? b = some o -> h'.get? b = some o) -> ItemsOf (fun i v => ∃ t,v = .int (a + i * c) t) acc n -> R acc.toList { s with heap:=h',toks:=tk }) :
  wpAny (model prog w) A (collect (.ref r)) R E s:=by
 unfold collect
 refine wpAny_bind (wpAny_runValue (codeAny_builtin PySem.F.entry_proto_collect ?_))
 rw [Around.under_plainId PySem.F.plain_proto_collect _]
 show wpAny _ A.in1 (newList [] >>= fun l => again (.builtin "list.__iadd__" ⟨[l, .ref r], []⟩)) _ _ s
 refine wpAny_bind (wpAny_newObj_type ?_)
 refine wpAny_pure ⟨plainId_quiet PySem.F.plain_list_iadd _,codeAny_builtin PySem.F.entry_list_iadd ?_⟩
 rw [Around.under_plainId PySem.F.plain_list_iadd _]
 have hS₁:(s.heap.push { cls:=.type "list", data:=.seq ([]:List Value).toArray }).get? s.heap.objs.size = some { cls:=.type "list", data:=.seq #[] }:=Heap.get?_push_size _ rfl
 show wpAny _ A.in1 (Builtin.List.listExtendWith (.ref s.heap.objs.size) (.ref r) (.ref s.heap.objs.size)) _ _ _
 have key:=wpAny_extend_range (prog:=prog) (w:=w) (A:=A) (s:={ s with heap:=s.heap.push { cls:=.type "list", data:=.seq ([]:List Value).toArray } })
  (R:=fun (q:Result) (s':Shared) => ∃ (h':Heap) (tk:Nat) (acc':Array Value) (c':Nat),q = .ok (.ret (.ref s.heap.objs.size))∧s' = { s with heap:=h',toks:=tk } ∧
   (∀ b o, s.heap.get? b = some o -> h'.get? b = some o)∧h'.get? s.heap.objs.size = some { cls:=.type "list", dict:=none, data:=.seq acc' c', slots:=#[] }∧ItemsOf (fun i v => ∃ t, v = .int (a + i * c) t) acc' n)
  hh (Heap.get?_push_of_some _ hr) hsmall hn hlen s.heap.objs.size (.ref s.heap.objs.size) 0 hS₁
  (fun h' tk acc' c' hk hS' hacc => ⟨h',tk,acc',c',rfl,rfl,fun b o e => hk b o (Nat.ne_of_lt (Heap.lt_size e)) (Heap.get?_push_of_some _ e),hS',hacc⟩)
 refine wpAny_mono key (fun fin s' x => ?_) fun e s' x => ?_
 ·cases fin with
  | done f =>
   obtain ⟨h',tk,acc',c',e,rfl,hk,hS',hacc⟩:=x
   cases e
   show wpAny _ A (load s.heap.objs.size >>= _) _ _ _
   refine wpAny_bind (wpAny_load hS' ?_)
   exact wpAny_pure (h h' tk acc' hk hacc)
  | again c₁ =>
   refine ⟨x.1,codeAny_mono x.2 fun q s₂ y => ?_⟩
   obtain ⟨h',tk,acc',c',rfl,rfl,hk,hS',hacc⟩:=y
   show wpAny _ A (load s.heap.objs.size >>= _) _ _ _
   refine wpAny_bind (wpAny_load hS' ?_)
   exact wpAny_pure (h h' tk acc' hk hacc)
 ·obtain ⟨_,_,_,_,e',_⟩:=x
  cases e'
end
noncomputable def lamEnv (X:Cx) (scope:Scope) (qual:Str) (L f c':Addr):Env:=envX qual scope L f (.ref c') (clos X.env.cells scope.names [])
noncomputable def lamCx (X:Cx) (N:List Str) (scope:Scope) (qual:Str) (A:Around) (f c':Addr) (s:Shared) (H:Hp):Cx where
 prog:=X.prog
 w:=X.w
 K:=X.K
 mg:=X.mg
 base:=X.base
 A:=A.deeper (lamEnv X scope qual s.heap.objs.size f c')
 N:=N
 s₀:=s
 H₀:=H
 env:=lamEnv X scope qual s.heap.objs.size f c'
 outer:=X.stack
 stack:=lamEnv X scope qual s.heap.objs.size f c' :: X.stack
 ex:=[]
 fn:=fun _ => false
 calm:=true
 pn:=[]
 xe:=fun _ _ => False
section
variable {X:Cx} {pins:List (Addr × Obj)} {σ:St} {H:Hp} {s:Shared} {N:List Str} {js:List (Option Nat)} {scope:Scope} {qual x:Str} {A:Around} {f c':Addr} {h₁:Heap} {tk:Nat} {v:V} {u:Value}
theorem inv_lam (S:CompScope X N js scope) (hj:js[0]? = some none) (hN:N[0]? = some x) (nd:N.Nodup) (hx:scope.names.lookup x = some .local) (I:Inv X pins σ H s) (hA:A.frames = some X.stack) (hd:A.handled = none)
  (keep:∀ b o,s.heap.get? b = some o -> h₁.get? b = some o) (hns:h₁.Ns s.heap.objs.size (fun y => [(x,u)].reverse.lookup y)) (r:RelV v u) :
  Inv (lamCx X N scope qual A f c' s H) [] ((innerSt js σ).set 0 (some v)) H { s with heap:=h₁,toks:=tk }:=by
 have hc:∀ x ∈ scope.names,x.2 = .free -> ∃ c,X.env.cells.lookup x.1 = some c:=fun x hx e => I.ok.has _ (S.free x hx e)
 have sub:∀ x c,(clos X.env.cells scope.names []).lookup x = some c -> X.env.cells.lookup x = some c:=fun x c e => clos_sub _ _ (fun _ _ z => by simp at z) e
 have clt:∀ x c,X.env.cells.lookup x = some c -> c < s.heap.objs.size:=fun x c e => by obtain ⟨v,q⟩:=I.cell x c e; exact q.lt
 have hasF:∀ x,(x,NameKind.free) ∈ scope.names -> ∃ c,(clos X.env.cells scope.names []).lookup x = some c:=fun x hx => clos_has _ _ hx (hc (x,.free) hx rfl)
 have noA:∀ b:Addr,b ∉ (lamCx X N scope qual A f c' s H).ex:=fun b z => absurd (show b ∈ ([]:List Addr) from z) (by simp)
 have fL:H s.heap.objs.size = none:=I.hok.fresh (Nat.le_refl _)
 have hjl:0 < js.length:=(List.getElem?_eq_some_iff.mp hj).1
 refine ⟨⟨I.ok.mod,S.kind,rfl,rfl,Nat.le_refl _,fun x y c h1 h2 => I.ok.inj x y c (sub _ _ h1) (sub _ _ h2),fun y hy => ?_,fun x c h _ => (Bool.noConfusion h),fun _ => hd,Around.frames_deeper hA,.inr ⟨rfl,rfl⟩,fun b z => absurd z (noA b),I.bs,
   Nat.le_trans I.ok.bsz I.sz,fun b _ _ => noA b,fun b z => absurd z (noA b),I.stack,I.stkFree⟩,
  rfl,I.bare,Un.kept keep,⟨_,hns,fun i y z h1 h2 h3 => ?_⟩,fun x c e => ?_,fL,fun x c e => ?_,fun p hp => absurd hp (by simp [lamCx]),I.hok.kept keep,?_⟩
 ·have hy':scope.names.lookup y = some .cell ∨ scope.names.lookup y = some .free:=hy
  rcases hy' with q | q
  ·exact absurd rfl (S.nocell _ (lookup_mem q))
  ·exact hasF y (lookup_mem q)
 ·have h2':((innerSt js σ).set 0 (some v))[i]? = some (some z):=h2
  by_cases hi:i = 0
  ·subst hi
   rw [List.getElem?_set_self (by unfold innerSt; rw [List.length_map]; exact hjl)] at h2'
   have ez:v = z:=Option.some.inj (Option.some.inj h2')
   have ey:x = y:=Option.some.inj (hN.symm.trans h1)
   subst ez ey
   exact ⟨u,r,.inl ⟨hx,by simp⟩⟩
  ·rw [List.getElem?_set_ne (Ne.symm hi)] at h2'
   have h2'':(js[i]?.map fun j => (j.bind fun j => σ[j]?).join) = some (some z):=by rw [← List.getElem?_map]; exact h2'
   cases ej:js[i]? with
   | none => rw [ej] at h2''; cases h2''
   | some j =>
    rw [ej] at h2''
    cases j with
    | none => simp at h2''
    | some j =>
     have e2:σ[j]? = some (some z):=by
      simp only [Option.map_some,Option.bind_some,Option.some.injEq] at h2''
      cases q:σ[j]? with
      | none => rw [q] at h2''; simp at h2''
      | some y' => rw [q] at h2''; simp at h2''; rw [h2'']
     obtain ⟨n1,n2⟩:=S.js i j y ej h1
     have hy:=lookup_mem n2
     have hk:=S.free _ hy rfl
     obtain ⟨m0,_,hl⟩:=I.loc
     obtain ⟨u',r',l⟩:=hl j y z n1 e2 (hk.elim (fun z => .inr (.inl z)) fun z => .inr (.inr z))
     refine ⟨u',r',?_⟩
     rcases l with ⟨k,_⟩ | ⟨_,c,e,q⟩
     ·have k':X.env.kindOf y = some .local:=k
      rcases hk with q | q <;> (rw [show X.env.kindOf y = _ from q] at k'; cases k')
     ·obtain ⟨c2,e'⟩:=hasF y hy
      have:=sub _ _ e'
      rw [e] at this; cases this
      exact .inr ⟨.inr n2,c,e',q.keeps keep⟩
 ·obtain ⟨v',q⟩:=I.cell x c (sub _ _ e)
  exact ⟨v',q.keeps keep⟩
 ·exact I.freeC x c (sub _ _ e)
 ·show ((innerSt js σ).set 0 (some v)).length = N.length
  unfold innerSt
  rw [List.length_set,List.length_map,S.len]
theorem lam_call {params:Arguments} {body:Expr} {te:TE} {Q:VK} {pm ctv:Value} (S:CompScope X N js scope) (hj:js[0]? = some none) (hN:N[0]? = some x) (nd:N.Nodup) (hx:scope.names.lookup x = some .local)
  (hco:scope.isCoroutine = false) (hgen:scope.isGenerator = false)
  (he:∀ (A:Around) (f c':Addr) (s:Shared) (H:Hp),PE (lamCx X N scope qual A f c' s H) body te)
  (hbind:∀ (cl:List (Str × Addr)) (pm:Value) (c':Addr) (ctv u:Value), bindArgs (kla_fn "<lambda>" qual params body scope cl pm (.ref c') ctv) ⟨[u], []⟩ = pure [(x, u)])
  (hA:A.frames = some X.stack) (hd:A.handled = none) (hdep:A.depth < recursionLimit) (I:Inv X pins σ H s)
  (ho:s.heap.get? f = some (kla_obj "<lambda>" qual params body scope (clos X.env.cells scope.names []) pm c' ctv)) (hcd:s.heap.CodeRec (.ref c') qual) (r:RelV v u)
  (h:te ((innerSt js σ).set 0 (some v)) H Q) :
  wpAny (model X.prog X.w) A (call (.ref f) [u]) (fun u' s' => CE X.stack X.prog X.w H s Q u' s') (fun _ _ => False) s:=by
 refine wpAny_call (kla_callFunE hdep ho rfl hco hgen rfl hcd ?_)
 show wpAny _ A.in1 (bindArgs (kla_fn "<lambda>" qual params body scope (clos X.env.cells scope.names []) pm (.ref c') ctv) ⟨[u], []⟩) _ _ s
 rw [hbind]
 refine wpAny_pure (wpAny_newFunctionEnv S.nocell (fun y hy => ?_) (fun h₁ hns hsb => ⟨?_,?_⟩) S.kind)
 ·have:y = (x,u):=by simpa using hy
  rw [this]; exact hx
 ·have hk₁:∀ b o,s.heap.get? b = some o -> h₁.get? b = some o:=fun b o e => hsb.extBut b o (Nat.ne_of_lt (Heap.lt_size e)) (Heap.get?_push_of_some _ e)
  exact I.nolimit.keeps hk₁
 ·have hk₁:∀ b o,s.heap.get? b = some o -> h₁.get? b = some o:=fun b o e => hsb.extBut b o (Nat.ne_of_lt (Heap.lt_size e)) (Heap.get?_push_of_some _ e)
  show codeAny _ _ (.expr body (lamEnv X scope qual s.heap.objs.size f c')) _ _
  have I':Inv (lamCx X N scope qual A f c' s H) [] ((innerSt js σ).set 0 (some v)) H { s with heap:=h₁,toks:=s.toks + [(x,u)].length }:=inv_lam S hj hN nd hx I hA hd hk₁ hns r
  refine kla_codeExpr (wpAny_mono (he A f c' s H [] _ _ H Q I' h) (fun u' s' hs => ?_) fun _ _ z => z.elim)
  obtain ⟨v',H',J,rv,q⟩:=hs
  exact ⟨v',H',J.os,J.bare,J.base,J.hok,rv,q⟩
end
noncomputable def TB (P:Addr) (pos:Pos) (qual:Str) (H:Hp):Prop:=H P = some (.tbl #[]) ∨ ∃ (c':Addr) (oc:Obj) (vs:Array Value) (t:Tok),H P = some (.tbl #[rawInt pos.line,rawInt pos.col,.ref c'])∧H c' = some (.frz oc (.own c'))∧oc.data = .fields vs∧vs[1]? = some (.str qual t)
noncomputable def BM (mg:Str -> Option Value) (h:Heap):Prop:=∃ bm ob, mg "__builtins__" = some (.ref bm)∧bm ≠ builtinsNs∧h.get? bm = some ob∧ob.cls = .type "module"∧ob.dict = some builtinsNs∧ob.data = .plain
noncomputable def KbT (P:Addr) (H H':Hp):Prop:=∀ b u,b ≠ P -> H b = some u -> H' b = some u
section
variable {X:Cx} {pins:List (Addr × Obj)} {σ:St} {H:Hp} {s:Shared} {N:List Str} {js:List (Option Nat)} {scope:Scope} {qual:Str} {A:Around} {c P:Addr} {params:Arguments} {body:Expr} {pos:Pos} {E:Value -> Shared -> Prop} {Q:Value -> Shared -> Prop}
theorem lam_make (S:CompScope X N js scope) (I:Inv X pins σ H s) (hcode:X.env.code = .ref c) (CH:CodeHd X.base c P) (hbm:BM X.mg X.base) (hq:X.env.qual ++ "<lambda>" = qual) (tb:TB P pos qual H) (hdef:defaultsOf params X.env = ([], []))
  (h:∀ (f c':Addr) (pm ctv:Value) (H':Hp) (s':Shared), Inv X pins σ H' s' -> KbT P H H' -> TB P pos qual H' -> s'.heap.get? f = some (kla_obj "<lambda>" qual params body scope (clos X.env.cells scope.names []) pm c' ctv) -> s'.heap.CodeRec (.ref c') qual →
   FpOk X pins H' f -> (∃ oc,H' c' = some (.frz oc (.own c'))) -> Q (.ref f) s') :
  wpAny (model X.prog X.w) A (eval (.Lambda params body scope pos) X.env) Q E s:=by
 have hcl:closureFor scope X.env = pure (clos X.env.cells scope.names []):=clos_eq fun x hx e => I.ok.has _ (S.free x hx e)
 have hg:s.heap.Ns mainGlobals X.mg:=I.ok.mod.glob.keeps I.bk
 have HP:∃ ps,H P = some (.tbl ps):=by
  rcases tb with e | ⟨_,_,_,_,e,_⟩
  ·exact ⟨_,e⟩
  ·exact ⟨_,e⟩
 have hbase:∀ b o,X.base.get? b = some o -> b ≠ P:=fun b o e z => by
  have:=(I.bs b o e).2
  obtain ⟨ps,hp⟩:=HP
  rw [z,hp] at this; cases this
 have hgP:mainGlobals ≠ P:=by
  obtain ⟨o,es,ep,e,_⟩:=I.ok.mod.glob
  exact hbase _ _ e
 have hb:s.heap.BuiltinsAt X.mg P:=by
  obtain ⟨bm,ob,b1,b2,b3,b4,b5,b6⟩:=hbm
  refine ⟨bm,ob,b1,b2,fun z => ?_,hbase _ _ b3,I.bk _ _ b3,b4,b5,b6⟩
  obtain ⟨o,es,ep,e,hd,_⟩:=I.ok.mod.glob
  rw [z,e] at b3; cases b3; rw [hd] at b6; cases b6
 refine kla_eval hdef ?_
 rw [hq]
 rcases tb with e0 | ⟨c',oc,vs,t,e0,e1,e2,e3⟩
 ·have hP:s.heap.get? P = some (tabObj #[]):=I.hok P _ e0
  refine kla_makeFunction (mg:=X.mg) hcl I.ok.glob hg hcode (CH.keeps I.bk) hP True.intro rfl hgP hb fun c' ctv h' tk hx hge hlt hrec htb => ?_
  obtain ⟨c2,oc,vs,t,ec,hoc,hd,hv⟩:=hrec
  cases ec
  have hPlt:P < s.heap.objs.size:=Heap.lt_size hP
  have hcP:c' ≠ P:=Nat.ne_of_gt (Nat.lt_of_lt_of_le hPlt hge)
  have hcn:H c' = none:=I.hok.fresh hge
  have hfn:H h'.objs.size = none:=I.hok.fresh (Nat.le_trans hge (Nat.le_of_lt hlt))
  have hfc:h'.objs.size ≠ c':=Nat.ne_of_gt hlt
  have hfP:h'.objs.size ≠ P:=Nat.ne_of_gt (Nat.lt_of_lt_of_le hPlt (Nat.le_trans hge (Nat.le_of_lt hlt)))
  have htb':h'.get? P = some (tabObj #[rawInt pos.line,rawInt pos.col,.ref c']):=by simpa using htb
  generalize hob:kla_obj "<lambda>" qual params body scope (clos X.env.cells scope.names []) ((X.mg "__name__").getD .none) c' ctv = fo
  have kp:∀ b o,b ≠ P -> s.heap.get? b = some o -> (h'.push fo).get? b = some o:=fun b o n e => Heap.get?_push_of_some _ (hx b o n e)
  have hH:∀ b,b ≠ P -> b ≠ c' -> upd (upd H P (.tbl #[rawInt pos.line,rawInt pos.col,.ref c'])) c' (.frz oc (.own c')) b = H b:=fun b n1 n2 => by rw [upd_ne n2,upd_ne n1]
  have nP:∀ {b:Addr} {u:HO},H b = some u -> u ≠ .tbl #[] -> b ≠ P:=fun {b u} e n z => by rw [z,e0] at e; exact n (Option.some.inj e).symm
  have nC:∀ {b:Addr} {u:HO},H b = some u -> b ≠ c':=fun {b u} e z => by rw [z,hcn] at e; cases e
  have u:Un X.fs [] H (upd (upd H P (.tbl #[rawInt pos.line,rawInt pos.col,.ref c'])) c' (.frz oc (.own c'))) s.heap (h'.push fo):=by
   have nb:∀ b,H b = none -> b ≠ P:=fun b n z => by rw [z,e0] at n; cases n
   refine ⟨fun b o e n _ _ => kp b o (nb b n) e,fun b o e n _ _ => ⟨o.slots,kp b o (nb b n) e⟩,fun b o e n _ => ?_,fun b o e _ => ?_,fun b xs e => ?_,fun b o xs e => ?_,fun b ps e => ?_⟩
   ·rw [hH b (nb b n) (Nat.ne_of_lt (Nat.lt_of_lt_of_le (Heap.lt_size e) hge))]; exact n
   ·by_cases hbP:b = P
    ·rw [hbP]; exact ⟨_,Heap.get?_push_of_some _ htb'⟩
    ·exact ⟨o,kp b o hbP e⟩
   ·rw [hH b (nP e (fun z => by cases z)) (nC e)]; exact e
   ·rw [hH b (nP e (fun z => by cases z)) (nC e)]; exact e
   ·by_cases hbP:b = P
    ·subst hbP
     rw [e0] at e
     have ep:#[] = ps:=HO.tbl.inj (Option.some.inj e)
     subst ep
     exact ⟨#[rawInt pos.line,rawInt pos.col,.ref c'],by rw [upd_ne hcP.symm,upd_same]; simp⟩
    ·exact ⟨#[],by rw [hH b hbP (nC e),e]; simp⟩
  have hok:HOk X.prog X.w (upd (upd H P (.tbl #[rawInt pos.line,rawInt pos.col,.ref c'])) c' (.frz oc (.own c'))) (h'.push fo):=fun b ob e => by
   by_cases h1:b = c'
   ·subst h1
    rw [upd_same] at e; cases e
    exact ⟨Heap.get?_push_of_some _ hoc,⟨oc,Heap.get?_push_of_some _ hoc⟩⟩
   ·rw [upd_ne h1] at e
    by_cases h2:b = P
    ·subst h2
     rw [upd_same] at e; cases e
     exact Heap.get?_push_of_some _ htb'
    ·rw [upd_ne h2] at e
     refine (I.hok b ob e).stay (fun d w' hd' q => kp d w' ?_ q) (fun d q => ?_) (fun d xs q => ?_)
     ·rcases hd' with z | z
      ·rw [z]; exact h2
      ·exact nP z (fun z => by cases z)
     ·rw [hH d (nP q (fun z => by cases z)) (nC q)]; exact q
     ·rw [hH d (nP q (fun z => by cases z)) (nC q)]; exact q
  have I':=I.un (t':=tk) u hok
  have hf':upd (upd H P (.tbl #[rawInt pos.line,rawInt pos.col,.ref c'])) c' (.frz oc (.own c')) h'.objs.size = none:=by rw [hH _ hfP hfc]; exact hfn
  refine h h'.objs.size c' ((X.mg "__name__").getD .none) ctv _ _ I' (fun b u n e => ?_) (.inr ⟨c', oc, vs, t, by rw [upd_ne hcP.symm, upd_same], upd_same, hd, hv⟩) (by rw [← hob]; exact Heap.get?_push_size _ rfl) ⟨c', oc, vs, t, rfl, Heap.get?_push_of_some _ hoc, hd, hv⟩ (I.fpOk (Nat.le_trans hge (Nat.le_of_lt hlt)) hf') ⟨oc, upd_same⟩
  rw [hH b n (nC e)]; exact e
 ·have hP:s.heap.get? P = some (tabObj #[rawInt pos.line,rawInt pos.col,.ref c']):=I.hok P _ e0
  have hcc:s.heap.get? c' = some oc:=(I.hok c' _ e1).1
  refine kla_makeFunctionHit (mg:=X.mg) (cv:=.ref c') hcl I.ok.glob hg hcode (CH.keeps I.bk) hP (by simp [TriplesOk,rawInt]) (by simp [codeAmong,rawInt]) hb fun ctv h' tk hk hsz => ?_
  generalize hob:({ cls:=.type "function", data:=.func (kla_fn "<lambda>" qual params body scope (clos X.env.cells scope.names []) ((X.mg "__name__").getD .none) (.ref c') ctv) }:Obj) = fo
  have kp:∀ b o,s.heap.get? b = some o -> (h'.push fo).get? b = some o:=fun b o e => Heap.get?_push_of_some _ (hk b o e)
  exact h h'.objs.size c' ((X.mg "__name__").getD .none) ctv H _ (I.kept (t':=tk) kp) (fun b u _ e => e) (.inr ⟨c', oc, vs, t, e0, e1, e2, e3⟩) (by rw [← hob]; exact Heap.get?_push_size _ rfl) ⟨c', oc, vs, t, rfl, kp _ _ hcc, e2, e3⟩ (I.fpOk hsz (I.hok.fresh hsz)) ⟨oc, e1⟩
end
end L2
set_option Elab.async false
set_option linter.all false
set_option maxRecDepth 100000
set_option maxHeartbeats 4000000
namespace L2
open PySem PySem.Spec PyProof.Rows PySem.W
section
variable {X:Cx} {pins:List (Addr × Obj)} {σ:St} {H:Hp} {s:Shared} {h':Heap} {a:Addr} {o:HO}
theorem Inv.track {t':Nat} (I:Inv X pins σ H s) (fa:FpOk X pins H a) (k:∀ b u,b ≠ a -> s.heap.get? b = some u -> h'.get? b = some u) (new:ObjOk X.prog X.w (upd H a o) h' a o):Inv X pins σ (upd H a o) { s with heap:=h',toks:=t' }:=by
 have nn:∀ b u,H b = some u -> b ≠ a:=fun b u e z => by rw [z,fa.1] at e; cases e
 refine I.step (g':=s.gens) (d':=s.drawn) (ch:=[a]) (fun b hb => ?_) (fun b o _ _ hc e _ => k b o (fun z => hc (by simp [z])) e) (fun b o _ _ hc e _ => ⟨o.slots,k b o (fun z => hc (by simp [z])) e⟩) (fun b o hc _ n => by rw [upd_ne (fun z => hc (by simp [z]))]; exact n)
  (fun b o hc e => ⟨o,k b o (fun z => hc (by simp [z])) e⟩) (fun b xs e => by rw [upd_ne (nn b _ e)]; exact e) (fun b ob u e => by rw [upd_ne (nn b _ e)]; exact e) (fun b ps e => ⟨#[],by rw [upd_ne (nn b _ e),e]; simp⟩) (fun m hm => ?_) (fun b u e => ?_) I.bare
 ·have e:b = a:=by simpa using hb
  subst e
  exact ⟨fa.2.2.2.1,fa.2.1,fa.2.2.2.2.1,fa.2.2.2.2.2⟩
 ·obtain ⟨o,es,ep,ho,r⟩:=hm
  exact ⟨o,es,ep,k _ o (Ne.symm fa.2.1) ho,r⟩
 ·by_cases hb:b = a
  ·subst hb; rw [upd_same] at e; cases e; exact new
  ·rw [upd_ne hb] at e
   refine (I.hok b u e).stay (fun c v hc q => k c v ?_ q) (fun c q => by rw [upd_ne (nn c _ q)]; exact q) fun c xs q => by rw [upd_ne (nn c _ q)]; exact q
   rcases hc with z | z
   ·rw [z]; exact hb
   ·exact nn c _ z
theorem FpOk.heap {H':Hp} (f:FpOk X pins H a) (h:H' a = none):FpOk X pins H' a:=⟨h,f.2⟩
end
noncomputable def ixK (p:Keyed):Nat:=(numOf p.2).toNat
theorem rise_zip {kv items:List Value} {n:Nat} (hl:kv.length = n) (hit:Vals (((List.range n).map fun k => ((k:Nat):Int)).map V.int) items):(kv.zip items).Pairwise fun x y => ixK x ≤ ixK y:=by
 have e:(items.map numOf).map Int.toNat = List.range n:=by
  rw [(vals_intsAre hit).nums,List.map_map]
  exact (List.map_congr_left fun k _ => by simp).trans (List.map_id _)
 have hil:items.length = n:=by
  have:=congrArg List.length e
  rw [List.length_map,List.length_map,List.length_range] at this
  exact this
 have e2:(kv.zip items).map ixK = List.range n:=by
  rw [← e,List.map_map]
  have:(kv.zip items).map ixK = ((kv.zip items).map (·.2)).map (Int.toNat ∘ numOf):=by rw [List.map_map]; rfl
  rw [this,List.map_snd_zip (by trivial)]
 have h:=List.pairwise_le_range (n:=n)
 rw [← e2,List.pairwise_map] at h
 exact h
theorem zip_arr (keys:Array Value) (vs:Array Value):(keys.zip vs).toList = keys.toList.zip vs.toList:=by simp
section
variable {X:Cx} {pins:List (Addr × Obj)} {σ:St} {N:List Str} {js:List (Option Nat)} {scope:Scope} {qual x:Str} {params:Arguments} {body:Expr} {te:TE} {Q:VK}
theorem call_sortK {H:Hp} {s:Shared} {r f c':Addr} {pm ctv:Value} {n:Nat} {t u v:Tok} (S:CompScope X N js scope) (hj:js[0]? = some none) (hN:N[0]? = some x) (nd:N.Nodup) (hx:scope.names.lookup x = some .local)
  (hco:scope.isCoroutine = false) (hgen:scope.isGenerator = false)
  (he:∀ (A:Around) (f c':Addr) (s:Shared) (H:Hp),PE (lamCx X N scope qual A f c' s H) body te)
  (hbind:∀ (cl:List (Str × Addr)) (pm:Value) (c':Addr) (ctv u:Value), bindArgs (kla_fn "<lambda>" qual params body scope cl pm (.ref c') ctv) ⟨[u], []⟩ = pure [(x, u)])
  (hroom:Room 2 X.A) (I:Inv X pins σ H s) (hrg:IsRange s.heap r 0 n 1 t u v) (hn:n ≤ 1000000)
  (ho:s.heap.get? f = some (kla_obj "<lambda>" qual params body scope (clos X.env.cells scope.names []) pm c' ctv)) (hcd:s.heap.CodeRec (.ref c') qual) (hf:FpOk X pins H f) (hc':∃ oc, H c' = some (.frz oc (.own c')))
  (W:Nat -> List V -> Hp -> Prop) (w0:W 0 [] H) (turn:∀ (i:Nat) (ks:List V) (H':Hp),i < n -> ks.length = i -> W i ks H' -> te ((innerSt js σ).set 0 (some (.int (i:Int)))) H' fun v H'' => W (i + 1) (ks ++ [v]) H'')
  (hend:∀ (ks:List V) (H':Hp) (s':Shared) (kv items:List Value),W n ks H' -> ks.length = n -> Inv X pins σ H' s' -> Vals ks kv -> Vals (((List.range n).map fun k => ((k:Nat):Int)).map V.int) items →
   ∃ (kd:SortKind) (O:KeyOrd) (ky:Keyed -> O.α) (Sx:Keyed -> Prop),(∀ v ∈ kv,∀ u,Sx (v,u))∧(2 ≤ kv.length -> ∀ {E:Value -> Shared -> Prop} {Q:SortKind -> Shared -> Prop},Q kd s' -> wpAny (model X.prog X.w) X.A.in1.in1 (keyKind' kv.toArray) Q E s') ∧
    TS.Cmp X.prog X.w X.A.in1.in1 s' kd O ky Sx∧∀ (xs:List Keyed) (D:Addr),xs.Perm (kv.zip items) -> TT.Srt O ky ixK xs -> H' D = none -> ∃ ns:List Int,Vals (ns.map V.int) (xs.map (·.2))∧Q (.ref D) (upd H' D (.lst (ns.map V.int)))) :
  wpAny (model X.prog X.w) X.A (call (.builtin "sorted") [.ref r] [(Str.ofString "key", .ref f)]) (EP X pins σ Q) X.xe s:=by
 have hh:X.A.handled = none:=hroom.hd
 have hsz16:sizeLine = 16777216:=by decide
 have hsm:Builtin.Range.small 0 (n:Int) 1 = true:=small_one (by trivial) (by trivial) (by trivial) (by trivial)
 obtain ⟨oc,hc'⟩:=hc'
 refine call_function_entry_kw kind_sorted plain_sorted entry_sorted (ksk_s1 _ _) ?_
 unfold Builtin.«sorted»
 refine wpAny_bind (m:=checkCount "sorted" 1 1 _) (wpAny_pure ?_)
 refine wpAny_bind (collect_range (A:=X.A.in1) (n:=n) hh hrg hsm (by rw [rangeSize_one]; split <;> trivial) (by trivial) fun h1 tk acc hk hacc => ?_)
 have hal:acc.toList.length = n:=by rw [Array.length_toList]; exact hacc.1
 have hit:Vals (((List.range n).map fun k => ((k:Nat):Int)).map V.int) acc.toList:=by
  refine vals_of (by rw [List.length_map,List.length_map,List.length_range,hal]) fun i x u e1 e2 => ?_
  have hin:i < n:=by
   have:=(List.getElem?_eq_some_iff.mp e1).1
   rw [List.length_map,List.length_map,List.length_range] at this
   exact this
  rw [List.getElem?_map,List.getElem?_map,List.getElem?_range hin] at e1
  obtain ⟨t',e3⟩:=hacc.2 i u (by rw [← Array.getElem?_toList]; exact e2)
  have ex:x = .int (i:Int):=(Option.some.inj e1).symm
  rw [ex,e3]
  exact ⟨t',by rw [Int.mul_one,Int.zero_add]⟩
 refine wpAny_bind (wpAny_newList ?_ (by rw [hal]; trivial))
 have hoL:(h1.push (seqObj "list" acc.toList.toArray 0)).get? h1.objs.size = some (seqObj "list" acc.toList.toArray 0):=Heap.get?_push_size _ rfl
 have I1:Inv X pins σ H { s with heap:=h1,toks:=tk }:=I.kept (t':=tk) hk
 have fa:FpOk X pins H h1.objs.size:=I1.fpOk (Nat.le_refl _) (I1.hok.fresh (Nat.le_refl _))
 generalize hh2:h1.push (seqObj "list" acc.toList.toArray 0) = h2 at hoL ⊢
 have k2:∀ b o,s.heap.get? b = some o -> h2.get? b = some o:=fun b o e => by rw [← hh2]; exact Heap.get?_push_of_some _ (hk b o e)
 have hs2:h2.objs.size = h1.objs.size + 1:=by rw [← hh2,Heap.size_push]
 generalize ha:h1.objs.size = a at hoL fa hs2
 have hane:∀ b o,s.heap.get? b = some o -> b ≠ a:=fun b o e => by rw [← ha]; exact Nat.ne_of_lt (Heap.lt_size (hk b o e))
 show wpAny _ _ _ _ _ { s with heap:=h2,toks:=tk }
 refine wpAny_bind (wpAny_holding (wpAny_call_entry_kw slot_list_sort ⟨_,hoL,rfl⟩ entry_list_sort ?body (ksk_l1 _ _)))
 case body =>
 show wpAny (model X.prog X.w) X.A.in1.in1 (Builtin.«list.sort» ⟨[.ref a], [(Str.ofString "key", .ref f)]⟩) _ _ _
 rw [ksk_t1]
 unfold ksk_tree
 have hsza:acc.toList.toArray.size = n:=by rw [List.size_toArray]; exact hal
 refine wpAny_bind (listItems_at hoL rfl ?_)
 refine wpAny_bind (listUpdate_at hoL rfl ?_ (by rw [hsza]; trivial) (Nat.zero_le _))
 obtain ⟨e1, ho1⟩:∃ e1, (h2.update a (Obj.mapSeq fun _ => (#[]:Array Value))).get? a = some (seqObj "list" #[] e1):=⟨_, get?_update_seq hoL fun _ => #[]⟩
 have k3:∀ b o,b ≠ a -> h2.get? b = some o -> (h2.update a (Obj.mapSeq fun _ => (#[]:Array Value))).get? b = some o:=fun b o n e => by rw [Heap.get?_update_ne _ _ _ _ n]; exact e
 have hs3:(h2.update a (Obj.mapSeq fun _ => (#[]:Array Value))).objs.size = h2.objs.size:=Heap.size_update ..
 generalize h2.update a (Obj.mapSeq fun _ => (#[]:Array Value)) = h3 at ho1 k3 hs3 ⊢
 refine wpAny_bind (seqEpoch_at ho1 rfl ?_)
 refine wpAny_bind (wpAny_newTuple ?_ (by show acc.toList.toArray.toList.length ≤ _; rw [List.toList_toArray,hal]; trivial))
 refine wpAny_bind (wpAny_newList ?_ (Nat.zero_le _))
 refine wpAny_holding ?_
 have hs4:(h3.push (seqObj "tuple" acc.toList.toArray 0)).objs.size = a + 2:=by rw [Heap.size_push, hs3, hs2]
 have hoK:((h3.push (seqObj "tuple" acc.toList.toArray 0)).push (seqObj "list" #[] 0)).get? (a + 2) = some (seqObj "list" #[] 0):=by rw [← hs4]; exact Heap.get?_push_size _ rfl
 have k5:∀ b o, b ≠ a -> h2.get? b = some o -> ((h3.push (seqObj "tuple" acc.toList.toArray 0)).push (seqObj "list" #[] 0)).get? b = some o:=fun b o n e => Heap.get?_push_of_some _ (Heap.get?_push_of_some _ (k3 b o n e))
 have ho5:((h3.push (seqObj "tuple" acc.toList.toArray 0)).push (seqObj "list" #[] 0)).get? a = some (seqObj "list" #[] e1):=Heap.get?_push_of_some _ (Heap.get?_push_of_some _ ho1)
 show wpAny _ _ (ksk_rest a (.ref f) false acc.toList.toArray e1 (.ref (h3.push (seqObj "tuple" acc.toList.toArray 0)).objs.size)) _ _ { s with heap:=(h3.push (seqObj "tuple" acc.toList.toArray 0)).push (seqObj "list" #[] 0), toks:=tk }
 rw [hs4]
 generalize (h3.push (seqObj "tuple" acc.toList.toArray 0)).push (seqObj "list" #[] 0) = h5 at hoK k5 ho5 ⊢
 have k6:∀ b o,s.heap.get? b = some o -> h5.get? b = some o:=fun b o e => k5 b o (hane b o e) (k2 b o e)
 have I5:Inv X pins σ H { s with heap:=h5,toks:=tk }:=I.kept (t':=tk) k6
 have fk:FpOk X pins H (a + 2):=I1.fpOk (show h1.objs.size ≤ a + 2 by rw [ha]; trivial) (I1.hok.fresh (show h1.objs.size ≤ a + 2 by rw [ha]; trivial))
 have hka:a + 2 ≠ a:=by
  intro z
  have:(a:Nat) + 2 = a:=z
  trivial
 generalize hkS:a + 2 = kS at hoK fk hka ⊢
 clear hoL hs2 hs3 hs4 k3 ho1 k5 hkS
 obtain ⟨c2,oc2,vs2,t2,ec2,hoc2,hd2,hv2⟩:=hcd
 cases ec2
 have eoc:oc2 = oc:=by
  have:=(I.hok c' _ hc').1
  rw [hoc2] at this; exact Option.some.inj this
 subst eoc
 unfold ksk_rest
 refine wpAny_bind (wpAny_rule ?_)
 rw [List.forIn_toArray]
 refine wpAny_bind (ksk_fold (fun i s' => ∃ (H':Hp) (ks:List V) (kA:Array Value) (e:Nat), Inv X pins σ H' s'∧s'.heap.get? kS = some (seqObj "list" kA e)∧s'.heap.get? a = some (seqObj "list" #[] e1)∧FpOk X pins H' kS∧FpOk X pins H' a ∧
   s'.heap.get? f = some (kla_obj "<lambda>" qual params body scope (clos X.env.cells scope.names []) pm c' ctv)∧FpOk X pins H' f∧H' c' = some (.frz oc2 (.own c'))∧Vals ks kA.toList∧ks.length = i∧W i ks H') acc.toList 0 _
  ⟨H,[],#[],0,I5,hoK,ho5,fk,fa,k6 _ _ ho,hf,hc',.nil,rfl,w0⟩ ?step ?done)
 case step =>
  rintro j y s1 hy ⟨H1,ks,kA,e,J,hK1,ha1,fk1,fa1,hf1,ff1,hc1,hv1,hl1,w1⟩
  rw [Nat.zero_add] at hl1 w1
  have hjn:j < n:=by rw [← hal]; exact (List.getElem?_eq_some_iff.mp hy).1
  have ry:RelV (.int (j:Int)) y:=by
   have h1:(((List.range n).map fun k => ((k:Nat):Int)).map V.int)[j]? = some (.int (j:Int)):=by rw [List.getElem?_map,List.getElem?_map,List.getElem?_range hjn]; rfl
   obtain ⟨u',e1',r'⟩:=hit.get h1
   rw [hy] at e1'
   cases e1'
   exact r'
  have hcd1:s1.heap.CodeRec (.ref c') qual:=⟨c',oc2,vs2,t2,rfl,(J.hok c' _ hc1).1,hd2,hv2⟩
  refine wpAny_bind (wpAny_attempt (wpAny_mono (lam_call (A:=X.A.in1.in1) S hj hN nd hx hco hgen he hbind J.ok.frames hh (by have:=hroom.dp; show X.A.depth < _; trivial) J hf1 hcd1 ry (turn j ks H1 hjn hl1 w1)) (fun u' s2 ce => ?_) (fun _ _ z => z.elim)))
  obtain ⟨v',H2,os,bare,un,hok,rv,w2⟩:=ce
  dsimp only
  have nst:∀ b,FpOk X pins H1 b -> b ∉ frs X.stack:=fun b fb z => by
   rcases List.mem_cons.mp (J.stkSub b z) with q | q
   ·exact fb.2.1 q
   ·exact fb.2.2.1 q
  have hK2:=un.keep kS _ hK1 fk1.1 (nst kS fk1) (by simp)
  have ha2:=un.keep a _ ha1 fa1.1 (nst a fa1) (by simp)
  have hf2:=un.keep f _ hf1 ff1.1 (nst f ff1) (by simp)
  have fk2:=fk1.heap (un.free kS _ hK1 fk1.1 (by simp))
  have fa2:=fa1.heap (un.free a _ ha1 fa1.1 (by simp))
  have ff2:=ff1.heap (un.free f _ hf1 ff1.1 (by simp))
  have hc2:=un.frzs c' _ _ hc1
  have J2:Inv X pins σ H2 s2:=J.call' (ch:=[]) os un hok bare (fun b z => absurd z (by simp))
  have hkl:kA.size = j:=by
   have:=hv1.length
   have e9:kA.toList.length = kA.size:=Array.length_toList
   trivial
  refine wpAny_bind (listUpdate_at hK2 rfl ?_ (by rw [hkl]; trivial) (Nat.le_trans (Nat.le_of_eq (Array.size_push ..)) (by rw [hkl]; trivial)))
  obtain ⟨e3, hK3⟩:∃ e3, (s2.heap.update kS (Obj.mapSeq (·.push u'))).get? kS = some (seqObj "list" (kA.push u') e3):=⟨_, get?_update_seq hK2 (·.push u')⟩
  have k4:∀ b o,b ≠ kS -> s2.heap.get? b = some o -> (s2.heap.update kS (Obj.mapSeq (·.push u'))).get? b = some o:=fun b o n e => by rw [Heap.get?_update_ne _ _ _ _ n]; exact e
  have hfk:f ≠ kS:=fun z => by
   rw [z,hK2] at hf2
   have q:Value.type "list" = Value.type "function":=congrArg Obj.cls (Option.some.inj hf2)
   exact absurd (Value.type.inj q) (by decide)
  have J3:Inv X pins σ H2 { s2 with heap:=s2.heap.update kS (Obj.mapSeq (·.push u')),toks:=s2.toks }:=J2.turned (t':=s2.toks) k4 fk2.1 fk2.2.1 fk2.2.2.2.1 fk2.2.2.2.2.1 fk2.2.2.2.2.2
  refine wpAny_pure ⟨rfl,H2,ks ++ [v'],kA.push u',e3,J3,hK3,k4 _ _ hka.symm ha2,fk2,fa2,k4 _ _ hfk hf2,ff2,hc2,?_,by rw [List.length_append,hl1,List.length_singleton]; trivial,by rw [Nat.zero_add]; exact w2⟩
  rw [Array.toList_push]
  exact hv1.append (.cons rv .nil)
 case done =>
  rintro s1 ⟨H1,ks,kA,e,J,hK1,ha1,fk1,fa1,hf1,ff1,hc1,hv1,hl1,w1⟩
  rw [Nat.zero_add,hal] at hl1 w1
  have hkl:kA.size = n:=by
   have:=hv1.length
   have e9:kA.toList.length = kA.size:=Array.length_toList
   trivial
  refine wpAny_bind (listItems_at hK1 rfl ?_)
  obtain ⟨kd,O,ky,Sx,hS,hkk,hC,hres⟩:=hend ks H1 s1 kA.toList acc.toList w1 hl1 J hv1 hit
  -- behind the sort
  have fin:∀ st:SortSt,(arrOf st).Perm (kA.zip acc.toList.toArray) -> failedOf st = none -> TT.Srt O ky ixK (arrOf st).toList -> wpAny (model X.prog X.w) X.A.in1.in1 (ksk_tail a false e1 (.ref kS) st) (fun r s' => ∃ v,r = .done (.ret v)∧wpAny (model X.prog X.w) X.A.in1 (ret (.ref a)) (fun r s' => ∃ v,r = .done (.ret v)∧EP X pins σ Q v s') X.xe s') X.xe s1:=fun st hp hfl hs => by
   have hlp:(arrOf st).toList.Perm (kA.toList.zip acc.toList):=by
    have:=Array.perm_iff_toList_perm.mp hp
    rw [zip_arr,List.toList_toArray] at this
    exact this
   have hsz2:(arrOf st).size = n:=by
    rw [← Array.length_toList,hlp.length_eq,List.length_zip,Array.length_toList,hkl,hal,Nat.min_self]
   have k4:∀ b o,b ≠ kS -> s1.heap.get? b = some o -> (s1.heap.update kS (Obj.mapSeq fun _ => (#[]:Array Value))).get? b = some o:=fun b o n e => by rw [Heap.get?_update_ne _ _ _ _ n]; exact e
   have J2:Inv X pins σ H1 { s1 with heap:=s1.heap.update kS (Obj.mapSeq fun _ => (#[]:Array Value)),toks:=s1.toks }:=J.turned (t':=s1.toks) k4 fk1.1 fk1.2.1 fk1.2.2.2.1 fk1.2.2.2.2.1 fk1.2.2.2.2.2
   have ha2:=k4 _ _ hka.symm ha1
   obtain ⟨ns,hvn,hq⟩:=hres (arrOf st).toList a hlp hs fa1.1
   have hnl:ns.length = n:=by
    have:=hvn.length
    have e9:(arrOf st).toList.length = (arrOf st).size:=Array.length_toList
    rw [List.length_map,List.length_map] at this
    trivial
   unfold ksk_tail
   dsimp only
   refine wpAny_bind (listUpdate_at hK1 rfl ?_ (by rw [hkl]; trivial) (Nat.zero_le _))
   refine wpAny_bind (wpAny_letGo ?_)
   refine wpAny_bind (seqEpoch_at ha2 rfl ?_)
   refine wpAny_bind (listUpdate_at ha2 rfl ?_ (Nat.zero_le _) (by simp only [Bool.false_eq_true,if_false,Array.size_map]; rw [hsz2]; trivial))
   rw [hfl]
   simp only [bne_self_eq_false,Bool.false_eq_true,if_false]
   refine wpAny_pure ⟨_,rfl,wpAny_pure ⟨_,rfl,?_⟩⟩
   obtain ⟨e4, ho4⟩:∃ e4, ((s1.heap.update kS (Obj.mapSeq fun _ => (#[]:Array Value))).update a (Obj.mapSeq fun _ => (arrOf st).map (·.2))).get? a = some (seqObj "list" ((arrOf st).map (·.2)) e4):=⟨_, get?_update_seq ha2 fun _ => (arrOf st).map (·.2)⟩
   refine ⟨.ref a,_,J2.track (t':=s1.toks) (h':=(s1.heap.update kS (Obj.mapSeq fun _ => (#[]:Array Value))).update a (Obj.mapSeq fun _ => (arrOf st).map (·.2))) (o:=.lst (ns.map V.int)) fa1 (fun b o n e => by rw [Heap.get?_update_ne _ _ _ _ n]; exact e) ?_,rfl,hq⟩
   refine ⟨by rw [List.length_map,hnl]; trivial,((arrOf st).map (·.2)).toList,e4,by rw [Array.toList_map]; exact hvn,by rw [Array.toArray_toList]; exact ho4⟩
  unfold ksk_end
  dsimp only
  simp only [Bool.false_eq_true,if_false]
  by_cases h2:acc.toList.toArray.size < 2
  ·rw [if_pos h2,if_pos h2]
   refine wpAny_bind (wpAny_pure ?_)
   rw [StateT.run_pure]
   refine wpAny_bind (wpAny_pure ?_)
   dsimp only
   refine fin (SortSt.mk' general' (kA.zip acc.toList.toArray) #[] 7 none) (Array.Perm.refl _) rfl ?_
   show TT.Srt O ky ixK (kA.zip acc.toList.toArray).toList
   rw [zip_arr]
   have hz:(kA.toList.zip acc.toList.toArray.toList).length < 2:=by
    rw [List.length_zip,List.toList_toArray,hal,Array.length_toList,hkl,Nat.min_self]
    rw [hsza] at h2; exact h2
   unfold TT.Srt
   generalize kA.toList.zip acc.toList.toArray.toList = l at hz
   match l,hz with
   | [],_ => exact List.Pairwise.nil
   | [_],_ => exact List.pairwise_singleton _ _
   | _ :: _ :: _,z => simp at z; trivial
  ·rw [if_neg h2,if_neg h2]
   rw [hsza] at h2
   have h2':2 ≤ kA.toList.length:=by
    have e9:kA.toList.length = kA.size:=Array.length_toList
    trivial
   have hkk':∀ {E:Value -> Shared -> Prop} {Q:SortKind -> Shared -> Prop},Q kd s1 -> wpAny (model X.prog X.w) X.A.in1.in1 (keyKind' kA) Q E s1:=fun {E Q} q => by
    have z:=hkk h2' (E:=E) (Q:=Q) q
    rw [Array.toArray_toList] at z
    exact z
   refine wpAny_bind (hkk' ?_)
   refine wpAny_bind (wpAny_mono (TT.wpS_sort (ix:=ixK) hC (st0:=SortSt.mk' kd (kA.zip acc.toList.toArray) #[] 7 none) (Q:=fun _ st' => (arrOf st').Perm (kA.zip acc.toList.toArray)∧failedOf st' = none∧TT.Srt O ky ixK (arrOf st').toList) (fun p hp => ?_) rfl rfl rfl (by show ((kA.zip acc.toList.toArray).toList).Pairwise _; rw [zip_arr,List.toList_toArray]; exact rise_zip (by rw [Array.length_toList]; exact hkl) hit) fun st' a1 a2 a3 => ⟨a1,a2,a3⟩) ?_ fun _ _ e => e)
   ·have hp':p ∈ (kA.zip acc.toList.toArray).toList:=hp
    rw [zip_arr] at hp'
    obtain ⟨p1,p2⟩:=p
    exact hS p1 (List.of_mem_zip hp').1 p2
   ·rintro ⟨⟨⟩,st'⟩ s' ⟨rfl,hp,hfl,hs⟩
    exact fin st' hp hfl hs
end
end L2
set_option Elab.async false
set_option linter.all false
set_option maxRecDepth 100000
set_option maxHeartbeats 4000000
namespace L2
open PySem PySem.Spec PyProof.Rows PySem.W
noncomputable def rgI (n:Nat):List Int:=(List.range n).map fun k => ((k:Nat):Int)
noncomputable def tSortI (P:Addr) (lpos:Pos) (qual:Str) (js:List (Option Nat)) (ta:TA) (te:TE):TE:=fun σ H Q => ta σ H fun vs H1 => ∃ n:Nat,vs = [.int (n:Int)]∧n ≤ 1000000∧TB P lpos qual H1∧∀ H2,KbT P H1 H2 -> TB P lpos qual H2 →
 ∃ W:Nat -> List V -> Hp -> Prop,W 0 [] H2∧(∀ (i:Nat) (ks:List V) (H':Hp),i < n -> ks.length = i -> W i ks H' -> te ((innerSt js σ).set 0 (some (.int (i:Int)))) H' fun v H'' => W (i + 1) (ks ++ [v]) H'') ∧
  ∀ (ks:List V) (H':Hp),W n ks H' -> ks.length = n -> ∃ kz:List Int,ks = kz.map V.int ∧
   ∀ (ps:List (Int × Int)) (D:Addr),ps.Perm (kz.zip (rgI n)) -> ps.Pairwise (fun a b => a.1 < b.1 ∨ (a.1 = b.1∧a.2 ≤ b.2)) -> H' D = none -> Q (.ref D) (upd H' D (.lst (ps.map fun p => V.int p.2)))
section
variable {X:Cx} {N:List Str} {js:List (Option Nat)} {scope:Scope} {qual x:Str} {params:Arguments} {body:Expr} {te:TE} {a:Expr} {ta:TA} {p p2 pos pos2 lpos kp:Pos} {c P:Addr}
theorem sortK_road {pins:List (Addr × Obj)} {s:Shared} {σ:St} {H:Hp} {Q:VK} (hg:Gl X "sorted") (hm:X.mg "sorted" = none) (hgr:Gl X "range") (hmr:X.mg "range" = none) (ha:PA X [a] ta)
  (S:CompScope X N js scope) (hj:js[0]? = some none) (hN:N[0]? = some x) (nd:N.Nodup) (hx:scope.names.lookup x = some .local) (hco:scope.isCoroutine = false) (hgen:scope.isGenerator = false)
  (he:∀ (A:Around) (f c':Addr) (s:Shared) (H:Hp),PE (lamCx X N scope qual A f c' s H) body te)
  (hbind:∀ (cl:List (Str × Addr)) (pm:Value) (c':Addr) (ctv u:Value), bindArgs (kla_fn "<lambda>" qual params body scope cl pm (.ref c') ctv) ⟨[u], []⟩ = pure [(x, u)])
  (hroom:Room 2 X.A) (hcode:X.env.code = .ref c) (CH:CodeHd X.base c P) (hbm:BM X.mg X.base) (hq:X.env.qual ++ "<lambda>" = qual) (hdef:defaultsOf params X.env = ([], []))
  (hs:starEach [a] X.env = [(false, eval a X.env)]) (hs2:starEach [.Call (.Name "range" p2) [a] [] pos2] X.env = [(false, eval (.Call (.Name "range" p2) [a] [] pos2) X.env)])
  (I:Inv X pins σ H s)
  {Rp:List V -> Hp -> Prop} (h:ta σ H Rp) (hR:∀ vs H1,Rp vs H1 -> ∃ n:Nat,vs = [.int (n:Int)]∧n ≤ 1000000∧TB P lpos qual H1∧∀ H2,KbT P H1 H2 -> TB P lpos qual H2 →
   ∃ W:Nat -> List V -> Hp -> Prop,W 0 [] H2∧(∀ (i:Nat) (ks:List V) (H':Hp),i < n -> ks.length = i -> W i ks H' -> te ((innerSt js σ).set 0 (some (.int (i:Int)))) H' fun v H'' => W (i + 1) (ks ++ [v]) H'') ∧
    ∀ (pins':List (Addr × Obj)) (ks:List V) (H':Hp) (s':Shared) (kv items:List Value),W n ks H' -> ks.length = n -> Inv X pins' σ H' s' -> Vals ks kv -> Vals ((rgI n).map V.int) items →
     ∃ (kd:SortKind) (O:KeyOrd) (ky:Keyed -> O.α) (Sx:Keyed -> Prop),(∀ v ∈ kv,∀ u,Sx (v,u))∧(2 ≤ kv.length -> ∀ {E:Value -> Shared -> Prop} {Q:SortKind -> Shared -> Prop},Q kd s' -> wpAny (model X.prog X.w) X.A.in1.in1 (keyKind' kv.toArray) Q E s') ∧
      TS.Cmp X.prog X.w X.A.in1.in1 s' kd O ky Sx∧∀ (xs:List Keyed) (D:Addr),xs.Perm (kv.zip items) -> TT.Srt O ky ixK xs -> H' D = none -> ∃ ns:List Int,Vals (ns.map V.int) (xs.map (·.2))∧Q (.ref D) (upd H' D (.lst (ns.map V.int)))) :
  wpAny (model X.prog X.w) X.A (eval (.Call (.Name "sorted" p) [.Call (.Name "range" p2) [a] [] pos2] [⟨some "key", .Lambda params body scope lpos, kp⟩] pos) X.env) (EP X pins σ Q) X.xe s:=by
 refine wpAny_Call_Name_kw (ld_blt I hg hm (show bootBuiltins "sorted" = some (.builtin "sorted") by decide +kernel) ?_)
 refine callWith_kw ?_ (by rw [hs2]; rfl) (by rw [hs2]; rfl) rfl rfl
 rw [hs2]
 show wpAny _ _ (spliced ((false, eval (.Call (.Name "range" p2) [a] [] pos2) X.env) :: backTo pos [])) _ _ s
 refine Calls.spliced_cons ?_
 refine Call_ (ld_blt I hgr hmr boot_range (PyProof.Rows.callWith_type1 (thn (ha pos2 pins s σ H _ I h) fun us s1 ⟨vs,H1,I1,r1,q1⟩ => ?_) hs rfl))
 obtain ⟨n,e,hn,tb,q⟩:=hR _ _ q1
 subst e
 cases r1 with
 | cons r rr =>
  cases rr
  obtain ⟨t,rfl⟩:=r
  refine call_range_1 ?_
  refine Calls.spliced_nil ?_
  refine kws_cons ?_
  have I2:Inv X pins σ H1 { s1 with heap:=s1.heap.push { cls:=.type "range", data:=.fields #[.int 0 s1.toks, .int n t, .int 1 (s1.toks + 1)] }, toks:=s1.toks + 2 }:=I1.kept fun b o e => Heap.get?_push_of_some _ e
  have fr:FpOk X pins H1 s1.heap.objs.size:=I1.fpOk (Nat.le_refl _) (I1.hok.fresh (Nat.le_refl _))
  have I3:Inv X ((s1.heap.objs.size, { cls:=.type "range", data:=.fields #[.int 0 s1.toks, .int n t, .int 1 (s1.toks + 1)] }) :: pins) σ H1 { s1 with heap:=s1.heap.push { cls:=.type "range", data:=.fields #[.int 0 s1.toks, .int n t, .int 1 (s1.toks + 1)] }, toks:=s1.toks + 2 } :=
   I2.pins_of fun p hp => by
    rcases List.mem_cons.mp hp with z | z
    ·subst z
     exact ⟨Heap.get?_push_size _ rfl,fr.1,fr.2.1,fr.2.2.1,fun v q => by cases q⟩
    ·exact I2.pin p (List.mem_append_right _ z)
  refine lam_make S I3 hcode CH hbm hq tb hdef fun f c' pm ctv H2 s2 J kb tb2 ho hcd hf hc => ?_
  refine kws_nil ?_
  obtain ⟨W,w0,turn,fin⟩:=q H2 kb tb2
  have hrg:IsRange s2.heap s1.heap.objs.size 0 n 1 s1.toks t (s1.toks + 1):=(J.pin _ (List.mem_append_right _ List.mem_cons_self)).1
  refine thn (call_sortK (Q:=Q) S hj hN nd hx hco hgen he hbind hroom J hrg hn ho hcd hf hc W w0 turn fun ks H' s' kv items => fin _ ks H' s' kv items) fun v s' ⟨y,H',J',r,q⟩ => ⟨y,H',?_,r,q⟩
  exact J'.pins_of fun p hp => J'.pin p (List.mem_append_right _ (List.mem_cons_of_mem _ hp))
theorem rg_len (n:Nat):(rgI n).length = n:=by unfold rgI; rw [List.length_map,List.length_range]
theorem out_ints {xs:List Keyed} {kv items:List Value} {ms:List Int} (hI:IntsAre items ms) (hp:xs.Perm (kv.zip items)):Vals ((xs.map fun p:Keyed => numOf p.2).map V.int) (xs.map (·.2)):=by
 have hall:∀ v ∈ xs.map (fun p:Keyed => p.2),∃ n t,v = Value.int n t:=fun v hv => by
  obtain ⟨p,hp',rfl⟩:=List.mem_map.mp hv
  obtain ⟨p1,p2⟩:=p
  exact hI.all p2 (List.of_mem_zip (hp.mem_iff.mp hp')).2
 have:=intsAre_vals (intsAre_map (xs.map fun p:Keyed => p.2) hall)
 rw [List.map_map,List.map_map] at this
 rw [List.map_map]
 exact this
theorem pe_sortI (hg:Gl X "sorted") (hm:X.mg "sorted" = none) (hgr:Gl X "range") (hmr:X.mg "range" = none) (ha:PA X [a] ta)
  (S:CompScope X N js scope) (hj:js[0]? = some none) (hN:N[0]? = some x) (nd:N.Nodup) (hx:scope.names.lookup x = some .local) (hco:scope.isCoroutine = false) (hgen:scope.isGenerator = false)
  (he:∀ (A:Around) (f c':Addr) (s:Shared) (H:Hp),PE (lamCx X N scope qual A f c' s H) body te)
  (hbind:∀ (cl:List (Str × Addr)) (pm:Value) (c':Addr) (ctv u:Value), bindArgs (kla_fn "<lambda>" qual params body scope cl pm (.ref c') ctv) ⟨[u], []⟩ = pure [(x, u)])
  (hroom:Room 2 X.A) (hcode:X.env.code = .ref c) (CH:CodeHd X.base c P) (hbm:BM X.mg X.base) (hq:X.env.qual ++ "<lambda>" = qual) (hdef:defaultsOf params X.env = ([], []):=by rfl)
  (hs:starEach [a] X.env = [(false, eval a X.env)]:=by rfl) (hs2:starEach [.Call (.Name "range" p2) [a] [] pos2] X.env = [(false, eval (.Call (.Name "range" p2) [a] [] pos2) X.env)]:=by rfl) :
  PE X (.Call (.Name "sorted" p) [.Call (.Name "range" p2) [a] [] pos2] [⟨some "key", .Lambda params body scope lpos, kp⟩] pos) (tSortI P lpos qual js ta te):=by
 intro pins s σ H Q I h
 refine sortK_road hg hm hgr hmr ha S hj hN nd hx hco hgen he hbind hroom hcode CH hbm hq hdef hs hs2 I h fun vs H1 z => ?_
 obtain ⟨n,e,hn,tb,q⟩:=z
 refine ⟨n,e,hn,tb,fun H2 kb tb2 => ?_⟩
 obtain ⟨W,w0,turn,fin⟩:=q H2 kb tb2
 refine ⟨W,w0,turn,fun pins' ks H' s' kv items w hl J hv hit => ?_⟩
 obtain ⟨kz,rfl,q⟩:=fin ks H' w hl
 have hK:=vals_intsAre hv
 have hI:=vals_intsAre hit
 refine ⟨oneType',TS.intOrd,TS.intKy,fun p => ∃ n t,p.1 = .int n t,fun v hv' u => hK.all v hv',fun h2 {E Q'} qq => kk_ints hK h2 qq,TS.cmp_int,fun xs D hp hs' hD => ?_⟩
 have eg:(kv.zip items).map (fun p:Keyed => (numOf p.1,numOf p.2)) = kz.zip (rgI n):=by
  have e1:(fun p:Keyed => (numOf p.1,numOf p.2)) = Prod.map numOf numOf:=by
   funext p
   obtain ⟨p1,p2⟩:=p
   rfl
  rw [e1,← List.zip_map,hK.nums,hI.nums]
 have hpp:=hp.map (fun p:Keyed => (numOf p.1,numOf p.2))
 rw [eg] at hpp
 have pos:∀ p ∈ xs,0 ≤ numOf p.2:=fun p hp' => by
  have hm:numOf p.2 ∈ items.map numOf:=List.mem_map.mpr ⟨p.2,(List.of_mem_zip (a:=p.1) (b:=p.2) (hp.mem_iff.mp hp')).2,rfl⟩
  rw [hI.nums] at hm
  unfold rgI at hm
  obtain ⟨k,_,e⟩:=List.mem_map.mp hm
  trivial
 have hq:=q (xs.map fun p:Keyed => (numOf p.1,numOf p.2)) D hpp (by
  rw [List.pairwise_map]
  refine List.Pairwise.imp_of_mem (fun {y z} hy hz r => ?_) hs'
  have r':decide (numOf z.1 < numOf y.1) = false:=r.1
  have h1:=of_decide_eq_false r'
  show numOf y.1 < numOf z.1 ∨ (numOf y.1 = numOf z.1∧numOf y.2 ≤ numOf z.2)
  by_cases c:numOf y.1 < numOf z.1
  ·exact .inl c
  ·refine .inr ⟨by trivial,?_⟩
   have h2:ixK y ≤ ixK z:=r.2 (show decide (numOf y.1 < numOf z.1) = false from decide_eq_false c)
   unfold ixK at h2
   have p1:=pos y hy
   have p2:=pos z hz
   trivial) hD
 refine ⟨xs.map fun p:Keyed => numOf p.2,out_ints hI hp,?_⟩
 rw [List.map_map] at hq ⊢
 exact hq
end
end L2
set_option Elab.async false
set_option linter.all false
set_option maxRecDepth 100000
set_option maxHeartbeats 4000000
namespace L2
open PySem PySem.Spec PyProof.Rows PySem.W
noncomputable def codeOf (K:Frag) (P:Addr):Option (Addr × Obj):=K.find? fun p => codeHdIn K p.1 P
noncomputable def tabsK (K:Frag) (ts:List Addr):Bool:=noTabs K && ts.all fun P => (codeOf K P).isSome
theorem tabsK_no {K:Frag} {ts:List Addr} {h:Heap} (e:tabsK K ts = true) (X:K.In h) {P:Addr} (hP:h.get? P = some (tabObj #[])):K.lookup P = none:=by
 unfold tabsK at e
 rw [Bool.and_eq_true] at e
 cases q:K.lookup P with
 | none => rfl
 | some o =>
  have e2:=X P o q
  rw [hP] at e2
  have e3:tabObj #[] = o:=Option.some.inj e2
  have h2:=List.all_eq_true.mp e.1 (P,o) (mem_of_lookupK q)
  subst e3
  exact absurd (show false = true from h2) Bool.false_ne_true
theorem tabsK_code {K:Frag} {ts:List Addr} {h:Heap} (e:tabsK K ts = true) (X:K.In h) {P:Addr} (hP:P ∈ ts) (hg:h.get? P = some (tabObj #[])):isCodeTable h P:=by
 unfold tabsK at e
 rw [Bool.and_eq_true] at e
 have h2:=List.all_eq_true.mp e.2 P hP
 unfold codeOf at h2
 cases q:K.find? fun p => codeHdIn K p.1 P with
 | none => rw [q] at h2; cases h2
 | some p =>
  have h3:=List.find?_some q
  exact ((codeHd_of_K X h3).tab hg).isCodeTable
theorem law_callT {P:Program} {w:World} {K:PySem.W.Frag} {mg mb:Str -> Option Value} {CX:CXT} {k:Nat} {fa a:Addr} {fd:FuncData} {x:Str} {sp:Sp} {s₁:Shared} {vs:List Value} {ns:List Int} {ts:List Addr}
  (KX:K.In s₁.heap) (hns:s₁.heap.Ns mainGlobals mg) (hb:s₁.heap.Ns builtinsNs mb) (hbb:∀ x:Str, x ≠ "__name__" -> mb x = bootBuiltins x) (hlim:s₁.heap.NoLimit) (hg:s₁.gens = #[])
  (ha:s₁.heap.get? a = some { cls:=.type "list", data:=.seq vs.toArray }) (hi:IntsAre vs ns) (hl:ns.length ≤ sizeLine) (hr:Room k callerA)
  (hT:∀ Q ∈ ts,s₁.heap.get? Q = some (tabObj #[])) (hK:tabsK K ts = true) (hbm:BM mg s₁.heap)
  (F:∀ base:Heap,K.In base -> base.Ns mainGlobals mg -> BM mg base -> FnOk P w K mg base CX k fa fd [x] sp) (hbind:∀ (s:Shared) (u:Value),BindsTo s fd ⟨[u],[]⟩ [(x,u)])
  (hsp:∀ H:Hp,SqL K H a (ns.map V.int) -> (∀ Q ∈ ts,H Q = some (.tbl #[])) -> sp [.ref a] H (fun v _ => v = .bl true) fun _ _ _ => False)
  (hCX:∀ H e s',CX [] H s₁ (fun _ _ _ => False) e s' -> False) :
  codeAny (model P w) callerA (.call (.ref fa) ⟨[.ref a],[]⟩) (fun r s' => r = .ok (.ret (.bool true))∧OldK s₁.heap s'.heap∧s'.os = s₁.os∧AllBare s'.gens) s₁:=by
 have rv:=vals_ints hi
 have lenV:=hi.length
 have nat:∀ Q ∈ ts,Q ≠ a:=fun Q hQ z => by
  have e:=hT Q hQ
  rw [z,ha] at e
  have e2:Value.type "list" = Value.none:=congrArg Obj.cls (Option.some.inj e)
  cases e2
 have core:∀ H:Hp,SqL K H a (ns.map V.int) -> HOk P w H s₁.heap -> (∀ b,H b ≠ none -> b = a ∨ b ∈ ts) -> (H a ≠ none -> K.lookup a = none) -> (∀ Q ∈ ts,H Q = some (.tbl #[])) -> (H a = none ∨ ∃ ob u,H a = some (.frz ob u)) →
   codeAny (model P w) callerA (.call (.ref fa) ⟨[.ref a],[]⟩) (fun r s' => r = .ok (.ret (.bool true))∧OldK s₁.heap s'.heap∧s'.os = s₁.os∧AllBare s'.gens) s₁:=by
  intro H hS hok hA hKa hTH hfr
  have base_of:∀ {b:Addr} {o:Obj},s₁.heap.get? b = some o -> H b = none -> (hidT s₁.heap H).get? b = some o:=fun e n => hidT_get e n
  have noA:∀ {b:Addr} {o:Obj},s₁.heap.get? b = some o -> (∀ xs n,o.data ≠ .seq xs n) -> (∀ vs,o.data ≠ .fields vs) -> H b = none:=fun {b o} e d1 d2 => by
   cases q:H b with
   | none => rfl
   | some u =>
    rcases hA b (by rw [q]; simp) with z | z
    ·subst z
     rw [ha] at e; cases e
     exact absurd rfl (d1 _ _)
    ·rw [hT b z] at e; cases e
     exact absurd rfl (d2 _)
  have nsK:∀ {b:Addr} {m:Str -> Option Value},s₁.heap.Ns b m -> (hidT s₁.heap H).Ns b m:=fun {b m} ⟨o,es,ep,e,d,r⟩ => ⟨o,es,ep,base_of e (noA e (fun xs n z => by rw [d] at z; cases z) (fun vs z => by rw [d] at z; cases z)),d,r⟩
  have hKb:K.In (hidT s₁.heap H):=fun b o e => base_of (KX b o e) (by
   cases q:H b with
   | none => rfl
   | some u =>
    rcases hA b (by rw [q]; simp) with z | z
    ·subst z
     rw [hKa (by rw [q]; simp)] at e; cases e
    ·rw [tabsK_no hK KX (hT b z)] at e; cases e)
  have hM:Mod K mg (hidT s₁.heap H):=⟨hKb,nsK hns,⟨mb,nsK hb,hbb⟩,let ⟨mc,h1,h2⟩:=hlim; ⟨mc,nsK h1,h2⟩⟩
  have hbm':BM mg (hidT s₁.heap H):=by
   obtain ⟨bm,ob,b1,b2,b3,b4,b5,b6⟩:=hbm
   exact ⟨bm,ob,b1,b2,base_of b3 (noA b3 (fun xs n z => by rw [b6] at z; cases z) (fun vs z => by rw [b6] at z; cases z)),b4,b5,b6⟩
  have e0:Env0 P w K mg (hidT s₁.heap H) callerA [] s₁ H:=⟨rfl,hM,fun b o e => of_hidT e,Nat.le_of_eq (hidT_size _ _),trivial,fun b hb => absurd (show b ∈ ([]:List Addr) from hb) (by simp),hok,.of_eq hg⟩
  refine codeAny_mono ((F _ hKb (nsK hns) hbm').run callerA [] s₁ H ⟨[.ref a],[]⟩ [.ref a] [.ref a] _ _ hr e0 (hbind s₁ (.ref a)) (.cons rfl .nil) (hsp H hS hTH)) fun r s' h => ?_
  cases r with
  | error e => exact (hCX H e s' h).elim
  | ok fl =>
   cases fl with
   | next => exact False.elim h
   | brk => exact False.elim h
   | cont => exact False.elim h
   | ret u =>
    obtain ⟨v,H',os,bare,un,hok',r',q⟩:=h
    have q':v = .bl true:=q
    subst q'
    obtain rfl:u = Value.bool true:=r'
    have grown:∀ b ∈ ts,∃ ps,s'.heap.get? b = some (tabObj ps):=fun b hb => by
     obtain ⟨more,e⟩:=un.tbls b #[] (hTH b hb)
     exact ⟨_,hok' b _ e⟩
    have kept:∀ b o,b ∉ ts -> s₁.heap.get? b = some o -> s'.heap.get? b = some o:=fun b o hb e => by
     cases q:H b with
     | none => exact un.keep b o e q (by intro z; exact absurd (show b ∈ ([]:List Addr) from z) (by simp)) (by simp)
     | some u =>
      rcases hA b (by rw [q]; simp) with z | z
      ·subst z
       rcases hfr with y | ⟨ob,u',y⟩
       ·rw [q] at y; cases y
       ·have z2:=un.frzs b ob _ y
        obtain ⟨e1,_⟩:=hok b _ y
        obtain ⟨e2,_⟩:=hok' b _ z2
        rw [e] at e1; cases e1
        exact e2
      ·exact absurd z hb
    refine ⟨rfl,⟨fun b o e => ?_,fun b o e => ?_⟩,os,bare⟩
    ·by_cases hb:b ∈ ts
     ·have e2:=hT b hb
      rw [e] at e2
      cases e2
      obtain ⟨ps,hP⟩:=grown b hb
      exact .inr (.inl ⟨tabsK_code hK KX hb (hT b hb),rfl,#[],ps,rfl,by rw [Array.empty_append]; exact hP⟩)
     ·exact .inl (kept b o hb e)
    ·by_cases hb:b ∈ ts
     ·obtain ⟨ps,hP⟩:=grown b hb
      exact ⟨_,hP⟩
     ·exact ⟨o,kept b o hb e⟩
 cases hk:K.lookup a with
 | some o =>
  have e:=KX a o hk
  rw [ha] at e
  cases e
  refine core (fun b => if b ∈ ts then some (.tbl #[]) else none) (.inr ⟨_,vs.toArray,_,hk,rfl,rfl,rfl,by rw [List.size_toArray,lenV]; exact hl,by simpa using rv⟩) (fun b u z => ?_) (fun b z => ?_) (fun z => ?_) (fun Q hQ => if_pos hQ) (.inl ?_)
  ·by_cases hb:b ∈ ts
   ·have z':=(if_pos hb).symm.trans z
    cases z'
    exact hT b hb
   ·have z':=(if_neg hb).symm.trans z
    cases z'
  ·by_cases hb:b ∈ ts
   ·exact .inr hb
   ·exact absurd (if_neg hb) z
  ·exact absurd (if_neg fun h => nat a h rfl) z
  ·exact if_neg fun h => nat a h rfl
 | none =>
  refine core (fun b => if b = a then some (.frz { cls:=.type "list", data:=.seq vs.toArray } (.lst (ns.map V.int))) else if b ∈ ts then some (.tbl #[]) else none) (.inl (.inr ⟨{ cls:=.type "list", data:=.seq vs.toArray }, if_pos rfl⟩)) (fun b u z => ?_) (fun b z => ?_) (fun _ => hk) (fun Q hQ => ?_) (.inr ⟨_, _, if_pos rfl⟩)
  ·by_cases hb:b = a
   ·have z':=(if_pos hb).symm.trans z
    cases z'
    subst hb
    exact ⟨ha,by rw [List.length_map]; exact hl,vs,_,rv,ha⟩
   ·have z':=(if_neg hb).symm.trans z
    by_cases hb2:b ∈ ts
    ·have z2:=(if_pos hb2).symm.trans z'
     cases z2
     exact hT b hb2
    ·have z2:=(if_neg hb2).symm.trans z'
     cases z2
  ·by_cases hb:b = a
   ·exact .inl hb
   ·by_cases hb2:b ∈ ts
    ·exact .inr hb2
    ·exact absurd ((if_neg hb).trans (if_neg hb2)) z
  ·show (if Q = a then _ else if Q ∈ ts then _ else none) = _
   rw [if_neg (nat Q hQ),if_pos hQ]
theorem walk_ofT {l:PySem.W.OpenLaw} {n k:Nat} {q:Program} {loose:List Str} {XP:(Str -> Option Value) -> Heap -> Prop} {YP:World -> Heap -> Prop} {d:DefRec} {K:Params -> PySem.W.Frag} {CX:World -> CXT} {sp:World -> Sp} {x:Str} {ts:List Addr}
  (hn:l.most = some n) (hn2:n ≤ sizeLine) (hdf:d.params.defaults = []) (hr:Room k callerA)
  (hY:∀ (w:World) (h:Heap),YP w h -> (K w.params).In h) (hT:∀ (w:World) (h:Heap),YP w h -> ∀ P ∈ ts,h.get? P = some (tabObj #[])) (hK:∀ w:World,tabsK (K w.params) ts = true)
  (F:∀ (w:World) (mg:Str -> Option Value) (fa:Addr) (h:Heap),(K w.params).In h -> h.Ns mainGlobals mg -> mg d.name = some (.ref fa) →
   ∃ fd:FuncData,(∀ (s:Shared) (u:Value),BindsTo s fd ⟨[u],[]⟩ [(x,u)]) ∧
    ∀ base:Heap,(K w.params).In base -> base.Ns mainGlobals mg -> BM mg base -> FnOk l.prog w (K w.params) mg base (CX w) k fa fd [x] (sp w))
  (hsp:∀ (w:World) (H:Hp) (a:Addr) (ns:List Int),ns.length ≤ n -> SqL (K w.params) H a (ns.map V.int) -> (∀ Q ∈ ts,H Q = some (.tbl #[])) -> sp w [.ref a] H (fun v _ => v = .bl true) fun _ _ _ => False)
  (hCX:∀ (w:World) (H:Hp) (s:Shared) (e:Value) (s':Shared),CX w [] H s (fun _ _ _ => False) e s' -> False) :
  PySem.W.WalkO q loose XP YP l.row.toRowW d [] (fun f vs => PySem.call f vs):=by
 refine Att.attach_call hn hdf fun w s₀ s₁ mg mb fa o pm cd doc a vs ns G Y ho hd hcd hmg hobj hints hlen hg => ?_
 have KX:=hY w _ Y
 obtain ⟨fd,hb,hF⟩:=F w mg fa _ KX G.T.g hmg
 exact law_callT KX G.T.g G.T.b G.T.builtins G.T.nolimit hg hobj hints (Nat.le_trans hlen hn2) hr (hT w _ Y) (hK w) G.T.bmain hF hb (fun H hS hQ => hsp w H a ns hlen hS hQ) fun H e s' => hCX w H s₁ e s'
section
variable {P:Program} {w:World} {K:PySem.W.Frag} {mg:Str -> Option Value} {base:Heap}
theorem Fun.okLX {x qual:Str} {st:Stmt} {f c:Addr} {fd:FuncData} {N ps:List Str} {k:Nat} {sp:Sp} (F:Fun K x qual st f fd) (hc:fd.code = .ref c) (S:FnScope N ps (defScope st)) (len:∀ vs H Q E,sp vs H Q E -> vs.length = ps.length)
  (hbody:∀ (A:Around) (outer:List Env) (s:Shared) (H:Hp) (vs:List V) (Q:VK) (E:XK),Room k (A.deeper (envOfC qual (defScope st) s.heap.objs.size f (.ref c))) -> sp vs H Q E →
   ∃ t,PSs (cxOf (CXW P w) P w K mg base N qual (defScope st) f (.ref c) A outer s H E) (defBody st) t∧t { nx:=fun _ H' => Q .non H',rt:=Q } (start N vs) H):FnOk P w K mg base (CXW P w) (k + 1) f fd ps sp:=by
 obtain ⟨oc,od,kV,doc,pm,an,cdv,ct,osl,rfl,lk,hcd⟩:=F.ex
 have e:cdv = .ref c:=hc
 subst e
 exact fn_of lk hcd S len fun A outer s H vs Q E hr hsp => hbody A outer s H vs Q E hr hsp
end
end L2
set_option Elab.async false
set_option linter.all false
set_option maxRecDepth 100000
set_option maxHeartbeats 4000000
namespace PH
open PySem L2 PySem.W
structure SameT (P:Addr) (lp:Pos) (qn:Str) (H H':Hp):Prop where
 kb:KbT P H H'
 tb:TB P lp qn H'
section
variable {P:Addr} {lp:Pos} {qn:Str} {H H1 H2:Hp}
theorem _root_.L2.TB.at (t:TB P lp qn H):∃ ps,H P = some (.tbl ps):=by
 rcases t with e | ⟨_,_,_,_,e,_⟩
 ·exact ⟨_,e⟩
 ·exact ⟨_,e⟩
theorem _root_.L2.TB.ne (t:TB P lp qn H) {b:Addr} {u:HO} (h:H b = some u) (n:∀ ps,u ≠ .tbl ps):b ≠ P:=fun z => by
 obtain ⟨ps,e⟩:=t.at
 rw [z,e] at h
 exact n ps (Option.some.inj h).symm
theorem _root_.L2.TB.same (t:TB P lp qn H) (s:Same H H1):TB P lp qn H1:=by
 rcases t with e | ⟨c',oc,vs,t,e,e1,e2,e3⟩
 ·exact .inl (s _ _ e)
 ·exact .inr ⟨c',oc,vs,t,s _ _ e,s _ _ e1,e2,e3⟩
theorem SameT.of (t:TB P lp qn H) (s:Same H H1):SameT P lp qn H H1:=⟨fun b u _ e => s b u e,t.same s⟩
theorem SameT.trans (a:SameT P lp qn H H1) (b:SameT P lp qn H1 H2):SameT P lp qn H H2:=⟨fun x u n e => b.kb x u n (a.kb x u n e),b.tb⟩
theorem SameT.same (a:SameT P lp qn H H1) (b:Same H1 H2):SameT P lp qn H H2:=a.trans (.of a.tb b)
theorem SameT.g (s:SameT P lp qn H H1) (t:TB P lp qn H) {b:Addr} {u:HO} (h:H b = some u) (n:∀ ps,u ≠ .tbl ps:=by intro ps z; cases z):H1 b = some u:=s.kb b u (t.ne h n) h
theorem SameT.free (s:SameT P lp qn H H1) {q:Addr} (hq:H1 q = none):H q = none:=by
 cases e:H q with
 | none => rfl
 | some u =>
  by_cases hP:q = P
  ·obtain ⟨ps,e2⟩:=s.tb.at
   rw [hP,e2] at hq; cases hq
  ·rw [s.kb q u hP e] at hq; cases hq
theorem SameT.upd (s:SameT P lp qn H H1) (t:TB P lp qn H) {q:Addr} (u:HO) (hq:H q = none) (hn:∀ o v,H1 q ≠ some (.frz o v)):SameT P lp qn H (upd H1 q u):=by
 have hP:P ≠ q:=fun z => by
  obtain ⟨ps,e⟩:=t.at
  rw [z,hq] at e; cases e
 refine ⟨fun b w n e => ?_,?_⟩
 ·rw [upd_ne (fun z => by rw [z,hq] at e; cases e)]; exact s.kb b w n e
 ·rcases s.tb with e | ⟨c',oc,vs,t,e,e1,e2,e3⟩
  ·exact .inl (by rw [upd_ne hP]; exact e)
  ·refine .inr ⟨c',oc,vs,t,by rw [upd_ne hP]; exact e,?_,e2,e3⟩
   rw [upd_ne (fun z => hn oc (.own c') (by rw [← z]; exact e1))]; exact e1
theorem SameT.seq (s:SameT P lp qn H H1) (t:TB P lp qn H) {K:Frag} {a:Addr} {xs:List V} (h:SqL K H a xs):SqL K H1 a xs:=by
 rcases h with (h | ⟨o,h⟩) | h
 ·exact .inl (.inl (s.g t h))
 ·exact .inl (.inr ⟨o,s.g t h⟩)
 ·exact .inr h
end
noncomputable def endsOf (t:List Int):List Int:=(rgI (t.length + 1)).mergeSort fun a b => !HT.lexLt (t.drop b.toNat) (t.drop a.toNat)
theorem uniq_sorted {α:Type} {R:α -> α -> Prop}:∀ {a b:List α},(∀ x ∈ a,∀ y ∈ a,R x y -> R y x -> x = y) -> a.Perm b -> a.Pairwise R -> b.Pairwise R -> a = b
 | [],b,_,p,_,_ => (List.nil_perm.mp p).symm
 | x :: a,b,hR,p,h1,h2 => by
  cases b with
  | nil => exact absurd p (by simp)
  | cons y b =>
   rw [List.pairwise_cons] at h1 h2
   have e:x = y:=by
    rcases List.mem_cons.mp (p.mem_iff.mp List.mem_cons_self) with z | z
    ·exact z
    ·rcases List.mem_cons.mp (p.mem_iff.mpr (List.mem_cons_self (a:=y) (l:=b))) with w | w
     ·exact w.symm
     ·exact hR x List.mem_cons_self y (List.mem_cons_of_mem _ w) (h1.1 y w) (h2.1 x z)
   subst e
   rw [uniq_sorted (fun u hu v hv => hR u (List.mem_cons_of_mem _ hu) v (List.mem_cons_of_mem _ hv)) (List.perm_cons _ |>.mp p) h1.2 h2.2]
theorem mem_rg {n:Nat} {x:Int}:x ∈ rgI n ↔ 0 ≤ x∧x < n:=by
 unfold rgI
 rw [List.mem_map]
 constructor
 ·rintro ⟨k,hk,rfl⟩
  have:=List.mem_range.mp hk
  trivial
 ·intro h
  exact ⟨x.toNat,List.mem_range.mpr (by trivial),by trivial⟩
theorem drop_inj {t:List Int} {a b:Int} (ha:0 ≤ a) (ha':a ≤ t.length) (hb:0 ≤ b) (hb':b ≤ t.length) (h:t.drop a.toNat = t.drop b.toNat):a = b:=by
 have:=congrArg List.length h
 rw [List.length_drop,List.length_drop] at this
 trivial
theorem ends_sorted (t:List Int):(endsOf t).Pairwise fun a b => HT.lexLt (t.drop b.toNat) (t.drop a.toNat) = false:=by
 have h:=List.pairwise_mergeSort (le:=fun a b:Int => !HT.lexLt (t.drop b.toNat) (t.drop a.toNat)) (fun a b c h1 h2 => ?_) (fun a b => ?_) (rgI (t.length + 1))
 ·exact h.imp fun {a b} z => by simpa using z
 ·simp only [Bool.not_eq_true'] at h1 h2 ⊢
  cases h3:HT.lexLt (t.drop c.toNat) (t.drop a.toNat) with
  | false => rfl
  | true =>
   exfalso
   rcases listOrd.negTrans _ (t.drop b.toNat) _ h3 with z | z
   ·have z':HT.lexLt (t.drop c.toNat) (t.drop b.toNat) = true:=z
    rw [h2] at z'; cases z'
   ·have z':HT.lexLt (t.drop b.toNat) (t.drop a.toNat) = true:=z
    rw [h1] at z'; cases z'
 ·cases h1:HT.lexLt (t.drop b.toNat) (t.drop a.toNat) with
  | false => rfl
  | true =>
   cases h2:HT.lexLt (t.drop a.toNat) (t.drop b.toNat) with
   | false => rfl
   | true =>
    have:=lex_trans _ _ _ h1 h2
    rw [lex_irr] at this; cases this
theorem ends_perm (t:List Int):(endsOf t).Perm (rgI (t.length + 1)):=List.mergeSort_perm _ _
theorem ends_eq {t es:List Int} (hp:es.Perm (rgI (t.length + 1))) (hs:es.Pairwise fun a b => HT.lexLt (t.drop b.toNat) (t.drop a.toNat) = false):es = endsOf t:=by
 refine uniq_sorted (fun x hx y hy h1 h2 => ?_) (hp.trans (ends_perm t).symm) hs (ends_sorted t)
 have hx':=mem_rg.mp (hp.mem_iff.mp hx)
 have hy':=mem_rg.mp (hp.mem_iff.mp hy)
 exact drop_inj hx'.1 (by trivial) hy'.1 (by trivial) (lex_total _ _ h2 h1)
theorem ends_len (t:List Int):(endsOf t).length = t.length + 1:=by rw [(ends_perm t).length_eq,rg_len]
theorem ends_mem {t:List Int} {e:Int}:e ∈ endsOf t ↔ 0 ≤ e∧e ≤ t.length:=by
 rw [(ends_perm t).mem_iff,mem_rg]
 constructor <;> (intro h; trivial)
theorem ends_nd (t:List Int):(endsOf t).Nodup:=by
 refine (ends_perm t).symm.nodup ?_
 unfold rgI
 exact List.Pairwise.map _ (fun a b (h:a ≠ b) => show (a:Int) ≠ (b:Int) by trivial) List.nodup_range
theorem ends_of_pairs {t:List Int} {ps:List (List Int × Int)} {ls:List (List Int)} (hl:ls = (List.range (t.length + 1)).map fun k => t.drop k) (hp:ps.Perm (ls.zip (rgI (t.length + 1)))) (hs:(ps.map (·.1)).Pairwise (fun a b => HT.lexLt b a = false)):ps.map (·.2) = endsOf t:=by
 have hz:ls.zip (rgI (t.length + 1)) = (rgI (t.length + 1)).map fun e => (t.drop e.toNat,e):=by
  rw [hl]
  unfold rgI
  rw [List.zip_map',List.map_map]
  rfl
 rw [hz] at hp
 have h1:∀ p ∈ ps,p.1 = t.drop p.2.toNat:=fun p hp' => by
  obtain ⟨e,_,rfl⟩:=List.mem_map.mp (hp.mem_iff.mp hp')
  rfl
 refine ends_eq ?_ ?_
 ·have:=hp.map (·.2)
  rw [List.map_map] at this
  exact this.trans (.of_eq (List.map_id _))
 ·rw [List.pairwise_map] at hs ⊢
  refine List.Pairwise.imp_of_mem ?_ hs
  intro a b ha hb h
  rw [← h1 a ha,← h1 b hb]; exact h
theorem at_intE {ns:List Int} {i:Nat} {z:Int} (h:ns[i]? = some z):atI (ns.map V.int) (i:Int) = some (.int z):=atI_nat (by rw [List.getElem?_map,h]; rfl)
noncomputable def spLawT (K:PySem.W.Frag) (ts:List Addr):Sp:=fun vs H Q _ => ∃ (a:Addr) (ns:List Int),vs = [.ref a]∧SqL K H a (ns.map V.int)∧ns.length ≤ 63∧(∀ P ∈ ts,H P = some (.tbl #[]))∧∀ H',Q (.bl true) H'
end PH
set_option Elab.async false
set_option linter.all false
set_option maxRecDepth 100000
set_option maxHeartbeats 4000000
namespace L2
open PySem PySem.Spec PyProof.Rows PySem.W
theorem eqD_ints (a b:List Int):eqD (.lst (a.map DV.int)) (.lst (b.map DV.int)) = decide (a = b):=by
 unfold eqD; rw [eqDs_ints]
end L2
set_option Elab.async false
set_option linter.all false
set_option maxRecDepth 100000
namespace L2
open PySem PySem.Spec PyProof.Rows
end L2
set_option Elab.async false
set_option linter.all false
set_option maxRecDepth 100000
set_option maxHeartbeats 4000000
namespace PH
open PySem L2 PySem.W
noncomputable def rowE (t es:List Int):List Int:=es.filterMap fun e => if e = 0 then none else t[(e - 1).toNat]?
noncomputable def rowT (t:List Int):List Int:=rowE t (endsOf t)
noncomputable def holeT (t:List Int):Int:=((endsOf t).idxOf 0:Nat)
noncomputable def holeAt (es:List Int) (i:Nat):Int:=if (0:Int) ∈ es.take i then ((es.idxOf 0:Nat):Int) else 0
theorem rowE_take {t es:List Int} {i:Nat} {e:Int} (h:es[i]? = some e):rowE t (es.take (i + 1)) = rowE t (es.take i) ++ (if e = 0 then none else t[(e - 1).toNat]?).toList:=by
 unfold rowE
 rw [take_at h,List.filterMap_append]
 congr 1
theorem hole_zero {es:List Int} {i:Nat} (nd:es.Nodup) (h:es[i]? = some 0):holeAt es (i + 1) = (i:Int):=by
 unfold holeAt
 rw [take_at h,if_pos (List.mem_append_right _ List.mem_cons_self)]
 congr 1
 obtain ⟨hi,e⟩:=List.getElem?_eq_some_iff.mp h
 have:=nd.idxOf_getElem (i:=i) hi
 rw [e] at this
 exact this
theorem hole_step {es:List Int} {i:Nat} {e:Int} (h:es[i]? = some e) (ne:e ≠ 0):holeAt es (i + 1) = holeAt es i:=by
 unfold holeAt
 rw [take_at h]
 by_cases hm:(0:Int) ∈ es.take i
 ·rw [if_pos hm,if_pos (List.mem_append_left _ hm)]
 ·rw [if_neg hm,if_neg]
  intro z
  rcases List.mem_append.mp z with z | z
  ·exact hm z
  ·have:(0:Int) = e:=by simpa using z
   exact ne this.symm
theorem hole_end (t:List Int):holeAt (endsOf t) (endsOf t).length = holeT t:=by
 unfold holeAt holeT
 rw [List.take_length,if_pos (ends_mem.mpr ⟨by trivial,by trivial⟩)]
theorem rowE_len (t es:List Int):(rowE t es).length ≤ es.length:=List.length_filterMap_le _ _
theorem hole_le (t:List Int):0 ≤ holeT t∧holeT t ≤ t.length:=by
 unfold holeT
 have:=List.idxOf_lt_length_of_mem (show (0:Int) ∈ endsOf t from ends_mem.mpr ⟨by trivial,by trivial⟩)
 rw [ends_len] at this
 trivial
noncomputable def spLTurned (K:Frag):Sp:=fun vs H Q _ => ∃ (a:Addr) (t:List Int),vs = [.ref a]∧SqL K H a (t.map V.int)∧t.length ≤ 5000 ∧
 ∀ (T D:Addr) (H':Hp),Same H H' -> H T = none -> H D = none -> H' T = some (.tup [.ref D,.int (holeT t)]) -> H' D = some (lsI (rowT t)) -> Q (.ref T) H'
end PH
set_option Elab.async false
set_option linter.all false
set_option maxRecDepth 100000
set_option maxHeartbeats 4000000
namespace PH
open PySem L2 PySem.W
open PySem.Builtin.Int (intBits)
end PH
namespace PH
open PySem L2 PySem.W
theorem gName_eq {i:Nat} {v v':V} {σ:St} {H:Hp} {Q:St -> Hp -> Prop} (e:v' = v) (h:gName i v' σ H Q):gName i v σ H Q:=by
 rw [← e]; exact h
end PH
set_option Elab.async false
set_option linter.all false
set_option maxRecDepth 100000
set_option maxHeartbeats 4000000
namespace L2
open PySem PySem.Spec PyProof.Rows PySem.W
section
variable {X:Cx}
end
end L2
namespace PH
open PySem L2 PySem.W
structure ExK (K:Frag) (cN c1 c2 c3 c4 c5 c6:Addr):Prop where
 k1:kitOne K (.ref cN) (.ref c1) = some false
 k2:kitOne K (.ref cN) (.ref c2) = some false
 k3:kitOne K (.ref cN) (.ref c3) = some false
 k4:kitOne K (.ref cN) (.ref c4) = some false
 k5:kitOne K (.ref cN) (.ref c5) = some false
 k6:kitOne K (.ref cN) (.ref c6) = some false
end PH
set_option Elab.async false
set_option linter.all false
set_option maxRecDepth 100000
namespace L2
open PySem PySem.Spec PyProof.Rows PySem.W
section
variable {X:Cx}
theorem boot_all':bootBuiltins "all" = some (.builtin "all"):=by decide +kernel
noncomputable def rAll (K:Frag):List V -> Hp -> VK -> Prop:=fun xs H Q => ∃ (p:Addr) (bs:List Bool),xs = [.ref p]∧SqL K H p (bs.map V.bl)∧Q (.bl (bs.all id)) H
theorem bl_at {bs:List Bool} {us:List Value} (r:Vals (bs.map V.bl) us):us = bs.map Value.bool:=by
 induction bs generalizing us with
 | nil => cases r; rfl
 | cons b t ih =>
  cases r with
  | cons h t' =>
   rw [ih t']
   cases h
   rfl
theorem range_allB:∀ (bs:List Bool),((List.range bs.length).all fun i => (bs[i]?).getD true) = bs.all id:=fun bs => by
 rw [Bool.eq_iff_iff,List.all_eq_true,List.all_eq_true]
 constructor
 ·intro h b hb
  obtain ⟨i,hi,e⟩:=List.mem_iff_getElem.mp hb
  have:=h i (List.mem_range.mpr hi)
  rw [List.getElem?_eq_getElem hi,e] at this
  exact this
 ·intro h i hi
  have hi:=List.mem_range.mp hi
  rw [List.getElem?_eq_getElem hi]
  exact h _ (List.getElem_mem hi)
theorem call_allL (hc:X.calm = true):CallR X (.builtin "all") (rAll X.K):=by
 intro pins s σ H xs us Q I r h
 obtain ⟨p,bs,rfl,hs,q⟩:=h
 obtain ⟨u,rfl,ru⟩:=r.one
 cases ru
 obtain ⟨its,rv,pl,hz⟩:=I.list hs
 have e:=bl_at rv
 subst e
 have hl:=pl.isList
 have hlt:p < s.heap.objs.size:=by obtain ⟨_,e,_⟩:=hl; exact Heap.lt_size e
 refine call_all_walk (wpAny_pyIter_list hl ?_)
 refine ⟨s.heap.objs.size,[s.heap.objs.size,p],[s.heap.objs.size],(bs.map Value.bool).toArray.size,_,_,fun i => (bs[i]?).getD true,rfl,Walks.list (A:=X.A.in1) (I.ok.hd hc) _ p (Nat.ne_of_lt hlt) (bs.map Value.bool).toArray,
  ⟨⟨_,Heap.get?_push_size _ rfl,rfl,rfl⟩,hl.push _⟩,fun i v s' Q' E' hP hQ => ?_,fun h' tk hk => ?_⟩
 ·have hP':(bs.map Value.bool)[i]? = some v:=by simpa using hP
  rw [List.getElem?_map] at hP'
  cases eb:bs[i]? with
  | none => rw [eb] at hP'; cases hP'
  | some b =>
   rw [eb] at hP'
   cases hP'
   simp only [eb,Option.getD_some] at hQ
   exact wpAny_truthy_bool hQ
 ·have e:((List.range (bs.map Value.bool).toArray.size).all fun i => (bs[i]?).getD true) = bs.all id:=by
   rw [List.size_toArray,List.length_map]; exact range_allB bs
  rw [e]
  exact ⟨.bl _,H,I.kept (h':=h') (t':=tk) (fun b x e => hk b x (fun hm => by rw [List.mem_singleton.mp hm] at e; exact Nat.lt_irrefl _ (Heap.lt_size e)) (Heap.get?_push_of_some _ e)),rfl,q⟩
end
end L2
set_option Elab.async false
set_option linter.all false
set_option maxRecDepth 100000
namespace L2
open PySem PySem.Spec PyProof.Rows PySem.W
section
variable {X:Cx}
end
end L2
namespace L2
open PySem PySem.Spec PyProof.Rows PySem.W
section
variable {prog:Program} {w:World} {A:Around} {E:Value -> Shared -> Prop} {s:Shared}
end
section
variable {X:Cx} {pos:Pos}
end
end L2
set_option Elab.async false
set_option linter.all false
set_option maxRecDepth 100000
set_option maxHeartbeats 4000000
namespace L2
open PySem PySem.Spec PyProof.Rows PySem.W
section
variable {X:Cx}
end
end L2
namespace PH
open PySem L2 PySem.W
end PH
namespace PH
open PySem L2 PySem.W
end PH
namespace PH
open PySem L2 PySem.W
end PH
set_option Elab.async false
set_option linter.all false
set_option maxRecDepth 100000
set_option maxHeartbeats 4000000
namespace PH
open PySem L2 PySem.W
noncomputable def colOf (r:List Int) (h:Nat):List Int:=r.take h ++ (-1) :: r.drop h
noncomputable def ixC (c:List Int) (k:Int):Int:=(c[k.toNat]?).getD 0
noncomputable def LeC (c:List Int) (a b:Int):Prop:=ixC c a < ixC c b ∨ (ixC c a = ixC c b∧a ≤ b)
noncomputable instance (c:List Int) (a b:Int):Decidable (LeC c a b):=by unfold LeC; infer_instance
noncomputable def shOf (c:List Int):List Int:=(rgI c.length).mergeSort fun a b => decide (LeC c a b)
theorem sh_perm (c:List Int):(shOf c).Perm (rgI c.length):=List.mergeSort_perm _ _
theorem sh_sorted (c:List Int):(shOf c).Pairwise (LeC c):=by
 have h:=List.pairwise_mergeSort (le:=fun a b:Int => decide (LeC c a b)) (fun a b d h1 h2 => ?_) (fun a b => ?_) (rgI c.length)
 ·exact h.imp fun {a b} z => of_decide_eq_true z
 ·have h1:=of_decide_eq_true h1
  have h2:=of_decide_eq_true h2
  unfold LeC at h1 h2
  refine decide_eq_true ?_
  unfold LeC
  trivial
 ·by_cases c1:LeC c a b
  ·rw [decide_eq_true c1]; rfl
  ·rw [decide_eq_true (show LeC c b a by unfold LeC at c1 ⊢; trivial),Bool.or_true]
theorem sh_eq {c L:List Int} (hp:L.Perm (rgI c.length)) (hs:L.Pairwise (LeC c)):L = shOf c :=
 uniq_sorted (fun x _ y _ h1 h2 => by unfold LeC at h1 h2; trivial) (hp.trans (sh_perm c).symm) hs (sh_sorted c)
theorem sh_len (c:List Int):(shOf c).length = c.length:=by rw [(sh_perm c).length_eq,rg_len]
theorem sh_mem {c:List Int} {k:Int}:k ∈ shOf c ↔ 0 ≤ k∧k < c.length:=by rw [(sh_perm c).mem_iff,mem_rg]
theorem zip_rg (c:List Int):c.zip (rgI c.length) = (rgI c.length).map fun e => (ixC c e,e):=by
 apply List.ext_getElem
 ·rw [List.length_zip,List.length_map,rg_len,Nat.min_self]
 ·intro i h1 h2
  rw [List.length_zip,rg_len,Nat.min_self] at h1
  rw [List.getElem_zip,List.getElem_map]
  have e:(rgI c.length)[i]'(by rw [rg_len]; exact h1) = (i:Int):=by unfold rgI; rw [List.getElem_map,List.getElem_range]
  rw [e]
  unfold ixC
  rw [Int.toNat_natCast,List.getElem?_eq_getElem h1]; rfl
theorem sh_of_pairs {c:List Int} {ps:List (Int × Int)} (hp:ps.Perm (c.zip (rgI c.length))) (hs:ps.Pairwise (fun a b => a.1 < b.1 ∨ (a.1 = b.1∧a.2 ≤ b.2))):ps.map (·.2) = shOf c:=by
 rw [zip_rg] at hp
 have h1:∀ p ∈ ps,p.1 = ixC c p.2:=fun p hp' => by
  obtain ⟨e,_,rfl⟩:=List.mem_map.mp (hp.mem_iff.mp hp')
  rfl
 refine sh_eq ?_ ?_
 ·have:=hp.map (·.2)
  rw [List.map_map] at this
  exact this.trans (.of_eq (List.map_id _))
 ·rw [List.pairwise_map]
  refine List.Pairwise.imp_of_mem ?_ hs
  intro a b ha hb h
  unfold LeC
  rw [← h1 a ha,← h1 b hb]; exact h
theorem col_len (r:List Int) {h:Nat} (hh:h ≤ r.length):(colOf r h).length = r.length + 1:=by
 unfold colOf
 rw [List.length_append,List.length_cons,List.length_take,List.length_drop]; trivial
noncomputable def colE (t:List Int) (e:Int):Int:=if e = 0 then -1 else (t[(e - 1).toNat]?).getD 0
theorem rowE_map {t A:List Int} (h:∀ e ∈ A,0 < e∧e ≤ t.length):rowE t A = A.map (colE t):=by
 unfold rowE
 induction A with
 | nil => rfl
 | cons e A ih =>
  have he:=h e List.mem_cons_self
  have hlt:(e - 1).toNat < t.length:=by trivial
  rw [List.filterMap_cons,List.map_cons,ih fun x hx => h x (List.mem_cons_of_mem _ hx)]
  unfold colE
  rw [if_neg (by trivial),if_neg (by trivial),List.getElem?_eq_getElem hlt]; rfl
theorem col_text (t:List Int):colOf (rowT t) (holeT t).toNat = (endsOf t).map (colE t):=by
 have h0:(0:Int) ∈ endsOf t:=ends_mem.mpr ⟨by trivial,by trivial⟩
 have hm:∀ e ∈ endsOf t,0 ≤ e∧e ≤ t.length:=fun e he => ends_mem.mp he
 have nd:=ends_nd t
 unfold rowT holeT
 generalize endsOf t = es at h0 hm nd
 have hlt:=List.idxOf_lt_length_of_mem h0
 have hg:es[es.idxOf 0] = 0:=List.getElem_idxOf hlt
 generalize es.idxOf 0 = k at hlt hg
 have e:es = es.take k ++ (0:Int) :: es.drop (k + 1):=by
  conv => lhs; rw [← List.take_append_drop k es,List.drop_eq_getElem_cons hlt,hg]
 have nd':=nd
 rw [e,List.nodup_append,List.nodup_cons] at nd'
 have hA:∀ x ∈ es.take k,0 < x∧x ≤ t.length:=fun x hx => by
  have h1:=hm x (List.mem_of_mem_take hx)
  have h2:x ≠ 0:=nd'.2.2 x hx 0 List.mem_cons_self
  trivial
 have hB:∀ x ∈ es.drop (k + 1),0 < x∧x ≤ t.length:=fun x hx => by
  have h1:=hm x (List.mem_of_mem_drop hx)
  have h2:x ≠ 0:=fun z => nd'.2.1.1 (z ▸ hx)
  trivial
 have hr:rowE t es = (es.take k).map (colE t) ++ (es.drop (k + 1)).map (colE t):=by
  rw [← rowE_map hA,← rowE_map hB]
  conv => lhs; rw [e]
  unfold rowE
  rw [List.filterMap_append,List.filterMap_cons]
  rfl
 have hl:((es.take k).map (colE t)).length = k:=by rw [List.length_map,List.length_take]; trivial
 unfold colOf
 rw [Int.toNat_natCast,hr,List.take_append_of_le_length (by trivial),List.take_of_length_le (by trivial),List.drop_append_of_le_length (by trivial),List.drop_of_length_le (by trivial),List.nil_append]
 conv => rhs; rw [e]
 rw [List.map_append,List.map_cons]
 rfl
theorem row_len (t:List Int):(rowT t).length = t.length:=by
 have h:=congrArg List.length (col_text t)
 have hh:=hole_le t
 unfold colOf at h
 rw [List.length_append,List.length_cons,List.length_take,List.length_drop,List.length_map,ends_len] at h
 trivial
theorem row_mem {t:List Int} {x:Int} (h:x ∈ rowT t):x ∈ t:=by
 unfold rowT rowE at h
 obtain ⟨e,_,h2⟩:=List.mem_filterMap.mp h
 split at h2
 ·cases h2
 ·exact List.mem_of_getElem? h2
noncomputable def nxE (n:Nat) (e:Int):Int:=if e = n then 0 else e + 1
theorem nx_perm (n:Nat):((rgI (n + 1)).map (nxE n)).Perm (rgI (n + 1)):=by
 have e1:(rgI (n + 1)).map (nxE n) = (rgI n).map (· + 1) ++ [0]:=by
  unfold rgI
  rw [List.range_succ,List.map_append,List.map_append]
  congr 1
  ·rw [List.map_map,List.map_map]
   refine List.map_congr_left fun k hk => ?_
   have:=List.mem_range.mp hk
   show nxE n (k:Int) = (k:Int) + 1
   unfold nxE
   rw [if_neg (by trivial)]
  ·show [nxE n (n:Int)] = [0]
   unfold nxE
   rw [if_pos rfl]
 have e2:rgI (n + 1) = 0 :: (rgI n).map (· + 1):=by
  unfold rgI
  rw [List.range_succ_eq_map,List.map_cons,List.map_map,List.map_map]
  rfl
 rw [e1,e2]
 exact List.perm_append_comm
theorem pos_map {es:List Int} (nd:es.Nodup):es.map (fun e => ((es.idxOf e:Nat):Int)) = rgI es.length:=by
 apply List.ext_getElem
 ·rw [List.length_map,rg_len]
 ·intro i h1 h2
  rw [List.length_map] at h1
  rw [List.getElem_map,nd.idxOf_getElem]
  have e:(rgI es.length)[i]'h2 = (i:Int):=by
   show ((List.range es.length).map fun k => ((k:Nat):Int))[i]'(by rw [List.length_map,List.length_range]; exact h1) = _
   rw [List.getElem_map,List.getElem_range]
  rw [e]
theorem ix_map {es:List Int} {f:Int -> Int} {e:Int} (h:e ∈ es):ixC (es.map f) ((es.idxOf e:Nat):Int) = f e:=by
 have hlt:=List.idxOf_lt_length_of_mem h
 unfold ixC
 rw [Int.toNat_natCast,List.getElem?_map,List.getElem?_eq_getElem hlt,List.getElem_idxOf hlt]
 rfl
theorem sh_text {t:List Int} (ht:∀ x ∈ t,0 ≤ x):shOf (colOf (rowT t) (holeT t).toNat) = (endsOf t).map fun e => (((endsOf t).idxOf (nxE t.length e):Nat):Int):=by
 rw [col_text]
 have hm:∀ e ∈ endsOf t,0 ≤ e∧e ≤ t.length:=fun e he => ends_mem.mp he
 have hin:∀ e:Int,0 ≤ e -> e ≤ t.length -> e ∈ endsOf t:=fun e h1 h2 => ends_mem.mpr ⟨h1,h2⟩
 have nd:=ends_nd t
 have hp:=ends_perm t
 have hs:=ends_sorted t
 have hl:=ends_len t
 generalize endsOf t = es at hm hin nd hp hs hl
 have hnx:∀ e ∈ es,nxE t.length e ∈ es:=fun e he => by
  have:=hm e he
  unfold nxE
  split
  ·exact hin 0 (by trivial) (by trivial)
  ·exact hin _ (by trivial) (by trivial)
 have rank:∀ e ∈ es,∀ e' ∈ es,HT.lexLt (t.drop e.toNat) (t.drop e'.toNat) = true -> es.idxOf e ≤ es.idxOf e':=fun e he e' he' hlt => by
  by_cases c:es.idxOf e ≤ es.idxOf e'
  ·exact c
  ·exfalso
   have h1:=List.idxOf_lt_length_of_mem he
   have h2:=List.idxOf_lt_length_of_mem he'
   have:=List.pairwise_iff_getElem.mp hs _ _ h2 h1 (by trivial)
   rw [List.getElem_idxOf h1,List.getElem_idxOf h2,hlt] at this
   cases this
 refine (sh_eq ?_ ?_).symm
 ·rw [List.length_map]
  have e1:es.map (fun e => ((es.idxOf (nxE t.length e):Nat):Int)) = (es.map (nxE t.length)).map fun e => ((es.idxOf e:Nat):Int):=by rw [List.map_map]; rfl
  rw [e1]
  refine (((hp.map (nxE t.length)).trans ((nx_perm t.length).trans hp.symm)).map _).trans (.of_eq (pos_map nd))
 ·rw [List.pairwise_map]
  refine List.Pairwise.imp_of_mem ?_ (hs.and nd)
  rintro e e' he he' ⟨hle,hne⟩
  have b1:=hm e he
  have b2:=hm e' he'
  have hlt:HT.lexLt (t.drop e.toNat) (t.drop e'.toNat) = true:=by
   cases hz:HT.lexLt (t.drop e.toNat) (t.drop e'.toNat) with
   | true => rfl
   | false => exact absurd (drop_inj b1.1 b1.2 b2.1 b2.2 (lex_total _ _ hz hle)) hne
  unfold LeC
  rw [ix_map (hnx e he),ix_map (hnx e' he')]
  have key:∀ x:Int,0 ≤ x -> x < t.length -> colE t (nxE t.length x) = (t[x.toNat]?).getD 0:=fun x h1 h2 => by
   unfold colE nxE
   rw [if_neg (show ¬ x = (t.length:Int) by trivial),if_neg (by trivial),show (x + 1 - 1).toNat = x.toNat by trivial]
  by_cases c':e' = t.length
  ·exfalso
   rw [c',Int.toNat_natCast,List.drop_of_length_le (Nat.le_refl _)] at hlt
   cases hd:t.drop e.toNat with
   | nil => rw [hd,HT.lexLt_nil_nil] at hlt; cases hlt
   | cons y ys => rw [hd,HT.lexLt_cons_nil] at hlt; cases hlt
  ·have hx':e'.toNat < t.length:=by trivial
   rw [key e' b2.1 (by trivial),List.getElem?_eq_getElem hx']
   have hpos:0 ≤ t[e'.toNat]:=ht _ (List.getElem_mem hx')
   by_cases c:e = t.length
   ·left
    have:colE t (nxE t.length e) = -1:=by unfold colE nxE; rw [if_pos c,if_pos rfl]
    rw [this]
    show (-1:Int) < t[e'.toNat]
    trivial
   ·have hx:e.toNat < t.length:=by trivial
    rw [key e b1.1 (by trivial),List.getElem?_eq_getElem hx]
    show t[e.toNat] < t[e'.toNat] ∨ (t[e.toNat] = t[e'.toNat]∧_)
    rw [List.drop_eq_getElem_cons hx,List.drop_eq_getElem_cons hx',HT.lexLt_cons] at hlt
    by_cases q:t[e.toNat] = t[e'.toNat]
    ·rw [if_pos q] at hlt
     refine .inr ⟨q,?_⟩
     have h1:nxE t.length e = e + 1:=by unfold nxE; rw [if_neg c]
     have h2:nxE t.length e' = e' + 1:=by unfold nxE; rw [if_neg c']
     rw [h1,h2]
     have:=rank (e + 1) (hin _ (by trivial) (by trivial)) (e' + 1) (hin _ (by trivial) (by trivial)) (by
      rw [show (e + 1).toNat = e.toNat + 1 by trivial,show (e' + 1).toNat = e'.toNat + 1 by trivial]; exact hlt)
     trivial
    ·rw [if_neg q] at hlt
     exact .inl (of_decide_eq_true hlt)
structure Wk (sh:List Int) (h:Int) (ws:List Int):Prop where
 at_:∀ (i:Nat) (x:Int),(h :: ws)[i]? = some x -> 0 ≤ x∧sh[x.toNat]? = (ws ++ [h])[i]?
 nh:h ∉ ws
noncomputable def wsT (t:List Int):List Int:=(List.range t.length).map fun i:Nat => (((endsOf t).idxOf ((i:Int) + 1):Nat):Int)
theorem wk_text {t:List Int} (ht:∀ x ∈ t,0 ≤ x):Wk (shOf (colOf (rowT t) (holeT t).toNat)) (holeT t) (wsT t):=by
 rw [sh_text ht]
 have hin:∀ e:Int,0 ≤ e -> e ≤ t.length -> e ∈ endsOf t:=fun e h1 h2 => ends_mem.mpr ⟨h1,h2⟩
 have e1:holeT t :: wsT t = (List.range (t.length + 1)).map fun i:Nat => (((endsOf t).idxOf (i:Int):Nat):Int):=by
  rw [List.range_succ_eq_map,List.map_cons,List.map_map]
  rfl
 have e2:wsT t ++ [holeT t] = (List.range (t.length + 1)).map fun i:Nat => (((endsOf t).idxOf (nxE t.length (i:Int)):Nat):Int):=by
  rw [List.range_succ,List.map_append]
  unfold wsT holeT
  congr 1
  ·refine List.map_congr_left fun k hk => ?_
   have:=List.mem_range.mp hk
   unfold nxE
   rw [if_neg (by trivial)]
  ·show _ = [(((endsOf t).idxOf (nxE t.length (t.length:Int)):Nat):Int)]
   unfold nxE
   rw [if_pos rfl]
 refine ⟨fun i x h => ?_,fun hm => ?_⟩
 ·rw [e1,List.getElem?_map] at h
  have hi:i < t.length + 1:=by
   by_cases c:i < t.length + 1
   ·exact c
   ·rw [List.getElem?_eq_none (by rw [List.length_range]; trivial)] at h; cases h
  rw [List.getElem?_range hi] at h
  have hx:x = (((endsOf t).idxOf (i:Int):Nat):Int):=(Option.some.inj h).symm
  have hmi:=hin (i:Int) (by trivial) (by trivial)
  have hlt:=List.idxOf_lt_length_of_mem hmi
  refine ⟨by trivial,?_⟩
  rw [e2,List.getElem?_map,List.getElem?_map,List.getElem?_range hi,hx,Int.toNat_natCast,List.getElem?_eq_getElem hlt,List.getElem_idxOf hlt]
  rfl
 ·unfold wsT at hm
  obtain ⟨k,hk,e⟩:=List.mem_map.mp hm
  have hk:=List.mem_range.mp hk
  have h1:=hin ((k:Int) + 1) (by trivial) (by trivial)
  have h0:=hin 0 (by trivial) (by trivial)
  have hlt:=List.idxOf_lt_length_of_mem h1
  have hlt0:=List.idxOf_lt_length_of_mem h0
  unfold holeT at e
  have e':(endsOf t).idxOf ((k:Int) + 1) = (endsOf t).idxOf 0:=by trivial
  have g1:=List.getElem_idxOf hlt
  have g0:=List.getElem_idxOf hlt0
  have:(endsOf t)[(endsOf t).idxOf ((k:Int) + 1)] = (endsOf t)[(endsOf t).idxOf 0]:=by congr 1
  rw [g1,g0] at this
  trivial
theorem ws_text (t:List Int):(wsT t).map (ixC (colOf (rowT t) (holeT t).toNat)) = t:=by
 rw [col_text]
 unfold wsT
 rw [List.map_map]
 apply List.ext_getElem
 ·rw [List.length_map,List.length_range]
 ·intro i h1 h2
  rw [List.getElem_map,List.getElem_range]
  show ixC ((endsOf t).map (colE t)) _ = _
  rw [ix_map (ends_mem.mpr ⟨by trivial,by trivial⟩)]
  unfold colE
  rw [if_neg (by trivial),show ((i:Int) + 1 - 1).toNat = i by trivial,List.getElem?_eq_getElem h2]
  rfl
theorem ws_len (t:List Int):(wsT t).length = t.length:=by unfold wsT; rw [List.length_map,List.length_range]
noncomputable abbrev qnB:Str:="turned_back.<locals>.<lambda>"
noncomputable def spWhT:Sp:=fun vs H Q _ => ∃ n:Int,vs = [.int n]∧Q (.bl true) H
noncomputable def spSignT:Sp:=fun vs H Q _ => ∃ n:Int,vs = [.int n]∧0 ≤ n∧n ≤ 255∧Q (.bl true) H
noncomputable def spSigns (K:Frag):Sp:=fun vs H Q _ => ∃ (a:Addr) (r:List Int),vs = [.ref a]∧SqL K H a (r.map V.int)∧r.length ≤ 5000∧(∀ z ∈ r,0 ≤ z∧z ≤ 255)∧∀ H',Same H H' -> Q (.bl true) H'
noncomputable def spMayT (K:Frag):Sp:=fun vs H Q _ => ∃ (a:Addr) (r:List Int) (h:Int),vs = [.ref a,.int h]∧SqL K H a (r.map V.int)∧r.length ≤ 5000∧(∀ z ∈ r,0 ≤ z∧z ≤ 255)∧∀ H',Same H H' -> Q (.bl (decide (0 ≤ h∧h ≤ r.length))) H'
noncomputable def spBack (K:Frag) (cB P:Addr) (lp:Pos):Sp:=fun vs H Q E => ∃ (a:Addr) (r:List Int) (h:Int),vs = [.ref a,.int h]∧SqL K H a (r.map V.int)∧r.length ≤ 5000∧(∀ z ∈ r,0 ≤ z∧z ≤ 255)∧TB P lp qnB H ∧
 (¬ (0 ≤ h∧h ≤ r.length) -> ∀ H',SameT P lp qnB H H' -> E (.ref cB) none H') ∧
 (0 ≤ h -> h ≤ r.length -> ∃ ws,Wk (shOf (colOf r h.toNat)) h ws∧ws.length ≤ r.length∧(ws.length < r.length -> ∀ H',SameT P lp qnB H H' -> E (.ref cB) none H') ∧
  (¬ ws.length < r.length -> ∀ (D:Addr) (H':Hp),SameT P lp qnB H H' -> H D = none -> H' D = some (lsI (ws.map (ixC (colOf r h.toNat)))) -> Q (.ref D) H'))
end PH
set_option Elab.async false
set_option linter.all false
set_option maxRecDepth 100000
set_option maxHeartbeats 4000000
namespace PH
open PySem L2 PySem.W
theorem nd_len:∀ (n:Nat) {l:List Int},l.Nodup -> (∀ x ∈ l,0 ≤ x∧x < n) -> l.length ≤ n
 | 0,l,_,h => by
  cases l with
  | nil => exact Nat.le_refl _
  | cons x _ => have:=h x List.mem_cons_self; trivial
 | n + 1,l,nd,h => by
  have h1:=nd_len n (l:=l.filter fun x => decide (x ≠ (n:Int))) (nd.sublist List.filter_sublist) fun x hx => by
   obtain ⟨h1,h2⟩:=List.mem_filter.mp hx
   have h2:=of_decide_eq_true h2
   have:=h x h1
   trivial
  have h2:l.length ≤ (l.filter fun x => decide (x ≠ (n:Int))).length + 1:=by
   clear h1 h
   induction l with
   | nil => simp
   | cons x l ih =>
    rw [List.nodup_cons] at nd
    by_cases e:x = (n:Int)
    ·have:l.filter (fun x => decide (x ≠ (n:Int))) = l:=List.filter_eq_self.mpr fun y hy => decide_eq_true fun z => nd.1 (by rw [e,← z]; exact hy)
     rw [List.filter_cons_of_neg (by simp [e]),this,List.length_cons]
     exact Nat.le_refl _
    ·have:=ih nd.2
     rw [List.filter_cons_of_pos (by simp [e]),List.length_cons,List.length_cons]
     trivial
  trivial
theorem nd_at {l:List Int} (nd:l.Nodup) {i j:Nat} {z:Int} (hi:l[i]? = some z) (hj:l[j]? = some z):i = j:=by
 obtain ⟨h1,e1⟩:=List.getElem?_eq_some_iff.mp hi
 obtain ⟨h2,e2⟩:=List.getElem?_eq_some_iff.mp hj
 have a:=nd.idxOf_getElem (i:=i) h1
 have b:=nd.idxOf_getElem (i:=j) h2
 rw [e1] at a
 rw [e2] at b
 trivial
section
variable {sh:List Int} {n:Nat}
structure Run (sh:List Int) (h:Int) (ws:List Int):Prop where
 at_:∀ (i:Nat) (x y:Int),(h :: ws)[i]? = some x -> ws[i]? = some y -> sh[x.toNat]? = some y
 nh:h ∉ ws
theorem sh_inj (hp:sh.Perm (rgI n)) {x y:Nat} {z:Int} (hx:sh[x]? = some z) (hy:sh[y]? = some z):x = y:=by
 have nd:sh.Nodup:=hp.symm.nodup (by
  unfold rgI
  exact List.Pairwise.map _ (fun a b (h:a ≠ b) => show (a:Int) ≠ (b:Int) by trivial) List.nodup_range)
 exact nd_at nd hx hy
theorem run_nd (hp:sh.Perm (rgI n)) {h:Int} {ws:List Int} (hr:Run sh h ws) (hb:∀ x ∈ h :: ws,0 ≤ x∧x < n):(h :: ws).Nodup:=by
 have key:∀ (i d:Nat) (x:Int),(h :: ws)[i]? = some x -> (h :: ws)[i + (d + 1)]? = some x -> False:=by
  intro i
  induction i with
  | zero =>
   intro d x h1 h2
   rw [Nat.zero_add,List.getElem?_cons_succ] at h2
   rw [List.getElem?_cons_zero] at h1
   exact hr.nh (by rw [Option.some.inj h1]; exact List.mem_of_getElem? h2)
  | succ i ih =>
   intro d x h1 h2
   rw [List.getElem?_cons_succ] at h1
   rw [show i + 1 + (d + 1) = (i + (d + 1)) + 1 by trivial,List.getElem?_cons_succ] at h2
   have l1:=(List.getElem?_eq_some_iff.mp h1).1
   have l2:=(List.getElem?_eq_some_iff.mp h2).1
   obtain ⟨y1,g1⟩:∃ y,(h :: ws)[i]? = some y:=⟨_,List.getElem?_eq_getElem (by rw [List.length_cons]; trivial)⟩
   obtain ⟨y2,g2⟩:∃ y,(h :: ws)[i + (d + 1)]? = some y:=⟨_,List.getElem?_eq_getElem (by rw [List.length_cons]; trivial)⟩
   have e:=sh_inj hp (hr.at_ i y1 x g1 h1) (hr.at_ _ y2 x g2 h2)
   have b1:=hb y1 (List.mem_of_getElem? g1)
   have b2:=hb y2 (List.mem_of_getElem? g2)
   obtain rfl:y1 = y2:=by trivial
   exact ih d y1 g1 g2
 rw [List.nodup_iff_pairwise_ne,List.pairwise_iff_getElem]
 intro i j hi hj hij e
 exact key i (j - i - 1) _ (List.getElem?_eq_getElem hi) (by rw [show i + (j - i - 1 + 1) = j by trivial,List.getElem?_eq_getElem hj,e])
theorem walk_closes (hp:sh.Perm (rgI n)) {h:Int} (h0:0 ≤ h) (h1:h < n):∃ ws,Wk sh h ws∧ws.length + 1 ≤ n:=by
 have hl:sh.length = n:=by rw [hp.length_eq,rg_len]
 have hm:∀ {k:Nat} {x:Int},sh[k]? = some x -> 0 ≤ x∧x < n:=fun {k x} e => mem_rg.mp (hp.mem_iff.mp (List.mem_of_getElem? e))
 have go:∀ (f:Nat) (ws:List Int),ws.length + f = n -> Run sh h ws -> (∀ x ∈ h :: ws,0 ≤ x∧x < n) -> ∃ ws,Wk sh h ws∧ws.length + 1 ≤ n:=by
  intro f
  induction f with
  | zero =>
   intro ws e hr hb
   have:=nd_len n (run_nd hp hr hb) hb
   rw [List.length_cons] at this
   trivial
  | succ f ih =>
   intro ws e hr hb
   have hlast:∃ x,(h :: ws)[ws.length]? = some x:=⟨_,List.getElem?_eq_getElem (by rw [List.length_cons]; trivial)⟩
   obtain ⟨x,hx⟩:=hlast
   have bx:=hb x (List.mem_of_getElem? hx)
   obtain ⟨y,hy⟩:∃ y,sh[x.toNat]? = some y:=⟨_,List.getElem?_eq_getElem (by trivial)⟩
   have by_:=hm hy
   by_cases c:y = h
   ·subst c
    refine ⟨ws,⟨fun i z hz => ⟨(hb z (List.mem_of_getElem? hz)).1,?_⟩,hr.nh⟩,by trivial⟩
    by_cases hi:i < ws.length
    ·rw [List.getElem?_append_left hi,List.getElem?_eq_getElem hi]
     exact hr.at_ i z _ hz (List.getElem?_eq_getElem hi)
    ·have hi2:i < (y :: ws).length:=(List.getElem?_eq_some_iff.mp hz).1
     rw [List.length_cons] at hi2
     obtain rfl:i = ws.length:=by trivial
     rw [hx] at hz
     cases hz
     rw [List.getElem?_append_right (Nat.le_refl _),Nat.sub_self]
     exact hy
   ·refine ih (ws ++ [y]) (by rw [List.length_append,List.length_singleton]; trivial) ⟨fun i a b ha hb' => ?_,fun hm' => ?_⟩ fun z hz => ?_
    ·rw [← List.cons_append] at ha
     by_cases hi:i < ws.length
     ·rw [List.getElem?_append_left (by rw [List.length_cons]; trivial)] at ha
      rw [List.getElem?_append_left hi] at hb'
      exact hr.at_ i a b ha hb'
     ·have hi2:=(List.getElem?_eq_some_iff.mp hb').1
      rw [List.length_append,List.length_singleton] at hi2
      obtain rfl:i = ws.length:=by trivial
      rw [List.getElem?_append_left (by rw [List.length_cons]; trivial),hx] at ha
      rw [List.getElem?_append_right (Nat.le_refl _),Nat.sub_self] at hb'
      cases ha
      have:y = b:=Option.some.inj hb'
      rw [← this]; exact hy
    ·rcases List.mem_append.mp hm' with z | z
     ·exact hr.nh z
     ·exact c (List.mem_singleton.mp z).symm
    ·rw [← List.cons_append] at hz
     rcases List.mem_append.mp hz with z' | z'
     ·exact hb z z'
     ·rw [List.mem_singleton.mp z']; exact by_
 refine go n [] (by simp) ⟨fun i x y _ hb => by simp at hb,by simp⟩ fun x hx => ?_
 rw [List.mem_singleton.mp hx]
 exact ⟨h0,h1⟩
end
theorem back_text {r:List Int} {k:Nat} {ws:List Int} (hk:k ≤ r.length) (hr:∀ z ∈ r,0 ≤ z) (wk:Wk (shOf (colOf r k)) (k:Int) ws) (hl:ws.length = r.length) :
  rowT (ws.map (ixC (colOf r k))) = r∧holeT (ws.map (ixC (colOf r k))) = (k:Int):=by
 have hcl:=col_len r hk
 have hck:ixC (colOf r k) (k:Int) = -1:=by
  unfold ixC colOf
  rw [Int.toNat_natCast,List.getElem?_append_right (by rw [List.length_take]; trivial),List.length_take,show k - min k r.length = 0 by trivial]
  rfl
 have hpos:∀ x:Int,0 ≤ x -> x < r.length + 1 -> x ≠ (k:Int) -> 0 ≤ ixC (colOf r k) x:=fun x h1 h2 h3 => by
  have hm:∃ z,(colOf r k)[x.toNat]? = some z:=⟨_,List.getElem?_eq_getElem (by trivial)⟩
  obtain ⟨z,hz⟩:=hm
  unfold ixC
  rw [hz]
  show 0 ≤ z
  unfold colOf at hz
  by_cases c:x < k
  ·rw [List.getElem?_append_left (by rw [List.length_take]; trivial)] at hz
   exact hr z (List.mem_of_mem_take (List.mem_of_getElem? hz))
  ·rw [List.getElem?_append_right (by rw [List.length_take]; trivial),List.length_take,show x.toNat - min k r.length = (x.toNat - k - 1) + 1 by trivial,List.getElem?_cons_succ] at hz
   exact hr z (List.mem_of_mem_drop (List.mem_of_getElem? hz))
 have hsp:=sh_perm (colOf r k)
 have hss:=sh_sorted (colOf r k)
 have hsl:=sh_len (colOf r k)
 have ecol:colOf r k = (rgI (r.length + 1)).map (ixC (colOf r k)):=by
  apply List.ext_getElem
  ·rw [List.length_map,rg_len,hcl]
  ·intro i h1 h2
   rw [List.getElem_map]
   have e:(rgI (r.length + 1))[i]'(by rw [rg_len]; trivial) = (i:Int):=by
    show ((List.range (r.length + 1)).map fun k => ((k:Nat):Int))[i]'(by rw [List.length_map,List.length_range]; trivial) = _
    rw [List.getElem_map,List.getElem_range]
   rw [e]
   unfold ixC
   rw [Int.toNat_natCast,List.getElem?_eq_getElem h1]; rfl
 have hcolr:∀ r',r'.length = r.length -> colOf r' k = colOf r k -> r' = r:=fun r' hl' e => by
  unfold colOf at e
  have:=List.append_inj e (by rw [List.length_take,List.length_take,hl'])
  rw [← List.take_append_drop k r',← List.take_append_drop k r,this.1,(List.cons.inj this.2).2]
 generalize hc:colOf r k = c at *
 rw [hcl] at hsp hsl
 have hb:∀ x ∈ (k:Int) :: ws,0 ≤ x∧x < ((r.length + 1:Nat):Int):=fun x hx => by
  obtain ⟨i,hi,e⟩:=List.getElem_of_mem hx
  obtain ⟨h0,h1⟩:=wk.at_ i x (by rw [← e]; exact List.getElem?_eq_getElem hi)
  rw [List.length_cons] at hi
  rw [List.getElem?_eq_getElem (show i < (ws ++ [(k:Int)]).length by rw [List.length_append,List.length_singleton]; exact hi)] at h1
  have:=(List.getElem?_eq_some_iff.mp h1).1
  exact ⟨h0,by trivial⟩
 have hrun:Run (shOf c) (k:Int) ws:=⟨fun i x y hx hy => by
  rw [(wk.at_ i x hx).2,List.getElem?_append_left (List.getElem?_eq_some_iff.mp hy).1,hy],wk.nh⟩
 have nd:=run_nd hsp hrun hb
 -- the places of the walk: all of them
 generalize hp:(k:Int) :: ws = p at *
 have hpl:p.length = r.length + 1:=by rw [← hp,List.length_cons,hl]
 have p0:p[0]? = some (k:Int):=by rw [← hp]; rfl
 have pS:∀ i,p[i + 1]? = ws[i]?:=fun i => by rw [← hp]; rfl
 -- every place is on it
 have hall:∀ x:Int,0 ≤ x -> x < ((r.length + 1:Nat):Int) -> x ∈ p:=fun x h1 h2 => by
  by_cases hm:x ∈ p
  ·exact hm
  ·exfalso
   have:=nd_len (r.length + 1) (l:=x :: p) (List.nodup_cons.mpr ⟨hm,nd⟩) fun y hy => by
    rcases List.mem_cons.mp hy with e | e
    ·rw [e]; exact ⟨h1,h2⟩
    ·exact hb y e
   rw [List.length_cons] at this
   trivial
 have ht:(ws.map (ixC c)).length = r.length:=by rw [List.length_map,hl]
 -- what stands behind a place
 have nxt:∀ (i:Nat) (x:Int),p[i]? = some x -> ∃ y,(shOf c)[x.toNat]? = some y∧(i < r.length -> p[i + 1]? = some y∧(ws.map (ixC c))[i]? = some (ixC c y)∧y ≠ (k:Int)∧0 ≤ y∧y < ((r.length + 1:Nat):Int))∧(i = r.length -> y = (k:Int)):=fun i x hx => by
  have hi:i < r.length + 1:=by rw [← hpl]; exact (List.getElem?_eq_some_iff.mp hx).1
  obtain ⟨_,h1⟩:=wk.at_ i x (by rw [hp]; exact hx)
  have hm:∃ y,(ws ++ [(k:Int)])[i]? = some y:=⟨_,List.getElem?_eq_getElem (by rw [List.length_append,List.length_singleton]; trivial)⟩
  obtain ⟨y,hy⟩:=hm
  rw [hy] at h1
  refine ⟨y,h1,fun hlt => ?_,fun he => ?_⟩
  ·rw [List.getElem?_append_left (by trivial)] at hy
   have hyp:p[i + 1]? = some y:=by rw [pS]; exact hy
   have:=hb y (List.mem_of_getElem? hyp)
   exact ⟨hyp,by rw [List.getElem?_map,hy]; rfl,fun z => wk.nh (z ▸ List.mem_of_getElem? hy),this.1,this.2⟩
  ·rw [List.getElem?_append_right (by trivial),show i - ws.length = 0 by trivial] at hy
   exact (Option.some.inj hy).symm
 generalize hT:ws.map (ixC c) = t at *
 -- places in order: endings in order
 have key:∀ (d i j:Nat) (x y:Int),i + d = r.length ∨ j + d = r.length -> i ≤ r.length -> j ≤ r.length -> p[i]? = some x -> p[j]? = some y -> x < y -> HT.lexLt (t.drop i) (t.drop j) = true:=by
  intro d
  induction d with
  | zero =>
   intro i j x y hd hi hj hx hy hxy
   obtain ⟨x',sx,ex,fx⟩:=nxt i x hx
   obtain ⟨y',sy,ey,fy⟩:=nxt j y hy
   have bx:=hb x (List.mem_of_getElem? hx)
   have by_:=hb y (List.mem_of_getElem? hy)
   have le:LeC c x' y':=by
    obtain ⟨g1,e1⟩:=List.getElem?_eq_some_iff.mp sx
    obtain ⟨g2,e2⟩:=List.getElem?_eq_some_iff.mp sy
    have:=List.pairwise_iff_getElem.mp hss _ _ g1 g2 (by trivial)
    rw [e1,e2] at this; exact this
   have hne:i ≠ j:=fun z => by rw [z,hy] at hx; cases hx; trivial
   by_cases cj:j = r.length
   ·exfalso
    have:=fy cj
    obtain ⟨_,_,n1,n2,n3⟩:=ex (by trivial)
    have p1:=hpos x' n2 (by trivial) n1
    unfold LeC at le
    rw [this,hck] at le
    trivial
   ·have ci:i = r.length:=by trivial
    rw [ci,List.drop_of_length_le (by trivial)]
    obtain ⟨z,zs,e⟩:∃ z zs,t.drop j = z :: zs:=⟨_,_,List.drop_eq_getElem_cons (by trivial)⟩
    rw [e]; rfl
  | succ d ih =>
   intro i j x y hd hi hj hx hy hxy
   obtain ⟨x',sx,ex,fx⟩:=nxt i x hx
   obtain ⟨y',sy,ey,fy⟩:=nxt j y hy
   have bx:=hb x (List.mem_of_getElem? hx)
   have by_:=hb y (List.mem_of_getElem? hy)
   have le:LeC c x' y':=by
    obtain ⟨g1,e1⟩:=List.getElem?_eq_some_iff.mp sx
    obtain ⟨g2,e2⟩:=List.getElem?_eq_some_iff.mp sy
    have:=List.pairwise_iff_getElem.mp hss _ _ g1 g2 (by trivial)
    rw [e1,e2] at this; exact this
   have hne:i ≠ j:=fun z => by rw [z,hy] at hx; cases hx; trivial
   by_cases cj:j = r.length
   ·exfalso
    have:=fy cj
    obtain ⟨_,_,n1,n2,n3⟩:=ex (by trivial)
    have p1:=hpos x' n2 (by trivial) n1
    unfold LeC at le
    rw [this,hck] at le
    trivial
   ·by_cases ci:i = r.length
    ·rw [ci,List.drop_of_length_le (by trivial)]
     obtain ⟨z,zs,e⟩:∃ z zs,t.drop j = z :: zs:=⟨_,_,List.drop_eq_getElem_cons (by trivial)⟩
     rw [e]; rfl
    ·obtain ⟨px,tx,_⟩:=ex (by trivial)
     obtain ⟨py,ty,_⟩:=ey (by trivial)
     obtain ⟨gi,ei⟩:=List.getElem?_eq_some_iff.mp tx
     obtain ⟨gj,ej⟩:=List.getElem?_eq_some_iff.mp ty
     rw [List.drop_eq_getElem_cons gi,List.drop_eq_getElem_cons gj,ei,ej,HT.lexLt_cons]
     unfold LeC at le
     by_cases e:ixC c x' = ixC c y'
     ·rw [if_pos e]
      refine ih (i + 1) (j + 1) x' y' (by trivial) (by trivial) (by trivial) px py ?_
      have hne':x' ≠ y':=fun z => by
       rw [z] at px
       have:=nd_at nd px py
       trivial
      trivial
     ·rw [if_neg e]
      exact decide_eq_true (by trivial)
 -- the endings
 have hends:endsOf t = (rgI (r.length + 1)).map fun x => ((p.idxOf x:Nat):Int):=by
  have hpp:p.Perm (rgI (r.length + 1)):=by
   refine (List.perm_ext_iff_of_nodup nd ?_).mpr fun x => ⟨fun hx => mem_rg.mpr (hb x hx),fun hx => hall x (mem_rg.mp hx).1 (mem_rg.mp hx).2⟩
   unfold rgI
   exact List.Pairwise.map _ (fun a b (h:a ≠ b) => show (a:Int) ≠ (b:Int) by trivial) List.nodup_range
  refine (ends_eq ?_ ?_).symm
  ·rw [ht]
   refine (hpp.symm.map _).trans (.of_eq ?_)
   rw [pos_map nd,hpl]
  ·rw [List.pairwise_map]
   have hlt:(rgI (r.length + 1)).Pairwise (· < ·):=by
    unfold rgI
    rw [List.pairwise_map]
    exact List.pairwise_lt_range.imp fun h => by trivial
   refine List.Pairwise.imp_of_mem ?_ hlt
   intro x y hx hy hxy
   have mx:=hall x (mem_rg.mp hx).1 (mem_rg.mp hx).2
   have my:=hall y (mem_rg.mp hy).1 (mem_rg.mp hy).2
   have lx:=List.idxOf_lt_length_of_mem mx
   have ly:=List.idxOf_lt_length_of_mem my
   rw [Int.toNat_natCast,Int.toNat_natCast]
   have h1:=key (r.length - p.idxOf x) (p.idxOf x) (p.idxOf y) x y (.inl (by trivial)) (by trivial) (by trivial) (by rw [List.getElem?_eq_getElem lx,List.getElem_idxOf lx]) (by rw [List.getElem?_eq_getElem ly,List.getElem_idxOf ly]) hxy
   cases hz:HT.lexLt (t.drop (p.idxOf y)) (t.drop (p.idxOf x)) with
   | false => rfl
   | true =>
    have:=lex_trans _ _ _ h1 hz
    rw [lex_irr] at this; cases this
 have hhole:holeT t = (k:Int):=by
  have h0:(0:Int) ∈ endsOf t:=ends_mem.mpr ⟨by trivial,by trivial⟩
  have hlt:=List.idxOf_lt_length_of_mem h0
  have hg:=List.getElem_idxOf hlt
  have hk':(endsOf t)[k]? = some 0:=by
   rw [hends,List.getElem?_map]
   have e:(rgI (r.length + 1))[k]? = some (k:Int):=by unfold rgI; rw [List.getElem?_map,List.getElem?_range (by trivial)]; rfl
   rw [e]
   have:p.idxOf (k:Int) = 0:=by
    have:=nd.idxOf_getElem (i:=0) (by trivial)
    rw [(List.getElem?_eq_some_iff.mp p0).2] at this
    exact this
   show some ((p.idxOf (k:Int):Nat):Int) = some 0
   rw [this]; rfl
  obtain ⟨g,e⟩:=List.getElem?_eq_some_iff.mp hk'
  have:=(ends_nd t).idxOf_getElem (i:=k) g
  rw [e] at this
  unfold holeT
  rw [this]
 refine ⟨hcolr _ (by rw [row_len,ht]) ?_,hhole⟩
 have:=col_text t
 rw [hhole,Int.toNat_natCast] at this
 rw [this,hends,List.map_map,ecol]
 refine List.map_congr_left fun x hx => ?_
 have bx:=mem_rg.mp hx
 have mx:=hall x bx.1 bx.2
 have lx:=List.idxOf_lt_length_of_mem mx
 have gx:p[p.idxOf x]? = some x:=by rw [List.getElem?_eq_getElem lx,List.getElem_idxOf lx]
 show colE t ((p.idxOf x:Nat):Int) = ixC c x
 unfold colE
 generalize p.idxOf x = i at lx gx
 by_cases c0:i = 0
 ·rw [c0] at gx ⊢
  rw [p0] at gx
  rw [if_pos (show ((0:Nat):Int) = 0 from rfl),← Option.some.inj gx,hck]
 ·rw [if_neg (by trivial)]
  obtain ⟨m,rfl⟩:∃ m,i = m + 1:=⟨i - 1,by trivial⟩
  rw [pS] at gx
  rw [show (((m + 1:Nat):Int) - 1).toNat = m by trivial,← hT,List.getElem?_map,gx]
  rfl
end PH
set_option Elab.async false
set_option linter.all false
set_option maxRecDepth 100000
set_option maxHeartbeats 4000000
namespace PH
open PySem L2 PySem.W
structure Same2 (P1:Addr) (l1:Pos) (q1:Str) (P2:Addr) (l2:Pos) (q2:Str) (H H':Hp):Prop where
 kb:∀ b u,b ≠ P1 -> b ≠ P2 -> H b = some u -> H' b = some u
 t1:TB P1 l1 q1 H'
 t2:TB P2 l2 q2 H'
section
variable {P1 P2:Addr} {l1 l2:Pos} {q1 q2:Str} {H H1 H2:Hp}
theorem Same2.trans (a:Same2 P1 l1 q1 P2 l2 q2 H H1) (b:Same2 P1 l1 q1 P2 l2 q2 H1 H2):Same2 P1 l1 q1 P2 l2 q2 H H2:=⟨fun x u n m e => b.kb x u n m (a.kb x u n m e),b.t1,b.t2⟩
theorem Same2.g (s:Same2 P1 l1 q1 P2 l2 q2 H H1) (t1:TB P1 l1 q1 H) (t2:TB P2 l2 q2 H) {b:Addr} {u:HO} (h:H b = some u) (n:∀ ps,u ≠ .tbl ps:=by intro ps z; cases z):H1 b = some u:=s.kb b u (t1.ne h n) (t2.ne h n) h
end
theorem ends_first (t:List Int):(endsOf t)[0]? = some (t.length:Int):=by
 have hl:=ends_len t
 have hm:(t.length:Int) ∈ endsOf t:=ends_mem.mpr ⟨by trivial,by trivial⟩
 have hlt:=List.idxOf_lt_length_of_mem hm
 have hg:=List.getElem_idxOf hlt
 by_cases c:(endsOf t).idxOf (t.length:Int) = 0
 ·have:(endsOf t)[(endsOf t).idxOf (t.length:Int)]? = some (t.length:Int):=by rw [List.getElem?_eq_getElem hlt,hg]
  rw [c] at this; exact this
 ·exfalso
  have h1:=List.pairwise_iff_getElem.mp (ends_sorted t) 0 _ (by trivial) hlt (by trivial)
  have h2:=List.pairwise_iff_getElem.mp (ends_nd t) 0 _ (by trivial) hlt (by trivial)
  rw [hg] at h1 h2
  have m0:=ends_mem.mp (List.getElem_mem (show 0 < (endsOf t).length by trivial))
  rw [Int.toNat_natCast,List.drop_of_length_le (Nat.le_refl _)] at h1
  rw [List.drop_eq_getElem_cons (show ((endsOf t)[0]'(by trivial)).toNat < t.length by trivial),HT.lexLt_nil_cons] at h1
  cases h1
theorem ends_hole (t:List Int):(endsOf t)[(holeT t).toNat]? = some 0:=by
 have hm:(0:Int) ∈ endsOf t:=ends_mem.mpr ⟨by trivial,by trivial⟩
 have hlt:=List.idxOf_lt_length_of_mem hm
 unfold holeT
 rw [Int.toNat_natCast,List.getElem?_eq_getElem hlt,List.getElem_idxOf hlt]
theorem row_prm (t:List Int):(rowT t).Perm t:=by
 have h0:(colOf (rowT t) (holeT t).toNat).Perm ((-1) :: rowT t):=by
  unfold colOf
  refine List.perm_middle.trans (.cons _ (.of_eq ?_))
  rw [List.take_append_drop]
 rw [col_text] at h0
 have h1:=(ends_perm t).map (colE t)
 have e:(rgI (t.length + 1)).map (colE t) = (-1) :: t:=by
  apply List.ext_getElem
  ·rw [List.length_map,rg_len,List.length_cons]
  ·intro i a b
   rw [List.getElem_map]
   have e:(rgI (t.length + 1))[i]'(by rw [List.length_map] at a; exact a) = (i:Int):=by
    show ((List.range (t.length + 1)).map fun k => ((k:Nat):Int))[i]'(by rw [List.length_map,List.length_range]; rw [List.length_cons] at b; trivial) = _
    rw [List.getElem_map,List.getElem_range]
   rw [e]
   unfold colE
   cases i with
   | zero => rfl
   | succ i =>
    rw [if_neg (by trivial),List.getElem_cons_succ,show (((i + 1:Nat):Int) - 1).toNat = i by trivial,List.getElem?_eq_getElem (by rw [List.length_cons] at b; trivial)]
    rfl
 rw [e] at h1
 exact (List.perm_cons _).mp (h0.symm.trans h1)
end PH
set_option Elab.async false
set_option linter.all false
set_option maxRecDepth 100000
namespace PySem
open Sem (wp)
open AutoSeq1 (wpAny_loadPart')
section
variable {prog:Program} {w:World} {A:Around} {E:Value -> Shared -> Prop} {s:Shared}
theorem callType_meetsK {T newId initId:String} {Bn Bi:Builtin} {args:List Value} {kw:List (Str × Value)} {S:Spec} {Q Q₁:Value -> Shared -> Prop} (ft:TypeCalled T newId initId)
  (hct:checkTypeCall T ⟨args,kw⟩ = pure ()) (hcn:checkBuiltinCall newId ⟨.type T :: args,kw⟩ = pure ())
  (entryN:entryFor table newId = some Bn) (entryI:entryFor table initId = some Bi) (g:Meets (Bn ⟨.type T :: args,kw⟩) S)
  (h:S A.in1 (wants Q₁ E) s)
  (hnext:∀ obj s₁,Q₁ obj s₁ -> s₁.TypeIs obj T∧argsOk initId ⟨obj :: args,kw⟩∧∃ Si,Meets (Bi ⟨obj :: args,kw⟩) Si∧Si A.in1 (wants (fun r s₂ => r = .none∧Q obj s₂) E) s₁) :
  wpAny (model prog w) A (call (.type T) args kw) Q E s:=by
 obtain ⟨c,tl,hmro⟩:=ft.mro
 have hmade:=ft.made
 have hsub:=ft.sub
 refine wpAny_call (codeAny_of_tree ?_)
 show wpAny _ _ (callAny (.type T) _) _ _ _
 refine wpAny_pure ⟨Code.quiet_builtin _ (by decide +kernel),codeAny_builtin F.entry_type_call ?_⟩
 rw [Around.under_plain (weight_type_call_type T args kw) (units_type_call_type T args kw)]
 have h1:=ft.notType
 have h2:=ft.canCreate
 repeat (any_goals (first | assumption | wp_step))
 refine codeAny_mono (codeAny_call_builtin ft.plain entryN (wpAny_of_eq hcn (g prog w A.in1 _ s h))) fun r s₁ hr => ?_
 cases r with
 | error e => exact hr
 | ok fl =>
  cases fl with
  | ret obj =>
   obtain ⟨hT,hok,Si,gi,hsi⟩:=hnext _ _ hr
   have hli:=ft.init.lookup
   have hbi:=ft.init.bind obj
   repeat (any_goals (first | assumption | wp_step))
   refine codeAny_mono (codeAny_call_builtin ft.init.plain entryI (ft.init.check _ _ _ _ _ _ _ _ hT hok (gi prog w A.in1 _ s₁ hsi))) fun r₂ s₂ hr₂ => ?_
   cases r₂ with
   | error e => exact hr₂
   | ok fl₂ =>
    cases fl₂ with
    | ret r =>
     obtain ⟨rfl,hq⟩:=hr₂
     repeat (any_goals (first | assumption | wp_step))
    | _ => exact hr₂.elim
  | _ => exact hr.elim
theorem object_init_meetsK {T newId:String} {self a:Value} {kw:List (Str × Value)} (hl:typeLookup (.type T) "__init__" = pure (some (.builtin "object.__init__")))
  (hm:Bind.madeBy (.type T) = pure (some newId)) (hne:(some newId != some "object.__new__") = true) :
  Meets (Builtin.«object.__init__» ⟨[self,a],kw⟩) (fun _ R s => s.TypeIs self T∧R (.ok (.ret .none)) s):=by
 refine Meets.of_wp fun prog w A R s hs => ?_
 obtain ⟨hT,hq⟩:=hs
 repeat (any_goals (first | assumption | wp_step))
 exact ⟨_,rfl,hq⟩
theorem meets_enumerate_newK (l:Addr) (items:Array Value) (n:Nat) (dct:Option Addr) (sl:Array (Option Value)) (t:Tok) :
  Meets (Builtin.«enumerate.__new__» ⟨[.type "enumerate", .ref l], [(Str.ofString "start", .int 1 t)]⟩) (fun _ R s => s.heap.get? l = some { cls:=.type "list", dict:=dct, data:=.seq items n, slots:=sl } ∧
   R (.ok (.ret (.ref (s.heap.push { cls:=.type "list_iterator", data:=.fields #[.ref l, .int 0 0] }).objs.size)))
    { s with heap:=(s.heap.push { cls:=.type "list_iterator", data:=.fields #[.ref l, .int 0 0] }).push { cls:=.type "enumerate", data:=.fields #[.none, .bool false, .ref s.heap.objs.size, rawInt 1, .none, .none] } }) :=
 .of_wp fun prog w A R s h => by
  obtain ⟨hp,g,d,tk,os⟩:=s; obtain ⟨hl,h⟩:=h
  have hsub:=sub_enumerate
  have hL:Heap.IsList (Shared.heap ⟨hp,g,d,tk,os⟩) l items:=⟨_,hl,rfl,n,rfl⟩
  wp_walk using wpAny_loadPart' hl
  refine wpAny_stack_any fun st => wpAny_pure ?_
  split
  ·rename_i c _ _ _ _ _
   cases (c == Value.type "enumerate")
   ·wp_walk using wpAny_loadPart' hl,wpAny_pyIter_list hL
    exact ⟨_,rfl,h⟩
   ·wp_walk using wpAny_loadPart' hl,wpAny_pyIter_list hL
    exact ⟨_,rfl,h⟩
  ·wp_walk using wpAny_loadPart' hl,wpAny_pyIter_list hL
   exact ⟨_,rfl,h⟩
end
end PySem
namespace PySem
open Sem (wp)
section
variable {prog:Program} {w:World} {A:Around} {E:Value -> Shared -> Prop} {s:Shared}
theorem en1_typeCall (a v:Value):checkTypeCall "enumerate" ⟨[a], [(Str.ofString "start", v)]⟩ = pure ():=by kernel_rfl
theorem en1_newCall (a v:Value):checkBuiltinCall "enumerate.__new__" ⟨[.type "enumerate", a], [(Str.ofString "start", v)]⟩ = pure ():=by kernel_rfl
theorem en1_init (o a v:Value):argsOk "object.__init__" ⟨[o, a], [(Str.ofString "start", v)]⟩:=by unfold argsOk; kernel_rfl
theorem call_enumerate_one {l:Addr} {items:Array Value} {t:Tok} {Q:Value -> Shared -> Prop} (hL:s.heap.IsList l items)
  (h:∀ h',IsEnum h' (s.heap.objs.size + 1) s.heap.objs.size 1 .none -> h'.IsListIter s.heap.objs.size l 0 -> h'.objs.size = s.heap.objs.size + 2 →
   (∀ b o,s.heap.get? b = some o -> h'.get? b = some o) -> Q (.ref (s.heap.objs.size + 1)) { s with heap:=h' }) :
  wpAny (model prog w) A (call (.type "enumerate") [.ref l] [(Str.ofString "start", .int 1 t)]) Q E s:=by
 obtain ⟨⟨c,dct,dt,sl⟩,hl,hc,n,hd⟩:=hL
 replace hc:c = .type "list":=hc
 replace hd:dt = .seq items n:=hd
 subst hc hd
 refine callType_meetsK F.called_enumerate (en1_typeCall _ _) (en1_newCall _ _) F.entry_enumerate_new F.entry_object_init (meets_enumerate_newK l items n dct sl t) (Q₁:=fun obj s₁ => s₁.TypeIs obj "enumerate"∧Q obj s₁) ⟨hl, ?_⟩ fun obj _ hq =>
  ⟨hq.1,en1_init _ _ _,_,object_init_meetsK F.called_enumerate.init.lookup F.called_enumerate.made (by decide),hq.1,rfl,hq.2⟩
 have hz:(s.heap.push { cls:=.type "list_iterator", data:=.fields #[.ref l, .int 0 0] }).objs.size = s.heap.objs.size + 1:=Heap.size_push ..
 show _∧_
 rw [hz]
 have he:IsEnum ((s.heap.push { cls:=.type "list_iterator", data:=.fields #[.ref l, .int 0 0] }).push
   { cls:=.type "enumerate", data:=.fields #[.none, .bool false, .ref s.heap.objs.size, rawInt 1, .none, .none] }) (s.heap.objs.size + 1) s.heap.objs.size 1 .none:=by
  have:=Heap.get?_push_size (s.heap.push { cls:=.type "list_iterator", data:=.fields #[.ref l, .int 0 0] })
   (o:={ cls:=.type "enumerate", data:=.fields #[.none, .bool false, .ref s.heap.objs.size, rawInt 1, .none, .none] }) rfl
  rw [hz] at this; exact this
 refine ⟨⟨_,he,rfl⟩,h _ he ⟨_,Heap.get?_push_of_some _ (Heap.get?_push_size _ rfl),rfl,rfl⟩ (by rw [Heap.size_push,hz]) fun b o x => Heap.get?_push_of_some _ (Heap.get?_push_of_some _ x)⟩
theorem Draws.shift {it:Addr} {fp:List Addr} {n:Nat} {P:Nat -> Value -> Prop} {St:Nat -> Heap -> Prop} (D:Draws prog w A it fp n P St) :
  Draws prog w A it fp (n + 1) (fun j v => ∃ k,j = k + 1∧P k v) (fun j h => ∃ k,j = k + 1∧St k h) where
 live:=fun i h ⟨k,_,st⟩ => D.live k h st
 frame:=fun i h h' ⟨k,e,st⟩ kp => ⟨k,e,D.frame k h h' st kp⟩
 item:=fun i s Q E hi ⟨k,e,st⟩ hQ => by
  subst e
  exact D.item k s Q E (Nat.lt_of_succ_lt_succ hi) st fun x h' tk p st' sb => hQ x h' tk ⟨k,rfl,p⟩ ⟨k + 1,rfl,st'⟩ sb
 done:=fun s Q E ⟨k,e,st⟩ hE => by
  have:k = n:=(Nat.succ.inj e).symm
  subst this
  exact D.done s Q E st hE
end
end PySem
namespace L2
open PySem PySem.Spec PyProof.Rows PySem.W
section
variable {X:Cx} {pins:List (Addr × Obj)} {σ:St} {H:Hp} {s:Shared}
noncomputable def Ite1 (K:Frag) (a:Addr):It :=
 ⟨fun i H => ∃ xs x,SqL K H a xs∧xs[i]? = some x,fun i H x H' => ∃ t y,x = .ref t∧H t = none∧H' = upd H t (.tup [.int ((i + 1:Nat):Int),y])∧∀ xs,SqL K H a xs -> xs[i]? = some y,fun i H => ∃ xs,SqL K H a xs∧xs.length = i⟩
theorem turn_enum1 {P:Program} {w:World} {K:Frag} {elts:List Expr} {x1} {pos:Pos} (a e it:Addr):Turn P w K (.Tuple elts x1 pos) (Ite1 K a) [e,it] e (fun i h => (∃ old,IsEnum h e it ((i + 1:Nat):Int) old)∧h.IsListIter it a i∧e ≠ it) where
 mem:=by simp
 obj:=fun i h st b hb => by
  obtain ⟨⟨old,he⟩,⟨o,ho,c,d⟩,_⟩:=st
  have e':b = e ∨ b = it:=by simpa using hb
  rcases e' with rfl | rfl
  ·exact ⟨_,he,fun v z => by cases z⟩
  ·exact ⟨o,ho,fun v z => by rw [d] at z; cases z⟩
 keep:=fun i h h' st k => by
  obtain ⟨⟨old,he⟩,hi,hne⟩:=st
  exact ⟨⟨old,k e (by simp) _ he⟩,hi.at fun o q => k it (by simp) o q,hne⟩
 item:=by
  intro X hP hw hK hc i pins s σ H E I hf st hg
  subst hP hw hK
  obtain ⟨xs,x,hq,hx⟩:=hg
  obtain ⟨⟨old,he⟩,hi,hne⟩:=st
  obtain ⟨its,rv,p,hz⟩:=I.list hq
  obtain ⟨u,hu,ru⟩:=rv.get hx
  have fe:=hf e (by simp)
  have fi:=hf it (by simp)
  have hel:e < s.heap.objs.size:=Heap.lt_size he
  have hil:it < s.heap.objs.size:=by obtain ⟨_,q,_⟩:=id hi; exact Heap.lt_size q
  have hae:a ≠ e:=fun z => by
   obtain ⟨o,q1,q2,_⟩:=p.isList
   rw [z,he] at q1
   cases q1
   exact absurd (Value.type.inj q2) (by decide)
  have hia:a ≠ it:=fun z => by
   obtain ⟨o,q1,q2,_⟩:=p.isList
   obtain ⟨o',q3,q4,_⟩:=id hi
   rw [z,q3] at q1
   cases q1
   rw [q4] at q2
   exact absurd (Value.type.inj q2) (by decide)
  have D:=(Draws.list (prog:=X.prog) (w:=X.w) (A:=X.A.in1) (I.ok.hd hc) it a hia its.toArray).shift
  have hlt:i + 1 < its.toArray.size + 1:=by
   have:=(List.getElem?_eq_some_iff.mp hu).1
   rw [List.size_toArray]
   trivial
  refine wpAny_pyNext_enum_itemD (i:=i + 1) D he ⟨i,rfl,hi,p.isList⟩ hlt hne (by simp [hne,hae.symm]) fun x' h' tk hP ho hs' hT hsz hk => ?_
  obtain ⟨k',ek,hk'⟩:=hP
  obtain rfl:k' = i:=(Nat.succ.inj ek).symm
  obtain ⟨k2',ek2,hi',_⟩:=hs'
  obtain rfl:k2' = k' + 1:=(Nat.succ.inj ek2).symm
  obtain rfl:x' = u:=by
   have h1:its[k']? = some x':=by simpa using hk'
   rw [hu] at h1
   exact (Option.some.inj h1).symm
  refine ⟨_,rfl,wpAny_letOwnedTupleGo_enum ho fun h2 he2 hs2 => ?_⟩
  have hfr:H s.heap.objs.size = none:=I.hok.fresh (Nat.le_refl _)
  have hT2:h2.get? s.heap.objs.size = some { cls:=.type "tuple", data:=.seq #[.int ((k' + 1:Nat):Int) tk, x'] }:=(hs2.2 _ (Nat.ne_of_gt hel)).trans hT
  have k2:∀ b o,b ≠ e -> b ≠ it -> s.heap.get? b = some o -> h2.get? b = some o:=fun b o n1 n2 q => (hs2.2 b n1).trans (hk b o n1 n2 q)
  have I2:Inv X pins σ (upd H s.heap.objs.size (.tup [.int ((k' + 1:Nat):Int),x])) { s with heap:=h2,toks:=tk + 1 } :=
   I.turned2L k2 fe fi (Nat.le_refl _) (show ObjOk X.prog X.w _ h2 _ (.tup [.int ((k' + 1:Nat):Int),x]) from ⟨by show 2 ≤ sizeLine; decide,[.int ((k' + 1:Nat):Int) tk,x'],.cons ⟨_,rfl⟩ (.cons ru .nil),⟨_,hT2,rfl,_,rfl⟩⟩)
  refine ⟨.ref s.heap.objs.size,_,I2,rfl,⟨_,x,rfl,hfr,rfl,fun ys hy => by rw [I.list_inj hy hq]; exact hx⟩,⟨⟨_,by
   have:(((k' + 1:Nat):Int) + 1) = ((k' + 1 + 1:Nat):Int):=by trivial
   rw [this] at he2
   exact he2⟩,hi'.at fun o q => (hs2.2 it hne.symm).trans q,hne⟩,fun b hb => ?_⟩
  have e':b = e ∨ b = it:=by simpa using hb
  rcases e' with rfl | rfl
  ·rw [upd_ne (Nat.ne_of_lt hel)]; exact fe.1
  ·rw [upd_ne (Nat.ne_of_lt hil)]; exact fi.1
 done:=by
  intro X hP hw hK hc i pins s σ H E I hf st hg
  subst hP hw hK
  obtain ⟨xs,hq,hx⟩:=hg
  obtain ⟨⟨old,he⟩,hi,hne⟩:=st
  obtain ⟨its,rv,p,hz⟩:=I.list hq
  obtain ⟨f0,f1,f2,f3,f4,f5⟩:=hf it (by simp)
  have hl:=rv.length
  have hia:a ≠ it:=fun z => by
   obtain ⟨o,q1,q2,_⟩:=p.isList
   obtain ⟨o',q3,q4,_⟩:=id hi
   rw [z,q3] at q1
   cases q1
   rw [q4] at q2
   exact absurd (Value.type.inj q2) (by decide)
  have D:=(Draws.list (prog:=X.prog) (w:=X.w) (A:=X.A.in1) (I.ok.hd hc) it a hia its.toArray).shift
  have hii:i = its.toArray.size:=by rw [List.size_toArray]; trivial
  refine wpAny_pyNext_enum_endD D he ⟨i,by rw [← hii],hi,p.isList⟩ fun h' eb => ⟨rfl,I.turned (t':=s.toks) (fun b o hb e => eb b o hb e) f0 f1 f3 f4 f5⟩
 self:=fun _ _ _ _ _ st h => by
  obtain ⟨⟨old,he⟩,_⟩:=st
  exact wpAny_pyIter_enum he h
noncomputable def iEnum1 (K:Frag) (ta:TA):TI:=fun σ H R => ta σ H fun vs H1 => ∃ a,vs = [.ref a]∧(∃ xs,SqL K H1 a xs)∧R (Ite1 K a) H1
theorem callWith_typeK {M:Model} {A:Around} {E:Value -> Shared -> Prop} {s:Shared} {pos:Pos} {T:String} {first:List Value} {args:List (Bool × Sem Value)} {keywords:List (Option Str × Sem Value)} {Q:Value -> Shared -> Prop}
  (hplain:args.any (·.1) = false) (hkw:keywords.any (·.1.isNone) = false)
  (h:wpAny M A (evalArgs (.type T) true args keywords) (fun a s₁ => wpAny M A (call (.type T) (first ++ a.pos) a.kw) Q E s₁) E s) :
  wpAny M A (callWith pos (.type T) first args keywords) Q E s:=by
 unfold callWith
 refine wpAny_bind (wpAny_holding (wpAny_mono h (fun a s₁ h₁ => wpAny_bind (wpAny_standAt ?_)) fun _ _ x => x))
 simp only [hplain,hkw,Bool.or_false]
 refine wpAny_bind (wpAny_pure ?_)
 exact wpAny_bind (wpAny_mono h₁ (fun r s₂ hr => wpAny_bind (wpAny_holding (wpAny_point (wpAny_pure hr)))) fun _ _ x => x)
theorem pi_enum1 {elts:List Expr} {x1} {p':Pos} {a:Expr} {ta:TA} {p pos kp cp:Pos} {j:Nat} (hg:Gl X "enumerate") (hm:X.mg "enumerate" = none) (ha:PA X [a] ta) (hs:starEach [a] X.env = [(false, eval a X.env)]:=by rfl) :
  PI X (.Tuple elts x1 p') (.Call (.Name "enumerate" p) [a] [⟨some "start", .Constant (.int 1) j cp, kp⟩] pos) (iEnum1 X.K ta):=by
 intro pins s σ H R I h
 refine wpAny_Call_Name_kw (ld_blt I hg hm boot_enumerate ?_)
 refine callWith_typeK (by rw [hs]; rfl) rfl ?_
 rw [hs]
 refine evalArgs_kwB rfl ?_
 have hh:=ha pos pins s σ H _ I h
 rw [hs] at hh
 refine thn hh fun us s1 ⟨vs,H1,I1,r1,q1⟩ => ?_
 obtain ⟨a,e,⟨xs,hq⟩,q⟩:=q1
 subst e
 refine kws_cons ?_
 refine thn (pe_int (X:=X) pins s1 σ H1 (fun v H' => v = .int 1∧H' = H1) I1 ⟨rfl,rfl⟩) fun v s2 ⟨x,H2,I2,r2,e1,e2⟩ => ?_
 subst e1 e2
 obtain ⟨t,rfl⟩:=r2
 refine kws_nil ?_
 cases r1 with
 | cons r rr =>
  cases rr
  cases r
  obtain ⟨its,rv,p,hz⟩:=I2.list hq
  refine call_enumerate_one p.isList fun h' he hit hsz hk => ?_
  refine wpAny_pyIter_enum he ?_
  refine ⟨_,[s2.heap.objs.size + 1,s2.heap.objs.size],_,Ite1 X.K a,_,rfl,I2.kept (t':=s2.toks) hk,turn_enum1 a _ _,⟨⟨_,he⟩,hit,Nat.succ_ne_self _⟩,fun b hb => ?_,q⟩
  have e:b = s2.heap.objs.size + 1 ∨ b = s2.heap.objs.size:=by simpa using hb
  have hle:s2.heap.objs.size ≤ b:=by
   rcases e with e | e
   ·rw [e]; exact Nat.le_succ _
   ·rw [e]; exact Nat.le_refl _
  exact I2.fpOk hle (I2.hok.fresh hle)
theorem for_enum1 {K:PySem.W.Frag} {a:Addr} {xs:List V} {g:TG} {tb:TS} {D:Ends} {σ:St} {H:Hp} (Pv:Nat -> St -> Hp -> Prop) (h0:Pv 0 σ H) (hl:∀ i σ H,i ≤ xs.length -> Pv i σ H -> SqL K H a xs)
  (hs:∀ i x t σ H,xs[i]? = some x -> Pv i σ H -> H t = none -> g (.ref t) σ (upd H t (.tup [.int ((i + 1:Nat):Int),x])) fun σ2 H2 => tb { D with nx:=Pv (i + 1),ct:=Pv (i + 1),bk:=D.nx } σ2 H2) (hd:∀ σ H,Pv xs.length σ H -> D.nx σ H) :
  ∃ W:Nat -> Nat -> St -> Hp -> Prop,(∃ m,W 0 m σ H)∧∀ i m σ H,W i m σ H →
   ((Ite1 K a).stop i H∧D.nx σ H) ∨ ((Ite1 K a).go i H∧∃ N:St -> Hp -> Prop,(∀ σ' H',N σ' H' -> ∃ m',m' < m∧W (i + 1) m' σ' H')∧∀ x H',(Ite1 K a).yld i H x H' -> g x σ H' fun σ2 H2 => tb { D with nx:=N,ct:=N,bk:=D.nx } σ2 H2):=by
 refine ⟨fun i m σ H => m = xs.length - i∧i ≤ xs.length∧Pv i σ H,⟨xs.length,by simp,Nat.zero_le _,h0⟩,?_⟩
 rintro i m σ H ⟨rfl,hi,p⟩
 have q:=hl i σ H hi p
 by_cases hlt:i < xs.length
 ·refine .inr ⟨⟨xs,xs[i],q,by simp [hlt]⟩,Pv (i + 1),fun σ' H' p' => ⟨xs.length - (i + 1),by trivial,rfl,hlt,p'⟩,fun x H' y => ?_⟩
  obtain ⟨t,y',rfl,hn,rfl,y⟩:=y
  exact hs i y' t σ _ (y xs q) p hn
 ·have e:i = xs.length:=by trivial
  subst e
  exact .inl ⟨⟨xs,q,rfl⟩,hd σ H p⟩
noncomputable abbrev rDictOf:List V -> Hp -> VK -> Prop:=fun xs H Q => ∃ a kvs,xs = [V.ref a]∧H a = some (.dK kvs)∧∀ p,H p = none -> Q (.ref p) (upd H p (.dK kvs))
theorem call_dict_of:CallR X (.type "dict") rDictOf:=by
 intro pins s σ H xs us Q I r h
 obtain ⟨a,kvs,rfl,ha,q⟩:=h
 obtain ⟨u,rfl,rx⟩:=vals1 r
 cases rx
 exact d_copyOf I (.inl ha) fun p s' hp I' => ⟨.ref p,_,I',rfl,q p hp⟩
noncomputable def CDivC (i j:Int):Prop:=0 < j∧j < 2 ^ 110
theorem op_fdivC:OpR X (binaryOp .FloorDiv) (rI CDivC fun i j => .int (i / j)):=opI fun i j _ _ _ _ _ hc q => by
 obtain ⟨h0,h1⟩:=hc
 refine floordiv_int (by trivial) ?_ (.inl (PyProof.noPylong_of_log2 ?_))
 ·rw [Int.fdiv_eq_ediv_of_nonneg _ (by trivial)]; exact q
 ·have:j.natAbs.log2 < 110:=(Nat.log2_lt (by trivial)).mpr (by trivial)
  trivial
end
end L2
set_option Elab.async false
set_option linter.all false
set_option maxRecDepth 100000
set_option maxHeartbeats 4000000
namespace PH
open PySem L2 PySem.W
theorem boot_dict':bootBuiltins "dict" = some (.type "dict"):=by decide +kernel
noncomputable def Marks (H:Hp) (mk:Addr) (ds:List Addr) (ts:List Int) (st:Nat) (n:Nat):Prop :=
 H mk = some (.lst (ds.map V.ref))∧ds.length = n / st + 1∧∀ j d,ds[j]? = some d -> ∃ ks,H d = some (.dK (cntD ks (ts.take (j * st))))∧∀ k,k ∈ ks ↔ k ∈ ts.take (j * st)
theorem Marks.same {H H':Hp} {mk:Addr} {ds:List Addr} {ts:List Int} {st n:Nat} (h:Marks H mk ds ts st n) (s:Same H H'):Marks H' mk ds ts st n:=by
 obtain ⟨h1,h2,h3⟩:=h
 refine ⟨s _ _ h1,h2,fun j d e => ?_⟩
 obtain ⟨ks,q1,q2⟩:=h3 j d e
 exact ⟨ks,s _ _ q1,q2⟩
theorem nS:¬ (("kept":Str) = "step"):=by decide +kernel
theorem nM:¬ (("kept":Str) = "marks"):=by decide +kernel
theorem nSM:¬ (("step":Str) = "marks"):=by decide +kernel
noncomputable def flds (kp:Addr) (st:Int) (mk:Addr):List (Str × V):=putF "marks" (.ref mk) (putF "step" (.int st) (putF "kept" (.ref kp) []))
theorem flds_kept (kp:Addr) (st:Int) (mk:Addr):(flds kp st mk).lookup ("kept":Str) = some (.ref kp):=by
 unfold flds
 rw [lookup_putF,if_neg nM,lookup_putF,if_neg nS,lookup_putF,if_pos rfl]
theorem flds_step (kp:Addr) (st:Int) (mk:Addr):(flds kp st mk).lookup ("step":Str) = some (.int st):=by
 unfold flds
 rw [lookup_putF,if_neg nSM,lookup_putF,if_pos rfl]
theorem flds_marks (kp:Addr) (st:Int) (mk:Addr):(flds kp st mk).lookup ("marks":Str) = some (.ref mk):=by
 unfold flds
 rw [lookup_putF,if_pos rfl]
theorem flds_no (kp:Addr) (st:Int) (mk:Addr) {m:Str} (h1:¬ m = "marks") (h2:¬ m = "step") (h3:¬ m = "kept"):(flds kp st mk).lookup m = none:=by
 unfold flds
 rw [lookup_putF,if_neg h1,lookup_putF,if_neg h2,lookup_putF,if_neg h3]
 rfl
structure RankAt (C:Addr) (H:Hp) (p dx kp mk:Addr) (ds:List Addr) (ts:List Int) (st:Nat):Prop where
 ob:H p = some (.ins C dx (flds kp (st:Int) mk))
 kept:H kp = some (lsI ts)
 marks:Marks H mk ds ts st ts.length
 pos:1 ≤ st
theorem RankAt.same {C:Addr} {H H':Hp} {p dx kp mk:Addr} {ds:List Addr} {ts:List Int} {st:Nat} (h:RankAt C H p dx kp mk ds ts st) (s:Same H H'):RankAt C H' p dx kp mk ds ts st :=
 ⟨s _ _ h.ob,s _ _ h.kept,h.marks.same s,h.pos⟩
structure RTxt (K:Frag) (mg:Str -> Option Value) (C:Addr):Prop where
 cl:Cls K C
 mgC:mg "Ranked" = some (.ref C)
 nK:NoAttr K C "kept"
 nS:NoAttr K C "step"
 nM:NoAttr K C "marks"
noncomputable def spMarks (K:Frag):Sp:=fun vs H Q _ => ∃ (a:Addr) (ts:List Int) (st:Nat),vs = [.ref a,.int (st:Int)]∧SqL K H a (ts.map V.int)∧ts.length ≤ 1000∧1 ≤ st ∧
 ∀ (mk:Addr) (ds:List Addr) (H':Hp),Same H H' -> H mk = none -> Marks H' mk ds ts st ts.length -> Q (.ref mk) H'
noncomputable def spInit (K:Frag) (C cN:Addr):Sp:=fun vs H Q E => ∃ (p dx a:Addr) (ts:List Int) (st:Int),vs = [.ref p,.ref a,.int st]∧H p = some (.ins C dx [])∧SqL K H a (ts.map V.int)∧ts.length ≤ 1000 ∧
 (st < 1 -> E (.ref cN) none H) ∧
 (1 ≤ st -> ∀ (kp mk:Addr) (ds:List Addr) (H':Hp),H kp = none -> H mk = none -> RankAt C H' p dx kp mk ds ts st.toNat -> (∀ b o,H b = some o -> b ≠ p -> H' b = some o) -> Q .non H')
noncomputable def spSign (C cP:Addr):Sp:=fun vs H Q E => ∃ (p dx kp mk:Addr) (ds:List Addr) (ts:List Int) (st:Nat) (at_:Int),vs = [.ref p,.int at_]∧RankAt C H p dx kp mk ds ts st ∧
 ((at_ < 0 ∨ (ts.length:Int) ≤ at_) -> E (.ref cP) none H)∧(∀ (k:Nat) (x:Int),at_ = (k:Int) -> ts[k]? = some x -> Q (.int x) H)
noncomputable def spAhead (C cP:Addr):Sp:=fun vs H Q E => ∃ (p dx kp mk:Addr) (ds:List Addr) (ts:List Int) (st:Nat) (z at_:Int),vs = [.ref p,.int z,.int at_]∧RankAt C H p dx kp mk ds ts st∧ts.length ≤ 1000∧st < 2 ^ 109 ∧
 ((at_ < 0 ∨ (ts.length:Int) < at_) -> E (.ref cP) none H)∧(∀ k:Nat,at_ = (k:Int) -> k ≤ ts.length -> ∀ H',Same H H' -> Q (.int ((ts.take k).count z:Nat)) H')
theorem count_cut (ts:List Int) (z:Int) {a b:Nat} (h:a ≤ b):(ts.take a).count z + ((ts.take b).drop a).count z = (ts.take b).count z:=by
 have e:ts.take b = ts.take a ++ (ts.take b).drop a:=by
  have:=List.take_append_drop a (ts.take b)
  rw [List.take_take,Nat.min_eq_left h] at this
  exact this.symm
 conv => rhs; rw [e]
 rw [List.count_append]
theorem cut_mid (ns:List Int) (a b:Nat) (h:b ≤ ns.length) (hab:a ≤ b):cutV (ns.map V.int) (some (a:Int)) (some (b:Int)) = ((ns.take b).drop a).map V.int:=by
 unfold cutV
 rw [HT.sIx_nat,HT.sIx_nat,List.length_map,Nat.min_eq_left h,Nat.min_eq_left (Nat.le_trans hab h),← List.map_drop,← List.map_take,← List.drop_take]
end PH
namespace PH
open PySem L2 PySem.W
theorem gNm {i:Nat} {v v':V} {σ:St} {H:Hp} {Q:St -> Hp -> Prop} (e:v' = v) (h:gName i v' σ H Q):gName i v σ H Q:=by
 rw [← e]; exact h
theorem div_yes {i st:Nat} (h1:1 ≤ st) (h:(i + 1) % st = 0):(i + 1) / st = i / st + 1∧(i / st + 1) * st = i + 1:=by
 have e:(i + 1) / st = i / st + 1:=by
  rw [Nat.succ_div,if_pos (Nat.dvd_of_mod_eq_zero h)]
 refine ⟨e,?_⟩
 rw [← e]
 exact Nat.div_mul_cancel (Nat.dvd_of_mod_eq_zero h)
theorem div_no {i st:Nat} (h:(i + 1) % st ≠ 0):(i + 1) / st = i / st:=by
 rw [Nat.succ_div,if_neg (fun q => h (Nat.mod_eq_zero_of_dvd q)),Nat.add_zero]
end PH
namespace PH
open PySem L2 PySem.W
theorem sq_ins {K:Frag} {H:Hp} {a p C dx:Addr} {xs:List V} {fs:List (Str × V)} (h:SqL K H a xs) (hp:H p = some (.ins C dx fs)) (o:HO):SqL K (upd H p o) a xs:=by
 rcases h with (h | ⟨o',h⟩) | h
 ·exact .inl (.inl (by rw [upd_ne (ne_of h hp (by intro z; cases z))]; exact h))
 ·exact .inl (.inr ⟨o',by rw [upd_ne (ne_of h hp (by intro z; cases z))]; exact h⟩)
 ·exact .inr h
end PH
namespace PH
open PySem L2 PySem.W
end PH
set_option Elab.async false
set_option linter.all false
set_option maxRecDepth 100000
set_option maxHeartbeats 4000000
namespace PH
open PySem L2 PySem.W
noncomputable def fsE (t:List Int) (e:Int):Int:=(t[e.toNat]?).getD (-1)
theorem split3 {α:Type} (f:α -> Int) (c:Int):∀ {l:List α},l.Pairwise (fun a b => f a ≤ f b) -> l = l.filter (fun a => decide (f a < c)) ++ (l.filter (fun a => decide (f a = c)) ++ l.filter (fun a => decide (c < f a)))
 | [],_ => rfl
 | a :: l,h => by
  rw [List.pairwise_cons] at h
  have ih:=split3 f c h.2
  by_cases h1:f a < c
  ·rw [List.filter_cons,if_pos (decide_eq_true h1),List.filter_cons,if_neg (by rw [decide_eq_false (by trivial)]; exact Bool.false_ne_true),List.filter_cons,if_neg (by rw [decide_eq_false (by trivial)]; exact Bool.false_ne_true),List.cons_append,← ih]
  ·have e1:l.filter (fun a => decide (f a < c)) = []:=List.filter_eq_nil_iff.mpr fun b hb => by
    have:=h.1 b hb
    rw [decide_eq_false (by trivial)]; exact Bool.false_ne_true
   rw [List.filter_cons,if_neg (by rw [decide_eq_false h1]; exact Bool.false_ne_true),e1,List.nil_append]
   rw [e1,List.nil_append] at ih
   by_cases h2:f a = c
   ·rw [List.filter_cons,if_pos (decide_eq_true h2),List.filter_cons,if_neg (by rw [decide_eq_false (by trivial)]; exact Bool.false_ne_true),List.cons_append,← ih]
   ·have e2:l.filter (fun a => decide (f a = c)) = []:=List.filter_eq_nil_iff.mpr fun b hb => by
     have:=h.1 b hb
     rw [decide_eq_false (by trivial)]; exact Bool.false_ne_true
    rw [e2,List.nil_append] at ih
    rw [List.filter_cons,if_neg (by rw [decide_eq_false h2]; exact Bool.false_ne_true),List.filter_cons,if_pos (decide_eq_true (show c < f a by trivial)),e2,List.nil_append,← ih]
theorem fs_in {t:List Int} {e:Int} (h1:e.toNat < t.length):fsE t e = t[e.toNat]:=by
 unfold fsE; rw [List.getElem?_eq_getElem h1]; rfl
theorem fs_out {t:List Int} {e:Int} (h1:t.length ≤ e.toNat):fsE t e = -1:=by
 unfold fsE; rw [List.getElem?_eq_none h1]; rfl
theorem ends_fs {t:List Int} (ht:∀ x ∈ t,0 ≤ x):(endsOf t).Pairwise fun a b => fsE t a ≤ fsE t b:=by
 refine List.Pairwise.imp ?_ (ends_sorted t)
 intro a b h
 by_cases ha:a.toNat < t.length
 ·by_cases hb:b.toNat < t.length
  ·rw [fs_in ha,fs_in hb]
   rw [List.drop_eq_getElem_cons ha,List.drop_eq_getElem_cons hb,HT.lexLt_cons] at h
   split at h
   ·trivial
   ·have:=of_decide_eq_false h
    trivial
  ·rw [List.drop_of_length_le (show t.length ≤ b.toNat by trivial),List.drop_eq_getElem_cons ha,HT.lexLt_nil_cons] at h
   cases h
 ·rw [fs_out (by trivial)]
  by_cases hb:b.toNat < t.length
  ·rw [fs_in hb]
   have:=ht _ (List.getElem_mem hb)
   trivial
  ·rw [fs_out (by trivial)]; exact Int.le_refl _
theorem drop_one {t:List Int} {e c:Int} (h0:0 ≤ e) (h1:e ≤ t.length) (hc:0 ≤ c) (h:colE t e = c):0 < e∧t.drop (e - 1).toNat = c :: t.drop e.toNat:=by
 unfold colE at h
 split at h
 ·trivial
 ·have hlt:(e - 1).toNat < t.length:=by trivial
  rw [List.getElem?_eq_getElem hlt] at h
  refine ⟨by trivial,?_⟩
  rw [List.drop_eq_getElem_cons hlt,show (e - 1).toNat + 1 = e.toNat by trivial]
  congr 1
theorem fs_fil {t:List Int} {c:Int} (hc:0 ≤ c):(endsOf t).filter (fun e => decide (fsE t e = c)) = ((endsOf t).filter (fun e => decide (colE t e = c))).map (· - 1):=by
 refine uniq_sorted (R:=fun a b => HT.lexLt (t.drop b.toNat) (t.drop a.toNat) = false) ?_ ?_ ((ends_sorted t).filter _) ?_
 ·intro x hx y hy h1 h2
  have b1:=ends_mem.mp (List.mem_filter.mp hx).1
  have b2:=ends_mem.mp (List.mem_filter.mp hy).1
  exact drop_inj b1.1 b1.2 b2.1 b2.2 (lex_total _ _ h2 h1)
 ·refine (List.perm_ext_iff_of_nodup ((ends_nd t).filter _) ?_).mpr fun x => ?_
  ·unfold List.Nodup
   rw [List.pairwise_map]
   refine ((ends_nd t).filter _).imp ?_
   intro a b h; trivial
  ·rw [List.mem_filter,List.mem_map]
   constructor
   ·rintro ⟨h1,h2⟩
    have b1:=ends_mem.mp h1
    have h2:=of_decide_eq_true h2
    have hlt:x.toNat < t.length:=by
     by_cases q:x.toNat < t.length
     ·exact q
     ·rw [fs_out (by trivial)] at h2; trivial
    refine ⟨x + 1,List.mem_filter.mpr ⟨ends_mem.mpr ⟨by trivial,by trivial⟩,decide_eq_true ?_⟩,by trivial⟩
    unfold colE
    rw [if_neg (by trivial),show x + 1 - 1 = x by trivial,← h2,fs_in hlt,List.getElem?_eq_getElem hlt]
    rfl
   ·rintro ⟨e,h1,rfl⟩
    obtain ⟨h1,h2⟩:=List.mem_filter.mp h1
    have b1:=ends_mem.mp h1
    have h2:=of_decide_eq_true h2
    obtain ⟨q1,q2⟩:=drop_one b1.1 b1.2 hc h2
    refine ⟨ends_mem.mpr ⟨by trivial,by trivial⟩,decide_eq_true ?_⟩
    have hlt:(e - 1).toNat < t.length:=by trivial
    rw [fs_in hlt]
    rw [List.drop_eq_getElem_cons hlt] at q2
    injection q2
 ·rw [List.pairwise_map]
  refine List.Pairwise.imp_of_mem ?_ ((ends_sorted t).filter _)
  intro a b ha hb h
  obtain ⟨h1,h2⟩:=List.mem_filter.mp ha
  obtain ⟨h3,h4⟩:=List.mem_filter.mp hb
  have b1:=ends_mem.mp h1
  have b2:=ends_mem.mp h3
  rw [(drop_one b1.1 b1.2 hc (of_decide_eq_true h2)).2,(drop_one b2.1 b2.2 hc (of_decide_eq_true h4)).2,HT.lexLt_cons,if_pos rfl]
  exact h
noncomputable def bgT (t:List Int) (c:Int):Nat:=1 + t.countP (fun x => decide (x < c))
theorem fs_map (t:List Int):(rgI t.length).map (fsE t) = t:=by
 apply List.ext_getElem
 ·rw [List.length_map,rg_len]
 ·intro i h1 h2
  rw [List.getElem_map]
  have e:(rgI t.length)[i]'(by rw [rg_len]; exact h2) = (i:Int):=by unfold rgI; rw [List.getElem_map,List.getElem_range]
  rw [e,fs_in (by rw [Int.toNat_natCast]; exact h2)]
  rfl
theorem rg_succ (n:Nat):rgI (n + 1) = rgI n ++ [(n:Int)]:=by
 unfold rgI; rw [List.range_succ,List.map_append]; rfl
theorem fs_low (t:List Int) {c:Int} (hc:0 ≤ c):((endsOf t).filter (fun e => decide (fsE t e < c))).length = bgT t c:=by
 rw [((ends_perm t).filter _).length_eq,rg_succ,List.filter_append,List.length_append]
 rw [List.filter_cons,if_pos (decide_eq_true (show fsE t (t.length:Int) < c by rw [fs_out (by rw [Int.toNat_natCast]; exact Nat.le_refl _)]; trivial))]
 unfold bgT
 conv => rhs; rw [← fs_map t,List.countP_map,List.countP_eq_length_filter]
 rw [Nat.add_comm]
 rfl
theorem lf {t:List Int} (ht:∀ x ∈ t,0 ≤ x) {c:Int} (hc:0 ≤ c):∃ A B,A.length = bgT t c∧endsOf t = A ++ (((endsOf t).filter (fun e => decide (colE t e = c))).map (· - 1) ++ B):=by
 refine ⟨_,(endsOf t).filter (fun e => decide (c < fsE t e)),fs_low t hc,?_⟩
 ·have:=split3 (fsE t) c (ends_fs ht)
  rw [fs_fil hc] at this
  exact this
noncomputable def cnE (t:List Int) (c:Int) (k:Nat):Nat:=(((endsOf t).take k).filter (fun e => decide (colE t e = c))).length
theorem lf_step {t:List Int} (ht:∀ x ∈ t,0 ≤ x) {k:Nat} {e:Int} (h:(endsOf t)[k]? = some e) (h0:0 < e):0 ≤ colE t e∧(endsOf t)[bgT t (colE t e) + cnE t (colE t e) k]? = some (e - 1):=by
 have b:=ends_mem.mp (List.mem_of_getElem? h)
 have hc:0 ≤ colE t e:=by
  unfold colE
  have hlt:(e - 1).toNat < t.length:=by trivial
  rw [if_neg (by trivial),List.getElem?_eq_getElem hlt]
  exact ht _ (List.getElem_mem hlt)
 refine ⟨hc,?_⟩
 obtain ⟨A,B,hA,he⟩:=lf ht hc
 rw [he,← hA,List.getElem?_append_right (by trivial),Nat.add_sub_cancel_left]
 have hk:k < (endsOf t).length:=(List.getElem?_eq_some_iff.mp h).1
 have hg:(endsOf t)[k] = e:=(List.getElem?_eq_some_iff.mp h).2
 have hf:(endsOf t).filter (fun e' => decide (colE t e' = colE t e)) = ((endsOf t).take k).filter (fun e' => decide (colE t e' = colE t e)) ++ e :: ((endsOf t).drop (k + 1)).filter (fun e' => decide (colE t e' = colE t e)):=by
  conv => lhs; rw [← List.take_append_drop k (endsOf t),List.drop_eq_getElem_cons hk,hg]
  rw [List.filter_append,List.filter_cons,if_pos (decide_eq_true rfl)]
 rw [hf,List.map_append,List.map_cons,List.append_assoc,List.getElem?_append_right (by unfold cnE; rw [List.length_map]; exact Nat.le_refl _)]
 unfold cnE
 rw [List.length_map,Nat.sub_self]
 rfl
noncomputable def pfE (t w:List Int) (e:Int):Bool:=w.isPrefixOf (t.drop e.toNat)
structure Rg (t w:List Int) (lo hi:Nat):Prop where
 le:lo ≤ hi
 up:hi ≤ t.length + 1
 eq:((endsOf t).take hi).drop lo = (endsOf t).filter (pfE t w)
theorem col_mem {t:List Int} {e c:Int} (h0:0 ≤ e) (h1:e ≤ t.length) (hc:0 ≤ c) (h:colE t e = c):c ∈ t:=by
 have:=(drop_one h0 h1 hc h).2
 exact List.mem_of_mem_drop (i:=(e - 1).toNat) (by rw [this]; exact List.mem_cons_self)
theorem cn_row (t:List Int) {k:Nat} (hk:k ≤ t.length + 1) {z:Int} (hz:0 ≤ z):((rowT t).take (if (k:Int) ≤ holeT t then k else k - 1)).count z = cnE t z k:=by
 have hc:=col_text t
 have hl:=hole_le t
 have hr:=row_len t
 have e:cnE t z k = ((colOf (rowT t) (holeT t).toNat).take k).count z:=by
  rw [hc,← List.map_take]
  unfold cnE
  rw [List.count,List.countP_map,List.countP_eq_length_filter]
  congr 1
 rw [e]
 unfold colOf
 have hlt:((rowT t).take (holeT t).toNat).length = (holeT t).toNat:=by rw [List.length_take]; trivial
 by_cases h:(k:Int) ≤ holeT t
 ·rw [if_pos h,List.take_append_of_le_length (by trivial),List.take_take,Nat.min_eq_left (by trivial)]
 ·rw [if_neg h,List.take_append,hlt,List.take_take,Nat.min_eq_right (by trivial),show k - (holeT t).toNat = (k - 1 - (holeT t).toNat) + 1 by trivial,List.take_succ_cons,List.count_append,List.count_cons]
  rw [show ((-1:Int) == z) = false from beq_eq_false_iff_ne.mpr (by trivial)]
  have:(rowT t).take (k - 1) = (rowT t).take (holeT t).toNat ++ ((rowT t).drop (holeT t).toNat).take (k - 1 - (holeT t).toNat):=by
   conv => lhs; rw [show k - 1 = (holeT t).toNat + (k - 1 - (holeT t).toNat) by trivial]
   rw [List.take_add]
  rw [this,List.count_append]
  rfl
theorem sg_row {t:List Int} {k:Nat} {e:Int} (h:(endsOf t)[k]? = some e) (h0:0 < e):(k:Int) ≠ holeT t∧(rowT t)[if (k:Int) < holeT t then k else k - 1]? = some (colE t e):=by
 have hc:=col_text t
 have hl:=hole_le t
 have hr:=row_len t
 have hk:(k:Int) ≠ holeT t:=fun q => by
  have:=ends_hole t
  rw [← q,Int.toNat_natCast,h] at this
  injection this with this
  trivial
 refine ⟨hk,?_⟩
 have e1:(colOf (rowT t) (holeT t).toNat)[k]? = some (colE t e):=by rw [hc,List.getElem?_map,h]; rfl
 rw [← e1]
 unfold colOf
 have hlt:((rowT t).take (holeT t).toNat).length = (holeT t).toNat:=by rw [List.length_take]; trivial
 by_cases q:(k:Int) < holeT t
 ·rw [if_pos q,List.getElem?_append_left (by trivial),List.getElem?_take_of_lt (by trivial)]
 ·rw [if_neg q,List.getElem?_append_right (by trivial),hlt,show k - (holeT t).toNat = (k - 1 - (holeT t).toNat) + 1 by trivial,List.getElem?_cons_succ,List.getElem?_drop]
  congr 1
  trivial
end PH
set_option Elab.async false
set_option linter.all false
set_option maxRecDepth 100000
set_option maxHeartbeats 4000000
namespace PH
open PySem L2 PySem.W
end PH
set_option Elab.async false
set_option linter.all false
set_option maxRecDepth 100000
namespace L2
open PySem PySem.Spec PyProof.Rows PySem.W
section
variable {X:Cx}
end
end L2
namespace PH
open PySem L2 PySem.W
end PH
set_option Elab.async false
set_option linter.all false
set_option maxRecDepth 100000
set_option maxHeartbeats 4000000
namespace PH
open PySem L2 PySem.W
theorem eqD_tp (a b:List Int) (x y:Int):eqD (.tup [.lst (a.map DV.int),.int x]) (.tup [.lst (b.map DV.int),.int y]) = decide (a = b∧x = y):=by
 have e:eqD (.tup [.lst (a.map DV.int),.int x]) (.tup [.lst (b.map DV.int),.int y]) = (eqD (.lst (a.map DV.int)) (.lst (b.map DV.int)) && (eqD (.int x) (.int y) && true)):=by
  conv => lhs; unfold eqD
  conv => lhs; unfold eqDs
  congr 1
 rw [e,eqD_ints,Bool.and_true]
 have e2:eqD (.int x) (.int y) = decide (x = y):=by unfold eqD; exact Bool.eq_iff_iff.mpr (by simp)
 rw [e2,← Bool.decide_and]
end PH
namespace PH
end PH
set_option Elab.async false
set_option linter.all false
set_option maxRecDepth 100000
set_option maxHeartbeats 4000000
namespace PH
open PySem L2 PySem.W
noncomputable def spText45 (K:Frag):Sp:=fun vs H Q _ => ∃ (a:Addr) (ns:List Int) (f:Nat),vs = [.ref a,.int (f:Int)]∧SqL K H a (ns.map V.int)∧ns.length ≤ 63∧f ≤ 10 ∧
 ∀ (D:Addr) (ts:List Int) (H':Hp),H D = none -> H' D = some (lsI ts) -> (∀ x ∈ ts,0 ≤ x∧x ≤ 255) -> ts.length ≤ 240 -> Same H H' -> Q (.ref D) H'
end PH
set_option Elab.async false
set_option linter.all false
set_option maxRecDepth 100000
namespace L2
open PySem PySem.Spec PyProof.Rows PySem.W
section
variable {pg:Program} {w:World} {B:Around} {E:Value -> Shared -> Prop} {s:Shared}
end
end L2
namespace L2
open PySem PySem.Spec PyProof.Rows PySem.W
section
variable {X:Cx} {pins:List (Addr × Obj)} {σ:St} {H:Hp} {s:Shared}
end
end L2
set_option Elab.async false
set_option linter.all false
set_option maxRecDepth 100000
set_option maxHeartbeats 4000000
namespace L2
open PySem PySem.Spec PyProof.Rows PySem.W
section
variable {X:Cx}
end
theorem small_down {n:Nat} (h:n ≤ 1000000):Builtin.Range.small (n:Int) (-1) (-1) = true:=by
 unfold Builtin.Range.small Builtin.Range.rangeSize
 simp only [Builtin.Range.rangeFitsLong,Bool.and_eq_true,Bool.or_eq_true,decide_eq_true_eq,beq_iff_eq]
 rw [if_neg (show ¬ ((-1:Int) > 0) by trivial),if_neg (show ¬ ((-1:Int) > 0) by trivial)]
 simp only [Bool.and_eq_true,decide_eq_true_eq]
 rw [show - (-1:Int) = 1 from rfl,Int.ediv_one]
 split <;> trivial
theorem size_down (n:Nat):(Builtin.Range.rangeSize (n:Int) (-1) (-1)).toNat = n + 1:=by
 unfold Builtin.Range.rangeSize
 rw [if_neg (show ¬ ((-1:Int) > 0) by trivial),show - (-1:Int) = 1 from rfl,Int.ediv_one]
 split <;> trivial
theorem ints_len:∀ {vs:List Value} {ks:List Int},IntsAre vs ks -> vs.length = ks.length
 | _,_,.nil => rfl
 | _,_,.cons n t h => by rw [List.length_cons,List.length_cons,ints_len h]
theorem ints_get:∀ {vs:List Value} {ks:List Int},IntsAre vs ks -> ∀ (j:Nat) (h1:j < vs.length) (h2:j < ks.length),∃ t,vs[j] = Value.int ks[j] t
 | _,_,.cons n t h,0,_,_ => ⟨t,rfl⟩
 | _,_,.cons n t h,j + 1,h1,h2 => ints_get h j (Nat.lt_of_succ_lt_succ h1) (Nat.lt_of_succ_lt_succ h2)
theorem eq_items {A:Around} {s:Shared} {i1 i2:Array Value} {ns ms:List Int} (n1:IntsAre i1.toList ns) (n2:IntsAre i2.toList ms) (j:Nat) (h1:j < i1.size) (h2:j < i2.size):SeqAt.EqAt A s i1[j] i2[j] (decide (ns[j]? = ms[j]?)):=by
 have e1:=ints_len n1
 have e2:=ints_len n2
 rw [Array.length_toList] at e1 e2
 obtain ⟨t,g1⟩:=ints_get n1 j (by rw [Array.length_toList]; exact h1) (by trivial)
 obtain ⟨t',g2⟩:=ints_get n2 j (by rw [Array.length_toList]; exact h2) (by trivial)
 rw [Array.getElem_toList] at g1 g2
 rw [g1,g2,List.getElem?_eq_getElem (show j < ns.length by trivial),List.getElem?_eq_getElem (show j < ms.length by trivial)]
 have:=SeqAt.EqAt.int_int (A:=A) (s:=s) ns[j] t ms[j] t'
 rw [show (ns[j] == ms[j]) = decide (some ns[j] = some ms[j]) by
  by_cases q:ns[j] = ms[j]
  ·rw [q,beq_self_eq_true,decide_eq_true rfl]
  ·rw [beq_eq_false_iff_ne.mpr q,decide_eq_false (fun z => q (Option.some.inj z))]] at this
 exact this
theorem all_dec {ns ms:List Int} {n:Nat} (h1:n = ns.length) (h2:n = ms.length):((List.range n).all fun j => decide (ns[j]? = ms[j]?)) = decide (ns = ms):=by
 by_cases q:ns = ms
 ·rw [decide_eq_true q,q]; simp
 ·rw [decide_eq_false q]
  cases z:(List.range n).all fun j => decide (ns[j]? = ms[j]?) with
  | false => rfl
  | true =>
   refine absurd (List.ext_getElem? fun j => ?_) q
   by_cases hj:j < n
   ·exact of_decide_eq_true (List.all_eq_true.mp z j (List.mem_range.mpr hj))
   ·rw [List.getElem?_eq_none (by trivial),List.getElem?_eq_none (by trivial)]
theorem rc_ints {A:Around} {s:Shared} {l b:Addr} {i1 i2:Array Value} {ns ms:List Int} (l1:s.heap.IsList l i1) (l2:s.heap.IsList b i2) (n1:IntsAre i1.toList ns) (n2:IntsAre i2.toList ms) (hu:A.units < cLine):SeqAt.RcAt A s (.ref l) (.ref b) (decide (ns = ms)):=by
 have e1:=ints_len n1
 have e2:=ints_len n2
 rw [Array.length_toList] at e1 e2
 by_cases c:ns.length = ms.length
 ·have:=SeqAt.RcAt.lists (e:=fun j => decide (ns[j]? = ms[j]?)) l1 l2 (by trivial) hu (eq_items n1 n2)
  rw [all_dec e1 (by trivial)] at this
  exact this
 ·have:=SeqAt.RcAt.lists_lengths (A:=A) l1 l2 (by rw [bne_iff_ne]; trivial) hu
  rw [decide_eq_false (fun z => c (by rw [z]))]
  exact this
theorem rcne_ints {A:Around} {s:Shared} {l b:Addr} {i1 i2:Array Value} {ns ms:List Int} (l1:s.heap.IsList l i1) (l2:s.heap.IsList b i2) (n1:IntsAre i1.toList ns) (n2:IntsAre i2.toList ms) (hu:A.units < cLine):SeqAt.RcNeAt A s (.ref l) (.ref b) (!decide (ns = ms)):=by
 have e1:=ints_len n1
 have e2:=ints_len n2
 rw [Array.length_toList] at e1 e2
 by_cases c:ns.length = ms.length
 ·have:=SeqAt.RcNeAt.lists (e:=fun j => decide (ns[j]? = ms[j]?)) l1 l2 (by trivial) hu (eq_items n1 n2)
  rw [all_dec e1 (by trivial)] at this
  exact this
 ·have:=SeqAt.RcNeAt.lists_lengths (A:=A) l1 l2 (by rw [bne_iff_ne]; trivial) hu
  rw [decide_eq_false (fun z => c (by rw [z]))]
  exact this
theorem op_eqI {X:Cx} (hu:X.A.units + 64 < cLine):OpR X (compareOp .Eq) (rEqI X.K):=by
 intro pins s σ H x y v u Q I rx ry h
 obtain ⟨a,b,ns,ms,rfl,rfl,h1,h2,q⟩:=h
 cases rx
 cases ry
 obtain ⟨i1,r1,p1,_⟩:=I.list h1
 obtain ⟨i2,r2,p2,_⟩:=I.list h2
 exact rc_ints (A:=X.A) p1.isList p2.isList (by rw [List.toList_toArray]; exact vals_intsAre r1) (by rw [List.toList_toArray]; exact vals_intsAre r2) (by trivial) X.prog X.w X.xe _ ⟨.bl _,H,I,rfl,q⟩
theorem op_neI {X:Cx} (hu:X.A.units + 64 < cLine):OpR X (compareOp .NotEq) (rNeI X.K):=by
 intro pins s σ H x y v u Q I rx ry h
 obtain ⟨a,b,ns,ms,rfl,rfl,h1,h2,q⟩:=h
 cases rx
 cases ry
 obtain ⟨i1,r1,p1,_⟩:=I.list h1
 obtain ⟨i2,r2,p2,_⟩:=I.list h2
 exact rcne_ints (A:=X.A) p1.isList p2.isList (by rw [List.toList_toArray]; exact vals_intsAre r1) (by rw [List.toList_toArray]; exact vals_intsAre r2) (by trivial) X.prog X.w X.xe _ ⟨.bl _,H,I,rfl,q⟩
theorem eqBool_lists {prog:Program} {w:World} {A:Around} {E:Value -> Shared -> Prop} {s:Shared} {l b:Addr} {ns ms:List Int} {Q:Bool -> Shared -> Prop} (hl:LstAt s.heap (l,ns)) (hb:LstAt s.heap (b,ms)) (hu:A.units < cLine)
  (h:Q (decide (ns = ms)) s):wpAny (model prog w) A (eqBool (.ref l) (.ref b)) Q E s:=by
 obtain ⟨i1,l1,n1⟩:=hl
 obtain ⟨i2,l2,n2⟩:=hb
 dsimp only at l1 l2 n1 n2
 have e1:=ints_len n1
 have e2:=ints_len n2
 rw [Array.length_toList] at e1 e2
 have rc:=rc_ints l1 l2 n1 n2 hu
 unfold eqBool
 refine wpAny_holding ?_
 refine wpAny_ite_split (fun hab => ?_) (fun hab => ?_)
 ·have e0:Value.ref l = Value.ref b:=eq_of_beq hab
  injection e0 with e0
  subst e0
  have hi:i1 = i2:=by
   obtain ⟨o1,g1,_,_,d1⟩:=id l1
   obtain ⟨o2,g2,_,_,d2⟩:=id l2
   rw [g1] at g2
   have:=Option.some.inj g2
   subst this
   rw [d1] at d2
   injection d2
  subst hi
  have:ns = ms:=by
   apply List.ext_getElem
   ·trivial
   ·intro j h1 h2
    obtain ⟨t,g1⟩:=ints_get n1 j (by rw [Array.length_toList]; trivial) h1
    obtain ⟨t',g2⟩:=ints_get n2 j (by rw [Array.length_toList]; trivial) h2
    rw [g1] at g2
    injection g2
  rw [decide_eq_true this] at h
  exact wpAny_bind (wpAny_rule (wpAny_pure h))
 ·exact wpAny_bind (rc prog w E _ (wpAny_truthy_bool h))
noncomputable abbrev Zli:=Addr × Addr × List Int × Int
noncomputable def LiAt (h:Heap) (z:Zli):Prop:=LstAt h (z.2.1, z.2.2.1)∧∃ o n t, h.get? z.1 = some o∧o.cls = .type "tuple"∧o.data = .seq #[.ref z.2.1, .int z.2.2.2 t] n
theorem LiAt.keeps {h h':Heap} {z:Zli} (p:LiAt h z) (k:∀ b o,h.get? b = some o -> h'.get? b = some o):LiAt h' z:=by
 obtain ⟨l,o,n,t,e,r⟩:=p
 exact ⟨l.keeps k,o,n,t,k _ _ e,r⟩
theorem katLi_of {h:Heap}:∀ {zs:List Zli},(∀ z ∈ zs,LiAt h z) -> ∃ fs,KatTups h (zs.map fun z => Value.ref z.1) fs∧fs.length = zs.length∧∀ v ∈ fs,∃ z ∈ zs,v = Value.ref z.2.1
 | [],_ => ⟨[],.nil,rfl,fun _ z => by cases z⟩
 | z :: r,hh => by
  obtain ⟨fs,k,l,a⟩:=katLi_of (zs:=r) fun y hy => hh y (List.mem_cons_of_mem _ hy)
  obtain ⟨_,o,n,t,e,c,d⟩:=hh z List.mem_cons_self
  refine ⟨Value.ref z.2.1 :: fs,.cons e c d rfl k,by rw [List.length_cons,List.length_cons,l],fun v hv => ?_⟩
  rcases List.mem_cons.mp hv with q | q
  ·exact ⟨z,List.mem_cons_self,q⟩
  ·obtain ⟨y,hy,e⟩:=a v q
   exact ⟨y,List.mem_cons_of_mem _ hy,e⟩
noncomputable abbrev z0li:Addr × List Int × Int:=((0:Addr),[],(0:Int))
theorem cmp_li {prog:Program} {w:World} {A:Around} {s:Shared} {zs:List Zli} (hu:A.units < cLine) (same:∀ z ∈ zs,∀ y ∈ zs,z.1 = y.1 -> z.2 = y.2) (one:∀ z ∈ zs,∀ y ∈ zs,z.2.2.1 = y.2.2.1 -> z.2.2.2 = y.2.2.2) (hh:∀ z ∈ zs,LiAt s.heap z):TS.Cmp prog w A s (tuples' true) listOrd (fun p => (fky z0li zs p).2.1) (fun p => ∃ z ∈ zs,p.1 = .ref z.1) where
 lt:=fun p q ⟨z,hz,e1⟩ ⟨y,hy,e2⟩ {E Q} h => by
  obtain ⟨p1,p2⟩:=p
  obtain ⟨q1,q2⟩:=q
  dsimp only at e1 e2
  subst e1 e2
  have h:Q (HT.lexLt (fky z0li zs (Value.ref z.fst,p2)).2.1 (fky z0li zs (Value.ref y.fst,q2)).2.1) s:=h
  rw [fky_at same hz,fky_at same hy] at h
  obtain ⟨l1,o,n,t,g1,_,d1⟩:=hh z hz
  obtain ⟨l2,o',n',t',g2,_,d2⟩:=hh y hy
  refine kat_lt g1 d1 g2 d2 ?_
  show KatLex prog w A true _ Q [(.ref z.2.1,.ref y.2.1),(.int z.2.2.2 t,.int y.2.2.2 t')] 0 s
  refine kat_cons (eqBool_lists l1 l2 hu ?_)
  by_cases c:z.2.2.1 = y.2.2.1
  ·rw [decide_eq_true c]
   refine kat_yes (kat_cons (eqBool_int ?_))
   rw [decide_eq_true (one z hz y hy c)]
   refine kat_yes (kat_nil ?_)
   rw [c,lex_irr] at h
   exact h
  ·rw [decide_eq_false c]
   obtain ⟨i1,m1,k1⟩:=l1
   obtain ⟨i2,m2,k2⟩:=l2
   exact kat_no (oneLt_list m1 m2 k1 k2 hu h)
section
variable {X:Cx}
noncomputable def rSortLI (K:Frag):List V -> Hp -> VK -> Prop:=fun xs H Q => ∃ (p:Addr) (zs:List Zli),xs = [.ref p]∧SqL K H p (zs.map fun z => V.ref z.1)∧(∀ z ∈ zs,SqT K H z.1 [.ref z.2.1,.int z.2.2.2])∧(∀ z ∈ zs,SqL K H z.2.1 (z.2.2.1.map V.int))∧(∀ z ∈ zs,∀ y ∈ zs,z.2.2.1 = y.2.2.1 -> z.2.2.2 = y.2.2.2) ∧
 ∀ (zs':List Zli) (q:Addr),zs'.Perm zs -> (zs'.map (·.2.2.1)).Pairwise (fun a b => HT.lexLt b a = false) -> H q = none -> Q (.ref q) (upd H q (.lst (zs'.map fun z => V.ref z.1)))
theorem call_sortedLI (hu:X.A.units + 64 < cLine):CallR X (.builtin "sorted") (rSortLI X.K):=by
 intro pins s σ H xs us Q I r h
 obtain ⟨a,zs,rfl,hq,hz,hzl',one,q⟩:=h
 obtain ⟨u,rfl,rx⟩:=vals1 r
 cases rx
 obtain ⟨its,r',pl,hzl⟩:=I.list hq
 obtain ⟨o,ho,hcl,n,hd⟩:=pl.isList
 have hits:=vals_refsA r'
 subst hits
 rw [List.length_map] at hzl
 have hpa:∀ z ∈ zs,LiAt s.heap z:=fun z hm => by
  obtain ⟨its3,rv3,p3,_⟩:=I.list (hzl' z hm)
  refine ⟨⟨_,p3.isList,vals_intsAre rv3⟩,?_⟩
  obtain ⟨its2,rv,⟨o2,e2,c2,n2,d2⟩,_⟩:=I.tuple (hz z hm)
  cases rv with
  | cons h1 t1 =>
   cases t1 with
   | cons h2 t2 =>
    cases t2
    obtain ⟨t,rfl⟩:=(show ∃ t,_ = Value.int z.2.2.2 t from h2)
    cases (show _ = Value.ref z.2.1 from h1)
    exact ⟨o2,n2,t,e2,c2,d2⟩
 have same:∀ z ∈ zs,∀ y ∈ zs,z.1 = y.1 -> z.2 = y.2:=fun z h1 y h2 e => by
  have e1:=hz z h1
  have e2:=hz y h2
  rw [← e] at e2
  have:=I.tuple_inj e1 e2
  injection this with a1 a2
  injection a1 with a1
  injection a2 with a2 _
  injection a2 with a2
  have f1:=hzl' z h1
  have f2:=hzl' y h2
  rw [← a1] at f2
  have:=ints_inj (I.list_inj f1 f2)
  exact Prod.ext a1 (Prod.ext this a2)
 have hu2:X.A.in1.in1.units < cLine:=by rw [Around.in1_units,Around.in1_units]; trivial
 refine TS.sorted_gen (kd:=tuples' (Value.type "list" != Value.type "tuple")) (O:=listOrd) (ky:=fun p => (fky z0li zs p).2.1) (S:=fun p => ∃ z ∈ zs, p.1 = .ref z.1) (V:=fun vs => vs = zs.map fun z => Value.ref z.1)
  (fun vs e => by rw [e,List.length_map]; exact hzl) (fun vs e v hv => ?_) (fun {E R} k => ?_) (fun vs s' e h2 kp {A' E' Q'} qq => ?_) (fun s' kp => cmp_li hu2 same one fun z hm => (hpa z hm).keeps kp) (fun h1 h' tk vs out n e k1 k2 g p rr => ?_)
 ·rw [e] at hv
  obtain ⟨z,hm,rfl⟩:=List.mem_map.mp hv
  exact ⟨z,hm,rfl⟩
 ·exact wpAny_collect_seq a (.inl rfl) ho hcl hd (fun h' kp => by have:=k h' s.toks _ rfl kp; simpa using this) (by simp; trivial)
 ·rw [e]
  obtain ⟨fs,f1,f2,f3⟩:=katLi_of (h:=s'.heap) fun z hm => (hpa z hm).keeps kp
  refine kat_kind (T:=.type "list") f1 (by rw [f2]; rw [e, List.length_map] at h2; trivial) (fun v hv => ?_) (by rfl) qq
  obtain ⟨z,hm,rfl⟩:=f3 v hv
  obtain ⟨⟨i1,⟨o1,e1,c1,_⟩,_⟩,_⟩:=(hpa z hm).keeps kp
  rw [← c1]
  exact (Looks.ld e1).andThen .now
 ·subst e
  obtain ⟨zs',p1,p2⟩:=perm_map (fun z:Zli => Value.ref z.1) p zs rfl
  have I1:Inv X pins σ H { s with heap:=h1 }:=I.kept (t':=s.toks) k1
  refine ⟨.ref h1.objs.size,_,I1.laid (a:=h1.objs.size) (o:=.lst (zs'.map fun z => V.ref z.1)) (t':=tk) k2 (Nat.le_refl _) ?_,rfl,q zs' _ p1 ?_ (I1.hok.fresh (Nat.le_refl _))⟩
  ·refine ⟨by rw [List.length_map,p1.length_eq]; exact hzl,_,n,refs_valsA zs',?_⟩
   rw [← p2,Array.toArray_toList]; exact g
  ·unfold TS.Rises at rr
   rw [p2,List.pairwise_map] at rr
   rw [List.pairwise_map]
   refine List.Pairwise.imp_of_mem ?_ rr
   intro x y hx hy hk
   have hx':=p1.mem_iff.mp hx
   have hy':=p1.mem_iff.mp hy
   have hk':HT.lexLt (fky z0li zs (.ref y.1,.ref y.1)).2.1 (fky z0li zs (.ref x.1,.ref x.1)).2.1 = false:=hk
   rw [fky_at same hx',fky_at same hy'] at hk'
   exact hk'
end
end L2
set_option Elab.async false
set_option linter.all false
set_option maxRecDepth 100000
set_option maxHeartbeats 4000000
namespace PH
open PySem L2 PySem.W
structure SgA where
 rk:Addr
 rdx:Addr
 kp:Addr
 mks:Addr
 ds:List Addr
 bg:Addr
 d1:Addr
 d2:Addr
noncomputable def sf1 (n:Int):List (Str × V):=putF "many" (.int n) []
noncomputable def sf2 (n:Int) (rk:Addr):List (Str × V):=putF "ranked" (.ref rk) (sf1 n)
noncomputable def sf3 (n:Int) (rk:Addr) (h:Int):List (Str × V):=putF "hole" (.int h) (sf2 n rk)
noncomputable def sf4 (n:Int) (rk:Addr) (h st:Int):List (Str × V):=putF "step" (.int st) (sf3 n rk h)
noncomputable def sf5 (n:Int) (rk:Addr) (h st:Int) (bg:Addr):List (Str × V):=putF "begins" (.ref bg) (sf4 n rk h st)
noncomputable def sf6 (n:Int) (rk:Addr) (h st:Int) (bg d1:Addr):List (Str × V):=putF "rank_by_place" (.ref d1) (sf5 n rk h st bg)
noncomputable def sfl (n:Int) (rk:Addr) (h st:Int) (bg d1 d2:Addr):List (Str × V):=putF "place_by_rank" (.ref d2) (sf6 n rk h st bg d1)
section
variable {n h st:Int} {rk bg d1 d2:Addr}
theorem sfl_many:(sfl n rk h st bg d1 d2).lookup ("many":Str) = some (.int n):=by
 unfold sfl sf6 sf5 sf4 sf3 sf2 sf1
 rw [lookup_putF,if_neg (by decide +kernel),lookup_putF,if_neg (by decide +kernel),lookup_putF,if_neg (by decide +kernel),lookup_putF,if_neg (by decide +kernel),lookup_putF,if_neg (by decide +kernel),lookup_putF,if_neg (by decide +kernel),lookup_putF,if_pos rfl]
theorem sfl_ranked:(sfl n rk h st bg d1 d2).lookup ("ranked":Str) = some (.ref rk):=by
 unfold sfl sf6 sf5 sf4 sf3 sf2 sf1
 rw [lookup_putF,if_neg (by decide +kernel),lookup_putF,if_neg (by decide +kernel),lookup_putF,if_neg (by decide +kernel),lookup_putF,if_neg (by decide +kernel),lookup_putF,if_neg (by decide +kernel),lookup_putF,if_pos rfl]
theorem sfl_hole:(sfl n rk h st bg d1 d2).lookup ("hole":Str) = some (.int h):=by
 unfold sfl sf6 sf5 sf4 sf3 sf2 sf1
 rw [lookup_putF,if_neg (by decide +kernel),lookup_putF,if_neg (by decide +kernel),lookup_putF,if_neg (by decide +kernel),lookup_putF,if_neg (by decide +kernel),lookup_putF,if_pos rfl]
theorem sfl_step:(sfl n rk h st bg d1 d2).lookup ("step":Str) = some (.int st):=by
 unfold sfl sf6 sf5 sf4 sf3 sf2 sf1
 rw [lookup_putF,if_neg (by decide +kernel),lookup_putF,if_neg (by decide +kernel),lookup_putF,if_neg (by decide +kernel),lookup_putF,if_pos rfl]
theorem sfl_begins:(sfl n rk h st bg d1 d2).lookup ("begins":Str) = some (.ref bg):=by
 unfold sfl sf6 sf5 sf4 sf3 sf2 sf1
 rw [lookup_putF,if_neg (by decide +kernel),lookup_putF,if_neg (by decide +kernel),lookup_putF,if_pos rfl]
theorem sfl_d1:(sfl n rk h st bg d1 d2).lookup ("rank_by_place":Str) = some (.ref d1):=by
 unfold sfl sf6 sf5 sf4 sf3 sf2 sf1
 rw [lookup_putF,if_neg (by decide +kernel),lookup_putF,if_pos rfl]
theorem sfl_d2:(sfl n rk h st bg d1 d2).lookup ("place_by_rank":Str) = some (.ref d2):=by
 unfold sfl
 rw [lookup_putF,if_pos rfl]
theorem sfl_no {m:Str} (q1:¬ m = "place_by_rank") (q2:¬ m = "rank_by_place") (q3:¬ m = "begins") (q4:¬ m = "step") (q5:¬ m = "hole") (q6:¬ m = "ranked") (q7:¬ m = "many"):(sfl n rk h st bg d1 d2).lookup m = none:=by
 unfold sfl sf6 sf5 sf4 sf3 sf2 sf1
 rw [lookup_putF,if_neg q1,lookup_putF,if_neg q2,lookup_putF,if_neg q3,lookup_putF,if_neg q4,lookup_putF,if_neg q5,lookup_putF,if_neg q6,lookup_putF,if_neg q7]
 rfl
end
structure STxt (K:Frag) (mg:Str -> Option Value) (C:Addr):Prop where
 cl:Cls K C
 mgC:mg "Sought" = some (.ref C)
 nN:NoAttr K C "many"
 nR:NoAttr K C "ranked"
 nH:NoAttr K C "hole"
 nS:NoAttr K C "step"
 nB:NoAttr K C "begins"
 n1:NoAttr K C "rank_by_place"
 n2:NoAttr K C "place_by_rank"
noncomputable def BgD (kv:List (Key × V)) (t:List Int):Prop:=∀ c:Int,valV kv (Sum.inl c) = if c ∈ t then some (.int (bgT t c:Nat)) else none
theorem bgT_perm {a b:List Int} (p:a.Perm b) (c:Int):bgT a c = bgT b c:=by
 unfold bgT; rw [p.countP_eq]
theorem BgD.perm {kv:List (Key × V)} {a b:List Int} (h:BgD kv a) (p:a.Perm b):BgD kv b:=fun c => by
 rw [h c,bgT_perm p]
 by_cases q:c ∈ a
 ·rw [if_pos q,if_pos (p.mem_iff.mp q)]
 ·rw [if_neg q,if_neg (fun z => q (p.mem_iff.mpr z))]
structure SgB (C CR:Addr) (H:Hp) (p dx:Addr) (y:SgA) (t:List Int) (st:Nat):Prop where
 ob:H p = some (.ins C dx (sfl (t.length:Int) y.rk (holeT t) (st:Int) y.bg y.d1 y.d2))
 rk:RankAt CR H y.rk y.rdx y.kp y.mks y.ds (rowT t) st
 bg:∃ kv,H y.bg = some (.dK kv)∧BgD kv t
 sg:∀ x ∈ t,0 ≤ x
 le:t.length ≤ 1000
 sm:st < 2 ^ 109
structure SgAt (C CR:Addr) (H:Hp) (p dx:Addr) (y:SgA) (t:List Int) (st:Nat):Prop where
 b:SgB C CR H p dx y t st
 d1:∃ kv,H y.d1 = some (.dK kv)∧∀ i:Nat,i ≤ t.length -> (i % st = 0 ∨ i = t.length) -> ∃ k:Nat,(endsOf t)[k]? = some (i:Int)∧valV kv (Sum.inl (i:Int)) = some (.int (k:Int))
 d2:∃ kv,H y.d2 = some (.dK kv)∧(∀ (k:Nat) (v:V),valV kv (Sum.inl (k:Int)) = some v -> ∃ e,(endsOf t)[k]? = some e∧v = .int e)∧∀ k:Nat,(endsOf t)[k]? = some 0 -> valV kv (Sum.inl (k:Int)) ≠ none
theorem SgB.same {C CR:Addr} {H H':Hp} {p dx:Addr} {y:SgA} {t:List Int} {st:Nat} (h:SgB C CR H p dx y t st) (s:Same H H'):SgB C CR H' p dx y t st :=
 ⟨s _ _ h.ob,h.rk.same s,(let ⟨kv,a,b⟩:=h.bg; ⟨kv,s _ _ a,b⟩),h.sg,h.le,h.sm⟩
theorem SgB.keep {C CR:Addr} {H H':Hp} {p dx:Addr} {y:SgA} {t:List Int} {st:Nat} (h:SgB C CR H p dx y t st) (s:∀ b o,H b = some o -> (b = p ∨ b = y.rk ∨ b = y.kp ∨ b = y.mks ∨ b ∈ y.ds ∨ b = y.bg) -> H' b = some o):SgB C CR H' p dx y t st:=by
 obtain ⟨h1,⟨r1,r2,⟨r3,r4,r5⟩,r6⟩,⟨kv,h3,h4⟩,h5,h6,h7⟩:=h
 refine ⟨s _ _ h1 (.inl rfl),⟨s _ _ r1 (.inr (.inl rfl)),s _ _ r2 (.inr (.inr (.inl rfl))),⟨s _ _ r3 (.inr (.inr (.inr (.inl rfl)))),r4,fun j d e => ?_⟩,r6⟩,⟨kv,s _ _ h3 (.inr (.inr (.inr (.inr (.inr rfl))))),h4⟩,h5,h6,h7⟩
 obtain ⟨ks,w1,w2⟩:=r5 j d e
 exact ⟨ks,s _ _ w1 (.inr (.inr (.inr (.inr (.inl (List.mem_of_getElem? e)))))),w2⟩
noncomputable def spSignA (C CR:Addr):Sp:=fun vs H Q _ => ∃ (p dx:Addr) (y:SgA) (t:List Int) (st k:Nat) (e:Int),vs = [.ref p,.int (k:Int)]∧SgB C CR H p dx y t st∧(endsOf t)[k]? = some e∧0 < e∧Q (.int (colE t e)) H
noncomputable def spTimesA (C CR:Addr):Sp:=fun vs H Q _ => ∃ (p dx:Addr) (y:SgA) (t:List Int) (st:Nat) (z:Int) (k:Nat),vs = [.ref p,.int z,.int (k:Int)]∧SgB C CR H p dx y t st∧0 ≤ z∧k ≤ t.length + 1∧∀ H',Same H H' -> Q (.int (cnE t z k:Nat)) H'
noncomputable def spLonger (C CR:Addr):Sp:=fun vs H Q _ => ∃ (p dx:Addr) (y:SgA) (t:List Int) (st k:Nat) (e:Int),vs = [.ref p,.int (k:Int)]∧SgB C CR H p dx y t st∧(endsOf t)[k]? = some e∧0 < e∧∀ (k':Nat) (H':Hp),Same H H' -> (endsOf t)[k']? = some (e - 1) -> Q (.int (k':Int)) H'
noncomputable def spSetM (C CR:Addr):Sp:=fun vs H Q _ => ∃ (p dx:Addr) (y:SgA) (t:List Int) (st:Nat),vs = [.ref p]∧SgB C CR H p dx y t st∧H y.d1 = some (.dK [])∧H y.d2 = some (.dK [])∧y.d1 ≠ y.d2∧(∀ d ∈ y.ds,d ≠ y.d1∧d ≠ y.d2)∧y.bg ≠ y.d1∧y.bg ≠ y.d2 ∧
 ∀ H',SgAt C CR H' p dx y t st -> (∀ b o,H b = some o -> b ≠ y.d1 -> b ≠ y.d2 -> H' b = some o) -> Q .non H'
noncomputable def spFirstR (K:Frag):Sp:=fun vs H Q _ => ∃ (a:Addr) (r:List Int),vs = [.ref a]∧SqL K H a (r.map V.int)∧r.length ≤ 1000∧(∀ x ∈ r,0 ≤ x∧x ≤ 255) ∧
 ∀ (D:Addr) (kv:List (Key × V)) (H':Hp),Same H H' -> H D = none -> H' D = some (.dK kv) -> BgD kv r -> Q (.ref D) H'
noncomputable def IsTx (t r:List Int) (h:Int):Prop:=(∀ x ∈ t,0 ≤ x∧x ≤ 255)∧rowT t = r∧holeT t = h
noncomputable def spInitS (K:Frag) (C CR cB cN P:Addr) (lp:Pos):Sp:=fun vs H Q E => ∃ (p dx a:Addr) (r:List Int) (h st:Int),vs = [.ref p,.ref a,.int h,.int st]∧H p = some (.ins C dx [])∧SqL K H a (r.map V.int)∧r.length ≤ 1000∧(∀ x ∈ r,0 ≤ x∧x ≤ 255)∧st < 2 ^ 109∧TB P lp qnB H ∧
 ((¬ ∃ t,IsTx t r h) -> ∀ H',(∀ b o,H b = some o -> b ≠ p -> b ≠ P -> H' b = some o) -> TB P lp qnB H' -> E (.ref cB) none H') ∧
 ((∃ t,IsTx t r h) -> st < 1 -> ∀ H',(∀ b o,H b = some o -> b ≠ p -> b ≠ P -> H' b = some o) -> TB P lp qnB H' -> E (.ref cN) none H') ∧
 (∀ t,IsTx t r h -> 1 ≤ st -> ∀ (y:SgA) (H':Hp),H y.kp = none -> H y.mks = none -> SgAt C CR H' p dx y t st.toNat -> (∀ b o,H b = some o -> b ≠ p -> b ≠ P -> H' b = some o) -> TB P lp qnB H' -> Q .non H')
theorem cnt_cons {a:Int} {l:List Int} (h:a ∉ l):∀ r:List Int,r.count a + r.countP (fun x => decide (x ∈ l)) = r.countP (fun x => decide (x ∈ a :: l))
 | [] => rfl
 | x :: r => by
  have ih:=cnt_cons h r
  rw [List.count_cons,List.countP_cons,List.countP_cons]
  by_cases q:x = a
  ·rw [if_pos (beq_iff_eq.mpr q),if_neg (by rw [decide_eq_false (show ¬ x ∈ l by rw [q]; exact h)]; exact Bool.false_ne_true),if_pos (decide_eq_true (show x ∈ a :: l by rw [q]; exact List.mem_cons_self))]
   trivial
  ·rw [if_neg (fun z => q (beq_iff_eq.mp z))]
   by_cases q2:x ∈ l
   ·rw [if_pos (decide_eq_true q2),if_pos (decide_eq_true (List.mem_cons_of_mem _ q2))]; trivial
   ·rw [if_neg (by rw [decide_eq_false q2]; exact Bool.false_ne_true),if_neg (by rw [decide_eq_false (fun z => (List.mem_cons.mp z).elim q q2)]; exact Bool.false_ne_true)]; trivial
theorem sum_count (r:List Int):∀ l:List Int,l.Nodup -> (l.map fun j => r.count j).sum = r.countP (fun x => decide (x ∈ l))
 | [],_ => by
  rw [List.countP_eq_zero.mpr]
  ·rfl
  ·intro a _; simp
 | a :: l,nd => by
  rw [List.nodup_cons] at nd
  rw [List.map_cons,List.sum_cons,sum_count r l nd.2,cnt_cons nd.1]
theorem bg_sum {r:List Int} (hb:∀ x ∈ r,0 ≤ x∧x ≤ 255) {i:Nat} {k:Int} (h:(ksOf r)[i]? = some k):bgT r k = 1 + (((ksOf r).take i).map fun j => r.count j).sum:=by
 obtain ⟨s1,s2⟩:=ks_sorted r
 rw [sum_count r _ (s2.sublist (List.take_sublist _ _))]
 unfold bgT
 congr 1
 have hi:i < (ksOf r).length:=(List.getElem?_eq_some_iff.mp h).1
 have hk:(ksOf r)[i] = k:=(List.getElem?_eq_some_iff.mp h).2
 refine List.countP_congr fun x hx => ?_
 rw [decide_eq_true_eq,decide_eq_true_eq]
 obtain ⟨j,hj,e⟩:=List.mem_iff_getElem.mp ((mem_ks hb x).mpr hx)
 constructor
 ·intro hlt
  have:j < i:=by
   by_cases q:j < i
   ·exact q
   ·by_cases q2:j = i
    ·subst q2; trivial
    ·have:=List.pairwise_iff_getElem.mp s1 i j hi hj (by trivial)
     trivial
  exact List.mem_take_iff_getElem.mpr ⟨j,by trivial,e⟩
 ·intro hm
  obtain ⟨j',hj',e'⟩:=List.mem_take_iff_getElem.mp hm
  have hj2:j' < (ksOf r).length:=by trivial
  have h1:=List.pairwise_iff_getElem.mp s1 j' i hj2 hi (by trivial)
  have h2:=List.pairwise_iff_getElem.mp s2 j' i hj2 hi (by trivial)
  rw [hk] at h1 h2
  rw [e'] at h1 h2
  trivial
theorem len_putK {κ:Type} [DecidableEq κ] (kvs:List (κ × V)) (k:κ) (v:V):(putK kvs k v).length ≤ kvs.length + 1:=by
 unfold putK
 split
 ·rw [List.length_map]; trivial
 ·rw [List.length_append,List.length_singleton]; exact Nat.le_refl _
theorem sqMid {A B:TS} {D:Ends} {σ:St} {H:Hp} (M:St -> Hp -> Prop) (h2:∀ σ' H',M σ' H' -> B D σ' H') (h1:∀ N:St -> Hp -> Prop,(∀ σ' H',M σ' H' -> N σ' H') -> A { D with nx:=N } σ H):tSeq A B D σ H:=h1 _ h2
theorem orOf {ta tb:TT} {σ:St} {H:Hp} {Q:Bool -> Hp -> Prop} {a b:Bool} (h1:∀ Q':Bool -> Hp -> Prop,Q' a H -> ta σ H Q') (h2:∀ Q':Bool -> Hp -> Prop,Q' b H -> tb σ H Q') (h:Q (a || b) H):tOr ta tb σ H Q:=by
 refine h1 _ ?_
 cases a with
 | true => exact iteT h
 | false => exact iteF (h2 _ h)
theorem len_putF (f:Str) (v:V):∀ fs:List (Str × V),(putF f v fs).length ≤ fs.length + 1
 | [] => Nat.le_refl _
 | (g,x) :: r => by
  unfold putF
  split
  ·rw [List.length_cons,List.length_cons]; trivial
  ·rw [List.length_cons,List.length_cons]
   have:=len_putF f v r
   trivial
theorem sf1_l (n:Int):(sf1 n).length ≤ 1:=len_putF _ _ _
theorem sf2_l (n:Int) (rk:Addr):(sf2 n rk).length ≤ 2:=Nat.le_trans (len_putF _ _ _) (Nat.succ_le_succ (sf1_l n))
theorem sf3_l (n:Int) (rk:Addr) (h:Int):(sf3 n rk h).length ≤ 3:=Nat.le_trans (len_putF _ _ _) (Nat.succ_le_succ (sf2_l n rk))
theorem sf4_l (n:Int) (rk:Addr) (h st:Int):(sf4 n rk h st).length ≤ 4:=Nat.le_trans (len_putF _ _ _) (Nat.succ_le_succ (sf3_l n rk h))
theorem sf5_l (n:Int) (rk:Addr) (h st:Int) (bg:Addr):(sf5 n rk h st bg).length ≤ 5:=Nat.le_trans (len_putF _ _ _) (Nat.succ_le_succ (sf4_l n rk h st))
theorem sf6_l (n:Int) (rk:Addr) (h st:Int) (bg d1:Addr):(sf6 n rk h st bg d1).length ≤ 6:=Nat.le_trans (len_putF _ _ _) (Nat.succ_le_succ (sf5_l n rk h st bg))
theorem tb_keep {P:Addr} {lp:Pos} {qn:Str} {H H':Hp} (t:TB P lp qn H) (s:∀ b o,H b = some o -> (∀ C dx fs,o ≠ .ins C dx fs) -> H' b = some o):TB P lp qn H':=by
 unfold TB at t ⊢
 rcases t with t | ⟨c',oc,vs,tk,h1,h2,h3⟩
 ·exact .inl (s _ _ t (fun _ _ _ z => by cases z))
 ·exact .inr ⟨c',oc,vs,tk,s _ _ h1 (fun _ _ _ z => by cases z),s _ _ h2 (fun _ _ _ z => by cases z),h3⟩
theorem tb_keep2 {P:Addr} {lp:Pos} {qn:Str} {H H':Hp} (t:TB P lp qn H) (s:∀ b o,H b = some o -> (∀ kvs,o ≠ .dK kvs) -> H' b = some o):TB P lp qn H':=by
 unfold TB at t ⊢
 rcases t with t | ⟨c',oc,vs,tk,h1,h2,h3⟩
 ·exact .inl (s _ _ t (fun _ z => by cases z))
 ·exact .inr ⟨c',oc,vs,tk,s _ _ h1 (fun _ z => by cases z),s _ _ h2 (fun _ z => by cases z),h3⟩
theorem tb_upd {P:Addr} {lp:Pos} {qn:Str} {H:Hp} (t:TB P lp qn H) {q C dx:Addr} {fs:List (Str × V)} (o:HO) (n:H q = some (.ins C dx fs)):TB P lp qn (upd H q o) :=
 tb_keep t fun b u e z => by rw [upd_ne (fun y => by rw [y,n] at e; exact z _ _ _ (Option.some.inj e).symm)]; exact e
theorem RankAt.keepB {C:Addr} {H H':Hp} {x dx kp mk:Addr} {ds:List Addr} {ts:List Int} {st:Nat} (R:RankAt C H x dx kp mk ds ts st) {p C' dx':Addr} {fs:List (Str × V)} (hp:H p = some (.ins C' dx' fs)) (n:x ≠ p) (s:∀ b o,H b = some o -> b ≠ p -> H' b = some o):RankAt C H' x dx kp mk ds ts st:=by
 obtain ⟨h1,h2,⟨m1,m2,m3⟩,h4⟩:=R
 refine ⟨s _ _ h1 n,s _ _ h2 (ne_of h2 hp (by intro z; cases z)),⟨s _ _ m1 (ne_of m1 hp (by intro z; cases z)),m2,fun j d e => ?_⟩,h4⟩
 obtain ⟨ks,w1,w2⟩:=m3 j d e
 exact ⟨ks,s _ _ w1 (ne_of w1 hp (by intro z; cases z)),w2⟩
theorem isTx_walk {r:List Int} (hb:∀ x ∈ r,0 ≤ x∧x ≤ 255) {k:Nat} (hk:k ≤ r.length) (hx:¬ ∃ t,IsTx t r (k:Int)):∃ ws,Wk (shOf (colOf r k)) (k:Int) ws∧ws.length < r.length:=by
 have hcl:=col_len r hk
 have hp:=sh_perm (colOf r k)
 rw [hcl] at hp
 obtain ⟨ws,wk,hl⟩:=walk_closes hp (h:=(k:Int)) (by trivial) (by trivial)
 refine ⟨ws,wk,?_⟩
 by_cases c:ws.length < r.length
 ·exact c
 ·exfalso
  have e:ws.length = r.length:=by trivial
  obtain ⟨b1,b2⟩:=back_text hk (fun z hz => (hb z hz).1) wk e
  refine hx ⟨_,fun x hx' => ?_,b1,b2⟩
  have:=(row_prm (ws.map (ixC (colOf r k)))).mem_iff.mpr hx'
  rw [b1] at this
  exact hb x this
structure InS (C CR P:Addr) (lp:Pos) (H Hi:Hp) (p dx:Addr) (fs:List (Str × V)) (x dx2 kp mk:Addr) (ds:List Addr) (r:List Int) (st:Nat):Prop where
 e:Hi p = some (.ins C dx fs)
 k:∀ b o,H b = some o -> b ≠ p -> b ≠ P -> Hi b = some o
 t:TB P lp qnB Hi
 R:RankAt CR Hi x dx2 kp mk ds r st
 fr:∀ b,Hi b = none -> H b = none
section
variable {C CR P:Addr} {lp:Pos} {H Hi Hj:Hp} {p dx:Addr} {fs:List (Str × V)} {x dx2 kp mk:Addr} {ds:List Addr} {r:List Int} {st:Nat}
theorem InS.same (I:InS C CR P lp H Hi p dx fs x dx2 kp mk ds r st) (s:Same Hi Hj):InS C CR P lp H Hj p dx fs x dx2 kp mk ds r st :=
 ⟨s _ _ I.e,fun b o e q1 q2 => s _ _ (I.k b o e q1 q2),I.t.same s,I.R.same s,fun b e => I.fr b (s.free e)⟩
theorem InS.fld (I:InS C CR P lp H Hi p dx fs x dx2 kp mk ds r st) (n:x ≠ p) (fs':List (Str × V)):InS C CR P lp H (upd Hi p (.ins C dx fs')) p dx fs' x dx2 kp mk ds r st :=
 ⟨upd_same,fun b o e q1 q2 => by rw [upd_ne q1]; exact I.k b o e q1 q2,tb_upd I.t _ I.e,I.R.keepB I.e n fun b o e q => by rw [upd_ne q]; exact e,fun b e => by
  by_cases q:b = p
  ·rw [q,upd_same] at e; cases e
  ·rw [upd_ne q] at e; exact I.fr b e⟩
end
end PH
set_option Elab.async false
set_option linter.all false
namespace L2
open PySem PySem.Spec
section
variable {X:Cx} {te:TE} {t:TA} {r:List Expr}
end
end L2
set_option Elab.async false
set_option linter.all false
set_option maxRecDepth 100000
set_option maxHeartbeats 4000000
namespace PH
open PySem L2 PySem.W
structure Wls (H:Hp) (W:Addr) (zs:List (Addr × List Int)):Prop where
 at_:H W = some (.lst (zs.map fun z => V.ref z.1))
 each:∀ z ∈ zs,H z.1 = some (lsI z.2)
 nd:(zs.map (·.1)).Nodup
 ne:∀ z ∈ zs,z.1 ≠ W
 sg:∀ z ∈ zs,z.2.length ≤ 500∧∀ x ∈ z.2,0 ≤ x∧x ≤ 255
end PH
set_option Elab.async false
set_option linter.all false
set_option maxRecDepth 100000
namespace L2
open PySem PySem.Spec PyProof.Rows PySem.W
section
variable {X:Cx} {CX:CXT} {k:Nat} {f C:Addr} {fd:FuncData} {ps:List Str} {sp:Sp} {dvs:List V} {ds:List Value} {E:XK} {x m:Str} {p pos apos:Pos} {e o:Expr} {es:List Expr} {ta:TE} {t:TA} {pins:List (Addr × Obj)} {σ:St}
theorem pea_make (M:Mk X.K C f) (F:FnOk X.prog X.w X.K X.mg X.base CX k f fd ps sp) (hr:Room (k + 1) X.A) (hg:Gl X x) (hm:X.mg x = some (.ref C)) (hb:Binds X.K fd ps ds) (hd:Vals dvs ds) (hx:PassesAt CX X E pins σ)
  (ha:PA X (e :: es) t) (hdb:(x == ("__debug__":Str)) = false:=by decide) (he:starEach (e :: es) X.env = (false, eval e X.env) :: starEach es X.env:=by rfl) (hpl:(backTo pos (starEach es X.env)).any (·.1) = false:=by rfl) :
  PEAt X pins σ (.Call (.Name x p) (e :: es) [] pos) (tMake C sp dvs E t):=by
 intro s0 H0 Q I0 h0
 refine wpAny_Call_Name_kw (ld_glob I0 hg hm ?_ hdb)
 refine PySem.W.callWith_K (h₀:=X.base) I0.ok.mod.kin M.kp (thn (ha pos pins s0 σ H0 _ I0 h0) fun us s ⟨vs,H,I,r,h⟩ => ⟨I.kIn,?_⟩) he hpl
 have hq:=h (s.heap.objs.size + 1) s.heap.objs.size (I.hok.fresh (Nat.le_succ _)) (I.hok.fresh (Nat.le_refl _)) (Nat.ne_of_lt (Nat.lt_succ_self _))
 have I2:=Inv.made (C:=C) I
 have r2:Vals (V.ref (s.heap.objs.size + 1) :: (vs ++ dvs)) (Value.ref (s.heap.objs.size + 1) :: (us ++ ds)):=.cons rfl (r.append hd)
 have hl:(Value.ref (s.heap.objs.size + 1) :: us ++ ds).length = ps.length:=by
  have e:=r2.length
  rw [F.len _ _ _ _ hq] at e
  exact e.symm
 refine wpAny_call (make_map (f:=f) I.kIn M.makes M.init (beq_iff_eq.mp M.fn) (codeAny_mono (F.run _ X.stack _ _ ⟨Value.ref (s.heap.objs.size + 1) :: us,[]⟩ (Value.ref (s.heap.objs.size + 1) :: (us ++ ds)) _ _ E (hr.make C us [])
  (I2.env0.make C us []) (hb _ (Value.ref (s.heap.objs.size + 1) :: us) I2.kIn hl) r2 hq) fun r s' hq' => ?_))
 cases r with
 | error e => exact hx _ _ e s' I2 hq'
 | ok fl =>
  cases fl with
  | ret u =>
   obtain ⟨v,H',I3,rv,ev,q3⟩:=I2.after hq'
   subst ev
   exact ⟨rv,⟨V.ref (s.heap.objs.size + 1),H',I3,rfl,q3⟩⟩
  | next => exact False.elim hq'
  | brk => exact False.elim hq'
  | cont => exact False.elim hq'
end
end L2
set_option Elab.async false
set_option linter.all false
set_option maxRecDepth 100000
set_option maxHeartbeats 4000000
namespace PH
open PySem L2 PySem.W
theorem col_at {t:List Int} {m:Nat} (h:m < t.length):colE t ((m + 1:Nat):Int) = t[m]:=by
 unfold colE
 rw [if_neg (by trivial),show (((m + 1:Nat):Int) - 1).toNat = m by trivial,List.getElem?_eq_getElem h]
 rfl
theorem bmK {X:Cx} {K:Frag} {e:Expr} {T:String} {r:V -> List V -> Hp -> VK -> Prop} {to:TE} {t:TA} (h:PE X e (tBM X.K T r to t)) (hK:X.K = K:=by rfl):PE X e (tBM K T r to t):=by
 rw [← hK]; exact h
end PH
set_option Elab.async false
set_option linter.all false
set_option maxRecDepth 100000
set_option maxHeartbeats 4000000
namespace PH
open PySem L2 PySem.W
theorem ixN_nat {n i:Nat} (h:i < n):ixN n (i:Int) = some i:=by
 unfold ixN
 rw [if_pos (by trivial),if_pos (by trivial),Int.toNat_natCast]
end PH
set_option Elab.async false
set_option linter.all false
set_option maxRecDepth 100000
set_option maxHeartbeats 4000000
namespace PH
open PySem L2 PySem.W
noncomputable def gpl (k:Nat) (j:Nat):Int:=(j:Int) + if decide ((k:Int) ≤ (j:Int)) = true then 1 else 0
theorem gpl_le {k j:Nat} (h:k ≤ j):gpl k j = (j:Int) + 1:=by
 unfold gpl
 rw [if_pos (decide_eq_true (by trivial))]
theorem gpl_gt {k j:Nat} (h:¬ k ≤ j):gpl k j = (j:Int):=by
 unfold gpl
 rw [if_neg (by rw [decide_eq_false (by trivial)]; exact Bool.false_ne_true),Int.add_zero]
theorem andOf {ta tb:TT} {σ:St} {H:Hp} {Q:Bool -> Hp -> Prop} {a b:Bool} (h1:∀ Q':Bool -> Hp -> Prop,Q' a H -> ta σ H Q') (h2:∀ Q':Bool -> Hp -> Prop,Q' b H -> tb σ H Q') (h:Q (a && b) H):tAnd ta tb σ H Q:=by
 refine h1 _ ?_
 cases a with
 | true => exact iteT (h2 _ h)
 | false => exact iteF h
noncomputable def pls (r:List Int) (k:Nat):List (Int × Int):=(List.range r.length).map fun j => ((r[j]?).getD 0,gpl k j)
theorem ix_col {r:List Int} {k j:Nat} (hk:k ≤ r.length) (hj:j < r.length):ixC (colOf r k) (gpl k j) = (r[j]?).getD 0:=by
 unfold ixC colOf
 by_cases c:k ≤ j
 ·rw [gpl_le c,show ((j:Int) + 1).toNat = j + 1 by trivial,List.getElem?_append_right (by rw [List.length_take]; trivial),List.length_take,Nat.min_eq_left hk,show j + 1 - k = (j - k) + 1 by trivial,List.getElem?_cons_succ,List.getElem?_drop,show k + (j - k) = j by trivial]
 ·rw [gpl_gt c,show ((j:Int)).toNat = j by trivial,List.getElem?_append_left (by rw [List.length_take]; trivial),List.getElem?_take_of_lt (by trivial)]
theorem ix_hole {r:List Int} {k:Nat} (hk:k ≤ r.length):ixC (colOf r k) (k:Int) = -1:=by
 unfold ixC colOf
 rw [Int.toNat_natCast,List.getElem?_append_right (by rw [List.length_take]; trivial),List.length_take,Nat.min_eq_left hk,Nat.sub_self]; rfl
theorem gpl_perm (k:Nat):∀ n:Nat,k ≤ n -> ((k:Int) :: (List.range n).map (gpl k)).Perm (rgI (n + 1)):=by
 have base:(List.range k).map (gpl k) = rgI k:=by
  unfold rgI
  refine List.map_congr_left fun j hj => ?_
  have:=List.mem_range.mp hj
  exact gpl_gt (by trivial)
 have rs:∀ m:Nat,rgI (m + 1) = rgI m ++ [(m:Int)]:=fun m => by unfold rgI; rw [List.range_succ,List.map_append]; rfl
 intro n
 induction n with
 | zero =>
  intro h
  have:k = 0:=by trivial
  subst this
  exact .of_eq rfl
 | succ n ih =>
  intro h
  by_cases c:k = n + 1
  ·subst c
   rw [base,rs (n + 1)]
   exact List.perm_append_singleton _ _ |>.symm
  ·rw [List.range_succ,List.map_append,rs (n + 1)]
   have e:[gpl k n] = [((n + 1:Nat):Int)]:=by rw [gpl_le (by trivial)]; rfl
   rw [List.map_singleton,e,← List.cons_append]
   exact (ih (by trivial)).append_right _
theorem pls_perm {r:List Int} {k:Nat} (hk:k ≤ r.length):((-1,(k:Int)) :: pls r k).Perm ((colOf r k).zip (rgI (colOf r k).length)):=by
 rw [zip_rg,col_len r hk]
 have e:(-1,(k:Int)) :: pls r k = ((k:Int) :: (List.range r.length).map (gpl k)).map fun e => (ixC (colOf r k) e,e):=by
  rw [List.map_cons,ix_hole hk,List.map_map]
  congr 1
  unfold pls
  refine List.map_congr_left fun j hj => ?_
  show _ = (ixC (colOf r k) (gpl k j),gpl k j)
  rw [ix_col hk (List.mem_range.mp hj)]
 rw [e]
 exact (gpl_perm k _ hk).map _
theorem sh_pls {r:List Int} {k:Nat} (hk:k ≤ r.length) (hb:∀ z ∈ r,0 ≤ z) {ps:List (Int × Int)} (hp:ps.Perm (pls r k)) (hs:ps.Pairwise lexLe):shOf (colOf r k) = (k:Int) :: ps.map (·.2):=by
 refine (sh_of_pairs (ps:=(-1,(k:Int)) :: ps) ((List.Perm.cons _ hp).trans (pls_perm hk)) (List.pairwise_cons.mpr ⟨fun p hm => ?_,hs⟩)).symm
 obtain ⟨j,hj,rfl⟩:=List.mem_map.mp (hp.mem_iff.mp hm)
 refine .inl ?_
 show (-1:Int) < (r[j]?).getD 0
 have hj:=List.mem_range.mp hj
 rw [List.getElem?_eq_getElem hj]
 have:=hb _ (List.getElem_mem hj)
 show (-1:Int) < r[j]
 trivial
theorem step28 {t:List Int} (ht:∀ x ∈ t,0 ≤ x) {L:List Int} (hsh:shOf (colOf (rowT t) (holeT t).toNat) = holeT t :: L) {k:Nat} {e:Int} (he:(endsOf t)[k]? = some e) (h0:0 < e) {j:Nat} (hj:L[j]? = some (k:Int)):(endsOf t)[j + 1]? = some (e - 1):=by
 have h1:(shOf (colOf (rowT t) (holeT t).toNat))[j + 1]? = some (k:Int):=by rw [hsh,List.getElem?_cons_succ,hj]
 rw [sh_text ht,List.getElem?_map] at h1
 obtain ⟨e',h2,h3⟩:=Option.map_eq_some_iff.mp h1
 have hm:=ends_mem.mp (List.mem_of_getElem? h2)
 have hn:nxE t.length e' ∈ endsOf t:=by
  refine ends_mem.mpr ?_
  unfold nxE
  split <;> trivial
 have hlt:=List.idxOf_lt_length_of_mem hn
 have hk:(endsOf t).idxOf (nxE t.length e') = k:=by trivial
 have h4:=List.getElem?_eq_getElem hlt
 rw [List.getElem_idxOf hlt,hk,he] at h4
 have h5:=Option.some.inj h4
 rw [h2]
 congr 1
 unfold nxE at h5
 split at h5 <;> trivial
noncomputable def spTextOf28 (K:Frag):Sp:=fun vs H Q _ => ∃ (a:Addr) (r:List Int) (h:Int),vs = [.ref a,.int h]∧SqL K H a (r.map V.int)∧r.length ≤ 100∧(∀ z ∈ r,0 ≤ z∧z ≤ 255) ∧
 (∀ t,IsTx t r h -> ∀ (D:Addr) (H':Hp),Same H H' -> Q (.ref D) H')∧((¬ ∃ t,IsTx t r h) -> ∀ H',Same H H' -> Q .non H')
noncomputable def due28 (r:List Int) (h st:Int) (d:List Int):Prop:=((¬ ∃ t,IsTx t r h) -> d = [0])∧((∃ t,IsTx t r h) -> st < 1 -> d = [1])∧((∃ t,IsTx t r h) -> 1 ≤ st -> d = [])
noncomputable def spKinds28 (K:Frag) (P:Addr) (lp:Pos):Sp:=fun vs H Q _ => ∃ (a:Addr) (r:List Int) (h st:Int),vs = [.ref a,.int h,.int st]∧SqL K H a (r.map V.int)∧r.length ≤ 100∧(∀ z ∈ r,0 ≤ z∧z ≤ 255)∧st < 2 ^ 109∧TB P lp qnB H ∧
 ∀ (D:Addr) (d:List Int) (H':Hp),due28 r h st d -> H D = none -> H' D = some (lsI d) -> SameT P lp qnB H H' -> Q (.ref D) H'
noncomputable def spChanged (K:Frag):Sp:=fun vs H Q _ => ∃ (a:Addr) (r:List Int) (h c:Int),vs = [.ref a,.int h,.int c]∧SqL K H a (r.map V.int)∧r.length ≤ 60∧(∀ z ∈ r,0 ≤ z∧z ≤ 255) ∧
 ∀ (T D:Addr) (s:List Int) (h':Int) (H':Hp),Same H H' -> H T = none -> H D = none -> T ≠ D -> H' T = some (.tup [.ref D,.int h']) -> H' D = some (lsI s) -> s.length ≤ 61 -> (∀ z ∈ s,0 ≤ z∧z ≤ 255) -> Q (.ref T) H'
end PH
set_option Elab.async false
set_option linter.all false
set_option maxRecDepth 100000
set_option maxHeartbeats 4000000
namespace K28
open PySem L2 PySem.W PH
noncomputable def top (i:Nat):Stmt:=PySem.Challenge.pw_packhall_k28_sought_refused.main.body.getD i (.Pass ⟨0,0,0,0⟩)
noncomputable abbrev s_whole:Stmt:=top 10
noncomputable abbrev s_sign:Stmt:=top 11
noncomputable abbrev s_signs:Stmt:=top 12
noncomputable abbrev s_counts:Stmt:=top 14
noncomputable abbrev s_marks:Stmt:=top 16
noncomputable abbrev s_init:Stmt:=inClass (top 17) 0
noncomputable abbrev s_signat:Stmt:=inClass (top 17) 1
noncomputable abbrev s_ahead:Stmt:=inClass (top 17) 2
noncomputable abbrev s_may:Stmt:=top 19
noncomputable abbrev s_back:Stmt:=top 20
noncomputable abbrev s_firstr:Stmt:=top 22
noncomputable abbrev s_signa:Stmt:=inClass (top 23) 2
noncomputable abbrev s_timesa:Stmt:=inClass (top 23) 3
noncomputable abbrev s_longer:Stmt:=inClass (top 23) 4
noncomputable abbrev s_setm:Stmt:=inClass (top 23) 1
noncomputable abbrev s_inits:Stmt:=inClass (top 23) 0
noncomputable abbrev s_cell:Stmt:=top 25
noncomputable abbrev s_text:Stmt:=top 27
noncomputable abbrev s_lturned:Stmt:=top 28
noncomputable abbrev s_textof:Stmt:=top 30
noncomputable abbrev s_lkinds:Stmt:=top 31
noncomputable abbrev s_changed:Stmt:=top 32
noncomputable abbrev s_law:Stmt:=top 33
section
variable {P:Program} {w:World} {K:PySem.W.Frag} {mg:Str -> Option Value} {base:Heap}
theorem sc_whole:FnScope ["thing"] ["thing"] (defScope s_whole):=⟨rfl, rfl, rfl, by decide +kernel, rfl, by decide +kernel, by decide +kernel⟩
theorem ok_whole {f:Addr} {fd:FuncData} (F:Fun K "is_whole" "is_whole" s_whole f fd) (B:Bls mg):FnOk P w K mg base (CXW P w) 1 f fd ["thing"] (spWhT):=by
 refine F.okN sc_whole (fun vs H Q E h => ?_) (fun cdv A outer s H vs Q E hr h => ?_)
 ·obtain ⟨n,rfl,_⟩:=h
  rfl
 ·obtain ⟨n,rfl,q⟩:=h
  refine ⟨_, (pss_one (ps_ret (pe_and (pe_callB (r:=rIsi K) call_isi rfl B.isi boot_isi (pa_cons (pv 0) (pa_cons (pe_bltn (v:=.ty "int") rfl B.int boot_int' rfl) pa_nil))) (pe_one (pe_not (pe_callB (r:=rIsi K) call_isi rfl B.isi boot_isi (pa_cons (pv 0) (pa_cons (pe_bltn (v:=.ty "bool") rfl B.bool boot_bool' rfl) pa_nil)))))))), ?_⟩
  refine ⟨_,rfl,_,_,_,_,true,rfl,.of (.int n),rfl,kit_refl _ _,_,rfl,?_⟩
  refine iteT ?_
  refine ⟨_,rfl,_,_,_,_,false,rfl,.of (.int n),rfl,kit_ib _,_,rfl,?_⟩
  exact q
theorem sc_sign:FnScope ["thing"] ["thing"] (defScope s_sign):=⟨rfl, rfl, rfl, by decide +kernel, rfl, by decide +kernel, by decide +kernel⟩
theorem ok_sign {f f_whole:Addr} {fd d_whole:FuncData} (F:Fun K "is_sign" "is_sign" s_sign f fd) (B:Bls mg) (m_LS:LSf mg) 
  (G_whole:FnOk P w K mg base (CXW P w) 1 f_whole d_whole ["thing"] (spWhT)) (b_whole:Binds K d_whole ["thing"] []) (k_whole:keepIn K (.ref f_whole) = true) (m_whole:mg "is_whole" = some (.ref f_whole)):FnOk P w K mg base (CXW P w) 2 f fd ["thing"] (spSignT):=by
 refine F.okN sc_sign (fun vs H Q E h => ?_) (fun cdv A outer s H vs Q E hr h => ?_)
 ·obtain ⟨n,rfl,_⟩:=h
  rfl
 ·obtain ⟨n,rfl,h0,h1,q⟩:=h
  obtain ⟨u_LS,m_u,r_u⟩:=m_LS
  refine ⟨_,(pss_one (ps_ret (pe_and (pe_call G_whole hr rfl m_whole k_whole b_whole .nil passN (pa_cons (pv 0) pa_nil)) (pe_one (pe_chain op_le op_le pe_int (pv 0) (pe_glob (v:=.int 255) rfl m_u r_u)))))),?_⟩
  refine ⟨_,rfl,n,rfl,_,rfl,?_⟩
  refine iteT ?_
  refine ⟨_,rfl,_,_,rfl,rfl,_,rfl,?_⟩
  rw [decide_eq_true h0]
  refine iteT ?_
  refine ⟨_,_,rfl,rfl,?_⟩
  show Q (.bl (decide (n ≤ 255))) H
  rw [decide_eq_true h1]
  exact q
theorem sc_signs:FnScope ["things"] ["things"] (defScope s_signs):=⟨rfl, rfl, rfl, by decide +kernel, rfl, by decide +kernel, by decide +kernel⟩
theorem ok_signs {f f_sign:Addr} {fd d_sign:FuncData} (F:Fun K "are_signs" "are_signs" s_signs f fd) (B:Bls mg) 
  (G_sign:FnOk P w K mg base (CXW P w) 2 f_sign d_sign ["thing"] (spSignT)) (b_sign:Binds K d_sign ["thing"] []) (k_sign:keepIn K (.ref f_sign) = true) (m_sign:mg "is_sign" = some (.ref f_sign)):FnOk P w K mg base (CXW P w) 3 f fd ["things"] (spSigns K):=by
 refine F.okN sc_signs (fun vs H Q E h => ?_) (fun cdv A outer s H vs Q E hr h => ?_)
 ·obtain ⟨a,r,rfl,_⟩:=h
  rfl
 ·obtain ⟨a,r,rfl,hS,h5,hsg,q⟩:=h
  refine ⟨_, (pss_one (ps_ret (pe_callB (call_allL rfl) rfl B.all boot_all' (pa_cons (pe_comp (N:=["thing"]) (js:=[none]) (g:=(gName 0)) (tc:=tTrue) (te:=(tCall (spSignT) [] E0 (tCons (tVar 0) tNil))) rfl (comp_scope (osc:=defScope s_signs) (XN:=["things"]) rfl rfl rfl (by decide +kernel)) (pi_list (pv 0)) (fun _ _ _ _ => pg_name (i:=0) (show (["thing"]:List Str).Nodup by decide +kernel) rfl (Or.inl rfl)) (fun _ _ _ _ => pif_nil) (fun _ _ _ _ => (pe_call G_sign hr rfl m_sign k_sign b_sign .nil passN (pa_cons (pv 0) pa_nil)))) pa_nil)))), ?_⟩
  refine ⟨_,rfl,a,rfl,⟨_,hS⟩,fun D hD => ?_⟩
  refine comp_lstQ (K:=K) (a:=a) (xs:=r.map V.int) (fun i σ' H' => ∃ x:Option V,σ' = [x]∧H' D = some (.lst ((List.replicate i true).map V.bl))∧Same H H')
   ⟨none,rfl,upd_same,same_new hD _⟩ (fun i σ' H' _ ⟨_,_,_,s⟩ => s.seq hS) ?_ ?_
  ·rintro i v σ' H' hi ⟨x,rfl,hD',sm⟩
   obtain ⟨z,rfl,hz⟩:=int_at hi
   have hil:i < r.length:=(List.getElem?_eq_some_iff.mp hz).1
   have hb:=hsg z (List.mem_of_getElem? hz)
   refine nameT ?_
   refine ⟨_,rfl,z,rfl,hb.1,hb.2,?_⟩
   refine ⟨D,_,_,rfl,rfl,hD',fits_lt (by rw [List.length_map,List.length_replicate]; trivial),?_⟩
   refine CW.next (by rw [List.length_map]; exact hil) ⟨_,rfl,?_,same_upd sm _ hD⟩
   rw [upd_same,List.replicate_succ',List.map_append]; rfl
  ·rintro σ' H' ⟨x,rfl,hD',sm⟩
   refine ⟨D,_,rfl,SqL.of hD',?_⟩
   rw [show (List.replicate (r.map V.int).length true).all id = true by rw [List.all_eq_true]; intro b hb; rw [List.eq_of_mem_replicate hb]; rfl]
   exact q _ sm
theorem sc_counts:FnScope ["text", "times", "sign"] ["text"] (defScope s_counts):=⟨rfl, rfl, rfl, by decide +kernel, rfl, by decide +kernel, by decide +kernel⟩
theorem ok_counts {f:Addr} {fd:FuncData} (F:Fun K "counts_of" "counts_of" s_counts f fd) (B:Bls mg):FnOk P w K mg base (CXW P w) 1 f fd ["text"] (spCounts K):=by
 refine F.okN sc_counts (fun vs H Q E h => ?_) (fun cdv A outer s H vs Q E hr h => ?_)
 ·obtain ⟨a,ns,rfl,_⟩:=h
  rfl
 ·obtain ⟨a,ns,rfl,hS,h5,hb,hQ⟩:=h
  refine ⟨_,(pss_cons (ps_set (i:=1) sc_counts.nd rfl (Or.inr rfl) pe_dnewK)
   (pss_cons (ps_for PassesOwn.never rfl (pi_list (pv 0)) (pg_name (i:=2) sc_counts.nd rfl (Or.inl rfl))
    (pss_one (ps_dput (hu_of hr) (pv 1) (pv 2) (pe_op op_add (pe_dget2 (hu_of hr) (pv 1) (pv 2) pe_int ⟨rfl,rfl,rfl,rfl⟩) pe_int) rfl)))
   (pss_one (ps_ret (pe_comp (N:=["sign", "times"]) (js:=[none, some 1]) (g:=(gName 0)) (tc:=tTrue) (te:=(tTup (tCons (tVar 0) (tCons (tDGet (tVar 1) (tVar 0)) tNil)))) rfl (comp_scope (osc:=defScope s_counts) (XN:=["text", "times", "sign"]) rfl rfl rfl (by decide +kernel)) (pi_list (pe_callB (call_sortedD rfl) rfl B.sorted boot_sorted' (pa_cons (pv 1) pa_nil))) (fun _ _ _ _ => pg_name (i:=0) (show (["sign", "times"]:List Str).Nodup by decide +kernel) rfl (Or.inl rfl)) (fun _ _ _ _ => pif_nil) (fun _ _ _ _ => (pe_tup (pa_cons (pv 0) (pa_cons (pe_dget (hu_of hr) (pv 1) (pv 0) (fun _ _ => rfl)) pa_nil))))))))), ?_⟩
  have hbl:=len_lsI ns
  refine fun dt hdt => ?_
  have hS1:=(same_new hdt (.dK [])).seq hS
  refine ⟨_,rfl,a,rfl,⟨_,hS1⟩,for_list (K:=K) (a:=a) (xs:=ns.map V.int) (fun i σ H2 => ∃ (v:Option V) (ks:List Int),σ = [some (.ref a),some (.ref dt),v]∧H2 = upd H dt (.dK (cntD ks (ns.take i)))∧ks.Nodup∧(∀ k,k ∈ ks ↔ k ∈ ns.take i)∧ks.length ≤ i)
   ⟨none,[],rfl,rfl,List.nodup_nil,(fun k => by rw [List.take_zero]),Nat.le_refl _⟩ (fun i σ H2 _ ⟨_,_,_,e,_⟩ => by rw [e]; exact (same_new hdt _).seq hS) ?_ ?_⟩
  ·rintro i y σ H2 hi ⟨v,ks,rfl,rfl,nd,hm,hkl⟩
   obtain ⟨z,rfl,hz⟩:=int_at hi
   have hil:i < ns.length:=(List.getElem?_eq_some_iff.mp hz).1
   have hg:=DGet.k (k:=Sum.inl z) (show upd H dt (.dK (cntD ks (ns.take i))) dt = some (.dK (cntD ks (ns.take i))) from upd_same)
   rw [valV_cntD] at hg
   refine ⟨_,rfl,dt,rfl,.inl ⟨_,.inl upd_same⟩,_,rfl,_,hg,((ns.take i).count z:Int),1,?_,rfl,?_⟩
   ·show ((if z ∈ ks then some (V.int ((ns.take i).count z:Int)) else none).getD (.int 0)) = .int ((ns.take i).count z:Int)
    by_cases h:z ∈ ks
    ·rw [if_pos h]; rfl
    ·rw [if_neg h]
     have:(ns.take i).count z = 0:=List.count_eq_zero.mpr fun q => h ((hm z).mpr q)
     rw [this]; rfl
   refine ⟨_,rfl,_,rfl,dt,_,rfl,DPut.k (k:=Sum.inl z) upd_same (fits_lt (by unfold cntD; rw [List.length_map]; trivial)),?_⟩
   rw [put_cntD hm,← take_at hz,upd_upd]
   refine ⟨_,if z ∈ ks then ks else ks ++ [z],rfl,rfl,?_,fun k => ?_,?_⟩
   ·by_cases h:z ∈ ks
    ·rw [if_pos h]; exact nd
    ·rw [if_neg h]; exact nd_snoc nd h
   ·rw [take_at hz,List.mem_append,List.mem_singleton,← hm]
    by_cases h:z ∈ ks
    ·rw [if_pos h]
     constructor
     ·exact .inl
     ·rintro (q | q)
      ·exact q
      ·rw [q]; exact h
    ·rw [if_neg h,List.mem_append,List.mem_singleton]
   ·by_cases h:z ∈ ks
    ·rw [if_pos h]; trivial
    ·rw [if_neg h,List.length_append,List.length_singleton]; trivial
  ·rintro σ H2 ⟨v,ks,rfl,rfl,nd,hm,hkl⟩
   rw [hbl,List.take_length] at hm ⊢
   rw [hbl] at hkl
   have hdd:upd H dt (.dK (cntD ks ns)) dt = some (.dK (cntD ks ns)):=upd_same
   refine ⟨_,rfl,dt,_,ks,rfl,.inl hdd,cntD_keys ks ns,fun ks' ps hp hsr hps => ?_⟩
   have hk':=sorted_keys hb nd hm hp hsr
   subst hk'
   have s1:=(same_new hdt (.dK (cntD ks ns))).trans (same_new hps (.lst ((ksOf ns).map V.int)))
   have hps1:upd (upd H dt (.dK (cntD ks ns))) ps (.lst ((ksOf ns).map V.int)) ps = some (lsI (ksOf ns)):=upd_same
   have hdt1:upd (upd H dt (.dK (cntD ks ns))) ps (.lst ((ksOf ns).map V.int)) dt = some (.dK (cntD ks ns)):=by rw [upd_ne (ne_of_none hdd hps)]; exact hdd
   generalize upd (upd H dt (.dK (cntD ks ns))) ps (.lst ((ksOf ns).map V.int)) = H3 at s1 hps1 hdt1 ⊢
   refine ⟨ps,rfl,⟨_,SqL.of hps1⟩,fun D hD => ?_⟩
   have nD1:=ne_of_none hps1 hD
   have nD2:=ne_of_none hdt1 hD
   have hlk:(ksOf ns).length ≤ 5000:=by rw [hp.length_eq]; trivial
   refine comp_lst (K:=K) (a:=ps) (xs:=(ksOf ns).map V.int) (fun i σ' H' => ∃ (v:Option V) (zs:List (Addr × Int × Int)),σ' = [v,some (.ref dt)]∧Prs H' D zs∧zs.map (·.2) = ((ksOf ns).take i).map (fun k => (k,(ns.count k:Int)))∧(∀ z ∈ zs,z.1 ≠ D)∧Same H3 H')
    ⟨none,[],rfl,⟨upd_same,(fun _ z => by cases z)⟩,by rw [List.take_zero]; rfl,(fun _ z => by cases z),same_new hD _⟩ (fun i σ' H' _ ⟨_,_,_,_,_,_,e⟩ => SqL.of (e _ _ hps1)) ?_ ?_
   ·rintro i x σ' H' hi ⟨v,zs,rfl,prs,hzs,hzD,sm⟩
    obtain ⟨k,rfl,hk⟩:=int_at hi
    have hlt:i < ((ksOf ns).map V.int).length:=(List.getElem?_eq_some_iff.mp hi).1
    have hkm:k ∈ ks:=(hm k).mpr ((mem_ks hb k).mp (List.mem_of_getElem? hk))
    have hg:=DGet.k (k:=Sum.inl k) (sm _ _ hdt1)
    rw [valV_cntD,if_pos hkm] at hg
    refine nameT ?_
    refine ⟨_,rfl,_,rfl,_,rfl,dt,_,rfl,hg,(by show 2 ≤ sizeLine; decide),fun t ht => ?_⟩
    have hzl:zs.length = i:=by
     have:=congrArg List.length hzs
     rw [List.length_map,List.length_map,List.length_take] at this
     rw [List.length_map] at hlt
     trivial
    have ntD:t ≠ D:=(ne_of_none prs.at_ ht).symm
    refine ⟨D,_,_,rfl,rfl,(same_new ht _) _ _ prs.at_,fits_lt (by rw [List.length_map]; rw [List.length_map] at hlt; trivial),?_⟩
    have st:=same_new ht (.tup [.int k,.int (ns.count k:Int)])
    refine CW.next hlt ⟨_,zs ++ [(t,k,(ns.count k:Int))],rfl,⟨?_,fun z hz => ?_⟩,?_,fun z hz => ?_,?_⟩
    ·rw [upd_same,List.map_append]; rfl
    ·rcases List.mem_append.mp hz with hz | hz
     ·rw [upd_ne (hzD z hz)]; exact st _ _ (prs.each z hz)
     ·have:z = (t,k,(ns.count k:Int)):=by simpa using hz
      subst this
      rw [upd_ne ntD,upd_same]
    ·rw [List.map_append,hzs,take_at hk,List.map_append]; rfl
    ·rcases List.mem_append.mp hz with hz | hz
     ·exact hzD z hz
     ·have:z = (t,k,(ns.count k:Int)):=by simpa using hz
      subst this
      exact ntD
    ·exact same_upd (sm.trans st) _ hD
   ·rintro σ' H' ⟨v,zs,rfl,prs,hzs,hzD,sm⟩
    refine hQ D zs H' (s1.trans sm) (s1.free hD) prs ?_
    rw [hzs,List.length_map,List.take_length,cnts_ks]
end
end K28
set_option Elab.async false
set_option linter.all false
set_option maxRecDepth 100000
set_option maxHeartbeats 4000000
namespace K28
open PySem L2 PySem.W PH
section
variable {P:Program} {w:World} {K:PySem.W.Frag} {mg:Str -> Option Value} {base:Heap}
theorem sc_marks:FnScope ["text", "step", "times", "marks", "behind", "sign"] ["text", "step"] (defScope s_marks):=⟨rfl, rfl, rfl, by decide +kernel, rfl, by decide +kernel, by decide +kernel⟩
theorem ok_marks {f:Addr} {fd:FuncData} (F:Fun K "marks_of" "marks_of" s_marks f fd) (B:Bls mg) (n_enumerate:mg "enumerate" = none):FnOk P w K mg base (CXW P w) 1 f fd ["text", "step"] (spMarks K):=by
 refine F.okN sc_marks (fun vs H Q E h => ?_) (fun cdv A outer s H vs Q E hr h => ?_)
 ·obtain ⟨a,ts,st,rfl,_⟩:=h
  rfl
 ·obtain ⟨a,ts,st,rfl,hS,h5,h1,hQ⟩:=h
  refine ⟨_,(pss_cons (ps_set (i:=2) sc_marks.nd rfl (Or.inl rfl) pe_dnewK)
   (pss_cons (ps_set (i:=3) sc_marks.nd rfl (Or.inl rfl) (pe_lst (pa_cons (pe_callTy call_dict_of rfl B.dict boot_dict' (pa_cons (pv 2) pa_nil)) pa_nil)))
   (pss_cons (ps_for PassesOwn.never rfl (pi_enum1 rfl n_enumerate (pa_cons (pv 0) pa_nil)) (pg_tup rfl (pgs_cons (pg_name (i:=4) sc_marks.nd rfl (Or.inl rfl)) (pgs_cons (pg_name (i:=5) sc_marks.nd rfl (Or.inl rfl)) pgs_nil)))
    (pss_cons (ps_dput (hu_of hr) (pv 2) (pv 5) (pe_op op_add (pe_dget2 (hu_of hr) (pv 2) (pv 5) pe_int ⟨rfl,rfl,rfl,rfl⟩) pe_int) rfl)
    (pss_one (ps_if (pt_cmpR op_eq (pe_op op_mod (pv 4) (pv 1)) pe_int (nomark _))
     (pss_one (ps_expr (pe_bm PySem.F.plainAttrs_list PySem.F.slot_list_append PySem.F.type_list_append mt_append (pv 3) (pa_cons (pe_callTy call_dict_of rfl B.dict boot_dict' (pa_cons (pv 2) pa_nil)) pa_nil))))
     pss_nil))))
   (pss_one (ps_ret (pv 3)))))),?_⟩
  refine fun dt hdt => ?_
  have s0:=same_new hdt (.dK [])
  have e0:upd H dt (.dK []) dt = some (.dK (cntD [] (ts.take 0))):=upd_same
  generalize upd H dt (.dK []) = H1 at s0 e0 ⊢
  refine ⟨_,rfl,dt,_,rfl,e0,fun d0 hd0 => ⟨(by show 1 ≤ sizeLine; decide),fun mk hmk => ?_⟩⟩
  have s1:=same_new hd0 (.dK (cntD [] (ts.take 0)))
  have e1:upd H1 d0 (.dK (cntD [] (ts.take 0))) d0 = some (.dK (cntD [] (ts.take 0))):=upd_same
  have nd0:d0 ≠ dt:=(ne_of_none e0 hd0).symm
  have e01:=s1 _ _ e0
  generalize upd H1 d0 (.dK (cntD [] (ts.take 0))) = H2 at s1 e1 e01 hmk ⊢
  have s2:=same_new hmk (.lst [.ref d0])
  have hmkH:H mk = none:=(s0.trans s1).free hmk
  have hdtH:H dt = none:=hdt
  have nmd:mk ≠ dt:=(ne_of_none e01 hmk).symm
  have nm0:d0 ≠ mk:=ne_of_none e1 hmk
  have s012:=(s0.trans s1).trans s2
  refine ⟨_,rfl,a,rfl,⟨_,s012.seq hS⟩,for_enum1 (K:=K) (a:=a) (xs:=ts.map V.int) (fun i σ H2 => ∃ (v4 v5:Option V) (ks:List Int) (ds:List Addr),σ = [some (.ref a),some (.int (st:Int)),some (.ref dt),some (.ref mk),v4,v5]∧H2 dt = some (.dK (cntD ks (ts.take i)))∧(∀ k,k ∈ ks ↔ k ∈ ts.take i)∧ks.length ≤ i∧Marks H2 mk ds ts st i∧(∀ d ∈ ds,d ≠ dt∧d ≠ mk)∧ds.length ≤ i + 1∧Same H H2)
   ⟨none,none,[],[d0],rfl,s2 _ _ e01,(fun k => by rw [List.take_zero]),Nat.le_refl _,⟨upd_same,by rw [Nat.zero_div]; rfl,fun j d e => ?_⟩,(fun d hd => by
    have:d = d0:=by simpa using hd
    rw [this]; exact ⟨nd0,nm0⟩),Nat.le_refl _,s012⟩ (fun i σ H2 _ ⟨_,_,_,_,_,_,_,_,_,_,_,e⟩ => e.seq hS) ?_ ?_⟩
  ·have hj:j = 0:=by
    have:=(List.getElem?_eq_some_iff.mp e).1
    simp at this
    exact this
   subst hj
   have:d0 = d:=by simpa using e
   subst this
   exact ⟨[],by rw [Nat.zero_mul]; exact s2 _ _ e1,fun k => by rw [Nat.zero_mul,List.take_zero]⟩
  ·rintro i y t σ H3 hi ⟨v4,v5,ks,ds,rfl,hdt3,hm,hkl,M,hne,hdl,sm⟩ ht
   obtain ⟨z,rfl,hz⟩:=int_at hi
   have hil:i < ts.length:=(List.getElem?_eq_some_iff.mp hz).1
   have sT:=same_new ht (.tup [.int ((i + 1:Nat):Int),.int z])
   refine ⟨t,_,rfl,SqT.of upd_same,rfl,_,_,rfl,_,_,rfl,rfl,?_⟩
   generalize upd H3 t (.tup [.int ((i + 1:Nat):Int),.int z]) = H4 at sT ⊢
   have hdt4:=sT _ _ hdt3
   have M4:=M.same sT
   have sm4:=sm.trans sT
   have hg:=DGet.k (k:=Sum.inl z) hdt4
   rw [valV_cntD] at hg
   refine ⟨_,rfl,dt,rfl,.inl ⟨_,.inl hdt4⟩,_,rfl,_,hg,((ts.take i).count z:Int),1,?_,rfl,?_⟩
   ·show ((if z ∈ ks then some (V.int ((ts.take i).count z:Int)) else none).getD (.int 0)) = .int ((ts.take i).count z:Int)
    by_cases h:z ∈ ks
    ·rw [if_pos h]; rfl
    ·rw [if_neg h]
     have:(ts.take i).count z = 0:=List.count_eq_zero.mpr fun q => h ((hm z).mpr q)
     rw [this]; rfl
   refine ⟨_,rfl,_,rfl,dt,_,rfl,DPut.k (k:=Sum.inl z) hdt4 (fits_lt (by unfold cntD; rw [List.length_map]; trivial)),?_⟩
   rw [put_cntD hm,← take_at hz]
   have hm':∀ k,k ∈ (if z ∈ ks then ks else ks ++ [z]) ↔ k ∈ ts.take (i + 1):=fun k => by
    rw [take_at hz,List.mem_append,List.mem_singleton,← hm]
    by_cases h:z ∈ ks
    ·rw [if_pos h]
     constructor
     ·exact .inl
     ·rintro (q | q)
      ·exact q
      ·rw [q]; exact h
    ·rw [if_neg h,List.mem_append,List.mem_singleton]
   have hkl':(if z ∈ ks then ks else ks ++ [z]).length ≤ i + 1:=by
    by_cases h:z ∈ ks
    ·rw [if_pos h]; trivial
    ·rw [if_neg h,List.length_append,List.length_singleton]; trivial
   generalize (if z ∈ ks then ks else ks ++ [z]) = ks' at hm' hkl' ⊢
   have hdt5:upd H4 dt (.dK (cntD ks' (ts.take (i + 1)))) dt = some (.dK (cntD ks' (ts.take (i + 1)))):=upd_same
   have M5:Marks (upd H4 dt (.dK (cntD ks' (ts.take (i + 1))))) mk ds ts st i:=by
    obtain ⟨q1,q2,q3⟩:=M4
    refine ⟨by rw [upd_ne nmd]; exact q1,q2,fun j d e => ?_⟩
    obtain ⟨k2,w1,w2⟩:=q3 j d e
    exact ⟨k2,by rw [upd_ne (hne d (List.mem_of_getElem? e)).1]; exact w1,w2⟩
   have sm5:=same_upd sm4 (.dK (cntD ks' (ts.take (i + 1)))) hdtH
   generalize upd H4 dt (.dK (cntD ks' (ts.take (i + 1)))) = H5 at hdt5 M5 sm5 ⊢
   obtain ⟨q1,q2,q3⟩:=M5
   refine ⟨_,rfl,_,rfl,_,_,rfl,rfl,(by show (0:Int) < (st:Int); trivial),rfl,_,rfl,?_⟩
   refine ite2 (fun hc => ?_) (fun hc => ?_)
   ·have hmod:(i + 1) % st = 0:=by
     have h1:V.int (((i + 1:Nat):Int) % (st:Int)) = V.int 0:=of_decide_eq_true hc
     injection h1 with h1
     trivial
    obtain ⟨d1,d2⟩:=div_yes h1 hmod
    refine ⟨_,rfl,.inl ⟨rfl,_,SqL.of q1⟩,_,rfl,dt,_,rfl,hdt5,fun d hd => ?_⟩
    have sD:=same_new hd (.dK (cntD ks' (ts.take (i + 1))))
    have eD:upd H5 d (.dK (cntD ks' (ts.take (i + 1)))) d = some (.dK (cntD ks' (ts.take (i + 1)))):=upd_same
    have ndt:d ≠ dt:=(ne_of_none hdt5 hd).symm
    have ndm:d ≠ mk:=(ne_of_none q1 hd).symm
    generalize upd H5 d (.dK (cntD ks' (ts.take (i + 1)))) = H6 at sD eD ⊢
    refine ⟨mk,_,_,rfl,rfl,sD _ _ q1,fits_lt (by rw [List.length_map]; trivial),?_⟩
    refine ⟨_,_,ks',ds ++ [d],rfl,by rw [upd_ne nmd.symm]; exact sD _ _ hdt5,hm',hkl',⟨?_,?_,fun j d' e => ?_⟩,fun d' hd' => ?_,?_,same_upd (sm5.trans sD) _ hmkH⟩
    ·rw [upd_same,List.map_append]; rfl
    ·rw [List.length_append,q2,d1]; rfl
    ·by_cases hj:j < ds.length
     ·rw [List.getElem?_append_left hj] at e
      obtain ⟨k2,w1,w2⟩:=q3 j d' e
      exact ⟨k2,by rw [upd_ne (hne d' (List.mem_of_getElem? e)).2]; exact sD _ _ w1,w2⟩
     ·have hj':j = ds.length:=by
       have:=(List.getElem?_eq_some_iff.mp e).1
       rw [List.length_append,List.length_singleton] at this
       trivial
      subst hj'
      rw [List.getElem?_append_right (Nat.le_refl _),Nat.sub_self] at e
      have:d = d':=by simpa using e
      subst this
      rw [q2,d2]
      exact ⟨ks',by rw [upd_ne ndm]; exact eD,hm'⟩
    ·rcases List.mem_append.mp hd' with q | q
     ·exact hne d' q
     ·have:d' = d:=by simpa using q
      rw [this]; exact ⟨ndt,ndm⟩
    ·rw [List.length_append,List.length_singleton]; trivial
   ·have hmod:(i + 1) % st ≠ 0:=fun q => hc (decide_eq_true (show V.int (((i + 1:Nat):Int) % (st:Int)) = V.int 0 by
     congr 1
     trivial))
    exact ⟨_,_,ks',ds,rfl,hdt5,hm',hkl',⟨q1,by rw [q2,div_no hmod],q3⟩,hne,by trivial,sm5⟩
  ·rintro σ H3 ⟨v4,v5,ks,ds,rfl,hdt3,hm,hkl,M,hne,hdl,sm⟩
   rw [List.length_map] at M
   exact ⟨_,rfl,hQ mk ds _ sm hmkH M⟩
theorem sc_init:FnScope ["self", "text", "step"] ["self", "text", "step"] (defScope s_init):=⟨rfl, rfl, rfl, by decide +kernel, rfl, by decide +kernel, by decide +kernel⟩
theorem ok_init {f c_NoNumber c_Ranked f_marks:Addr} {fd d_marks:FuncData} (F:Fun K "__init__" "Ranked.__init__" s_init f fd) (B:Bls mg) (X_NoNumber:Ex K mg "NoNumber" c_NoNumber) (m_NoNumber:mg "NoNumber" = some (.ref c_NoNumber)) (T:RTxt K mg c_Ranked) 
  (G_marks:FnOk P w K mg base (CXW P w) 1 f_marks d_marks ["text", "step"] (spMarks K)) (b_marks:Binds K d_marks ["text", "step"] []) (k_marks:keepIn K (.ref f_marks) = true) (m_marks:mg "marks_of" = some (.ref f_marks)):FnOk P w K mg base (CXW P w) 2 f fd ["self", "text", "step"] (spInit K c_Ranked c_NoNumber):=by
 refine F.okX sc_init (fun vs H Q E h => ?_) (fun cdv A outer s H vs Q E hr h => ?_)
 ·obtain ⟨p,dx,a,ts,st,rfl,_⟩:=h
  rfl
 ·obtain ⟨p,dx,a,ts,st,rfl,hp,hS,h5,hE,hQ⟩:=h
  refine ⟨_,(pss_cons (ps_if (pt_cmpR op_lt (pv 2) pe_int (nomark _))
    (pss_one (ps_raise PySem.F.excBase_ValueError X_NoNumber.ex X_NoNumber.mg rfl))
    pss_nil)
   (pss_cons (ps_fld (pv 0) (pe_callTy call_list_of rfl B.list boot_list' (pa_cons (pv 1) pa_nil)) rfl)
   (pss_cons (ps_fld (pv 0) (pv 2) rfl)
   (pss_one (ps_fld (pv 0) (pe_call G_marks hr rfl m_marks k_marks b_marks .nil passW (pa_cons (pv 1) (pa_cons (pv 2) pa_nil))) rfl))))),?_⟩
  refine ⟨_,rfl,_,_,rfl,rfl,_,rfl,?_⟩
  refine ite2 (fun h => ?_) (fun h => ?_)
  ·exact hE (of_decide_eq_true h)
  have h1:1 ≤ st:=by
   have:=of_decide_eq_false (Bool.eq_false_iff.mpr h)
   trivial
  obtain ⟨n,rfl⟩:∃ n:Nat,st = (n:Int):=⟨st.toNat,by trivial⟩
  refine ⟨_,rfl,a,_,rfl,.inl hS,fun kp hkp => ?_⟩
  have s1:=same_new hkp (.lst (ts.map V.int))
  have ekp:upd H kp (.lst (ts.map V.int)) kp = some (lsI ts):=upd_same
  have npk:p ≠ kp:=ne_of_none hp hkp
  generalize upd H kp (.lst (ts.map V.int)) = H1 at s1 ekp ⊢
  refine ⟨_,rfl,p,c_Ranked,dx,[],rfl,s1 _ _ hp,T.cl,T.nK,(by show 0 < 1000; decide),_,rfl,_,rfl,p,c_Ranked,dx,_,rfl,upd_same,T.cl,T.nS,(by show 1 < 1000; decide),?_⟩
  rw [upd_upd]
  have hSa:=sq_ins (s1.seq hS) (s1 _ _ hp) (.ins c_Ranked dx (putF "step" (.int (n:Int)) (putF "kept" (.ref kp) [])))
  have hp2:upd H1 p (.ins c_Ranked dx (putF "step" (.int (n:Int)) (putF "kept" (.ref kp) []))) p = some (.ins c_Ranked dx (putF "step" (.int (n:Int)) (putF "kept" (.ref kp) []))):=upd_same
  have ekp2:upd H1 p (.ins c_Ranked dx (putF "step" (.int (n:Int)) (putF "kept" (.ref kp) []))) kp = some (lsI ts):=by rw [upd_ne npk.symm]; exact ekp
  have kp2:∀ b o, H b = some o -> b ≠ p -> upd H1 p (.ins c_Ranked dx (putF "step" (.int (n:Int)) (putF "kept" (.ref kp) []))) b = some o:=fun b o e hb => by rw [upd_ne hb]; exact s1 _ _ e
  have fr2:∀ b, upd H1 p (.ins c_Ranked dx (putF "step" (.int (n:Int)) (putF "kept" (.ref kp) []))) b = none -> H b = none:=fun b e => by
   by_cases hb:b = p
   ·rw [hb,upd_same] at e; cases e
   ·rw [upd_ne hb] at e; exact s1.free e
  generalize upd H1 p (.ins c_Ranked dx (putF "step" (.int (n:Int)) (putF "kept" (.ref kp) []))) = H2 at hSa hp2 ekp2 kp2 fr2 ⊢
  refine ⟨_,rfl,_,rfl,a,ts,n,rfl,hSa,h5,by trivial,fun mk ds H3 s3 hmk M => ?_⟩
  have hp3:=s3 _ _ hp2
  refine ⟨_,rfl,p,c_Ranked,dx,_,rfl,hp3,T.cl,T.nM,(by show 2 < 1000; decide),?_⟩
  refine hQ h1 kp mk ds _ hkp (fr2 mk hmk) ⟨upd_same,?_,?_,by rw [Int.toNat_natCast]; trivial⟩ fun b o e hb => ?_
  ·rw [upd_ne npk.symm]; exact s3 _ _ ekp2
  ·obtain ⟨q1,q2,q3⟩:=M
   rw [Int.toNat_natCast]
   refine ⟨by rw [upd_ne (ne_of q1 hp3 (by intro z; cases z))]; exact q1,q2,fun j d e => ?_⟩
   obtain ⟨ks,w1,w2⟩:=q3 j d e
   exact ⟨ks,by rw [upd_ne (ne_of w1 hp3 (by intro z; cases z))]; exact w1,w2⟩
  ·rw [upd_ne hb]; exact s3 _ _ (kp2 b o e hb)
theorem sc_signat:FnScope ["self", "at"] ["self", "at"] (defScope s_signat):=⟨rfl, rfl, rfl, by decide +kernel, rfl, by decide +kernel, by decide +kernel⟩
theorem ok_signat {f c_NoPlace c_Ranked:Addr} {fd:FuncData} (F:Fun K "sign_at" "Ranked.sign_at" s_signat f fd) (B:Bls mg) (X_NoPlace:Ex K mg "NoPlace" c_NoPlace) (m_NoPlace:mg "NoPlace" = some (.ref c_NoPlace)) (T:RTxt K mg c_Ranked):FnOk P w K mg base (CXW P w) 1 f fd ["self", "at"] (spSign c_Ranked c_NoPlace):=by
 refine F.okX sc_signat (fun vs H Q E h => ?_) (fun cdv A outer s H vs Q E hr h => ?_)
 ·obtain ⟨p,dx,kp,mk,ds,ts,st,at_,rfl,_⟩:=h
  rfl
 ·obtain ⟨p,dx,kp,mk,ds,ts,st,at_,rfl,R,hE,hQ⟩:=h
  refine ⟨_,(pss_cons (ps_if (PW.pt (pw_or (pt_cmpR op_lt (pv 1) pe_int (nomark _)) (pw_or1 (pt_cmpR op_ge (pv 1) (pe_callB call_len_seq rfl B.len PySem.boot_len (pa_cons (pe_fld (pv 0) rfl) pa_nil)) (nomark _)))))
    (pss_one (ps_raise PySem.F.excBase_ValueError X_NoPlace.ex X_NoPlace.mg rfl))
    pss_nil)
   (pss_one (ps_ret (pe_ix ix_list (pe_fld (pv 0) rfl) (pv 1) (fun _ _ => rfl))))),?_⟩
  refine ⟨_,rfl,_,_,rfl,rfl,_,rfl,?_⟩
  refine ite2 (fun h => iteT ?_) (fun h => ?_)
  ·exact hE (.inl (of_decide_eq_true h))
  refine ⟨_,rfl,_,rfl,p,c_Ranked,dx,_,_,rfl,R.ob,T.cl,T.nK,flds_kept _ _ _,kp,_,rfl,.inl (SqL.of R.kept),_,_,rfl,rfl,_,rfl,?_⟩
  refine ite2 (fun h' => ?_) (fun h' => ?_)
  ·refine hE (.inr ?_)
   have:=of_decide_eq_true h'
   rw [List.length_map] at this
   exact this
  have z0:0 ≤ at_:=by
   have:=of_decide_eq_false (Bool.eq_false_iff.mpr h)
   trivial
  have z1:at_ < (ts.length:Int):=by
   have:=of_decide_eq_false (Bool.eq_false_iff.mpr h')
   rw [List.length_map] at this
   trivial
  obtain ⟨k,rfl⟩:∃ k:Nat,at_ = (k:Int):=⟨at_.toNat,by trivial⟩
  have hk:k < ts.length:=by trivial
  have hat:atI (ts.map V.int) (k:Int) = some (.int ts[k]):=atI_nat (by rw [List.getElem?_map,List.getElem?_eq_getElem hk]; rfl)
  exact ⟨_,rfl,p,c_Ranked,dx,_,_,rfl,R.ob,T.cl,T.nK,flds_kept _ _ _,_,rfl,kp,_,_,_,rfl,rfl,SqL.of R.kept,hat,hQ k _ rfl (List.getElem?_eq_getElem hk)⟩
theorem sc_ahead:FnScope ["self", "sign", "at", "mark"] ["self", "sign", "at"] (defScope s_ahead):=⟨rfl, rfl, rfl, by decide +kernel, rfl, by decide +kernel, by decide +kernel⟩
theorem ok_ahead {f c_NoPlace c_Ranked:Addr} {fd:FuncData} (F:Fun K "ahead" "Ranked.ahead" s_ahead f fd) (B:Bls mg) (X_NoPlace:Ex K mg "NoPlace" c_NoPlace) (m_NoPlace:mg "NoPlace" = some (.ref c_NoPlace)) (T:RTxt K mg c_Ranked):FnOk P w K mg base (CXW P w) 1 f fd ["self", "sign", "at"] (spAhead c_Ranked c_NoPlace):=by
 refine F.okX sc_ahead (fun vs H Q E h => ?_) (fun cdv A outer s H vs Q E hr h => ?_)
 ·obtain ⟨p,dx,kp,mk,ds,ts,st,z,at_,rfl,_⟩:=h
  rfl
 ·obtain ⟨p,dx,kp,mk,ds,ts,st,z,at_,rfl,R,h5,hs9,hE,hQ⟩:=h
  refine ⟨_,(pss_cons (ps_if (PW.pt (pw_or (pt_cmpR op_lt (pv 2) pe_int (nomark _)) (pw_or1 (pt_cmpR op_gt (pv 2) (pe_callB call_len_seq rfl B.len PySem.boot_len (pa_cons (pe_fld (pv 0) rfl) pa_nil)) (nomark _)))))
    (pss_one (ps_raise PySem.F.excBase_ValueError X_NoPlace.ex X_NoPlace.mg rfl))
    pss_nil)
   (pss_cons (ps_set (i:=3) sc_ahead.nd rfl (Or.inl rfl) (pe_op op_fdivC (pv 2) (pe_fld (pv 0) rfl)))
   (pss_one (ps_ret (pe_op op_add (pe_dget2 (hu_of hr) (pe_ix ix_list (pe_fld (pv 0) rfl) (pv 3) (fun _ _ => rfl)) (pv 1) pe_int ⟨rfl,rfl,rfl,rfl⟩) (pe_bm PySem.F.plainAttrs_list PySem.F.slot_list_count PySem.F.type_list_count mt_count (pe_slice sl_list (pe_fld (pv 0) rfl) (po_some (pe_op op_mul (pv 3) (pe_fld (pv 0) rfl))) (po_some (pv 2))) (pa_cons (pv 1) pa_nil))))))),?_⟩
  refine ⟨_,rfl,_,_,rfl,rfl,_,rfl,?_⟩
  refine ite2 (fun h => iteT ?_) (fun h => ?_)
  ·exact hE (.inl (of_decide_eq_true h))
  refine ⟨_,rfl,_,rfl,p,c_Ranked,dx,_,_,rfl,R.ob,T.cl,T.nK,flds_kept _ _ _,kp,_,rfl,.inl (SqL.of R.kept),_,_,rfl,rfl,_,rfl,?_⟩
  refine ite2 (fun h' => ?_) (fun h' => ?_)
  ·refine hE (.inr ?_)
   have:=of_decide_eq_true h'
   rw [List.length_map] at this
   exact this
  have z0:0 ≤ at_:=by
   have:=of_decide_eq_false (Bool.eq_false_iff.mpr h)
   trivial
  have z1:at_ ≤ (ts.length:Int):=by
   have:=of_decide_eq_false (Bool.eq_false_iff.mpr h')
   rw [List.length_map] at this
   trivial
  obtain ⟨k,rfl⟩:∃ k:Nat,at_ = (k:Int):=⟨at_.toNat,by trivial⟩
  have hk:k ≤ ts.length:=by trivial
  have hst1:=R.pos
  have cd:CDivC (k:Int) (st:Int):=by
   refine ⟨by trivial,?_⟩
   have e1:(2:Int) ^ 110 = 1298074214633706907132624082305024:=by decide
   have e2:(2:Nat) ^ 109 = 649037107316853453566312041152512:=by decide
   rw [e1]
   trivial
  refine ⟨_,rfl,_,rfl,p,c_Ranked,dx,_,_,rfl,R.ob,T.cl,T.nS,flds_step _ _ _,_,_,rfl,rfl,cd,?_⟩
  refine gNm (v':=V.int ((k / st:Nat):Int)) (by show V.int ((k / st:Nat):Int) = V.int ((k:Int) / (st:Int)); congr 1) ?_
  obtain ⟨q1,q2,q3⟩:=R.marks
  have hkst:k / st * st ≤ k:=Nat.div_mul_le_self _ _
  have hks:k / st ≤ k:=Nat.div_le_self _ _
  have hml:k / st < ds.length:=by
   rw [q2]
   exact Nat.lt_succ_of_le (Nat.div_le_div_right hk)
  obtain ⟨d,hd⟩:∃ d,ds[k / st]? = some d:=⟨_,List.getElem?_eq_getElem hml⟩
  obtain ⟨ks,w1,w2⟩:=q3 _ d hd
  have hix:atI (ds.map V.ref) ((k / st:Nat):Int) = some (.ref d):=atI_nat (by rw [List.getElem?_map,hd]; rfl)
  have hg:=DGet.k (k:=Sum.inl z) w1
  rw [valV_cntD] at hg
  have cm:CMul ((k / st:Nat):Int) (st:Int):=by
   clear hkst hml hix hg w1 w2 hd q2 q3
   generalize k / st = m at hks
   exact .inl ⟨by trivial,by trivial⟩
  refine ⟨_,rfl,p,c_Ranked,dx,_,_,rfl,R.ob,T.cl,T.nM,flds_marks _ _ _,_,rfl,mk,_,_,_,rfl,rfl,SqL.of q1,hix,d,rfl,.inl ⟨_,.inl w1⟩,_,rfl,_,hg,_,rfl,p,c_Ranked,dx,_,_,rfl,R.ob,T.cl,T.nK,flds_kept _ _ _,_,rfl,_,rfl,p,c_Ranked,dx,_,_,rfl,R.ob,T.cl,T.nS,flds_step _ _ _,_,_,rfl,rfl,cm,_,rfl,_,rfl,_,rfl,kp,_,rfl,SqL.of R.kept,fun q hq => ?_⟩
  have hcut:cutV (ts.map V.int) (some (((k / st:Nat):Int) * (st:Int))) (some (k:Int)) = ((ts.take k).drop (k / st * st)).map V.int:=by
   rw [show ((k / st:Nat):Int) * (st:Int) = ((k / st * st:Nat):Int) by rw [Int.natCast_mul]]
   exact cut_mid ts _ _ hk hkst
  rw [hcut]
  refine ⟨.inl ⟨rfl,_,SqL.of upd_same⟩,_,rfl,q,(ts.take k).drop (k / st * st),z,rfl,rfl,SqL.of upd_same,((ts.take (k / st * st)).count z:Int),(((ts.take k).drop (k / st * st)).count z:Nat),?_,rfl,?_⟩
  ·show ((if z ∈ ks then some (V.int ((ts.take (k / st * st)).count z:Int)) else none).getD (.int 0)) = .int ((ts.take (k / st * st)).count z:Int)
   by_cases hm:z ∈ ks
   ·rw [if_pos hm]; rfl
   ·rw [if_neg hm]
    have:(ts.take (k / st * st)).count z = 0:=List.count_eq_zero.mpr fun q => hm ((w2 z).mpr q)
    rw [this]; rfl
  ·have hc:=count_cut ts z hkst
   have:=hQ k rfl hk _ (same_new hq (.lst (((ts.take k).drop (k / st * st)).map V.int)))
   rw [← hc] at this
   exact this
end
end K28
set_option Elab.async false
set_option linter.all false
set_option maxRecDepth 100000
set_option maxHeartbeats 4000000
namespace K28
open PySem L2 PySem.W PH
section
variable {P:Program} {w:World} {K:PySem.W.Frag} {mg:Str -> Option Value} {base:Heap}
theorem sc_may:FnScope ["row", "hole"] ["row", "hole"] (defScope s_may):=⟨rfl, rfl, rfl, by decide +kernel, rfl, by decide +kernel, by decide +kernel⟩
theorem ok_may {f f_signs:Addr} {fd d_signs:FuncData} (F:Fun K "may_be_turned" "may_be_turned" s_may f fd) (B:Bls mg) 
  (G_signs:FnOk P w K mg base (CXW P w) 3 f_signs d_signs ["things"] (spSigns K)) (b_signs:Binds K d_signs ["things"] []) (k_signs:keepIn K (.ref f_signs) = true) (m_signs:mg "are_signs" = some (.ref f_signs)):FnOk P w K mg base (CXW P w) 4 f fd ["row", "hole"] (spMayT K):=by
 refine F.okN sc_may (fun vs H Q E h => ?_) (fun cdv A outer s H vs Q E hr h => ?_)
 ·obtain ⟨a,r,h,rfl,_⟩:=h
  rfl
 ·obtain ⟨a,r,h,rfl,hS,h5,hsg,q⟩:=h
  refine ⟨_,(pss_one (ps_ret (pe_and (pe_call G_signs hr rfl m_signs k_signs b_signs .nil passN (pa_cons (pv 0) pa_nil)) (pe_one (pe_chain op_le op_le pe_int (pv 1) (pe_callB call_len_seq rfl B.len PySem.boot_len (pa_cons (pv 0) pa_nil))))))),?_⟩
  refine ⟨_,rfl,a,r,rfl,hS,h5,hsg,fun H1 s1 => ?_⟩
  refine ⟨_,rfl,?_⟩
  refine iteT ?_
  refine ⟨_,rfl,_,_,rfl,rfl,_,rfl,?_⟩
  by_cases h0:0 ≤ h
  ·rw [decide_eq_true h0]
   refine iteT ?_
   refine ⟨_,rfl,a,_,rfl,.inl (s1.seq hS),_,_,rfl,rfl,?_⟩
   have:=q H1 s1
   rw [show decide (0 ≤ h∧h ≤ (r.length:Int)) = decide (h ≤ (((r.map V.int).length:Nat):Int)) by rw [List.length_map]; exact decide_eq_decide.mpr ⟨fun z => z.2,fun z => ⟨h0,z⟩⟩] at this
   exact this
  ·rw [decide_eq_false h0]
   refine iteF ?_
   have:=q H1 s1
   rw [decide_eq_false (fun z => h0 z.1)] at this
   exact this
theorem sc_back:FnScope ["row", "hole", "column", "shorter", "text", "at"] ["row", "hole"] (defScope s_back):=⟨rfl, rfl, rfl, by decide +kernel, rfl, by decide +kernel, by decide +kernel⟩
theorem ok_back {f ca c_Broken c_T_turned_back f_may:Addr} {fd d_may:FuncData} (F:Fun K "turned_back" "turned_back" s_back f fd) (B:Bls mg) (hc:fd.code = .ref ca) (CH:CodeHd base ca c_T_turned_back) (hbm:BM mg base) (X_Broken:Ex K mg "Broken" c_Broken) (m_Broken:mg "Broken" = some (.ref c_Broken)) 
  (G_may:FnOk P w K mg base (CXW P w) 4 f_may d_may ["row", "hole"] (spMayT K)) (b_may:Binds K d_may ["row", "hole"] []) (k_may:keepIn K (.ref f_may) = true) (m_may:mg "may_be_turned" = some (.ref f_may)):FnOk P w K mg base (CXW P w) 8 f fd ["row", "hole"] (spBack K c_Broken c_T_turned_back ⟨72, 45, 72, 70⟩):=by
 refine F.okLX hc sc_back (fun vs H Q E h => ?_) (fun A outer s H vs Q E hr h => ?_)
 ·obtain ⟨a,r,h,rfl,_⟩:=h
  rfl
 ·obtain ⟨a,r,h,rfl,hS,h5,hsg,tb,hE,hQ⟩:=h
  refine ⟨_,(pss_cons (ps_if (pt_not (pt_val (pe_call G_may (hr.mono (show 4 ≤ 7 by decide)) rfl m_may k_may b_may .nil passW (pa_cons (pv 0) (pa_cons (pv 1) pa_nil)))))
    (pss_one (ps_raise PySem.F.excBase_ValueError X_Broken.ex X_Broken.mg rfl))
    pss_nil)
   (pss_cons (ps_set (i:=2) sc_back.nd rfl (Or.inr rfl) (pe_op op_cat (pe_op op_cat (pe_slice sl_list (pv 0) po_none (po_some (pv 1))) (pe_lst (pa_cons (pe_un un_neg pe_int) pa_nil))) (pe_slice sl_list (pv 0) (po_some (pv 1)) po_none)))
   (pss_cons (ps_set (i:=3) sc_back.nd rfl (Or.inl rfl) (pe_sortI (c:=ca) (P:=c_T_turned_back) (lpos:=⟨72, 45, 72, 70⟩) (qual:="turned_back.<locals>.<lambda>") (N:=["rank", "column"]) (js:=[none, some 2]) (x:="rank") (te:=(tOp (rIxL K) (tVar 1) (tVar 0))) rfl B.sorted rfl B.range (pa_cons (pe_callB call_len_seq rfl B.len PySem.boot_len (pa_cons (pv 2) pa_nil)) pa_nil) (comp_scope (osc:=defScope s_back) (XN:=["row", "hole", "column", "shorter", "text", "at"]) rfl rfl rfl (by decide +kernel)) rfl rfl (show (["rank", "column"]:List Str).Nodup by decide +kernel) rfl rfl rfl (fun _ _ _ _ _ => (pe_ix ix_list (pv 1) (pv 0) (fun _ _ => rfl))) (fun _ _ _ _ _ => rfl) (hr.mono (show 2 ≤ 7 by decide)) rfl CH hbm rfl))
   (pss_cons (ps_set (i:=4) sc_back.nd rfl (Or.inl rfl) (pe_lst pa_nil))
   (pss_cons (ps_set (i:=5) sc_back.nd rfl (Or.inl rfl) (pe_ix ix_list (pv 3) (pv 1) (fun _ _ => rfl)))
   (pss_cons (ps_while pown (pt_cmpR op_ne (pv 5) (pv 1) (nomark _))
    (pss_cons (ps_expr (pe_bm PySem.F.plainAttrs_list PySem.F.slot_list_append PySem.F.type_list_append mt_append (pv 4) (pa_cons (pe_ix ix_list (pv 2) (pv 5) (fun _ _ => rfl)) pa_nil)))
    (pss_one (ps_set (i:=5) sc_back.nd rfl (Or.inl rfl) (pe_ix ix_list (pv 3) (pv 5) (fun _ _ => rfl))))))
   (pss_cons (ps_if (pt_cmpR op_lt (pe_callB call_len_seq rfl B.len PySem.boot_len (pa_cons (pv 4) pa_nil)) (pe_callB call_len_seq rfl B.len PySem.boot_len (pa_cons (pv 0) pa_nil)) (nomark _))
    (pss_one (ps_raise PySem.F.excBase_ValueError X_Broken.ex X_Broken.mg rfl))
    pss_nil)
   (pss_one (ps_ret (pv 4)))))))))),?_⟩
  refine ⟨_,rfl,_,rfl,a,r,h,rfl,hS,h5,hsg,fun H1 s1 => ?_⟩
  have tb1:=tb.same s1
  refine ⟨_,rfl,?_⟩
  by_cases hh:0 ≤ h∧h ≤ r.length
  rotate_left
  ·rw [decide_eq_false hh]
   refine iteT ?_
   exact hE hh _ (SameT.of tb s1)
  rw [decide_eq_true hh]
  refine iteF ?_
  obtain ⟨ws,wk,hwl,hE2,hQ2⟩:=hQ hh.1 hh.2
  clear hE hQ
  obtain ⟨h0,h1⟩:=hh
  obtain ⟨k,rfl⟩:∃ k:Nat,h = (k:Int):=⟨h.toNat,by trivial⟩
  rw [Int.toNat_natCast] at wk hQ2
  have hcl:=col_len r (show k ≤ r.length by trivial)
  refine ⟨_,rfl,_,rfl,_,rfl,a,_,rfl,s1.seq hS,fun q1 hq1 => ?_⟩
  rw [cut_to (α:=Int) r k]
  have s2:=s1.trans (same_new hq1 (.lst ((r.take k).map V.int)))
  have e1:upd H1 q1 (.lst ((r.take k).map V.int)) q1 = some (lsI (r.take k)):=upd_same
  generalize upd H1 q1 (.lst ((r.take k).map V.int)) = H2 at s2 e1 ⊢
  refine ⟨1,rfl,(by show 1 ≤ sizeLine; decide),fun q2 hq2 => ?_⟩
  have u2:=same_new hq2 (.lst [V.int (-1)])
  have s3:=s2.trans u2
  have e12:=u2 _ _ e1
  have e2:upd H2 q2 (.lst [V.int (-1)]) q2 = some (lsI [-1]):=upd_same
  generalize upd H2 q2 (.lst [V.int (-1)]) = H3 at u2 s3 e12 e2 ⊢
  refine ⟨q1,q2,_,_,rfl,rfl,e12,e2,fits_lt (by simp; trivial),fun q3 hq3 => ?_⟩
  have u3:=same_new hq3 (.lst ((r.take k).map V.int ++ ([-1]:List Int).map V.int))
  have s4:=s3.trans u3
  have e3:upd H3 q3 (.lst ((r.take k).map V.int ++ ([-1]:List Int).map V.int)) q3 = some (lsI (r.take k ++ [-1])):=by rw [upd_same]; exact congrArg some (lsI_app1 _ _)
  generalize upd H3 q3 (.lst ((r.take k).map V.int ++ ([-1]:List Int).map V.int)) = H4 at u3 s4 e3 ⊢
  refine ⟨_,rfl,_,rfl,_,rfl,a,_,rfl,s4.seq hS,fun q4 hq4 => ?_⟩
  rw [cut_from r k]
  have u4:=same_new hq4 (.lst ((r.drop k).map V.int))
  have s5:=s4.trans u4
  have e34:=u4 _ _ e3
  have e4:upd H4 q4 (.lst ((r.drop k).map V.int)) q4 = some (lsI (r.drop k)):=upd_same
  generalize upd H4 q4 (.lst ((r.drop k).map V.int)) = H5 at u4 s5 e34 e4 ⊢
  refine ⟨q3,q4,_,_,rfl,rfl,e34,e4,(by show ((r.take k ++ [-1]).map V.int).length + ((r.drop k).map V.int).length ≤ sizeLine; rw [List.length_map,List.length_map,List.length_append,List.length_take,List.length_drop]; show min k r.length + 1 + (r.length - k) ≤ 16777216; trivial),fun C hC => ?_⟩
  have hcc:HO.lst ((r.take k ++ [-1]).map V.int ++ (r.drop k).map V.int) = lsI (colOf r k):=by
   unfold lsI colOf
   rw [← List.map_append,List.append_assoc]; rfl
  have u5:=same_new hC (.lst ((r.take k ++ [-1]).map V.int ++ (r.drop k).map V.int))
  have s6:=s5.trans u5
  have e5:upd H5 C (.lst ((r.take k ++ [-1]).map V.int ++ (r.drop k).map V.int)) C = some (lsI (colOf r k)):=by rw [upd_same,hcc]
  generalize upd H5 C (.lst ((r.take k ++ [-1]).map V.int ++ (r.drop k).map V.int)) = H6 at u5 s6 e5 ⊢
  have hCn:=s5.free hC
  have tb6:=tb.same s6
  clear u2 u3 u4 u5 e1 e12 e2 e3 e34 e4 hcc s1 s2 s3 s4 s5 hC hq1 hq2 hq3 hq4
  have hix:∀ (x:Int) (m:Nat),x = (m:Int) -> m < (colOf r k).length -> (colOf r k)[m]? = some (ixC (colOf r k) x):=fun x m hx hm => by
   subst hx
   unfold ixC
   rw [Int.toNat_natCast,List.getElem?_eq_getElem hm]; rfl
  generalize colOf r k = c at wk hQ2 hcl e5 hix
  refine ⟨_,rfl,C,_,rfl,.inl (SqL.of e5),c.length,(by rw [List.length_map]),by trivial,tb6,fun H7 kb tb7 => ?_⟩
  have s7:SameT c_T_turned_back ⟨72,45,72,70⟩ qnB H6 H7:=⟨kb,tb7⟩
  refine ⟨fun i ks H' => ks = (c.take i).map V.int∧SameT c_T_turned_back ⟨72,45,72,70⟩ qnB H6 H',⟨rfl,s7⟩,fun i ks H' hi hks w => ?_,fun ks H' w hks => ?_⟩
  ·obtain ⟨rfl,sm⟩:=w
   refine ⟨_,rfl,_,rfl,C,_,(i:Int),_,rfl,rfl,SqL.of (sm.g tb6 e5),at_intE (hix _ i rfl hi),?_,sm⟩
   rw [take_at (hix _ i rfl hi),List.map_append]; rfl
  ·obtain ⟨rfl,sm⟩:=w
   refine ⟨c,by rw [List.take_length],fun ps D hp hs hD => ?_⟩
   have he:=sh_of_pairs hp hs
   have e6:HO.lst (ps.map fun p => V.int p.2) = lsI (shOf c):=by
    unfold lsI
    rw [← he,List.map_map]; rfl
   rw [e6]
   have v1:=same_new hD (lsI (shOf c))
   have e7:upd H' D (lsI (shOf c)) D = some (lsI (shOf c)):=upd_same
   have s8:=(SameT.of tb s6).trans (sm.same v1)
   have e58:=(sm.same v1).g tb6 e5
   generalize upd H' D (lsI (shOf c)) = H8 at v1 e7 s8 e58 ⊢
   clear v1 sm hD he e6 hp hs s7 kb tb7 tb6 e5
   have hsl:=sh_len c
   refine ⟨(by show 0 ≤ sizeLine; decide),fun T hT => ?_⟩
   have v2:=same_new hT (.lst [])
   have eT:upd H8 T (.lst []) T = some (lsI []):=upd_same
   have eD:=v2 _ _ e7
   have eC:=v2 _ _ e58
   have s9:=s8.same v2
   have hTn:=s8.free hT
   have nTD:D ≠ T:=ne_of_none e7 hT
   have nTC:C ≠ T:=ne_of_none e58 hT
   generalize upd H8 T (.lst []) = H9 at v2 eT eD eC s9 ⊢
   clear e7 e58 s8 hT
   obtain ⟨_,w0⟩:=wk.at_ 0 (k:Int) rfl
   rw [Int.toNat_natCast] at w0
   obtain ⟨x0,hx0⟩:∃ x,(ws ++ [(k:Int)])[0]? = some x:=⟨_,List.getElem?_eq_getElem (by simp)⟩
   rw [hx0] at w0
   refine ⟨_,rfl,_,rfl,D,_,(k:Int),_,rfl,rfl,SqL.of eD,at_intE w0,?_⟩
   refine ⟨fun m σ H' => ∃ (i:Nat) (x:Int),m = ws.length - i∧i ≤ ws.length∧σ = [some (.ref a),some (.int (k:Int)),some (.ref C),some (.ref D),some (.ref T),some (.int x)]∧(ws ++ [(k:Int)])[i]? = some x∧H' T = some (lsI ((ws.take i).map (ixC c)))∧H' C = some (lsI c)∧H' D = some (lsI (shOf c))∧SameT c_T_turned_back ⟨72,45,72,70⟩ qnB H H',
    ⟨_,0,x0,rfl,Nat.zero_le _,rfl,hx0,eT,eC,eD,s9⟩,?_⟩
   rintro m σ H' ⟨i,x,rfl,hi,rfl,hx,hT',hC',hD',sm⟩
   refine ⟨_,rfl,_,rfl,rfl,_,rfl,?_⟩
   by_cases hil:i = ws.length
   ·subst hil
    have ex:x = (k:Int):=by
     rw [List.getElem?_append_right (Nat.le_refl _),Nat.sub_self] at hx
     exact (Option.some.inj hx).symm
    subst ex
    rw [decide_eq_true rfl]
    refine iteF ?_
    rw [List.take_length] at hT'
    refine ⟨_,rfl,T,_,rfl,.inl (SqL.of hT'),_,rfl,a,_,rfl,.inl (sm.seq tb hS),_,_,rfl,rfl,_,rfl,?_⟩
    refine ite2 (fun z => ?_) (fun z => ?_)
    ·have z':=of_decide_eq_true z
     rw [List.length_map,List.length_map,List.length_map] at z'
     exact hE2 (by trivial) _ sm
    ·have z':=of_decide_eq_false (Bool.eq_false_iff.mpr z)
     rw [List.length_map,List.length_map,List.length_map] at z'
     exact ⟨_,rfl,hQ2 (by trivial) T _ sm hTn hT'⟩
   ·have hlt:i < ws.length:=by trivial
    rw [List.getElem?_append_left hlt] at hx
    have nx:¬ x = (k:Int):=fun z => wk.nh (z ▸ List.mem_of_getElem? hx)
    rw [decide_eq_false (fun z => nx (V.int.inj z))]
    refine iteT ?_
    obtain ⟨xp,w1⟩:=wk.at_ (i + 1) x (by rw [List.getElem?_cons_succ]; exact hx)
    obtain ⟨n,rfl⟩:∃ n:Nat,x = (n:Int):=⟨x.toNat,by trivial⟩
    rw [Int.toNat_natCast] at w1
    obtain ⟨y,hy⟩:∃ y,(ws ++ [(k:Int)])[i + 1]? = some y:=⟨_,List.getElem?_eq_getElem (by rw [List.length_append,List.length_singleton]; trivial)⟩
    rw [hy] at w1
    have hn:n < c.length:=by
     have:=(List.getElem?_eq_some_iff.mp w1).1
     trivial
    refine ⟨fun σ' H'' => ∃ m',m' < ws.length - i∧∃ (i:Nat) (x:Int),m' = ws.length - i∧i ≤ ws.length∧σ' = [some (.ref a),some (.int (k:Int)),some (.ref C),some (.ref D),some (.ref T),some (.int x)]∧(ws ++ [(k:Int)])[i]? = some x∧H'' T = some (lsI ((ws.take i).map (ixC c)))∧H'' C = some (lsI c)∧H'' D = some (lsI (shOf c))∧SameT c_T_turned_back ⟨72,45,72,70⟩ qnB H H'',fun σ' H'' z => z,?_⟩
    refine ⟨_,rfl,.inl ⟨rfl,_,SqL.of hT'⟩,_,rfl,_,rfl,C,_,(n:Int),_,rfl,rfl,SqL.of hC',at_intE (hix _ n rfl hn),T,_,_,rfl,rfl,hT',fits_lt (by rw [List.length_map,List.length_map,List.length_take]; trivial),?_⟩
    refine ⟨_,rfl,_,rfl,D,_,(n:Int),_,rfl,rfl,SqL.of (by rw [upd_ne nTD]; exact hD'),at_intE w1,?_⟩
    refine ⟨_,(by trivial),i + 1,y,rfl,by trivial,rfl,hy,?_,by rw [upd_ne nTC]; exact hC',by rw [upd_ne nTD]; exact hD',sm.upd tb _ hTn (fun o v z => by rw [hT'] at z; cases z)⟩
    rw [upd_same,take_at hx,List.map_append]
    exact congrArg some (lsI_app1 _ _)
end
end K28
set_option Elab.async false
set_option linter.all false
set_option maxRecDepth 100000
set_option maxHeartbeats 4000000
namespace K28
open PySem L2 PySem.W PH
section
variable {P:Program} {w:World} {K:PySem.W.Frag} {mg:Str -> Option Value} {base:Heap}
theorem sc_firstr:FnScope ["row", "ranks", "rank", "sign", "times"] ["row"] (defScope s_firstr):=⟨rfl, rfl, rfl, by decide +kernel, rfl, by decide +kernel, by decide +kernel⟩
theorem ok_firstr {f f_counts:Addr} {fd d_counts:FuncData} (F:Fun K "first_ranks" "first_ranks" s_firstr f fd) (B:Bls mg) 
  (G_counts:FnOk P w K mg base (CXW P w) 1 f_counts d_counts ["text"] (spCounts K)) (b_counts:Binds K d_counts ["text"] []) (k_counts:keepIn K (.ref f_counts) = true) (m_counts:mg "counts_of" = some (.ref f_counts)):FnOk P w K mg base (CXW P w) 2 f fd ["row"] (spFirstR K):=by
 refine F.okN sc_firstr (fun vs H Q E h => ?_) (fun cdv A outer s H vs Q E hr h => ?_)
 ·obtain ⟨a,r,rfl,_⟩:=h
  rfl
 ·obtain ⟨a,r,rfl,hS,h5,hb,hQ⟩:=h
  refine ⟨_,(pss_cons (ps_set (i:=1) sc_firstr.nd rfl (Or.inl rfl) pe_dnewK)
   (pss_cons (ps_set (i:=2) sc_firstr.nd rfl (Or.inl rfl) pe_int)
   (pss_cons (ps_for PassesOwn.never rfl (pi_list (pe_call G_counts hr rfl m_counts k_counts b_counts .nil passN (pa_cons (pv 0) pa_nil))) (pg_tup rfl (pgs_cons (pg_name (i:=3) sc_firstr.nd rfl (Or.inl rfl)) (pgs_cons (pg_name (i:=4) sc_firstr.nd rfl (Or.inl rfl)) pgs_nil)))
    (pss_cons (ps_dput (hu_of hr) (pv 1) (pv 3) (pv 2) rfl)
    (pss_one (ps_set (i:=2) sc_firstr.nd rfl (Or.inl rfl) (pe_op op_add (pv 2) (pv 4))))))
   (pss_one (ps_ret (pv 1)))))),?_⟩
  refine fun dt hdt => ?_
  have s0:=same_new hdt (.dK [])
  have e0:upd H dt (.dK []) dt = some (.dK []):=upd_same
  generalize upd H dt (.dK []) = H0 at s0 e0 ⊢
  refine ⟨_,rfl,a,r,rfl,s0.seq hS,by trivial,hb,fun lp zs H1 s1 hlp Pz hz => ?_⟩
  rw [cnts_ks] at hz
  have hdl:dt ≠ lp:=fun z => by rw [← z,e0] at hlp; cases hlp
  have hkl:(ksOf r).length ≤ 256:=by
   unfold ksOf
   exact Nat.le_trans (List.length_filter_le _ _) (by rw [List.length_map,List.length_range]; exact Nat.le_refl _)
  have hzl:zs.length = (ksOf r).length:=by
   have:=congrArg List.length hz
   rw [List.length_map,List.length_map] at this; exact this
  refine ⟨lp,rfl,⟨_,SqL.of Pz.at_⟩,for_list (K:=K) (a:=lp) (xs:=zs.map fun z => V.ref z.1) (fun i σ H2 => ∃ (v3 v4:Option V) (kv:List (Key × V)) (rank:Nat),σ = [some (.ref a),some (.ref dt),some (.int (rank:Int)),v3,v4]∧rank = 1 + (((ksOf r).take i).map fun j => r.count j).sum∧H2 dt = some (.dK kv)∧kv.length ≤ i ∧
    (∀ c:Int,valV kv (Sum.inl c) = if c ∈ (ksOf r).take i then some (.int (bgT r c:Nat)) else none)∧Prs H2 lp zs∧Same H H2)
   ⟨none,none,[],1,rfl,(by rw [List.take_zero]; rfl),s1 _ _ e0,Nat.le_refl _,(fun c => by rw [List.take_zero,if_neg (by simp)]; rfl),Pz,s0.trans s1⟩ (fun i σ H2 _ ⟨_,_,_,_,_,_,_,_,_,P2,_⟩ => SqL.of P2.at_) ?_ ?_⟩
  ·rintro i v σ H2 hi ⟨v3,v4,kv,rank,rfl,hrk,hd2,hkv,hval,P2,s2⟩
   obtain ⟨z,hzi,rfl⟩:=ref_at hi
   have hil:i < zs.length:=(List.getElem?_eq_some_iff.mp hzi).1
   have hzm:=List.mem_of_getElem? hzi
   obtain ⟨k,hki,hzk⟩:∃ k,(ksOf r)[i]? = some k∧z.2 = (k,(r.count k:Int)):=by
    have:=congrArg (fun l => l[i]?) hz
    simp only [List.getElem?_map] at this
    rw [hzi] at this
    have hi2:i < (ksOf r).length:=by trivial
    rw [List.getElem?_eq_getElem hi2] at this
    exact ⟨_,List.getElem?_eq_getElem hi2,Option.some.inj this⟩
   have hz1:z.2.1 = k:=by rw [hzk]
   have hz2:z.2.2 = (r.count k:Int):=by rw [hzk]
   have ez:=P2.each z hzm
   rw [hz1,hz2] at ez
   refine ⟨z.1,_,rfl,SqT.of ez,rfl,_,_,rfl,_,_,rfl,rfl,?_⟩
   refine ⟨_,rfl,_,rfl,_,rfl,dt,_,rfl,DPut.k (k:=Sum.inl k) hd2 (fits_lt (by trivial)),?_⟩
   refine ⟨_,rfl,_,rfl,_,_,rfl,rfl,?_⟩
   have ht:(ksOf r).take (i + 1) = (ksOf r).take i ++ [k]:=take_at hki
   refine ⟨_,_,putK kv (Sum.inl k) (.int (rank:Int)),rank + r.count k,rfl,?_,upd_same,?_,fun c => ?_,⟨?_,fun z' hz' => ?_⟩,same_upd s2 _ hdt⟩
   ·rw [ht,List.map_append,List.sum_append,hrk]
    show 1 + _ + _ = 1 + (_ + (r.count k + 0))
    trivial
   ·have:=len_putK kv (Sum.inl k) (.int (rank:Int))
    trivial
   ·rw [valV_put,ht]
    by_cases c1:c = k
    ·rw [if_pos (by rw [c1]),if_pos (by rw [c1]; exact List.mem_append_right _ (List.mem_singleton.mpr rfl)),c1,bg_sum hb hki,hrk]
    ·rw [if_neg (fun z => c1 (Sum.inl.inj z)),hval c]
     by_cases c2:c ∈ (ksOf r).take i
     ·rw [if_pos c2,if_pos (List.mem_append_left _ c2)]
     ·rw [if_neg c2,if_neg (fun z => (List.mem_append.mp z).elim c2 (fun w => c1 (List.mem_singleton.mp w)))]
   ·rw [upd_ne hdl.symm]; exact P2.at_
   ·have:=P2.each z' hz'
    rw [upd_ne (ne_of this hd2 (by intro q; cases q))]; exact this
  ·rintro σ H2 ⟨v3,v4,kv,rank,rfl,hrk,hd2,hkv,hval,P2,s2⟩
   rw [List.length_map,hzl,List.take_length] at hval
   refine ⟨_,rfl,hQ dt kv _ s2 hdt hd2 fun c => ?_⟩
   rw [hval c]
   by_cases q:c ∈ r
   ·rw [if_pos q,if_pos ((mem_ks hb c).mpr q)]
   ·rw [if_neg q,if_neg (fun z => q ((mem_ks hb c).mp z))]
end
end K28
set_option Elab.async false
set_option linter.all false
set_option maxRecDepth 100000
set_option maxHeartbeats 4000000
namespace K28
open PySem L2 PySem.W PH
section
variable {P:Program} {w:World} {K:PySem.W.Frag} {mg:Str -> Option Value} {base:Heap}
theorem sc_signa:FnScope ["self", "rank"] ["self", "rank"] (defScope s_signa):=⟨rfl, rfl, rfl, by decide +kernel, rfl, by decide +kernel, by decide +kernel⟩
theorem ok_signa {f c_NoPlace c_Ranked c_Sought f_signat:Addr} {fd d_signat:FuncData} (F:Fun K "sign_ahead" "Sought.sign_ahead" s_signa f fd) (B:Bls mg) (T:RTxt K mg c_Ranked) (TS:STxt K mg c_Sought) 
  (G_signat:FnOk P w K mg base (CXW P w) 1 f_signat d_signat ["self", "at"] (spSign c_Ranked c_NoPlace)) (b_signat:Binds K d_signat ["self", "at"] []) (M_signat:Meth K c_Ranked "sign_at" f_signat):FnOk P w K mg base (CXW P w) 2 f fd ["self", "rank"] (spSignA c_Sought c_Ranked):=by
 refine F.okN sc_signa (fun vs H Q E h => ?_) (fun cdv A outer s H vs Q E hr h => ?_)
 ·obtain ⟨p,dx,y,t,st,k,e,rfl,_⟩:=h
  rfl
 ·obtain ⟨p,dx,y,t,st,k,e,rfl,Z,he,h0,hQ⟩:=h
  refine ⟨_,(pss_one (ps_ret (pe_meth (pe_fld (pv 0) rfl) T.cl M_signat G_signat hr b_signat .nil passN (pa_cons (pe_ifExp (pt_cmpR op_lt (pv 1) (pe_fld (pv 0) rfl) (nomark _)) (pv 1) (pe_op op_sub (pv 1) pe_int)) pa_nil)))),?_⟩
  obtain ⟨hk,hr⟩:=sg_row he h0
  have hl:=(List.getElem?_eq_some_iff.mp hr).1
  refine ⟨_,rfl,p,c_Sought,dx,_,_,rfl,Z.ob,TS.cl,TS.nR,sfl_ranked,y.rk,y.rdx,_,rfl,Z.rk.ob,flds_no _ _ _ (by decide +kernel) (by decide +kernel) (by decide +kernel),_,rfl,_,rfl,p,c_Sought,dx,_,_,rfl,Z.ob,TS.cl,TS.nH,sfl_hole,_,_,rfl,rfl,_,rfl,?_⟩
  refine ite2 (fun h => ?_) (fun h => ?_)
  ·have h:=of_decide_eq_true h
   rw [if_pos h] at hr hl
   refine ⟨_,rfl,y.rk,y.rdx,y.kp,y.mks,y.ds,rowT t,st,(k:Int),rfl,Z.rk,(fun z => by trivial),fun k' x e1 e2 => ?_⟩
   have:k' = k:=by trivial
   rw [this,hr] at e2
   rw [← Option.some.inj e2]; exact hQ
  ·have h:=of_decide_eq_false (Bool.eq_false_iff.mpr h)
   rw [if_neg h] at hr hl
   have hh:=hole_le t
   refine ⟨_,rfl,_,_,rfl,rfl,y.rk,y.rdx,y.kp,y.mks,y.ds,rowT t,st,(k:Int) - 1,rfl,Z.rk,(fun z => by trivial),fun k' x e1 e2 => ?_⟩
   have:k' = k - 1:=by trivial
   rw [this,hr] at e2
   rw [← Option.some.inj e2]; exact hQ
theorem sc_timesa:FnScope ["self", "sign", "rank"] ["self", "sign", "rank"] (defScope s_timesa):=⟨rfl, rfl, rfl, by decide +kernel, rfl, by decide +kernel, by decide +kernel⟩
theorem ok_timesa {f c_NoPlace c_Ranked c_Sought f_ahead:Addr} {fd d_ahead:FuncData} (F:Fun K "times_ahead" "Sought.times_ahead" s_timesa f fd) (B:Bls mg) (T:RTxt K mg c_Ranked) (TS:STxt K mg c_Sought) 
  (G_ahead:FnOk P w K mg base (CXW P w) 1 f_ahead d_ahead ["self", "sign", "at"] (spAhead c_Ranked c_NoPlace)) (b_ahead:Binds K d_ahead ["self", "sign", "at"] []) (M_ahead:Meth K c_Ranked "ahead" f_ahead):FnOk P w K mg base (CXW P w) 2 f fd ["self", "sign", "rank"] (spTimesA c_Sought c_Ranked):=by
 refine F.okN sc_timesa (fun vs H Q E h => ?_) (fun cdv A outer s H vs Q E hr h => ?_)
 ·obtain ⟨p,dx,y,t,st,z,k,rfl,_⟩:=h
  rfl
 ·obtain ⟨p,dx,y,t,st,z,k,rfl,Z,hz,hk,hQ⟩:=h
  refine ⟨_,(pss_one (ps_ret (pe_meth (pe_fld (pv 0) rfl) T.cl M_ahead G_ahead hr b_ahead .nil passN (pa_cons (pv 1) (pa_cons (pe_ifExp (pt_cmpR op_le (pv 2) (pe_fld (pv 0) rfl) (nomark _)) (pv 2) (pe_op op_sub (pv 2) pe_int)) pa_nil))))),?_⟩
  have hr:=cn_row t hk hz
  have hh:=hole_le t
  have hrl:=row_len t
  have hle:=Z.le
  refine ⟨_,rfl,p,c_Sought,dx,_,_,rfl,Z.ob,TS.cl,TS.nR,sfl_ranked,y.rk,y.rdx,_,rfl,Z.rk.ob,flds_no _ _ _ (by decide +kernel) (by decide +kernel) (by decide +kernel),_,rfl,_,rfl,_,rfl,p,c_Sought,dx,_,_,rfl,Z.ob,TS.cl,TS.nH,sfl_hole,_,_,rfl,rfl,_,rfl,?_⟩
  refine ite2 (fun h => ?_) (fun h => ?_)
  ·have h:=of_decide_eq_true h
   rw [if_pos h] at hr
   refine ⟨_,rfl,y.rk,y.rdx,y.kp,y.mks,y.ds,rowT t,st,z,(k:Int),rfl,Z.rk,by trivial,Z.sm,(fun z => by trivial),fun k' e1 e2 H' s' => ?_⟩
   have:k' = k:=by trivial
   rw [this,hr]; exact hQ _ s'
  ·have h:=of_decide_eq_false (Bool.eq_false_iff.mpr h)
   rw [if_neg h] at hr
   refine ⟨_,rfl,_,_,rfl,rfl,y.rk,y.rdx,y.kp,y.mks,y.ds,rowT t,st,z,(k:Int) - 1,rfl,Z.rk,by trivial,Z.sm,(fun z => by trivial),fun k' e1 e2 H' s' => ?_⟩
   have:k' = k - 1:=by trivial
   rw [this,hr]; exact hQ _ s'
end
end K28
set_option Elab.async false
set_option linter.all false
set_option maxRecDepth 100000
set_option maxHeartbeats 4000000
namespace K28
open PySem L2 PySem.W PH
section
variable {P:Program} {w:World} {K:PySem.W.Frag} {mg:Str -> Option Value} {base:Heap}
theorem sc_longer:FnScope ["self", "rank", "sign"] ["self", "rank"] (defScope s_longer):=⟨rfl, rfl, rfl, by decide +kernel, rfl, by decide +kernel, by decide +kernel⟩
theorem ok_longer {f c_Ranked c_Sought f_signa f_timesa:Addr} {fd d_signa d_timesa:FuncData} (F:Fun K "rank_one_longer" "Sought.rank_one_longer" s_longer f fd) (B:Bls mg) (TS:STxt K mg c_Sought) 
  (G_signa:FnOk P w K mg base (CXW P w) 2 f_signa d_signa ["self", "rank"] (spSignA c_Sought c_Ranked)) (b_signa:Binds K d_signa ["self", "rank"] []) (M_signa:Meth K c_Sought "sign_ahead" f_signa) 
  (G_timesa:FnOk P w K mg base (CXW P w) 2 f_timesa d_timesa ["self", "sign", "rank"] (spTimesA c_Sought c_Ranked)) (b_timesa:Binds K d_timesa ["self", "sign", "rank"] []) (M_timesa:Meth K c_Sought "times_ahead" f_timesa):FnOk P w K mg base (CXW P w) 3 f fd ["self", "rank"] (spLonger c_Sought c_Ranked):=by
 refine F.okN sc_longer (fun vs H Q E h => ?_) (fun cdv A outer s H vs Q E hr h => ?_)
 ·obtain ⟨p,dx,y,t,st,k,e,rfl,_⟩:=h
  rfl
 ·obtain ⟨p,dx,y,t,st,k,e,rfl,Z,he,h0,hQ⟩:=h
  refine ⟨_,(pss_cons (ps_set (i:=2) sc_longer.nd rfl (Or.inl rfl) (pe_meth (pv 0) TS.cl M_signa G_signa hr b_signa .nil passN (pa_cons (pv 1) pa_nil)))
   (pss_one (ps_ret (pe_op op_add (pe_dget (hu_of hr) (pe_fld (pv 0) rfl) (pv 2) (fun _ _ => rfl)) (pe_meth (pv 0) TS.cl M_timesa G_timesa hr b_timesa .nil passN (pa_cons (pv 2) (pa_cons (pv 1) pa_nil))))))),?_⟩
  obtain ⟨hc,hs⟩:=lf_step Z.sg he h0
  have hk:k < t.length + 1:=by
   have:=(List.getElem?_eq_some_iff.mp he).1
   rw [ends_len] at this; exact this
  obtain ⟨kv,g1,g2⟩:=Z.bg
  have bm:=ends_mem.mp (List.mem_of_getElem? he)
  have g3:=g2 (colE t e)
  rw [if_pos (col_mem bm.1 bm.2 hc rfl)] at g3
  have hg:=DGet.k (k:=Sum.inl (colE t e)) g1
  rw [g3] at hg
  refine ⟨_,rfl,p,dx,_,rfl,Z.ob,sfl_no (by decide +kernel) (by decide +kernel) (by decide +kernel) (by decide +kernel) (by decide +kernel) (by decide +kernel) (by decide +kernel),_,rfl,p,dx,y,t,st,k,e,rfl,Z,he,h0,?_⟩
  exact ⟨_,rfl,p,c_Sought,dx,_,_,rfl,Z.ob,TS.cl,TS.nB,sfl_begins,_,rfl,y.bg,_,rfl,hg,_,rfl,p,dx,_,rfl,Z.ob,sfl_no (by decide +kernel) (by decide +kernel) (by decide +kernel) (by decide +kernel) (by decide +kernel) (by decide +kernel) (by decide +kernel),_,rfl,_,rfl,p,dx,y,t,st,colE t e,k,rfl,Z,hc,by trivial,fun H' s' => ⟨_,_,rfl,rfl,hQ _ _ s' hs⟩⟩
end
end K28
set_option Elab.async false
set_option linter.all false
set_option maxRecDepth 100000
set_option maxHeartbeats 4000000
namespace K28
open PySem L2 PySem.W PH
section
variable {P:Program} {w:World} {K:PySem.W.Frag} {mg:Str -> Option Value} {base:Heap}
theorem sc_setm:FnScope ["self", "rank", "at"] ["self"] (defScope s_setm):=⟨rfl, rfl, rfl, by decide +kernel, rfl, by decide +kernel, by decide +kernel⟩
theorem ok_setm {f c_Ranked c_Sought f_longer:Addr} {fd d_longer:FuncData} (F:Fun K "set_marks" "Sought.set_marks" s_setm f fd) (B:Bls mg) (TS:STxt K mg c_Sought) 
  (G_longer:FnOk P w K mg base (CXW P w) 3 f_longer d_longer ["self", "rank"] (spLonger c_Sought c_Ranked)) (b_longer:Binds K d_longer ["self", "rank"] []) (M_longer:Meth K c_Sought "rank_one_longer" f_longer):FnOk P w K mg base (CXW P w) 4 f fd ["self"] (spSetM c_Sought c_Ranked):=by
 refine F.okN sc_setm (fun vs H Q E h => ?_) (fun cdv A outer s H vs Q E hr h => ?_)
 ·obtain ⟨p,dx,y,t,st,rfl,_⟩:=h
  rfl
 ·obtain ⟨p,dx,y,t,st,rfl,Z,e1,e2,n12,nds,nb1,nb2,hQ⟩:=h
  refine ⟨_,(pss_cons (ps_set (i:=1) sc_setm.nd rfl (Or.inl rfl) pe_int)
   (pss_one (ps_for PassesOwn.never rfl (pi_range3 rfl B.range (pa_cons (pe_fld (pv 0) rfl) (pa_cons (pe_un un_neg pe_int) (pa_cons (pe_un un_neg pe_int) pa_nil)))) (pg_name (i:=2) sc_setm.nd rfl (Or.inl rfl))
    (pss_cons (ps_if (PW.pt (pw_or (pt_cmpR op_eq (pe_op op_mod (pv 2) (pe_fld (pv 0) rfl)) pe_int (nomark _)) (pw_or1 (pt_cmpR op_eq (pv 2) (pe_fld (pv 0) rfl) (nomark _)))))
     (pss_cons (ps_dput (hu_of hr) (pe_fld (pv 0) rfl) (pv 2) (pv 1) rfl)
     (pss_one (ps_dput (hu_of hr) (pe_fld (pv 0) rfl) (pv 1) (pv 2) rfl)))
     pss_nil)
    (pss_one (ps_if (pt_cmpR op_gt (pv 2) pe_int (nomark _))
     (pss_one (ps_set (i:=1) sc_setm.nd rfl (Or.inl rfl) (pe_meth (pv 0) TS.cl M_longer G_longer hr b_longer .nil passN (pa_cons (pv 1) pa_nil))))
     pss_nil)))))),?_⟩
  have hle:=Z.le
  have h1:=Z.rk.pos
  have eL:=ends_len t
  have nd:=ends_nd t
  refine ⟨_,rfl,p,c_Sought,dx,_,_,rfl,Z.ob,TS.cl,TS.nN,sfl_many,1,rfl,1,rfl,(t.length:Int),-1,-1,rfl,⟨by decide,by decide⟩,small_down (by trivial),?_⟩
  rw [size_down]
  refine for_rangeS (n:=t.length + 1) (fun i σ H2 => ∃ (v2:Option V) (k:Nat) (kv1 kv2:List (Key × V)),σ = [some (.ref p),some (.int (k:Int)),v2]∧(i ≤ t.length -> (endsOf t)[k]? = some ((t.length - i:Nat):Int))∧H2 y.d1 = some (.dK kv1)∧H2 y.d2 = some (.dK kv2)∧kv1.length ≤ i∧kv2.length ≤ i ∧
    (∀ j:Nat,t.length < j + i -> j ≤ t.length -> (j % st = 0 ∨ j = t.length) -> ∃ k:Nat,(endsOf t)[k]? = some (j:Int)∧valV kv1 (Sum.inl (j:Int)) = some (.int (k:Int)))∧(∀ (k:Nat) (v:V),valV kv2 (Sum.inl (k:Int)) = some v -> ∃ e,(endsOf t)[k]? = some e∧v = .int e) ∧
    (i = t.length + 1 -> ∀ k:Nat,(endsOf t)[k]? = some 0 -> valV kv2 (Sum.inl (k:Int)) ≠ none)∧SgB c_Sought c_Ranked H2 p dx y t st∧(∀ b o,H b = some o -> b ≠ y.d1 -> b ≠ y.d2 -> H2 b = some o))
   ⟨none,0,[],[],rfl,(fun _ => by rw [Nat.sub_zero]; exact ends_first t),e1,e2,Nat.le_refl _,Nat.le_refl _,(fun j q1 q2 => by trivial),(fun k v q => by cases q),(fun q => by trivial),Z,fun b o e _ _ => e⟩ ?_ ?_
  ·rintro i σ H2 hi ⟨v2,k,kv1,kv2,rfl,hk,f1,f2,l1,l2,m1,m2,_,Z2,kp⟩
   obtain ⟨m,hm⟩:∃ m:Nat,m = t.length - i:=⟨_,rfl⟩
   have hk:=hk (by trivial)
   rw [← hm] at hk
   refine gNm (v':=V.int (m:Int)) (by show V.int (m:Int) = V.int ((t.length:Int) + (i:Int) * (-1)); congr 1; trivial) ?_
   refine sqMid (fun σ' H' => σ' = [some (.ref p),some (.int (k:Int)),some (.int (m:Int))]∧∃ (kv1 kv2:List (Key × V)),H' y.d1 = some (.dK kv1)∧H' y.d2 = some (.dK kv2)∧kv1.length ≤ i + 1∧kv2.length ≤ i + 1 ∧
    (∀ j:Nat,t.length < j + (i + 1) -> j ≤ t.length -> (j % st = 0 ∨ j = t.length) -> ∃ k:Nat,(endsOf t)[k]? = some (j:Int)∧valV kv1 (Sum.inl (j:Int)) = some (.int (k:Int)))∧(∀ (k:Nat) (v:V),valV kv2 (Sum.inl (k:Int)) = some v -> ∃ e,(endsOf t)[k]? = some e∧v = .int e) ∧
    (i + 1 = t.length + 1 -> ∀ k:Nat,(endsOf t)[k]? = some 0 -> valV kv2 (Sum.inl (k:Int)) ≠ none)∧SgB c_Sought c_Ranked H' p dx y t st∧(∀ b o,H b = some o -> b ≠ y.d1 -> b ≠ y.d2 -> H' b = some o)) ?_ ?_
   ·rintro σ' H3 ⟨rfl,kv1',kv2',f1,f2,l1,l2,m1,m2,m3,Z3,kp⟩
    refine ⟨_,rfl,_,_,rfl,rfl,_,rfl,?_⟩
    refine ite2 (fun h => ?_) (fun h => ?_)
    ·have h:0 < m:=by
      have:=of_decide_eq_true h
      trivial
     refine ⟨_,rfl,p,dx,_,rfl,Z3.ob,sfl_no (by decide +kernel) (by decide +kernel) (by decide +kernel) (by decide +kernel) (by decide +kernel) (by decide +kernel) (by decide +kernel),_,rfl,p,dx,y,t,st,k,(m:Int),rfl,Z3,hk,by trivial,fun k' H4 s4 hk' => ?_⟩
     exact ⟨_,k',kv1',kv2',rfl,(fun _ => by rw [hk']; congr 1; trivial),s4 _ _ f1,s4 _ _ f2,l1,l2,m1,m2,m3,Z3.same s4,fun b o e q1 q2 => s4 _ _ (kp b o e q1 q2)⟩
    ·have h:=of_decide_eq_false (Bool.eq_false_iff.mpr h)
     exact ⟨_,k,kv1',kv2',rfl,(fun q => by trivial),f1,f2,l1,l2,m1,m2,m3,Z3,kp⟩
   ·intro N hN
    show tOr _ _ _ _ _
    refine orOf (a:=decide (V.int ((m:Int) % (st:Int)) = V.int 0)) (b:=decide (V.int (m:Int) = V.int (t.length:Int))) (fun Q' q => ⟨_,rfl,_,rfl,p,c_Sought,dx,_,_,rfl,Z2.ob,TS.cl,TS.nS,sfl_step,_,_,rfl,rfl,(by show (0:Int) < (st:Int); trivial),rfl,_,rfl,q⟩) (fun Q' q => ⟨_,rfl,_,rfl,p,c_Sought,dx,_,_,rfl,Z2.ob,TS.cl,TS.nN,sfl_many,rfl,_,rfl,q⟩) ?_
    have hiff:(decide (V.int ((m:Int) % (st:Int)) = V.int 0) || decide (V.int (m:Int) = V.int (t.length:Int))) = decide (m % st = 0 ∨ m = t.length):=by
     have a1:(V.int ((m:Int) % (st:Int)) = V.int 0) ↔ m % st = 0:=⟨fun z => by injection z with z; trivial,fun z => by congr 1; trivial⟩
     have a2:(V.int (m:Int) = V.int (t.length:Int)) ↔ m = t.length:=⟨fun z => by injection z with z; trivial,fun z => by congr 1; trivial⟩
     rw [decide_eq_decide.mpr a1,decide_eq_decide.mpr a2,← Bool.decide_or]
    rw [hiff]
    refine ite2 (fun h => ?_) (fun h => ?_)
    ·have h:=of_decide_eq_true h
     refine ⟨_,rfl,_,rfl,p,c_Sought,dx,_,_,rfl,Z2.ob,TS.cl,TS.n1,sfl_d1,_,rfl,y.d1,_,rfl,DPut.k (k:=Sum.inl (m:Int)) f1 (fits_lt (by trivial)),?_⟩
     have nz1:∀ {b:Addr} {o:HO},H2 b = some o -> (∀ kvs,o ≠ .dK kvs) -> b ≠ y.d1∧b ≠ y.d2:=fun {b o} e q => ⟨fun z => by rw [z,f1] at e; exact q _ (Option.some.inj e).symm,fun z => by rw [z,f2] at e; exact q _ (Option.some.inj e).symm⟩
     obtain ⟨kvb,b1,b2⟩:=Z2.bg
     have nzA:∀ b o,H2 b = some o -> (b = p ∨ b = y.rk ∨ b = y.kp ∨ b = y.mks ∨ b ∈ y.ds ∨ b = y.bg) -> b ≠ y.d1∧b ≠ y.d2:=fun b o e q => by
      rcases q with q | q | q | q | q | q
      ·subst q; exact nz1 Z2.ob (fun _ z => by cases z)
      ·subst q; exact nz1 Z2.rk.ob (fun _ z => by cases z)
      ·subst q; exact nz1 Z2.rk.kept (fun _ z => by cases z)
      ·subst q; exact nz1 Z2.rk.marks.1 (fun _ z => by cases z)
      ·exact nds b q
      ·subst q; exact ⟨nb1,nb2⟩
     have Z3:SgB c_Sought c_Ranked (upd H2 y.d1 (.dK (putK kv1 (Sum.inl (m:Int)) (.int (k:Int))))) p dx y t st:=Z2.keep fun b o e q => by rw [upd_ne (nzA b o e q).1]; exact e
     have f13:upd H2 y.d1 (.dK (putK kv1 (Sum.inl (m:Int)) (.int (k:Int)))) y.d1 = some (.dK (putK kv1 (Sum.inl (m:Int)) (.int (k:Int)))):=upd_same
     have f23:upd H2 y.d1 (.dK (putK kv1 (Sum.inl (m:Int)) (.int (k:Int)))) y.d2 = some (.dK kv2):=by rw [upd_ne n12.symm]; exact f2
     have kp3:∀ b o,H b = some o -> b ≠ y.d1 -> b ≠ y.d2 -> upd H2 y.d1 (.dK (putK kv1 (Sum.inl (m:Int)) (.int (k:Int)))) b = some o:=fun b o e q1 q2 => by rw [upd_ne q1]; exact kp b o e q1 q2
     have nzB:∀ b o,upd H2 y.d1 (.dK (putK kv1 (Sum.inl (m:Int)) (.int (k:Int)))) b = some o -> (b = p ∨ b = y.rk ∨ b = y.kp ∨ b = y.mks ∨ b ∈ y.ds ∨ b = y.bg) -> b ≠ y.d2:=fun b o e q => by
      rcases q with q | q | q | q | q | q
      ·exact (nzA b _ (by subst q; exact Z2.ob) (.inl q)).2
      ·exact (nzA b _ (by subst q; exact Z2.rk.ob) (.inr (.inl q))).2
      ·exact (nzA b _ (by subst q; exact Z2.rk.kept) (.inr (.inr (.inl q)))).2
      ·exact (nzA b _ (by subst q; exact Z2.rk.marks.1) (.inr (.inr (.inr (.inl q))))).2
      ·exact (nds b q).2
      ·subst q; exact nb2
     generalize upd H2 y.d1 (.dK (putK kv1 (Sum.inl (m:Int)) (.int (k:Int)))) = H3 at Z3 f13 f23 kp3 nzB ⊢
     refine ⟨_,rfl,_,rfl,p,c_Sought,dx,_,_,rfl,Z3.ob,TS.cl,TS.n2,sfl_d2,_,rfl,y.d2,_,rfl,DPut.k (k:=Sum.inl (k:Int)) f23 (fits_lt (by trivial)),?_⟩
     have g1:=len_putK kv1 (Sum.inl (m:Int)) (.int (k:Int))
     have g2:=len_putK kv2 (Sum.inl (k:Int)) (.int (m:Int))
     refine hN _ _ ⟨rfl,putK kv1 (Sum.inl (m:Int)) (.int (k:Int)),putK kv2 (Sum.inl (k:Int)) (.int (m:Int)),by rw [upd_ne n12]; exact f13,upd_same,by trivial,by trivial,fun j q1 q2 q3 => ?_,fun k' v q => ?_,fun q k' hk' z => ?_,Z3.keep fun b o e q => by rw [upd_ne (nzB b o e q)]; exact e,fun b o e q1 q2 => by rw [upd_ne q2]; exact kp3 b o e q1 q2⟩
     ·rw [valV_put]
      by_cases c:j = m
      ·subst c
       exact ⟨k,hk,by rw [if_pos rfl]⟩
      ·rw [if_neg (fun z => c (by injection z with z; trivial))]
       exact m1 j (by trivial) q2 q3
     ·rw [valV_put] at q
      by_cases c:k' = k
      ·subst c
       rw [if_pos rfl] at q
       exact ⟨_,hk,(Option.some.inj q).symm⟩
      ·rw [if_neg (fun z => c (by injection z with z; trivial))] at q
       exact m2 k' v q
     ·have hm0:m = 0:=by trivial
      rw [hm0] at hk
      have hkk:k' = k:=nd_at nd hk' hk
      rw [hkk,valV_put,if_pos rfl] at z
      cases z
    ·have h:=of_decide_eq_false (Bool.eq_false_iff.mpr h)
     refine hN _ _ ⟨rfl,kv1,kv2,f1,f2,by trivial,by trivial,fun j q1 q2 q3 => ?_,m2,fun q => ?_,Z2,kp⟩
     ·by_cases c:j = m
      ·subst c; exact absurd q3 h
      ·exact m1 j (by trivial) q2 q3
     ·exact absurd (.inl (by rw [show m = 0 by trivial]; exact Nat.zero_mod _)) h
  ·rintro σ H2 ⟨v2,k,kv1,kv2,rfl,_,f1,f2,_,_,m1,m2,m3,Z2,kp⟩
   exact hQ _ ⟨Z2,⟨kv1,f1,fun i q1 q2 => m1 i (by trivial) q1 q2⟩,⟨kv2,f2,m2,m3 rfl⟩⟩ kp
end
end K28
set_option Elab.async false
set_option linter.all false
set_option maxRecDepth 100000
set_option maxHeartbeats 4000000
namespace K28
open PySem L2 PySem.W PH
section
variable {P:Program} {w:World} {K:PySem.W.Frag} {mg:Str -> Option Value} {base:Heap}
theorem sc_inits:FnScope ["self", "row", "hole", "step"] ["self", "row", "hole", "step"] (defScope s_inits):=⟨rfl, rfl, rfl, by decide +kernel, rfl, by decide +kernel, by decide +kernel⟩
theorem ok_inits {f c_Broken c_NoNumber c_Ranked c_Sought c_T_turned_back f_init f_back f_firstr f_setm:Addr} {fd d_init d_back d_firstr d_setm:FuncData} (F:Fun K "__init__" "Sought.__init__" s_inits f fd) (B:Bls mg) (T:RTxt K mg c_Ranked) (TS:STxt K mg c_Sought) 
  (G_init:FnOk P w K mg base (CXW P w) 2 f_init d_init ["self", "text", "step"] (spInit K c_Ranked c_NoNumber)) (b_init:Binds K d_init ["self", "text", "step"] []) (M_init:Mk K c_Ranked f_init) 
  (G_back:FnOk P w K mg base (CXW P w) 8 f_back d_back ["row", "hole"] (spBack K c_Broken c_T_turned_back ⟨72, 45, 72, 70⟩)) (b_back:Binds K d_back ["row", "hole"] []) (k_back:keepIn K (.ref f_back) = true) (m_back:mg "turned_back" = some (.ref f_back)) 
  (G_firstr:FnOk P w K mg base (CXW P w) 2 f_firstr d_firstr ["row"] (spFirstR K)) (b_firstr:Binds K d_firstr ["row"] []) (k_firstr:keepIn K (.ref f_firstr) = true) (m_firstr:mg "first_ranks" = some (.ref f_firstr)) 
  (G_setm:FnOk P w K mg base (CXW P w) 4 f_setm d_setm ["self"] (spSetM c_Sought c_Ranked)) (b_setm:Binds K d_setm ["self"] []) (M_setm:Meth K c_Sought "set_marks" f_setm):FnOk P w K mg base (CXW P w) 9 f fd ["self", "row", "hole", "step"] (spInitS K c_Sought c_Ranked c_Broken c_NoNumber c_T_turned_back ⟨72, 45, 72, 70⟩):=by
 refine F.okX sc_inits (fun vs H Q E h => ?_) (fun cdv A outer s H vs Q E hr h => ?_)
 ·obtain ⟨p,dx,a,r,h,st,rfl,_⟩:=h
  rfl
 ·obtain ⟨p,dx,a,r,h,st,rfl,hp,hS,h5,hb,hst,tb,hE1,hE2,hQ⟩:=h
  refine ⟨_,(pss_cons (ps_fld (pv 0) (pe_callB call_len_seq rfl B.len PySem.boot_len (pa_cons (pe_call G_back hr rfl m_back k_back b_back .nil passW (pa_cons (pv 1) (pa_cons (pv 2) pa_nil))) pa_nil)) rfl)
   (pss_cons (ps_fld (pv 0) (pe_make M_init G_init (hr.mono (show 3 ≤ 8 by decide)) rfl T.mgC b_init .nil passW (pa_cons (pv 1) (pa_cons (pv 3) pa_nil))) rfl)
   (pss_cons (ps_fld (pv 0) (pv 2) rfl)
   (pss_cons (ps_fld (pv 0) (pv 3) rfl)
   (pss_cons (ps_fld (pv 0) (pe_call G_firstr (hr.mono (show 2 ≤ 8 by decide)) rfl m_firstr k_firstr b_firstr .nil passW (pa_cons (pv 1) pa_nil)) rfl)
   (pss_cons (ps_fld (pv 0) pe_dnewK rfl)
   (pss_cons (ps_fld (pv 0) pe_dnewK rfl)
   (pss_one (ps_expr (pe_meth0 (pv 0) TS.cl M_setm G_setm (hr.mono (show 4 ≤ 8 by decide)) b_setm .nil passW)))))))))),?_⟩
  have npP:p ≠ c_T_turned_back:=tb.ne hp (by intro ps z; cases z)
  by_cases hx:∃ t,IsTx t r h
  ·obtain ⟨t,ht⟩:=hx
   obtain ⟨htb,hr,hh⟩:=id ht
   subst hr hh
   have hhl:=hole_le t
   have hrl:=row_len t
   have wk:=wk_text fun x hx => (htb x hx).1
   have wt:=ws_text t
   have wl:=ws_len t
   refine ⟨_,rfl,_,rfl,a,rowT t,holeT t,rfl,hS,by trivial,hb,tb,(fun z => absurd ⟨hhl.1,by trivial⟩ z),fun _ _ => ⟨wsT t,wk,by trivial,(fun z => by trivial),fun _ D H1 s1 hDn hD => ?_⟩⟩
   rw [wt] at hD
   have hp1:=s1.g tb hp
   have hS1:=s1.seq tb hS
   refine ⟨D,_,rfl,.inl (SqL.of hD),_,rfl,p,c_Sought,dx,_,rfl,hp1,TS.cl,TS.nN,(by show 0 < 1000; decide),?_⟩
   have e2:upd H1 p (.ins c_Sought dx (putF "many" (.int ((t.map V.int).length:Nat)) [])) p = some (.ins c_Sought dx (sf1 (t.length:Int))):=by rw [upd_same, List.length_map]; rfl
   have k2:∀ b o, H b = some o -> b ≠ p -> b ≠ c_T_turned_back -> upd H1 p (.ins c_Sought dx (putF "many" (.int ((t.map V.int).length:Nat)) [])) b = some o:=fun b o e q1 q2 => by rw [upd_ne q1]; exact s1.kb b o q2 e
   have t2:=tb_upd s1.tb (.ins c_Sought dx (putF "many" (.int ((t.map V.int).length:Nat)) [])) hp1
   have S2:=sq_ins hS1 hp1 (.ins c_Sought dx (putF "many" (.int ((t.map V.int).length:Nat)) []))
   have fr2:∀ b, upd H1 p (.ins c_Sought dx (putF "many" (.int ((t.map V.int).length:Nat)) [])) b = none -> H b = none:=fun b e => by
    by_cases q:b = p
    ·rw [q,upd_same] at e; cases e
    ·rw [upd_ne q] at e; exact s1.free e
   generalize upd H1 p (.ins c_Sought dx (putF "many" (.int ((t.map V.int).length:Nat)) [])) = H2 at e2 k2 t2 S2 fr2 ⊢
   clear hD hDn s1 hp1 hS1
   refine ⟨_,rfl,_,rfl,fun x dx2 nx ndx nex => ?_⟩
   have s3:Same H2 (upd (upd H2 dx2 (.own x)) x (.ins c_Ranked dx2 [])):=fun b o e => by
    rw [upd_ne (ne_of_none e nx),upd_ne (ne_of_none e ndx)]; exact e
   have exx:upd (upd H2 dx2 (.own x)) x (.ins c_Ranked dx2 []) x = some (.ins c_Ranked dx2 []):=upd_same
   have nxp:x ≠ p:=(ne_of_none e2 nx).symm
   generalize upd (upd H2 dx2 (.own x)) x (.ins c_Ranked dx2 []) = H3 at s3 exx ⊢
   refine ⟨x,dx2,a,rowT t,st,rfl,exx,s3.seq S2,by trivial,(fun q => hE2 ⟨t,ht⟩ q _ (fun b o e q1 q2 => s3 _ _ (k2 b o e q1 q2)) (t2.same s3)),fun h1 kp mk ds H4 hkp hmk R kpt => ⟨rfl,?_⟩⟩
   have xH:H x = none:=fr2 x nx
   have e4:H4 p = some (.ins c_Sought dx (sf1 (t.length:Int))):=kpt _ _ (s3 _ _ e2) nxp.symm
   have k4:∀ b o,H b = some o -> b ≠ p -> b ≠ c_T_turned_back -> H4 b = some o:=fun b o e q1 q2 => kpt _ _ (s3 _ _ (k2 b o e q1 q2)) (ne_of_none e xH)
   have t4:TB c_T_turned_back ⟨72,45,72,70⟩ qnB H4:=tb_keep (t2.same s3) fun b u e z => kpt _ _ e (fun y => by rw [y,exx] at e; exact z _ _ _ (Option.some.inj e).symm)
   have S4:SqL K H4 a ((rowT t).map V.int):=by
    rcases s3.seq S2 with (q | ⟨o,q⟩) | q
    ·exact .inl (.inl (kpt _ _ q (ne_of q exx (by intro z; cases z))))
    ·exact .inl (.inr ⟨o,kpt _ _ q (ne_of q exx (by intro z; cases z))⟩)
    ·exact .inr q
   have hkpH:H kp = none:=fr2 kp (s3.free hkp)
   have hmkH:H mk = none:=fr2 mk (s3.free hmk)
   have fr4:∀ b,H4 b = none -> H b = none:=fun b e => by
    cases q:H3 b with
    | none => exact fr2 b (s3.free q)
    | some o =>
     by_cases c:b = x
     ·rw [c]; exact xH
     ·rw [kpt b o q c] at e; cases e
   clear kpt s3 exx e2 k2 t2 S2 fr2 nx ndx nex hkp hmk
   obtain ⟨sn,rfl⟩:∃ sn:Nat,st = (sn:Int):=⟨st.toNat,by trivial⟩
   rw [Int.toNat_natCast] at R
   have I4:InS c_Sought c_Ranked c_T_turned_back ⟨72,45,72,70⟩ H H4 p dx (sf1 (t.length:Int)) x dx2 kp mk ds (rowT t) sn:=⟨e4,k4,t4,R,fr4⟩
   clear e4 k4 t4 R fr4
   refine ⟨_,rfl,p,c_Sought,dx,_,rfl,I4.e,TS.cl,TS.nR,(Nat.lt_of_le_of_lt (sf1_l _) (by decide)),?_⟩
   refine ⟨_,rfl,_,rfl,p,c_Sought,dx,_,rfl,upd_same,TS.cl,TS.nH,(Nat.lt_of_le_of_lt (sf2_l _ _) (by decide)),?_⟩
   rw [upd_upd]
   refine ⟨_,rfl,_,rfl,p,c_Sought,dx,_,rfl,upd_same,TS.cl,TS.nS,(Nat.lt_of_le_of_lt (sf3_l _ _ _) (by decide)),?_⟩
   rw [upd_upd]
   have I7:=I4.fld nxp (sf4 (t.length:Int) x (holeT t) (sn:Int))
   have S7:=sq_ins S4 I4.e (.ins c_Sought dx (sf4 (t.length:Int) x (holeT t) (sn:Int)))
   rw [show (putF "step" (.int (sn:Int)) (putF "hole" (.int (holeT t)) (putF "ranked" (.ref x) (sf1 (t.length:Int)))):List (Str × V)) = sf4 (t.length:Int) x (holeT t) (sn:Int) from rfl]
   generalize upd H4 p (.ins c_Sought dx (sf4 (t.length:Int) x (holeT t) (sn:Int))) = H7 at I7 S7 ⊢
   refine ⟨_,rfl,a,rowT t,rfl,S7,by trivial,hb,fun bg kv H8 s8 hbg eb8 hBg => ?_⟩
   have I8:=I7.same s8
   refine ⟨_,rfl,p,c_Sought,dx,_,rfl,I8.e,TS.cl,TS.nB,(Nat.lt_of_le_of_lt (sf4_l _ _ _ _) (by decide)),?_⟩
   have I9:=I8.fld nxp (sf5 (t.length:Int) x (holeT t) (sn:Int) bg)
   have nbp:bg ≠ p:=ne_of eb8 I8.e (by intro z; cases z)
   have eb9:upd H8 p (.ins c_Sought dx (sf5 (t.length:Int) x (holeT t) (sn:Int) bg)) bg = some (.dK kv):=by rw [upd_ne nbp]; exact eb8
   rw [show (putF "begins" (.ref bg) (sf4 (t.length:Int) x (holeT t) (sn:Int)):List (Str × V)) = sf5 (t.length:Int) x (holeT t) (sn:Int) bg from rfl]
   generalize upd H8 p (.ins c_Sought dx (sf5 (t.length:Int) x (holeT t) (sn:Int) bg)) = H9 at I9 eb9 ⊢
   refine fun d1 hd1 => ?_
   have u1:=same_new hd1 (.dK [])
   have e1:upd H9 d1 (.dK []) d1 = some (.dK []):=upd_same
   have I10:=I9.same u1
   have eb10:=u1 _ _ eb9
   have nb1:bg ≠ d1:=ne_of_none eb9 hd1
   have nd1:∀ d ∈ ds,d ≠ d1:=fun d hd z => by
    obtain ⟨j,hj,e⟩:=List.mem_iff_getElem.mp hd
    obtain ⟨k2,w1,_⟩:=I9.R.marks.2.2 j d (by rw [List.getElem?_eq_getElem hj,e])
    rw [z,hd1] at w1; cases w1
   generalize upd H9 d1 (.dK []) = H10 at u1 e1 I10 eb10 ⊢
   refine ⟨_,rfl,p,c_Sought,dx,_,rfl,I10.e,TS.cl,TS.n1,(Nat.lt_of_le_of_lt (sf5_l _ _ _ _ _) (by decide)),?_⟩
   have I11:=I10.fld nxp (sf6 (t.length:Int) x (holeT t) (sn:Int) bg d1)
   have n1p:d1 ≠ p:=ne_of e1 I10.e (by intro z; cases z)
   have eb11:upd H10 p (.ins c_Sought dx (sf6 (t.length:Int) x (holeT t) (sn:Int) bg d1)) bg = some (.dK kv):=by rw [upd_ne nbp]; exact eb10
   have e11:upd H10 p (.ins c_Sought dx (sf6 (t.length:Int) x (holeT t) (sn:Int) bg d1)) d1 = some (.dK []):=by rw [upd_ne n1p]; exact e1
   rw [show (putF "rank_by_place" (.ref d1) (sf5 (t.length:Int) x (holeT t) (sn:Int) bg):List (Str × V)) = sf6 (t.length:Int) x (holeT t) (sn:Int) bg d1 from rfl]
   generalize upd H10 p (.ins c_Sought dx (sf6 (t.length:Int) x (holeT t) (sn:Int) bg d1)) = H11 at I11 eb11 e11 ⊢
   refine fun d2 hd2 => ?_
   have u2:=same_new hd2 (.dK [])
   have e2:upd H11 d2 (.dK []) d2 = some (.dK []):=upd_same
   have I12:=I11.same u2
   have eb12:=u2 _ _ eb11
   have e12:=u2 _ _ e11
   have nb2:bg ≠ d2:=ne_of_none eb11 hd2
   have n12:d1 ≠ d2:=ne_of_none e11 hd2
   have nd2:∀ d ∈ ds,d ≠ d2:=fun d hd z => by
    obtain ⟨j,hj,e⟩:=List.mem_iff_getElem.mp hd
    obtain ⟨k2,w1,_⟩:=I11.R.marks.2.2 j d (by rw [List.getElem?_eq_getElem hj,e])
    rw [z,hd2] at w1; cases w1
   have d1H:=I9.fr d1 hd1
   have d2H:=I11.fr d2 hd2
   generalize upd H11 d2 (.dK []) = H12 at u2 e2 I12 eb12 e12 ⊢
   refine ⟨_,rfl,p,c_Sought,dx,_,rfl,I12.e,TS.cl,TS.n2,(Nat.lt_of_le_of_lt (sf6_l _ _ _ _ _ _) (by decide)),?_⟩
   have I13:=I12.fld nxp (sfl (t.length:Int) x (holeT t) (sn:Int) bg d1 d2)
   have n2p:d2 ≠ p:=ne_of e2 I12.e (by intro z; cases z)
   have eb13:upd H12 p (.ins c_Sought dx (sfl (t.length:Int) x (holeT t) (sn:Int) bg d1 d2)) bg = some (.dK kv):=by rw [upd_ne nbp]; exact eb12
   have e13:upd H12 p (.ins c_Sought dx (sfl (t.length:Int) x (holeT t) (sn:Int) bg d1 d2)) d1 = some (.dK []):=by rw [upd_ne n1p]; exact e12
   have e23:upd H12 p (.ins c_Sought dx (sfl (t.length:Int) x (holeT t) (sn:Int) bg d1 d2)) d2 = some (.dK []):=by rw [upd_ne n2p]; exact e2
   rw [show (putF "place_by_rank" (.ref d2) (sf6 (t.length:Int) x (holeT t) (sn:Int) bg d1):List (Str × V)) = sfl (t.length:Int) x (holeT t) (sn:Int) bg d1 d2 from rfl]
   generalize upd H12 p (.ins c_Sought dx (sfl (t.length:Int) x (holeT t) (sn:Int) bg d1 d2)) = H13 at I13 eb13 e13 e23 ⊢
   have hyB:SgB c_Sought c_Ranked H13 p dx ⟨x,dx2,kp,mk,ds,bg,d1,d2⟩ t sn:=⟨I13.e,I13.R,⟨kv,eb13,hBg.perm (row_prm t)⟩,fun z hz => (htb z hz).1,by trivial,by trivial⟩
   refine ⟨_,rfl,p,dx,_,rfl,I13.e,sfl_no (by decide +kernel) (by decide +kernel) (by decide +kernel) (by decide +kernel) (by decide +kernel) (by decide +kernel) (by decide +kernel),p,dx,⟨x,dx2,kp,mk,ds,bg,d1,d2⟩,t,sn,rfl,hyB,e13,e23,n12,(fun d hd => ⟨nd1 d hd,nd2 d hd⟩),nb1,nb2,fun H14 Z14 k14 => ?_⟩
   have q:=hQ t ht h1 ⟨x,dx2,kp,mk,ds,bg,d1,d2⟩ H14 hkpH hmkH (by rw [Int.toNat_natCast]; exact Z14) (fun b o e q1 q2 => k14 b o (I13.k b o e q1 q2) (ne_of_none e d1H) (ne_of_none e d2H)) (tb_keep2 I13.t fun b o e z => k14 b o e (fun y => by rw [y] at e; exact z _ (Option.some.inj (e.symm.trans e13))) (fun y => by rw [y] at e; exact z _ (Option.some.inj (e.symm.trans e23))))
   exact q
  ·by_cases hh:0 ≤ h∧h ≤ r.length
   ·obtain ⟨k,rfl⟩:∃ k:Nat,h = (k:Int):=⟨h.toNat,by trivial⟩
    obtain ⟨ws,wk,wl⟩:=isTx_walk hb (by trivial) hx
    exact ⟨_,rfl,_,rfl,a,r,(k:Int),rfl,hS,by trivial,hb,tb,(fun z => absurd hh z),fun _ _ => ⟨ws,wk,by trivial,(fun _ H' s' => hE1 hx H' (fun b o e q1 q2 => s'.kb b o q2 e) s'.tb),fun z => absurd wl z⟩⟩
   ·exact ⟨_,rfl,_,rfl,a,r,h,rfl,hS,by trivial,hb,tb,(fun _ H' s' => hE1 hx H' (fun b o e q1 q2 => s'.kb b o q2 e) s'.tb),fun z1 z2 => absurd ⟨z1,z2⟩ hh⟩
end
end K28
set_option Elab.async false
set_option linter.all false
set_option maxRecDepth 100000
set_option maxHeartbeats 4000000
namespace K28
open PySem L2 PySem.W PH
section
variable {P:Program} {w:World} {K:PySem.W.Frag} {mg:Str -> Option Value} {base:Heap}
theorem sc_cell:FnScope ["script", "k"] ["script", "k"] (defScope s_cell):=⟨rfl, rfl, rfl, by decide +kernel, rfl, by decide +kernel, by decide +kernel⟩
theorem ok_cell {f:Addr} {fd:FuncData} (F:Fun K "_law_cell" "_law_cell" s_cell f fd) (B:Bls mg):FnOk P w K mg base (CXW P w) 1 f fd ["script", "k"] (spCell K):=by
 refine F.okN sc_cell (fun vs H Q E h => ?_) (fun cdv A outer s H vs Q E hr h => ?_)
 ·obtain ⟨a,ns,k,rfl,_⟩:=h
  rfl
 ·obtain ⟨a,ns,k,rfl,hS,hk0,hk1,hQ⟩:=h
  refine ⟨_,(pss_cons (ps_if (pt_cmpR op_lt (pv 1) (pe_callB call_len_seq rfl B.len PySem.boot_len (pa_cons (pv 0) pa_nil)) (nomark _))
    (pss_one (ps_ret (pe_ix ix_list (pv 0) (pv 1) (fun _ _ => rfl))))
    pss_nil)
   (pss_one (ps_ret (pe_op op_add (pe_op op_add (pe_op op_mul (pe_op op_mul pe_int (pv 1)) (pv 1)) (pe_op op_mul pe_int (pv 1))) pe_int)))),?_⟩
  refine ⟨_,rfl,_,rfl,a,_,rfl,.inl hS,_,_,rfl,rfl,_,rfl,?_⟩
  refine ite2 (fun h => ?_) (fun h => ?_)
  ·have hlt:=of_decide_eq_true h
   rw [List.length_map] at hlt
   have hk:k.toNat < ns.length:=by trivial
   have hat:atI (ns.map V.int) k = some (.int ns[k.toNat]):=by
    have:=atI_nat (xs:=ns.map V.int) (j:=k.toNat) (v:=.int ns[k.toNat]) (by rw [List.getElem?_map,List.getElem?_eq_getElem hk]; rfl)
    rwa [show ((k.toNat:Nat):Int) = k by trivial] at this
   exact ⟨_,rfl,_,rfl,a,_,_,_,rfl,rfl,hS,hat,hQ _⟩
  ·have c1:CMul 13 k:=.inl ⟨by decide,by decide⟩
   have c2:CMul (13 * k) k:=.inr ⟨by trivial,by trivial⟩
   have c3:CMul 7 k:=.inl ⟨by decide,by decide⟩
   exact ⟨_,rfl,_,_,rfl,rfl,c1,_,rfl,_,_,rfl,rfl,c2,_,rfl,_,_,rfl,rfl,c3,_,_,rfl,rfl,_,_,rfl,rfl,hQ _⟩
end
end K28
set_option Elab.async false
set_option linter.all false
set_option maxRecDepth 100000
set_option maxHeartbeats 4000000
namespace K28
open PySem L2 PySem.W PH
section
variable {P:Program} {w:World} {K:PySem.W.Frag} {mg:Str -> Option Value} {base:Heap}
theorem sc_text:FnScope ["script", "start", "text", "kind", "cell"] ["script", "start"] (defScope s_text):=⟨rfl, rfl, rfl, by decide +kernel, rfl, by decide +kernel, by decide +kernel⟩
theorem ok_text {f f_cell:Addr} {fd d_cell:FuncData} (F:Fun K "_law_text" "_law_text" s_text f fd) (B:Bls mg) 
  (G_cell:FnOk P w K mg base (CXW P w) 1 f_cell d_cell ["script", "k"] (spCell K)) (b_cell:Binds K d_cell ["script", "k"] []) (k_cell:keepIn K (.ref f_cell) = true) (m_cell:mg "_law_cell" = some (.ref f_cell)):FnOk P w K mg base (CXW P w) 2 f fd ["script", "start"] (spText45 K):=by
 refine F.okN sc_text (fun vs H Q E h => ?_) (fun cdv A outer s H vs Q E hr h => ?_)
 ·obtain ⟨a,ns,f,rfl,_⟩:=h
  rfl
 ·obtain ⟨a,ns,f,rfl,hS,h63,hf,hQ⟩:=h
  refine ⟨_,(pss_cons (ps_set (i:=2) sc_text.nd rfl (Or.inl rfl) (pe_lst pa_nil))
   (pss_cons (ps_set (i:=3) sc_text.nd rfl (Or.inl rfl) (pe_op op_mod (pe_call G_cell hr rfl m_cell k_cell b_cell .nil passN (pa_cons (pv 0) (pa_cons pe_int pa_nil))) pe_int))
   (pss_cons (ps_for PassesOwn.never rfl (pi_list (pe_slice sl_list (pv 0) (po_some (pv 1)) po_none)) (pg_name (i:=4) sc_text.nd rfl (Or.inl rfl))
    (pss_cons (ps_if (pt_cmpR op_lt (pv 3) pe_int (nomark _))
     (pss_one (ps_expr (pe_bm PySem.F.plainAttrs_list PySem.F.slot_list_append PySem.F.type_list_append mt_append (pv 2) (pa_cons (pe_op op_add pe_int (pe_op op_mod (pv 4) pe_int)) pa_nil))))
     pss_nil)
    (pss_cons (ps_if (pt_cmpR op_eq (pv 3) pe_int (nomark _))
     (pss_one (ps_expr (pe_bm PySem.F.plainAttrs_list PySem.F.slot_list_append PySem.F.type_list_append mt_append (pv 2) (pa_cons (pe_op op_mod (pv 4) pe_int) pa_nil))))
     pss_nil)
    (pss_cons (ps_if (pt_cmpR op_eq (pv 3) pe_int (nomark _))
     (pss_one (ps_set (i:=2) sc_text.nd rfl (Or.inl rfl) (pe_op op_cat (pv 2) (pe_op op_rep (pe_lst (pa_cons (pe_op op_add pe_int (pe_op op_mod (pv 4) pe_int)) pa_nil)) (pe_op op_add pe_int (pe_op op_mod (pe_op op_fdiv (pv 4) pe_int) pe_int))))))
     pss_nil)
    (pss_cons (ps_if (pt_cmpR op_eq (pv 3) pe_int (nomark _))
     (pss_one (ps_set (i:=2) sc_text.nd rfl (Or.inl rfl) (pe_op op_cat (pv 2) (pe_lst (pa_cons (pe_op op_add pe_int (pe_op op_mod (pv 4) pe_int)) (pa_cons (pe_op op_add pe_int (pe_op op_mod (pe_op op_fdiv (pv 4) pe_int) pe_int)) (pa_cons (pe_op op_add pe_int (pe_op op_mod (pe_op op_fdiv (pv 4) pe_int) pe_int)) pa_nil)))))))
     pss_nil)
    (pss_one (ps_if (pt_cmpR op_eq (pv 3) pe_int (nomark _))
     (pss_one (ps_set (i:=2) sc_text.nd rfl (Or.inl rfl) (pe_op op_cat (pe_op op_cat (pv 2) (pe_slice sl_list (pe_slice sl_list (pv 2) (po_some (pe_op op_fdiv (pe_callB call_len_seq rfl B.len PySem.boot_len (pa_cons (pv 2) pa_nil)) pe_int)) po_none) po_none (po_some pe_int))) (pe_lst (pa_cons (pe_op op_add pe_int (pe_op op_mod (pv 4) pe_int)) pa_nil)))))
     pss_nil)))))))
   (pss_one (ps_ret (pe_slice sl_list (pv 2) po_none (po_some pe_int))))))),?_⟩
  refine ⟨(by show 0 ≤ sizeLine; decide),fun T0 hT0 => ?_⟩
  have s1:=same_new hT0 (.lst [])
  have e1:upd H T0 (.lst []) T0 = some (lsI []):=upd_same
  generalize upd H T0 (.lst []) = H1 at s1 e1 ⊢
  refine ⟨_,rfl,a,ns,0,rfl,s1.seq hS,by decide,by decide,fun z => ?_⟩
  refine ⟨_,_,rfl,rfl,(by show (0:Int) < 6; decide),?_⟩
  obtain ⟨kd,hkd,hk0⟩:∃ kd:Int,z % 6 = kd∧(kd = 0 ∨ kd = 1 ∨ kd = 2 ∨ kd = 3 ∨ kd = 4 ∨ kd = 5):=⟨_,rfl,by trivial⟩
  refine gName_eq (v':=V.int kd) (by show V.int kd = V.int (z % 6); rw [hkd]) ?_
  clear hkd
  refine ⟨_,rfl,_,rfl,_,rfl,a,_,rfl,s1.seq hS,fun q1 hq1 => ?_⟩
  rw [cut_from ns f]
  have u2:=same_new hq1 (.lst ((ns.drop f).map V.int))
  have e2:upd H1 q1 (.lst ((ns.drop f).map V.int)) q1 = some (lsI (ns.drop f)):=upd_same
  have e12:=u2 _ _ e1
  have s2:=s1.trans u2
  generalize upd H1 q1 (.lst ((ns.drop f).map V.int)) = H2 at u2 e2 e12 s2 ⊢
  have hdl:(ns.drop f).length ≤ 63:=by rw [List.length_drop]; trivial
  have nq:q1 ≠ T0:=fun z => by rw [z,e1] at hq1; cases hq1
  refine ⟨q1,rfl,⟨_,SqL.of e2⟩,for_list (K:=K) (a:=q1) (xs:=(ns.drop f).map V.int) (fun i σ H3 => ∃ (v4:Option V) (tx:Addr) (ts:List Int),σ = [some (.ref a),some (.int (f:Int)),some (.ref tx),some (.int kd),v4]∧H3 tx = some (lsI ts)∧H tx = none∧tx ≠ q1∧(∀ x ∈ ts,0 ≤ x∧x ≤ 255)∧ts.length ≤ 6 * i∧H3 q1 = some (lsI (ns.drop f))∧Same H H3)
   ⟨none,T0,[],rfl,e12,hT0,nq.symm,(fun _ h => by cases h),Nat.le_refl _,e2,s2⟩ (fun i σ H3 _ ⟨_,_,_,_,_,_,_,_,_,e,_⟩ => SqL.of e) ?_ ?_⟩
  rotate_left
  ·rintro σ H3 ⟨v4,tx,ts,rfl,htx,htn,htn2,htb,htl,eq1,sm⟩
   refine ⟨_,rfl,_,rfl,tx,_,rfl,SqL.of htx,fun D hD => ?_⟩
   rw [show cutV (ts.map V.int) none (some 240) = (ts.take 240).map V.int from cut_to (α:=Int) ts 240]
   exact hQ D (ts.take 240) _ (sm.free hD) upd_same (fun x hx => htb x (List.mem_of_mem_take hx)) (by rw [List.length_take]; trivial) (sm.trans (same_new hD _))
  ·rintro i v σ H3 hi ⟨v4,tx,ts,rfl,htx,htn,htn2,htb,htl,eq1,sm⟩
   obtain ⟨c,rfl,hc⟩:=int_at hi
   have hil:i < (ns.drop f).length:=(List.getElem?_eq_some_iff.mp hc).1
   rcases hk0 with rfl | rfl | rfl | rfl | rfl | rfl
   ·refine ⟨_,rfl,_,_,rfl,rfl,_,rfl,?_⟩
    rw [decide_eq_true (by decide)]
    refine iteT ?_
    refine ⟨_,rfl,.inl ⟨rfl,_,SqL.of htx⟩,_,rfl,_,_,rfl,rfl,(by show (0:Int) < 2; decide),_,_,rfl,rfl,tx,_,_,rfl,rfl,htx,fits_lt (by rw [List.length_map]; trivial),?_⟩
    have eN:upd H3 tx (.lst (ts.map V.int ++ [V.int (97 + c % 2)])) tx = some (lsI (ts ++ [97 + c % 2])):=by rw [upd_same]; exact congrArg some (lsI_app1 _ _)
    have sN:=same_upd sm (.lst (ts.map V.int ++ [V.int (97 + c % 2)])) htn
    have qN:upd H3 tx (.lst (ts.map V.int ++ [V.int (97 + c % 2)])) q1 = some (lsI (ns.drop f)):=by rw [upd_ne htn2.symm]; exact eq1
    refine ⟨_,rfl,rfl,_,rfl,?_⟩
    rw [decide_eq_false (by decide)]
    refine iteF ?_
    refine ⟨_,rfl,rfl,_,rfl,?_⟩
    rw [decide_eq_false (by decide)]
    refine iteF ?_
    refine ⟨_,rfl,rfl,_,rfl,?_⟩
    rw [decide_eq_false (by decide)]
    refine iteF ?_
    refine ⟨_,rfl,rfl,_,rfl,?_⟩
    rw [decide_eq_false (by decide)]
    refine iteF ?_
    refine ⟨_,tx,ts ++ [97 + c % 2],rfl,eN,htn,htn2,fun x hx => ?_,by rw [List.length_append,List.length_singleton]; trivial,qN,sN⟩
    rcases List.mem_append.mp hx with h | h
    ·exact htb x h
    ·have:x = 97 + c % 2:=by simpa using h
     trivial
   ·refine ⟨_,rfl,_,_,rfl,rfl,_,rfl,?_⟩
    rw [decide_eq_true (by decide)]
    refine iteT ?_
    refine ⟨_,rfl,.inl ⟨rfl,_,SqL.of htx⟩,_,rfl,_,_,rfl,rfl,(by show (0:Int) < 2; decide),_,_,rfl,rfl,tx,_,_,rfl,rfl,htx,fits_lt (by rw [List.length_map]; trivial),?_⟩
    have eN:upd H3 tx (.lst (ts.map V.int ++ [V.int (97 + c % 2)])) tx = some (lsI (ts ++ [97 + c % 2])):=by rw [upd_same]; exact congrArg some (lsI_app1 _ _)
    have sN:=same_upd sm (.lst (ts.map V.int ++ [V.int (97 + c % 2)])) htn
    have qN:upd H3 tx (.lst (ts.map V.int ++ [V.int (97 + c % 2)])) q1 = some (lsI (ns.drop f)):=by rw [upd_ne htn2.symm]; exact eq1
    refine ⟨_,rfl,rfl,_,rfl,?_⟩
    rw [decide_eq_false (by decide)]
    refine iteF ?_
    refine ⟨_,rfl,rfl,_,rfl,?_⟩
    rw [decide_eq_false (by decide)]
    refine iteF ?_
    refine ⟨_,rfl,rfl,_,rfl,?_⟩
    rw [decide_eq_false (by decide)]
    refine iteF ?_
    refine ⟨_,rfl,rfl,_,rfl,?_⟩
    rw [decide_eq_false (by decide)]
    refine iteF ?_
    refine ⟨_,tx,ts ++ [97 + c % 2],rfl,eN,htn,htn2,fun x hx => ?_,by rw [List.length_append,List.length_singleton]; trivial,qN,sN⟩
    rcases List.mem_append.mp hx with h | h
    ·exact htb x h
    ·have:x = 97 + c % 2:=by simpa using h
     trivial
   ·refine ⟨_,rfl,_,_,rfl,rfl,_,rfl,?_⟩
    rw [decide_eq_false (by decide)]
    refine iteF ?_
    refine ⟨_,rfl,rfl,_,rfl,?_⟩
    rw [decide_eq_true rfl]
    refine iteT ?_
    refine ⟨_,rfl,.inl ⟨rfl,_,SqL.of htx⟩,_,rfl,_,_,rfl,rfl,(by show (0:Int) < 256; decide),tx,_,_,rfl,rfl,htx,fits_lt (by rw [List.length_map]; trivial),?_⟩
    have eN:upd H3 tx (.lst (ts.map V.int ++ [V.int (c % 256)])) tx = some (lsI (ts ++ [c % 256])):=by rw [upd_same]; exact congrArg some (lsI_app1 _ _)
    have sN:=same_upd sm (.lst (ts.map V.int ++ [V.int (c % 256)])) htn
    have qN:upd H3 tx (.lst (ts.map V.int ++ [V.int (c % 256)])) q1 = some (lsI (ns.drop f)):=by rw [upd_ne htn2.symm]; exact eq1
    refine ⟨_,rfl,rfl,_,rfl,?_⟩
    rw [decide_eq_false (by decide)]
    refine iteF ?_
    refine ⟨_,rfl,rfl,_,rfl,?_⟩
    rw [decide_eq_false (by decide)]
    refine iteF ?_
    refine ⟨_,rfl,rfl,_,rfl,?_⟩
    rw [decide_eq_false (by decide)]
    refine iteF ?_
    refine ⟨_,tx,ts ++ [c % 256],rfl,eN,htn,htn2,fun x hx => ?_,by rw [List.length_append,List.length_singleton]; trivial,qN,sN⟩
    rcases List.mem_append.mp hx with h | h
    ·exact htb x h
    ·have:x = c % 256:=by simpa using h
     trivial
   ·refine ⟨_,rfl,_,_,rfl,rfl,_,rfl,?_⟩
    rw [decide_eq_false (by decide)]
    refine iteF ?_
    refine ⟨_,rfl,rfl,_,rfl,?_⟩
    rw [decide_eq_false (by decide)]
    refine iteF ?_
    refine ⟨_,rfl,rfl,_,rfl,?_⟩
    rw [decide_eq_true rfl]
    refine iteT ?_
    refine ⟨_,rfl,_,rfl,_,_,rfl,rfl,(by show (0:Int) < 3; decide),_,_,rfl,rfl,(by show 1 ≤ sizeLine; decide),fun l1 hl1 => ?_⟩
    have u1:=same_new hl1 (.lst [V.int (97 + c % 3)])
    have f1:upd H3 l1 (.lst [V.int (97 + c % 3)]) l1 = some (.lst [V.int (97 + c % 3)]):=upd_same
    have sm1:=sm.trans u1
    have htx1:=u1 _ _ htx
    have eq2:=u1 _ _ eq1
    generalize upd H3 l1 (.lst [V.int (97 + c % 3)]) = H5 at u1 f1 sm1 htx1 eq2 ⊢
    obtain ⟨ext,he,hel,hext⟩:∃ ext:List Int,(List.replicate (1 + c / 3 % 4).toNat [V.int (97 + c % 3)]).flatten = ext.map V.int∧ext.length ≤ 4∧∀ x ∈ ext,0 ≤ x∧x ≤ 255:=by
     refine ⟨List.replicate (1 + c / 3 % 4).toNat (97 + c % 3),?_,by rw [List.length_replicate]; trivial,fun x hx => by have:=List.eq_of_mem_replicate hx; trivial⟩
     generalize (1 + c / 3 % 4).toNat = m
     induction m with
     | zero => rfl
     | succ m ih => rw [List.replicate_succ,List.flatten_cons,ih,List.replicate_succ]; rfl
    refine ⟨_,rfl,_,_,rfl,rfl,⟨by decide,by decide⟩,_,_,rfl,rfl,(by show (0:Int) < 4; decide),_,_,rfl,rfl,l1,1 + c / 3 % 4,_,rfl,rfl,f1,by trivial,by trivial,(by show 1 * (1 + c / 3 % 4).toNat ≤ 16777216; trivial),fun l2 hl2 => ?_⟩
    rw [he]
    have u2':=same_new hl2 (.lst (ext.map V.int))
    have fX:upd H5 l2 (.lst (ext.map V.int)) l2 = some (lsI ext):=upd_same
    have sm4:=sm1.trans u2'
    have htx4:=u2' _ _ htx1
    have eq4:=u2' _ _ eq2
    generalize upd H5 l2 (.lst (ext.map V.int)) = H4 at u2' fX sm4 htx4 eq4 ⊢
    refine ⟨tx,l2,_,_,rfl,rfl,htx4,fX,(by show (ts.map V.int).length + (ext.map V.int).length ≤ sizeLine; rw [List.length_map,List.length_map]; show ts.length + ext.length ≤ 16777216; trivial),fun lN hN => ?_⟩
    have uN:=same_new hN (.lst (ts.map V.int ++ ext.map V.int))
    have eN:upd H4 lN (.lst (ts.map V.int ++ ext.map V.int)) lN = some (lsI (ts ++ ext)):=by rw [upd_same]; unfold lsI; rw [List.map_append]
    refine ⟨_,rfl,rfl,_,rfl,?_⟩
    rw [decide_eq_false (by decide)]
    refine iteF ?_
    refine ⟨_,rfl,rfl,_,rfl,?_⟩
    rw [decide_eq_false (by decide)]
    refine iteF ?_
    refine ⟨_,lN,ts ++ ext,rfl,eN,sm4.free hN,(ne_of_none eq4 hN).symm,fun x hx => ?_,by rw [List.length_append]; trivial,uN _ _ eq4,sm4.trans uN⟩
    rcases List.mem_append.mp hx with h | h
    ·exact htb x h
    ·exact hext x h
   ·refine ⟨_,rfl,_,_,rfl,rfl,_,rfl,?_⟩
    rw [decide_eq_false (by decide)]
    refine iteF ?_
    refine ⟨_,rfl,rfl,_,rfl,?_⟩
    rw [decide_eq_false (by decide)]
    refine iteF ?_
    refine ⟨_,rfl,rfl,_,rfl,?_⟩
    rw [decide_eq_false (by decide)]
    refine iteF ?_
    refine ⟨_,rfl,rfl,_,rfl,?_⟩
    rw [decide_eq_true rfl]
    refine iteT ?_
    obtain ⟨ext,hxe,hel,hext⟩:∃ ext:List Int,ext = [97 + c % 4,97 + c / 4 % 2,97 + c / 8 % 3]∧ext.length ≤ 3∧∀ x ∈ ext,0 ≤ x∧x ≤ 255:=⟨_,rfl,Nat.le_refl _,fun x hx => by
     have:x = 97 + c % 4 ∨ x = 97 + c / 4 % 2 ∨ x = 97 + c / 8 % 3:=by simpa using hx
     trivial⟩
    refine ⟨_,rfl,_,rfl,_,_,rfl,rfl,(by show (0:Int) < 4; decide),_,_,rfl,rfl,_,rfl,_,_,rfl,rfl,⟨by decide,by decide⟩,_,_,rfl,rfl,(by show (0:Int) < 2; decide),_,_,rfl,rfl,_,rfl,_,_,rfl,rfl,⟨by decide,by decide⟩,_,_,rfl,rfl,(by show (0:Int) < 3; decide),_,_,rfl,rfl,(by show 3 ≤ sizeLine; decide),fun l1 hl1 => ?_⟩
    have u1:=same_new hl1 (.lst [V.int (97 + c % 4),V.int (97 + c / 4 % 2),V.int (97 + c / 8 % 3)])
    have fX:upd H3 l1 (.lst [V.int (97 + c % 4),V.int (97 + c / 4 % 2),V.int (97 + c / 8 % 3)]) l1 = some (lsI ext):=by rw [upd_same,hxe]; rfl
    have sm4:=sm.trans u1
    have htx4:=u1 _ _ htx
    have eq4:=u1 _ _ eq1
    generalize upd H3 l1 (.lst [V.int (97 + c % 4),V.int (97 + c / 4 % 2),V.int (97 + c / 8 % 3)]) = H4 at u1 fX sm4 htx4 eq4 ⊢
    refine ⟨tx,l1,_,_,rfl,rfl,htx4,fX,(by show (ts.map V.int).length + (ext.map V.int).length ≤ sizeLine; rw [List.length_map,List.length_map]; show ts.length + ext.length ≤ 16777216; trivial),fun lN hN => ?_⟩
    have uN:=same_new hN (.lst (ts.map V.int ++ ext.map V.int))
    have eN:upd H4 lN (.lst (ts.map V.int ++ ext.map V.int)) lN = some (lsI (ts ++ ext)):=by rw [upd_same]; unfold lsI; rw [List.map_append]
    refine ⟨_,rfl,rfl,_,rfl,?_⟩
    rw [decide_eq_false (by decide)]
    refine iteF ?_
    refine ⟨_,lN,ts ++ ext,rfl,eN,sm4.free hN,(ne_of_none eq4 hN).symm,fun x hx => ?_,by rw [List.length_append]; trivial,uN _ _ eq4,sm4.trans uN⟩
    rcases List.mem_append.mp hx with h | h
    ·exact htb x h
    ·exact hext x h
   ·refine ⟨_,rfl,_,_,rfl,rfl,_,rfl,?_⟩
    rw [decide_eq_false (by decide)]
    refine iteF ?_
    refine ⟨_,rfl,rfl,_,rfl,?_⟩
    rw [decide_eq_false (by decide)]
    refine iteF ?_
    refine ⟨_,rfl,rfl,_,rfl,?_⟩
    rw [decide_eq_false (by decide)]
    refine iteF ?_
    refine ⟨_,rfl,rfl,_,rfl,?_⟩
    rw [decide_eq_false (by decide)]
    refine iteF ?_
    refine ⟨_,rfl,rfl,_,rfl,?_⟩
    rw [decide_eq_true rfl]
    refine iteT ?_
    refine ⟨_,rfl,_,rfl,_,rfl,tx,_,rfl,.inl (SqL.of htx),_,_,rfl,rfl,⟨by decide,by decide⟩,_,rfl,tx,_,rfl,SqL.of htx,fun l1 hl1 => ?_⟩
    rw [show cutV (ts.map V.int) (some ((((ts.map V.int).length:Nat):Int) / 2)) none = (ts.drop (ts.length / 2)).map V.int by rw [List.length_map]; exact cut_from ts (ts.length / 2)]
    have hd2:(ts.drop (ts.length / 2)).length ≤ ts.length:=by rw [List.length_drop]; trivial
    have hdb:∀ x ∈ ts.drop (ts.length / 2),0 ≤ x∧x ≤ 255:=fun x hx => htb x (List.mem_of_mem_drop hx)
    generalize ts.drop (ts.length / 2) = us at hd2 hdb
    have u1:=same_new hl1 (.lst (us.map V.int))
    have f1:upd H3 l1 (.lst (us.map V.int)) l1 = some (lsI us):=upd_same
    have sm1:=sm.trans u1
    have htx1:=u1 _ _ htx
    have eq2:=u1 _ _ eq1
    generalize upd H3 l1 (.lst (us.map V.int)) = H5 at u1 f1 sm1 htx1 eq2 ⊢
    refine ⟨_,rfl,l1,_,rfl,SqL.of f1,fun l2 hl2 => ?_⟩
    rw [show cutV (us.map V.int) none (some 5) = (us.take 5).map V.int from cut_to (α:=Int) us 5]
    have hw5:(us.take 5).length ≤ 5:=by rw [List.length_take]; trivial
    have hwb:∀ x ∈ us.take 5,0 ≤ x∧x ≤ 255:=fun x hx => hdb x (List.mem_of_mem_take hx)
    generalize us.take 5 = ws at hw5 hwb
    have u2':=same_new hl2 (.lst (ws.map V.int))
    have f2:upd H5 l2 (.lst (ws.map V.int)) l2 = some (lsI ws):=upd_same
    have sm2:=sm1.trans u2'
    have htx2:=u2' _ _ htx1
    have eq3:=u2' _ _ eq2
    generalize upd H5 l2 (.lst (ws.map V.int)) = H6 at u2' f2 sm2 htx2 eq3 ⊢
    refine ⟨tx,l2,_,_,rfl,rfl,htx2,f2,(by show (ts.map V.int).length + (ws.map V.int).length ≤ sizeLine; rw [List.length_map,List.length_map]; show ts.length + ws.length ≤ 16777216; trivial),fun l3 hl3 => ?_⟩
    have u3:=same_new hl3 (.lst (ts.map V.int ++ ws.map V.int))
    have f3:upd H6 l3 (.lst (ts.map V.int ++ ws.map V.int)) l3 = some (lsI (ts ++ ws)):=by rw [upd_same]; unfold lsI; rw [List.map_append]
    have sm3:=sm2.trans u3
    have eq5:=u3 _ _ eq3
    generalize upd H6 l3 (.lst (ts.map V.int ++ ws.map V.int)) = H7 at u3 f3 sm3 eq5 ⊢
    refine ⟨_,rfl,_,_,rfl,rfl,(by show (0:Int) < 5; decide),_,_,rfl,rfl,(by show 1 ≤ sizeLine; decide),fun l4 hl4 => ?_⟩
    have u4:=same_new hl4 (.lst [V.int (97 + c % 5)])
    have f4:upd H7 l4 (.lst [V.int (97 + c % 5)]) l4 = some (lsI [97 + c % 5]):=upd_same
    have f34:=u4 _ _ f3
    have sm4:=sm3.trans u4
    have eq4:=u4 _ _ eq5
    generalize upd H7 l4 (.lst [V.int (97 + c % 5)]) = H4 at u4 f4 f34 sm4 eq4 ⊢
    refine ⟨l3,l4,_,_,rfl,rfl,f34,f4,(by show ((ts ++ ws).map V.int).length + 1 ≤ sizeLine; rw [List.length_map,List.length_append]; show ts.length + ws.length + 1 ≤ 16777216; trivial),fun lN hN => ?_⟩
    have uN:=same_new hN (.lst ((ts ++ ws).map V.int ++ ([97 + c % 5]:List Int).map V.int))
    have eN:upd H4 lN (.lst ((ts ++ ws).map V.int ++ ([97 + c % 5]:List Int).map V.int)) lN = some (lsI (ts ++ ws ++ [97 + c % 5])):=by rw [upd_same]; unfold lsI; rw [List.map_append (l₁:=ts ++ ws)]
    refine ⟨_,lN,ts ++ ws ++ [97 + c % 5],rfl,eN,sm4.free hN,(ne_of_none eq4 hN).symm,fun x hx => ?_,by rw [List.length_append,List.length_append,List.length_singleton]; trivial,uN _ _ eq4,sm4.trans uN⟩
    rcases List.mem_append.mp hx with h | h
    ·rcases List.mem_append.mp h with h | h
     ·exact htb x h
     ·exact hwb x h
    ·have:x = 97 + c % 5:=by simpa using h
     trivial
end
end K28
set_option Elab.async false
set_option linter.all false
set_option maxRecDepth 100000
set_option maxHeartbeats 4000000
namespace K28
open PySem L2 PySem.W PH
section
variable {P:Program} {w:World} {K:PySem.W.Frag} {mg:Str -> Option Value} {base:Heap}
theorem sc_lturned:FnScope ["text", "n", "order", "row", "hole", "at", "place"] ["text"] (defScope s_lturned):=⟨rfl, rfl, rfl, by decide +kernel, rfl, by decide +kernel, by decide +kernel⟩
theorem ok_lturned {f:Addr} {fd:FuncData} (F:Fun K "_law_turned" "_law_turned" s_lturned f fd) (B:Bls mg):FnOk P w K mg base (CXW P w) 1 f fd ["text"] (spLTurned K):=by
 refine F.okN sc_lturned (fun vs H Q E h => ?_) (fun cdv A outer s H vs Q E hr h => ?_)
 ·obtain ⟨a,t,rfl,_⟩:=h
  rfl
 ·obtain ⟨a,t,rfl,hS,h5,hQ⟩:=h
  refine ⟨_,(pss_cons (ps_set (i:=1) sc_lturned.nd rfl (Or.inl rfl) (pe_callB call_len_seq rfl B.len PySem.boot_len (pa_cons (pv 0) pa_nil)))
   (pss_cons (ps_set (i:=2) sc_lturned.nd rfl (Or.inl rfl) (pe_callB (call_sortedLI (units_of hr)) rfl B.sorted boot_sorted' (pa_cons (pe_comp (N:=["k", "text"]) (js:=[none, some 0]) (g:=(gName 0)) (tc:=tTrue) (te:=(tTup (tCons (tSl (rSlL K) (tVar 1) (tPart (tVar 0)) tNoPart) (tCons (tVar 0) tNil)))) rfl (comp_scope (osc:=defScope s_lturned) (XN:=["text", "n", "order", "row", "hole", "at", "place"]) rfl rfl rfl (by decide +kernel)) (pi_range1 rfl B.range (pa_cons (pe_op op_add (pv 1) pe_int) pa_nil)) (fun _ _ _ _ => pg_name (i:=0) (show (["k", "text"]:List Str).Nodup by decide +kernel) rfl (Or.inl rfl)) (fun _ _ _ _ => pif_nil) (fun _ _ _ _ => (pe_tup (pa_cons (pe_slice sl_list (pv 1) (po_some (pv 0)) po_none) (pa_cons (pv 0) pa_nil))))) pa_nil)))
   (pss_cons (ps_set (i:=3) sc_lturned.nd rfl (Or.inl rfl) (pe_lst pa_nil))
   (pss_cons (ps_set (i:=4) sc_lturned.nd rfl (Or.inl rfl) pe_int)
   (pss_cons (ps_for PassesOwn.never rfl (pi_range1 rfl B.range (pa_cons (pe_op op_add (pv 1) pe_int) pa_nil)) (pg_name (i:=5) sc_lturned.nd rfl (Or.inl rfl))
    (pss_cons (ps_set (i:=6) sc_lturned.nd rfl (Or.inl rfl) (pe_ix ix_tup (pe_ix ix_list (pv 2) (pv 5) (fun _ _ => rfl)) pe_int (fun _ _ => rfl)))
    (pss_one (ps_if (pt_cmpR op_eq (pv 6) pe_int (nomark _))
     (pss_one (ps_set (i:=4) sc_lturned.nd rfl (Or.inl rfl) (pv 5)))
     (pss_one (ps_expr (pe_bm PySem.F.plainAttrs_list PySem.F.slot_list_append PySem.F.type_list_append mt_append (pv 3) (pa_cons (pe_ix ix_list (pv 0) (pe_op op_sub (pv 6) pe_int) (fun _ _ => rfl)) pa_nil))))))))
   (pss_one (ps_ret (pe_tup (pa_cons (pv 3) (pa_cons (pv 4) pa_nil)))))))))),?_⟩
  have hel:=ends_len t
  have hbl:=len_lsI t
  refine ⟨_,rfl,a,_,rfl,.inl hS,?_⟩
  refine gNm (v':=V.int (t.length:Int)) (by rw [List.length_map]) ?_
  refine ⟨_,rfl,_,_,rfl,rfl,((t.length + 1:Nat):Int),rfl,by trivial,by trivial,fun D hD => ?_⟩
  rw [Int.toNat_natCast]
  refine comp_rngQ (fun j σ' H' => ∃ (x:Option V) (zs:List Zli),σ' = [x,some (.ref a)]∧H' D = some (.lst (zs.map fun z => V.ref z.1))∧zs.map (·.2.2) = (List.range j).map (fun k => (t.drop k,(k:Int)))∧(∀ z ∈ zs,H' z.1 = some (.tup [.ref z.2.1,.int z.2.2.2])∧H' z.2.1 = some (lsI z.2.2.1)∧z.2.1 ≠ D)∧Same H H')
   ⟨none,[],rfl,upd_same,rfl,(fun _ z => by cases z),same_new hD _⟩ ?_ ?_
  ·rintro j σ' H' hj ⟨x,zs,rfl,hD',hz,hzs,sm⟩
   rw [Int.zero_add]
   have hzl:zs.length = j:=by
    have:=congrArg List.length hz
    rw [List.length_map,List.length_map,List.length_range] at this
    exact this
   refine nameT ?_
   refine ⟨_,rfl,_,rfl,_,rfl,a,_,rfl,sm.seq hS,fun q hq => ?_⟩
   rw [show cutV (t.map V.int) (some (j:Int)) none = (t.drop j).map V.int from cut_from t j]
   have u:=same_new hq (.lst ((t.drop j).map V.int))
   have eq:upd H' q (.lst ((t.drop j).map V.int)) q = some (lsI (t.drop j)):=upd_same
   have nqD:q ≠ D:=(ne_of_none hD' hq).symm
   have sm1:=sm.trans u
   generalize upd H' q (.lst ((t.drop j).map V.int)) = H2 at u eq sm1 ⊢
   refine ⟨_,rfl,(by show 2 ≤ sizeLine; decide),fun q2 hq2 => ?_⟩
   have u2:=same_new hq2 (.tup [.ref q,.int (j:Int)])
   have hD3:=u2 _ _ (u _ _ hD')
   have nq2D:q2 ≠ D:=(ne_of_none (u _ _ hD') hq2).symm
   have eq2:upd H2 q2 (.tup [.ref q,.int (j:Int)]) q2 = some (.tup [.ref q,.int (j:Int)]):=upd_same
   have u12:=u.trans u2
   have eq3:=u2 _ _ eq
   have sm2:=sm1.trans u2
   generalize upd H2 q2 (.tup [.ref q,.int (j:Int)]) = H3 at u2 hD3 eq2 u12 eq3 sm2 ⊢
   refine ⟨D,_,_,rfl,rfl,hD3,fits_lt (by rw [List.length_map]; trivial),?_⟩
   refine CW.next hj ⟨_,zs ++ [(q2,q,t.drop j,(j:Int))],rfl,by rw [upd_same,List.map_append]; rfl,by rw [List.map_append,hz,List.range_succ,List.map_append]; rfl,fun z hm => ?_,same_upd sm2 _ hD⟩
   rcases List.mem_append.mp hm with hm | hm
   ·obtain ⟨h1,h2,h3⟩:=hzs z hm
    exact ⟨by rw [upd_ne (ne_of h1 hD' (by intro z; cases z))]; exact u12 _ _ h1,by rw [upd_ne h3]; exact u12 _ _ h2,h3⟩
   ·have:z = (q2,q,t.drop j,(j:Int)):=by simpa using hm
    rw [this]
    exact ⟨by rw [upd_ne nq2D]; exact eq2,by rw [upd_ne nqD]; exact eq3,nqD⟩
  rintro σ' H1 ⟨x,zs,rfl,hD1,hz,hzs,s1⟩
  have hone:∀ z ∈ zs,∀ y ∈ zs,z.2.2.1 = y.2.2.1 -> z.2.2.2 = y.2.2.2:=fun z hm y hn e => by
   have h1:z.2.2 ∈ zs.map (·.2.2):=List.mem_map.mpr ⟨z,hm,rfl⟩
   have h2:y.2.2 ∈ zs.map (·.2.2):=List.mem_map.mpr ⟨y,hn,rfl⟩
   rw [hz] at h1 h2
   obtain ⟨k1,hk1,e1⟩:=List.mem_map.mp h1
   obtain ⟨k2,hk2,e2⟩:=List.mem_map.mp h2
   have hk1:=List.mem_range.mp hk1
   have hk2:=List.mem_range.mp hk2
   rw [← e1,← e2] at e
   have:=congrArg List.length e
   simp only [List.length_drop] at this
   rw [← e1,← e2]
   show (k1:Int) = (k2:Int)
   trivial
  refine ⟨D,zs,rfl,SqL.of hD1,(fun z hm => SqT.of (hzs z hm).1),(fun z hm => SqL.of (hzs z hm).2.1),hone,fun ys q hp hs hq => ?_⟩
  have hys:ys.map (·.2.2.2) = endsOf t:=by
   have:=ends_of_pairs (t:=t) (ps:=ys.map (·.2.2)) rfl (by
    refine (hp.map _).trans (.of_eq ?_)
    rw [hz]
    unfold rgI
    rw [List.zip_map']) (by rw [List.map_map]; exact hs)
   rw [List.map_map] at this
   exact this
  have hyl:ys.length = t.length + 1:=by
   have:=congrArg List.length hys
   rw [List.length_map,hel] at this
   exact this
  have u2:=same_new hq (.lst (ys.map fun z => V.ref z.1))
  have e2:upd H1 q (.lst (ys.map fun z => V.ref z.1)) q = some (.lst (ys.map fun z => V.ref z.1)):=upd_same
  have s2:=s1.trans u2
  have hy2:∀ z ∈ ys,upd H1 q (.lst (ys.map fun z => V.ref z.1)) z.1 = some (.tup [.ref z.2.1,.int z.2.2.2]):=fun z hm => u2 _ _ (hzs z (hp.mem_iff.mp hm)).1
  generalize upd H1 q (.lst (ys.map fun z => V.ref z.1)) = H2 at u2 e2 s2 hy2 ⊢
  refine ⟨(by show 0 ≤ sizeLine; decide),fun R hR => ?_⟩
  have u3:=same_new hR (.lst [])
  have eR:upd H2 R (.lst []) R = some (lsI []):=upd_same
  have e23:=u3 _ _ e2
  have s3:=s2.trans u3
  have hy3:∀ z ∈ ys,upd H2 R (.lst []) z.1 = some (.tup [.ref z.2.1,.int z.2.2.2]):=fun z hm => u3 _ _ (hy2 z hm)
  have nqR:q ≠ R:=ne_of_none e2 hR
  have hRH:H R = none:=s2.free hR
  generalize upd H2 R (.lst []) = H3 at u3 eR e23 s3 hy3 ⊢
  have hrow:rowT t = rowE t ((endsOf t).take (endsOf t).length):=by unfold rowT; rw [List.take_length]
  have hhole:=hole_end t
  have hmm:∀ e ∈ endsOf t,0 ≤ e∧e ≤ t.length:=fun e he => ends_mem.mp he
  have hnd:=ends_nd t
  rw [hrow,← hhole] at hQ
  generalize endsOf t = es at hys hel hQ hmm hnd
  refine ⟨_,rfl,_,_,rfl,rfl,((t.length + 1:Nat):Int),rfl,by trivial,by trivial,?_⟩
  rw [Int.toNat_natCast]
  refine for_range (n:=t.length + 1) (fun i σ H' => ∃ (v5 v6:Option V),σ = [some (.ref a),some (.int (t.length:Int)),some (.ref q),some (.ref R),some (.int (holeAt es i)),v5,v6]∧H' R = some (lsI (rowE t (es.take i)))∧H' q = some (.lst (ys.map fun z => V.ref z.1))∧(∀ z ∈ ys,H' z.1 = some (.tup [.ref z.2.1,.int z.2.2.2]))∧Same H H')
   ⟨none,none,rfl,eR,e23,hy3,s3⟩ ?_ ?_
  ·rintro i σ H' hi ⟨v5,v6,rfl,hR',hq',hy',sm⟩
   rw [Int.zero_add]
   have hil:i < ys.length:=by trivial
   obtain ⟨z,hz'⟩:∃ z,ys[i]? = some z:=⟨_,List.getElem?_eq_getElem hil⟩
   obtain ⟨e,he⟩:∃ e,es[i]? = some e:=⟨_,List.getElem?_eq_getElem (by trivial)⟩
   have hze:z.2.2.2 = e:=by
    have h1:(ys.map (·.2.2.2))[i]? = some z.2.2.2:=by rw [List.getElem?_map,hz']; rfl
    rw [hys,he] at h1
    exact (Option.some.inj h1).symm
   have hzt:=hy' z (List.mem_of_getElem? hz')
   rw [hze] at hzt
   have hem:=hmm e (List.mem_of_getElem? he)
   have hix:atI (ys.map fun z => V.ref z.1) (i:Int) = some (.ref z.1):=atI_nat (by rw [List.getElem?_map,hz']; rfl)
   refine ⟨_,rfl,_,rfl,q,_,_,_,rfl,rfl,SqL.of hq',hix,z.1,_,_,_,rfl,rfl,SqT.of hzt,rfl,?_⟩
   refine ⟨_,rfl,rfl,_,rfl,?_⟩
   by_cases h0:e = 0
   ·subst h0
    refine iteT ?_
    refine ⟨_,rfl,?_⟩
    refine ⟨some (.int (i:Int)),some (.int 0),?_,?_,hq',hy',sm⟩
    ·rw [hole_zero hnd he]; rfl
    ·rw [rowE_take he,if_pos rfl]
     show _ = some (lsI (rowE t (es.take i) ++ []))
     rw [List.append_nil]; exact hR'
   ·rw [decide_eq_false (fun z => h0 (V.int.inj z))]
    refine iteF ?_
    obtain ⟨x,hx⟩:∃ x,t[(e - 1).toNat]? = some x:=⟨_,List.getElem?_eq_getElem (by trivial)⟩
    have hat:atI (t.map V.int) (e - 1) = some (.int x):=by
     have:=at_intE hx
     rw [Int.toNat_of_nonneg (by trivial)] at this
     exact this
    have hrl:=rowE_len t (es.take i)
    rw [List.length_take] at hrl
    refine ⟨_,rfl,.inl ⟨rfl,_,SqL.of hR'⟩,_,rfl,_,rfl,_,_,rfl,rfl,a,_,_,_,rfl,rfl,sm.seq hS,hat,R,_,_,rfl,rfl,hR',fits_lt (by rw [List.length_map]; trivial),?_⟩
    refine ⟨some (.int (i:Int)),some (.int e),?_,?_,by rw [upd_ne nqR]; exact hq',(fun z hm => by rw [upd_ne (ne_of (hy' z hm) hR' (by intro z; cases z))]; exact hy' z hm),same_upd sm _ hRH⟩
    ·rw [hole_step he h0]; rfl
    ·rw [rowE_take he,if_neg h0,hx,upd_same]
     exact congrArg some (lsI_app1 _ _)
  ·rintro σ H' ⟨v5,v6,rfl,hR',hq',hy',sm⟩
   rw [← hel] at hR' ⊢
   refine ⟨_,rfl,_,rfl,(by show 2 ≤ sizeLine; decide),fun T hT => ?_⟩
   have u:=same_new hT (.tup [V.ref R,V.int (holeAt es es.length)])
   exact hQ T R _ (sm.trans u) (sm.free hT) hRH upd_same (u _ _ hR')
end
end K28
set_option Elab.async false
set_option linter.all false
set_option maxRecDepth 100000
set_option maxHeartbeats 4000000
namespace K28
open PySem L2 PySem.W PH
section
variable {P:Program} {w:World} {K:PySem.W.Frag} {mg:Str -> Option Value} {base:Heap}
theorem sc_textof:FnScope ["row", "hole", "order", "text", "at", "sign"] ["row", "hole"] (defScope s_textof):=⟨rfl, rfl, rfl, by decide +kernel, rfl, by decide +kernel, by decide +kernel⟩
theorem ok_textof {f f_lturned:Addr} {fd d_lturned:FuncData} (F:Fun K "_law_text_of" "_law_text_of" s_textof f fd) (B:Bls mg) 
  (G_lturned:FnOk P w K mg base (CXW P w) 1 f_lturned d_lturned ["text"] (spLTurned K)) (b_lturned:Binds K d_lturned ["text"] []) (k_lturned:keepIn K (.ref f_lturned) = true) (m_lturned:mg "_law_turned" = some (.ref f_lturned)):FnOk P w K mg base (CXW P w) 2 f fd ["row", "hole"] (spTextOf28 K):=by
 refine F.okN sc_textof (fun vs H Q E h => ?_) (fun cdv A outer s H vs Q E hr h => ?_)
 ·obtain ⟨a,r,h,rfl,_⟩:=h
  rfl
 ·obtain ⟨a,r,h,rfl,hS,h100,hb,hQ,hN⟩:=h
  refine ⟨_,(pss_cons (ps_if (PW.pt (pw_or (pt_cmpR op_lt (pv 1) pe_int (nomark _)) (pw_or1 (pt_cmpR op_gt (pv 1) (pe_callB call_len_seq rfl B.len PySem.boot_len (pa_cons (pv 0) pa_nil)) (nomark _)))))
    (pss_one (ps_ret pe_non))
    pss_nil)
   (pss_cons (ps_set (i:=2) sc_textof.nd rfl (Or.inl rfl) (pe_callB call_sortedT rfl B.sorted boot_sorted' (pa_cons (pe_comp (N:=["k", "row", "hole"]) (js:=[none, some 0, some 1]) (g:=(gName 0)) (tc:=tTrue) (te:=(tTup (tCons (tOp (rIxL K) (tVar 1) (tVar 0)) (tCons (tOp (rI0 fun i j => .int (i + j)) (tVar 0) (tCB rInt1 (tCons (tOp (rI0 fun i j => .bl (decide (j ≤ i))) (tVar 0) (tVar 2)) tNil))) tNil)))) rfl (comp_scope (osc:=defScope s_textof) (XN:=["row", "hole", "order", "text", "at", "sign"]) rfl rfl rfl (by decide +kernel)) (pi_range1 rfl B.range (pa_cons (pe_callB call_len_seq rfl B.len PySem.boot_len (pa_cons (pv 0) pa_nil)) pa_nil)) (fun _ _ _ _ => pg_name (i:=0) (show (["k", "row", "hole"]:List Str).Nodup by decide +kernel) rfl (Or.inl rfl)) (fun _ _ _ _ => pif_nil) (fun _ _ _ _ => (pe_tup (pa_cons (pe_ix ix_list (pv 1) (pv 0) (fun _ _ => rfl)) (pa_cons (pe_op op_add (pv 0) (pe_callTy call_int1 rfl B.int boot_int' (pa_cons (pe_cmpR op_ge (pv 0) (pv 2) (nomark _)) pa_nil))) pa_nil))))) pa_nil)))
   (pss_cons (ps_set (i:=3) sc_textof.nd rfl (Or.inl rfl) (pe_lst pa_nil))
   (pss_cons (ps_set (i:=4) sc_textof.nd rfl (Or.inl rfl) pe_int)
   (pss_cons (ps_while PassesOwn.never (PW.pt (pw_and (pt_cmpR op_ne (pv 4) (pv 1) (nomark _)) (pw_and1 (pt_cmpR op_le (pe_callB call_len_seq rfl B.len PySem.boot_len (pa_cons (pv 3) pa_nil)) (pe_callB call_len_seq rfl B.len PySem.boot_len (pa_cons (pv 0) pa_nil)) (nomark _)))))
    (pss_cons (ps_set (i:=5) sc_textof.nd rfl (Or.inl rfl) (pe_ix ix_list (pv 0) (pe_op op_sub (pv 4) (pe_callTy call_int1 rfl B.int boot_int' (pa_cons (pe_cmpR op_gt (pv 4) (pv 1) (nomark _)) pa_nil))) (fun _ _ => rfl)))
    (pss_cons (ps_set (i:=3) sc_textof.nd rfl (Or.inl rfl) (pe_op op_cat (pe_lst (pa_cons (pv 5) pa_nil)) (pv 3)))
    (pss_one (ps_set (i:=4) sc_textof.nd rfl (Or.inl rfl) (pe_op op_add pe_int (pe_bm PySem.F.plainAttrs_list PySem.F.slot_list_index PySem.F.type_list_index mt_index (pe_comp (N:=["value", "place"]) (js:=[none, none]) (g:=(gTup K 2 (gCons (gName 0) (gCons (gName 1) gNil)))) (tc:=tTrue) (te:=(tVar 1)) rfl (comp_scope (osc:=defScope s_textof) (XN:=["row", "hole", "order", "text", "at", "sign"]) rfl rfl rfl (by decide +kernel)) (pi_list (pv 2)) (fun _ _ _ _ => pg_tup rfl (pgs_cons (pg_name (i:=0) (show (["value", "place"]:List Str).Nodup by decide +kernel) rfl (Or.inl rfl)) (pgs_cons (pg_name (i:=1) (show (["value", "place"]:List Str).Nodup by decide +kernel) rfl (Or.inl rfl)) pgs_nil))) (fun _ _ _ _ => pif_nil) (fun _ _ _ _ => (pv 1))) (pa_cons (pv 4) pa_nil))))))))
   (pss_cons (ps_if (PW.pt (pw_or (pt_cmpR op_ne (pe_callB call_len_seq rfl B.len PySem.boot_len (pa_cons (pv 3) pa_nil)) (pe_callB call_len_seq rfl B.len PySem.boot_len (pa_cons (pv 0) pa_nil)) (nomark _)) (pw_or1 (pt_cmpR (op_neD (units_of hr)) (pe_call G_lturned hr rfl m_lturned k_lturned b_lturned .nil passN (pa_cons (pv 3) pa_nil)) (pe_tup (pa_cons (pv 0) (pa_cons (pv 1) pa_nil))) (nomark _)))))
    (pss_one (ps_ret pe_non))
    pss_nil)
   (pss_one (ps_ret (pv 3))))))))),?_⟩
  have hor:¬ (0 ≤ h∧h ≤ (r.length:Int)) -> ¬ ∃ t,IsTx t r h:=fun z ⟨t,_,h1,h2⟩ => z (by
   have g1:=hole_le t
   have g2:=row_len t
   rw [h1] at g2
   rw [h2] at g1
   trivial)
  refine orOf (a:=decide (h < 0)) (b:=decide ((((r.map V.int).length:Nat):Int) < h)) (fun Q' q => ⟨_,rfl,_,_,rfl,rfl,_,rfl,q⟩) (fun Q' q => ⟨_,rfl,_,rfl,a,_,rfl,.inl hS,_,_,rfl,rfl,_,rfl,q⟩) ?_
  rw [List.length_map]
  refine ite2 (fun hc => ?_) (fun hc => ?_)
  ·have hc:h < 0 ∨ (r.length:Int) < h:=by
    rcases Bool.or_eq_true_iff.mp hc with z | z
    ·exact .inl (of_decide_eq_true z)
    ·exact .inr (of_decide_eq_true z)
   exact hN (hor fun z => by trivial) _ (Same.refl _)
  have hc:¬ h < 0∧¬ (r.length:Int) < h:=by
   rw [Bool.or_eq_true_iff] at hc
   exact ⟨fun z => hc (.inl (decide_eq_true z)),fun z => hc (.inr (decide_eq_true z))⟩
  clear hor
  obtain ⟨k,rfl⟩:∃ k:Nat,h = (k:Int):=⟨h.toNat,by trivial⟩
  have hk:k ≤ r.length:=by trivial
  unfold tNext
  dsimp only
  refine ⟨_,rfl,a,_,rfl,.inl hS,((r.length:Nat):Int),(by rw [List.length_map]),by trivial,by trivial,fun D hD => ?_⟩
  rw [Int.toNat_natCast]
  refine comp_rngQ (fun i σ' H' => ∃ (x:Option V) (zs:List (Addr × Int × Int)),σ' = [x,some (.ref a),some (.int (k:Int))]∧H' D = some (.lst (zs.map fun z => V.ref z.1))∧zs.map (·.2) = (List.range i).map (fun j => ((r[j]?).getD 0,gpl k j))∧(∀ z ∈ zs,H' z.1 = some (.tup [.int z.2.1,.int z.2.2]))∧Same H H')
   ⟨none,[],rfl,upd_same,rfl,(fun _ z => by cases z),same_new hD _⟩ ?_ ?_
  ·rintro i σ' H' hi ⟨x,zs,rfl,hD',hz,hzs,sm⟩
   rw [Int.zero_add]
   have hzl:zs.length = i:=by
    have:=congrArg List.length hz
    rw [List.length_map,List.length_map,List.length_range] at this
    exact this
   obtain ⟨y,hy⟩:∃ y,r[i]? = some y:=⟨_,List.getElem?_eq_getElem hi⟩
   refine nameT ?_
   refine ⟨_,rfl,_,rfl,a,_,(i:Int),_,rfl,rfl,sm.seq hS,at_intE hy,_,rfl,_,rfl,_,rfl,_,_,rfl,rfl,.inr ⟨_,rfl,_,_,rfl,rfl,(by show 2 ≤ sizeLine; decide),fun q2 hq2 => ?_⟩⟩
   have nq2D:q2 ≠ D:=(ne_of_none hD' hq2).symm
   refine ⟨D,_,_,rfl,rfl,(same_new hq2 _) _ _ hD',fits_lt (by rw [List.length_map]; trivial),?_⟩
   refine CW.next hi ⟨_,zs ++ [(q2,y,gpl k i)],rfl,by rw [upd_same,List.map_append]; rfl,by rw [List.map_append,hz,List.range_succ,List.map_append,List.map_singleton,List.map_singleton,hy]; rfl,fun z hm => ?_,same_upd (sm.trans (same_new hq2 _)) _ hD⟩
   rcases List.mem_append.mp hm with hm | hm
   ·have h1:=hzs z hm
    rw [upd_ne (ne_of h1 hD' (by intro z; cases z)),upd_ne (ne_of_none h1 hq2)]; exact h1
   ·have:z = (q2,y,gpl k i):=by simpa using hm
    rw [this,upd_ne nq2D]; exact upd_same
  rintro σ' H1 ⟨x,zs,rfl,hD1,hz,hzs,s1⟩
  refine ⟨D,zs,rfl,SqL.of hD1,(fun z hm => SqT.of (hzs z hm)),fun ys q hp hs hq => ?_⟩
  have hps:(ys.map (·.2)).Perm (pls r k):=(hp.map _).trans (.of_eq hz)
  have hsh:=sh_pls hk (fun z hz => (hb z hz).1) hps hs
  have hyl:ys.length = r.length:=by
   have:=congrArg List.length hsh
   rw [sh_len,col_len r hk,List.length_cons,List.length_map,List.length_map] at this
   trivial
  have u2:=same_new hq (.lst (ys.map fun z => V.ref z.1))
  have eq2:upd H1 q (.lst (ys.map fun z => V.ref z.1)) q = some (.lst (ys.map fun z => V.ref z.1)):=upd_same
  have hys:∀ z ∈ ys,upd H1 q (.lst (ys.map fun z => V.ref z.1)) z.1 = some (.tup [.int z.2.1,.int z.2.2]):=fun z hm => u2 _ _ (hzs z (hp.mem_iff.mp hm))
  have s2:=s1.trans u2
  generalize upd H1 q (.lst (ys.map fun z => V.ref z.1)) = H2 at u2 eq2 hys s2 ⊢
  have hLl:((ys.map (·.2)).map (·.2)).length = r.length:=by rw [List.length_map,List.length_map,hyl]
  have hLg:∀ (i:Nat) (z:Addr × Int × Int),ys[i]? = some z -> ((ys.map (·.2)).map (·.2))[i]? = some z.2.2:=fun i z e => by rw [List.getElem?_map,List.getElem?_map,e]; rfl
  generalize hL:(ys.map (·.2)).map (·.2) = L at hsh hLl hLg
  have hmem:∀ m:Nat,m ≤ r.length -> m ≠ k -> (m:Int) ∈ L:=fun m h1 h2 => by
   have:(m:Int) ∈ shOf (colOf r k):=sh_mem.mpr ⟨by trivial,by rw [col_len r hk]; trivial⟩
   rw [hsh] at this
   rcases List.mem_cons.mp this with z | z
   ·trivial
   ·exact z
  clear u2 hps hs hp hq hD1 hzs hz s1 hD hL
  refine ⟨(by show 0 ≤ sizeLine; decide),fun T0 hT0 => ?_⟩
  have u3:=same_new hT0 (.lst [])
  have eT:upd H2 T0 (.lst []) T0 = some (lsI []):=upd_same
  generalize upd H2 T0 (.lst []) = H3 at u3 eT ⊢
  refine ⟨fun m σ H' => ∃ (v5:Option V) (T:Addr) (tx:List Int) (at_:Nat),m = r.length + 1 - tx.length∧tx.length ≤ r.length + 1∧σ = [some (.ref a),some (.int (k:Int)),some (.ref q),some (.ref T),some (.int (at_:Int)),v5]∧at_ ≤ r.length∧H' T = some (lsI tx)∧(∀ x ∈ tx,x ∈ r)∧(∀ t,IsTx t r (k:Int) -> tx.length ≤ r.length∧tx = t.drop (r.length - tx.length)∧(endsOf t)[at_]? = some ((r.length - tx.length:Nat):Int))∧Same H2 H',
   ⟨_,none,T0,[],0,rfl,Nat.zero_le _,rfl,Nat.zero_le _,eT,(fun _ z => by cases z),fun t ht => ?_,u3⟩,?_⟩
  ·have e:=row_len t
   rw [ht.2.1] at e
   refine ⟨Nat.zero_le _,?_,?_⟩
   ·rw [List.length_nil,Nat.sub_zero,e,List.drop_of_length_le (Nat.le_refl _)]
   ·rw [List.length_nil,Nat.sub_zero,e]; exact ends_first t
  rintro m σ H4 ⟨v5,T,tx,at_,rfl,hl,rfl,hat,hT,hm,ht,sm⟩
  have sH:=s2.trans sm
  refine andOf (a:=!decide (V.int (at_:Int) = V.int (k:Int))) (b:=decide ((((tx.map V.int).length:Nat):Int) ≤ (((r.map V.int).length:Nat):Int))) (fun Q' q => ⟨_,rfl,_,rfl,rfl,_,rfl,q⟩) (fun Q' q => ⟨_,rfl,T,_,rfl,.inl (SqL.of hT),_,rfl,a,_,rfl,.inl (sH.seq hS),_,_,rfl,rfl,_,rfl,q⟩) ?_
  rw [List.length_map,List.length_map]
  refine ite2 (fun hc => ?_) (fun hc => ?_)
  ·have hc:at_ ≠ k∧tx.length ≤ r.length:=by
    have:=Bool.and_eq_true_iff.mp hc
    refine ⟨fun z => ?_,by have:=of_decide_eq_true this.2; trivial⟩
    rw [z,decide_eq_true rfl] at this
    cases this.1
   obtain ⟨nk,hl2⟩:=hc
   refine ⟨fun σ' H'' => ∃ m',m' < r.length + 1 - tx.length∧∃ (v5:Option V) (T:Addr) (tx:List Int) (at_:Nat),m' = r.length + 1 - tx.length∧tx.length ≤ r.length + 1∧σ' = [some (.ref a),some (.int (k:Int)),some (.ref q),some (.ref T),some (.int (at_:Int)),v5]∧at_ ≤ r.length∧H'' T = some (lsI tx)∧(∀ x ∈ tx,x ∈ r)∧(∀ t,IsTx t r (k:Int) -> tx.length ≤ r.length∧tx = t.drop (r.length - tx.length)∧(endsOf t)[at_]? = some ((r.length - tx.length:Nat):Int))∧Same H2 H'',fun σ' H'' z => z,?_⟩
   obtain ⟨y,hy⟩:∃ y,r[if (at_:Int) < (k:Int) then at_ else at_ - 1]? = some y:=⟨_,List.getElem?_eq_getElem (by split <;> trivial)⟩
   have hya:atI (r.map V.int) ((at_:Int) - (if decide ((k:Int) < (at_:Int)) = true then 1 else 0)) = some (.int y):=by
    have:=at_intE hy
    by_cases c:(at_:Int) < (k:Int)
    ·rw [if_pos c] at this
     rw [if_neg (by rw [decide_eq_false (by trivial)]; exact Bool.false_ne_true),Int.sub_zero]; exact this
    ·rw [if_neg c] at this
     rw [if_pos (decide_eq_true (by trivial)),show (at_:Int) - 1 = ((at_ - 1:Nat):Int) by trivial]; exact this
   refine ⟨_,rfl,_,rfl,_,rfl,_,rfl,_,_,rfl,rfl,.inr ⟨_,rfl,_,_,rfl,rfl,a,_,_,_,rfl,rfl,sH.seq hS,hya,?_⟩⟩
   refine ⟨_,rfl,(by show 1 ≤ sizeLine; decide),fun l1 hl1 => ?_⟩
   have u5:=same_new hl1 (.lst [V.int y])
   have f1:upd H4 l1 (.lst [V.int y]) l1 = some (lsI [y]):=upd_same
   have sm5:=sm.trans u5
   have hT5:=u5 _ _ hT
   generalize upd H4 l1 (.lst [V.int y]) = H5 at u5 f1 sm5 hT5 ⊢
   refine ⟨_,rfl,l1,T,_,_,rfl,rfl,f1,hT5,fits (by show ([y].map V.int).length + (tx.map V.int).length ≤ _; rw [List.length_map,List.length_map,List.length_singleton]; trivial),fun T2 hT2 => ?_⟩
   have u6:=same_new hT2 (.lst ([y].map V.int ++ tx.map V.int))
   have f2:upd H5 T2 (.lst ([y].map V.int ++ tx.map V.int)) T2 = some (lsI (y :: tx)):=upd_same
   have sm6:=sm5.trans u6
   generalize upd H5 T2 (.lst ([y].map V.int ++ tx.map V.int)) = H6 at u6 f2 sm6 ⊢
   refine ⟨_,rfl,q,rfl,⟨_,SqL.of (sm6 _ _ eq2)⟩,fun C hC => ?_⟩
   refine comp_lstQ (K:=K) (a:=q) (xs:=ys.map fun z => V.ref z.1) (fun i σ' H' => ∃ (x y:Option V),σ' = [x,y]∧H' C = some (lsI (L.take i))∧Same H6 H')
    ⟨none,none,rfl,upd_same,same_new hC _⟩ (fun i σ' H' _ ⟨_,_,_,_,e⟩ => SqL.of (e _ _ (sm6 _ _ eq2))) ?_ ?_
   ·rintro i v σ' H' hi ⟨x,y',rfl,hC',sm'⟩
    obtain ⟨z,hz,rfl⟩:=ref_at hi
    have hlt:i < (ys.map fun z => V.ref z.1).length:=(List.getElem?_eq_some_iff.mp hi).1
    have hil:i < ys.length:=(List.getElem?_eq_some_iff.mp hz).1
    refine ⟨z.1,_,rfl,SqT.of (sm' _ _ (sm6 _ _ (hys z (List.mem_of_getElem? hz)))),rfl,_,_,rfl,_,_,rfl,rfl,?_⟩
    refine ifT ?_
    refine ⟨_,rfl,C,_,_,rfl,rfl,hC',fits_lt (by rw [List.length_map,List.length_take]; trivial),?_⟩
    refine CW.next hlt ⟨_,_,rfl,?_,same_upd sm' _ hC⟩
    rw [upd_same,take_at (hLg i z hz)]
    exact congrArg some (lsI_app1 _ _)
   rintro σ' H7 ⟨x,y',rfl,hC7,s7⟩
   rw [List.length_map,hyl,← hLl,List.take_length] at hC7
   obtain ⟨pre,post,hLe,hpre⟩:=List.eq_append_cons_of_mem (hmem at_ hat nk)
   have hpl:pre.length < r.length:=by
    rw [← hLl,hLe,List.length_append,List.length_cons]; trivial
   have hLp:L[pre.length]? = some (at_:Int):=by rw [hLe,List.getElem?_append_right (Nat.le_refl _),Nat.sub_self]; rfl
   have hC8:H7 C = some (.lst ((pre ++ (at_:Int) :: post).map V.int)):=by rw [hC7,hLe]; rfl
   refine ⟨.inl ⟨rfl,_,SqL.of hC8⟩,_,rfl,C,pre,(at_:Int),post,rfl,rfl,SqL.of hC8,hpre,_,_,rfl,rfl,?_⟩
   refine ⟨r.length + 1 - (tx.length + 1),by trivial,some (.int y),T2,y :: tx,pre.length + 1,by rw [List.length_cons],by rw [List.length_cons]; trivial,?_,by trivial,s7 _ _ f2,?_,?_,sm6.trans s7⟩
   ·have:(1:Int) + ((pre.length:Nat):Int) = ((pre.length + 1:Nat):Int):=by trivial
    rw [← this]; rfl
   ·intro x hx
    rcases List.mem_cons.mp hx with h | h
    ·rw [h]; exact List.mem_of_getElem? hy
    ·exact hm x h
   ·intro t hti
    obtain ⟨g1,g2,g3⟩:=ht t hti
    obtain ⟨hb',hr',hh'⟩:=hti
    have e:=row_len t
    rw [hr'] at e
    have hlt:tx.length < r.length:=by
     rcases Nat.lt_or_ge tx.length r.length with z | z
     ·exact z
     ·exfalso
      rw [show r.length - tx.length = 0 by trivial] at g3
      have h0:=ends_hole t
      rw [hh',Int.toNat_natCast] at h0
      have nd:=ends_nd t
      obtain ⟨p1,p2⟩:=List.getElem?_eq_some_iff.mp g3
      obtain ⟨p3,p4⟩:=List.getElem?_eq_some_iff.mp h0
      have i1:=nd.idxOf_getElem _ p1
      have i2:=nd.idxOf_getElem _ p3
      rw [p2] at i1
      rw [p4] at i2
      exact nk (i1.symm.trans i2)
    have h0:(0:Int) < ((r.length - tx.length:Nat):Int):=by trivial
    obtain ⟨_,w2⟩:=sg_row g3 h0
    rw [hr',hh',hy] at w2
    have hy2:=Option.some.inj w2
    have em:r.length - tx.length = (r.length - (tx.length + 1)) + 1:=by trivial
    have hml:r.length - (tx.length + 1) < t.length:=by trivial
    rw [em,col_at hml] at hy2
    have w3:=step28 (fun x hx => (hb' x hx).1) (L:=L) (by rw [hr',hh',Int.toNat_natCast]; exact hsh) g3 h0 hLp
    refine ⟨by rw [List.length_cons]; trivial,?_,?_⟩
    ·rw [List.length_cons,List.drop_eq_getElem_cons hml,← hy2,← em,← g2]
    ·rw [w3,List.length_cons]
     congr 1
     trivial
  ·have hc:at_ = k ∨ r.length < tx.length:=by
    rcases Nat.lt_or_ge r.length tx.length with z | z
    ·exact .inr z
    ·left
     rw [decide_eq_true (show (tx.length:Int) ≤ (r.length:Int) by trivial),Bool.and_true] at hc
     rcases Decidable.em (at_ = k) with z2 | z2
     ·exact z2
     ·exact absurd (by rw [decide_eq_false (fun z3 => z2 (by have:=V.int.inj z3; trivial))]; rfl) hc
   refine ⟨_,rfl,T,_,rfl,.inl (SqL.of hT),_,rfl,a,_,rfl,.inl (sH.seq hS),rfl,_,rfl,?_⟩
   by_cases hle:tx.length = r.length
   rotate_left
   ·rw [decide_eq_false (show ¬ V.int (((tx.map V.int).length:Nat):Int) = V.int (((r.map V.int).length:Nat):Int) from fun z => hle (by have:=V.int.inj z; rw [List.length_map,List.length_map] at this; trivial))]
    refine iteT ?_
    refine iteT ?_
    refine hN (fun ⟨t,hti⟩ => ?_) _ sH
    obtain ⟨g1,g2,g3⟩:=ht t hti
    have w:=(sg_row g3 (by trivial)).1
    rw [hti.2.2] at w
    trivial
   rw [decide_eq_true (show V.int (((tx.map V.int).length:Nat):Int) = V.int (((r.map V.int).length:Nat):Int) by rw [List.length_map,List.length_map,hle])]
   refine iteF ?_
   refine ⟨_,rfl,T,tx,rfl,SqL.of hT,by trivial,fun T1 R1 H5 s5 hT1 hR1 eT1 eR1 => ?_⟩
   refine ⟨_,rfl,_,rfl,(by show 2 ≤ sizeLine; decide),fun T3 hT3 => ?_⟩
   have u3:=same_new hT3 (.tup [V.ref a,V.int (k:Int)])
   have e3:upd H5 T3 (.tup [V.ref a,V.int (k:Int)]) T3 = some (.tup [V.ref a,V.int (k:Int)]):=upd_same
   have eT3:=u3 _ _ eT1
   have eR3:=u3 _ _ eR1
   have sD:=(sH.trans s5).trans u3
   generalize upd H5 T3 (.tup [V.ref a,V.int (k:Int)]) = H6 at u3 e3 eT3 eR3 sD ⊢
   refine ⟨_,_,.tup (SqT.of eT3) (.cons (.lst (SqL.of eR3) (Deeps.ints _)) (.cons (.int _) .nil)),.tup (SqT.of e3) (.cons (.lst (sD.seq hS) (Deeps.ints _)) (.cons (.int _) .nil)),ht_pair _ _,_,rfl,?_⟩
   rw [eqD_tp]
   by_cases hTt:rowT tx = r∧holeT tx = (k:Int)
   rotate_left
   ·rw [decide_eq_false hTt]
    refine iteT ?_
    refine hN (fun ⟨t,hti⟩ => hTt ?_) _ sD
    obtain ⟨g1,g2,g3⟩:=ht t hti
    rw [show r.length - tx.length = 0 by trivial,List.drop_zero] at g2
    rw [g2]
    exact hti.2
   rw [decide_eq_true hTt]
   refine iteF ?_
   exact ⟨_,rfl,hQ tx ⟨fun x hx => hb x (hm x hx),hTt.1,hTt.2⟩ T _ sD⟩
end
end K28
set_option Elab.async false
set_option linter.all false
set_option maxRecDepth 100000
set_option maxHeartbeats 4000000
namespace K28
open PySem L2 PySem.W PH
section
variable {P:Program} {w:World} {K:PySem.W.Frag} {mg:Str -> Option Value} {base:Heap}
theorem sc_lkinds:FnScope ["row", "hole", "step", "kinds", "plain", "e"] ["row", "hole", "step"] (defScope s_lkinds):=⟨rfl, rfl, rfl, by decide +kernel, rfl, by decide +kernel, by decide +kernel⟩
theorem ok_lkinds {f c_Broken c_NoCode c_NoNumber c_NoPlace c_NoText c_PackError c_Ranked c_Sought c_T_turned_back f_inits:Addr} {fd d_inits:FuncData} (F:Fun K "_law_kinds" "_law_kinds" s_lkinds f fd) (B:Bls mg) (X_Broken:Ex K mg "Broken" c_Broken) (X_NoNumber:Ex K mg "NoNumber" c_NoNumber) (X_PackError:Ex K mg "PackError" c_PackError) (m_Broken:mg "Broken" = some (.ref c_Broken)) (m_NoCode:mg "NoCode" = some (.ref c_NoCode)) (m_NoNumber:mg "NoNumber" = some (.ref c_NoNumber)) (m_NoPlace:mg "NoPlace" = some (.ref c_NoPlace)) (m_NoText:mg "NoText" = some (.ref c_NoText)) (m_PackError:mg "PackError" = some (.ref c_PackError)) (xm_BK:PySem.W.mroIn K c_Broken (.ref c_PackError) = some true) (xv_BK:PySem.W.kitOne K (.ref c_Broken) (.type "ValueError") = some true) (x1_BK:PySem.W.kitOne K (.ref c_Broken) (.ref c_NoNumber) = some false) (x2_BK:PySem.W.kitOne K (.ref c_Broken) (.ref c_NoCode) = some false) (x3_BK:PySem.W.kitOne K (.ref c_Broken) (.ref c_NoPlace) = some false) (x4_BK:PySem.W.kitOne K (.ref c_Broken) (.ref c_NoText) = some false) (xm_NN:PySem.W.mroIn K c_NoNumber (.ref c_PackError) = some true) (xv_NN:PySem.W.kitOne K (.ref c_NoNumber) (.type "ValueError") = some true) (x1_NN:PySem.W.kitOne K (.ref c_NoNumber) (.ref c_Broken) = some false) (x2_NN:PySem.W.kitOne K (.ref c_NoNumber) (.ref c_NoCode) = some false) (x3_NN:PySem.W.kitOne K (.ref c_NoNumber) (.ref c_NoPlace) = some false) (x4_NN:PySem.W.kitOne K (.ref c_NoNumber) (.ref c_NoText) = some false) (TS:STxt K mg c_Sought) 
  (G_inits:FnOk P w K mg base (CXW P w) 9 f_inits d_inits ["self", "row", "hole", "step"] (spInitS K c_Sought c_Ranked c_Broken c_NoNumber c_T_turned_back ⟨72, 45, 72, 70⟩)) (b_inits:Binds K d_inits ["self", "row", "hole", "step"] []) (M_inits:Mk K c_Sought f_inits):FnOk P w K mg base (CXW P w) 11 f fd ["row", "hole", "step"] (spKinds28 K c_T_turned_back ⟨72, 45, 72, 70⟩):=by
 refine F.okN sc_lkinds (fun vs H Q E h => ?_) (fun cdv A outer s H vs Q E hr h => ?_)
 ·obtain ⟨a,r,h,st,rfl,_⟩:=h
  rfl
 ·obtain ⟨a,r,h,st,rfl,hS,h100,hb,hst,tb,hQ⟩:=h
  refine ⟨_,(pss_cons (ps_set (i:=3) sc_lkinds.nd rfl (Or.inr rfl) (pe_lst pa_nil))
   (pss_cons (ps_set (i:=4) sc_lkinds.nd rfl (Or.inl rfl) pe_bl)
   (pss_cons (ps_try (i:=5) (tb:=fun E' => tDrop (tMake c_Sought (spInitS K c_Sought c_Ranked c_Broken c_NoNumber c_T_turned_back ⟨72,45,72,70⟩) [] E' (tCons (tVar 0) (tCons (tVar 1) (tCons (tVar 2) tNil))))) rfl rfl sc_lkinds.nd rfl rfl rfl X_PackError.mg X_PackError.cl
    (fun pins σ xe' E' hp => psa_expr (pea_make M_inits G_inits (hr.mono (show 10 ≤ 10 by decide)) rfl TS.mgC b_inits .nil hp (pa_cons (pv 0) (pa_cons (pv 1) (pa_cons (pv 2) pa_nil)))))
    (fun a => (pss_cons (ps_set (i:=4) sc_lkinds.nd rfl (Or.inl rfl) (pe_callB (r:=rIsi K) call_isi rfl B.isi boot_isi (pa_cons (pv 5) (pa_cons (pe_bltn (v:=.ty "ValueError") rfl B.ve boot_VE rfl) pa_nil))))
   (pss_cons (ps_set (i:=3) sc_lkinds.nd rfl (Or.inr rfl) (pe_lst (pa_cons (pe_callB (r:=rIsi K) call_isi rfl B.isi boot_isi (pa_cons (pv 5) (pa_cons (pe_glob (v:=.ref c_Broken) rfl m_Broken rfl) pa_nil))) (pa_cons (pe_callB (r:=rIsi K) call_isi rfl B.isi boot_isi (pa_cons (pv 5) (pa_cons (pe_glob (v:=.ref c_NoNumber) rfl m_NoNumber rfl) pa_nil))) (pa_cons (pe_callB (r:=rIsi K) call_isi rfl B.isi boot_isi (pa_cons (pv 5) (pa_cons (pe_glob (v:=.ref c_NoCode) rfl m_NoCode rfl) pa_nil))) (pa_cons (pe_callB (r:=rIsi K) call_isi rfl B.isi boot_isi (pa_cons (pv 5) (pa_cons (pe_glob (v:=.ref c_NoPlace) rfl m_NoPlace rfl) pa_nil))) pa_nil))))))
   (pss_one (ps_expr (bmK (K:=K) (pe_bm PySem.F.plainAttrs_list PySem.F.slot_list_append PySem.F.type_list_append mt_append (pv 3) (pa_cons (pe_callB (r:=rIsi K) call_isi rfl B.isi boot_isi (pa_cons (pv 5) (pa_cons (pe_glob (v:=.ref c_NoText) rfl m_NoText rfl) pa_nil))) pa_nil)))))))))
   (pss_cons (ps_if (pt_not (pt_val (pv 4)))
    (pss_one (ps_ret (pe_lst (pa_cons (pe_un un_neg pe_int) pa_nil))))
    pss_nil)
   (pss_one (ps_ret (pe_comp (N:=["k", "kinds"]) (js:=[none, some 3]) (g:=(gName 0)) (tc:=(tB (tOp (rIxL K) (tVar 1) (tVar 0)))) (te:=(tVar 0)) rfl (comp_scope (osc:=defScope s_lkinds) (XN:=["row", "hole", "step", "kinds", "plain", "e"]) rfl rfl rfl (by decide +kernel)) (pi_range1 rfl B.range (pa_cons (pe_callB call_len_seq rfl B.len PySem.boot_len (pa_cons (pv 3) pa_nil)) pa_nil)) (fun _ _ _ _ => pg_name (i:=0) (show (["k", "kinds"]:List Str).Nodup by decide +kernel) rfl (Or.inl rfl)) (fun _ _ _ _ => (pif_one (pt_val (pe_ix ix_list (pv 1) (pv 0) (fun _ _ => rfl))))) (fun _ _ _ _ => (pv 0))))))))), ?_⟩
  refine ⟨(by show 0 ≤ sizeLine; decide),fun K0 hK0 => ?_⟩
  have s1:=same_new hK0 (.lst [])
  have eK:upd H K0 (.lst []) K0 = some (.lst (([]:List Bool).map V.bl)):=upd_same
  have tb1:=tb.same s1
  generalize upd H K0 (.lst []) = H1 at s1 eK tb1 ⊢
  dsimp only
  refine gNm (i:=4) (v:=V.bl true) (v':=V.bl true) rfl ?_
  dsimp only
  refine sqMid (fun σ' H' => ∃ (v5:Option V) (L:Addr) (bs:List Bool) (d:List Int),σ' = [some (.ref a),some (.int h),some (.int st),some (.ref L),some (.bl true),v5]∧H' L = some (.lst (bs.map V.bl))∧(bs = []∧d = [] ∨ bs = [true,false,false,false,false]∧d = [0] ∨ bs = [false,true,false,false,false]∧d = [1])∧due28 r h st d∧SameT c_T_turned_back ⟨72,45,72,70⟩ qnB H H') ?_ ?_
  ·rintro σ' H2 ⟨v5,L,bs,d,rfl,eL,hbd,hdu,s2⟩
   have hbl:bs.length ≤ 5:=by rcases hbd with h | h | h <;> rw [h.1] <;> decide
   have hdd:(((List.range bs.length).filter fun j => (bs[j]?).getD false).map fun j => ((j:Nat):Int)) = d:=by rcases hbd with h | h | h <;> rw [h.1,h.2] <;> decide
   refine ⟨_,rfl,true,rfl,?_⟩
   refine iteF ?_
   refine ⟨_,rfl,L,_,rfl,.inl (SqL.of eL),((bs.length:Nat):Int),(by rw [List.length_map]),by trivial,by trivial,fun D hD => ?_⟩
   rw [Int.toNat_natCast]
   refine comp_rngQ (fun i σ' H' => ∃ (x:Option V),σ' = [x,some (.ref L)]∧H' D = some (lsI (((List.range i).filter fun j => (bs[j]?).getD false).map fun j => ((j:Nat):Int)))∧Same H2 H')
    ⟨none,rfl,upd_same,same_new hD _⟩ ?_ ?_
   ·rintro i σ' H' hi ⟨x,rfl,hD',sm⟩
    rw [Int.zero_add]
    obtain ⟨b,hb'⟩:∃ b,bs[i]? = some b:=⟨_,List.getElem?_eq_getElem hi⟩
    have hfl:(((List.range i).filter fun j => (bs[j]?).getD false).map fun j => ((j:Nat):Int)).length ≤ i:=by rw [List.length_map]; exact Nat.le_trans (List.length_filter_le _ _) (by rw [List.length_range]; exact Nat.le_refl _)
    refine ⟨_,rfl,_,rfl,L,_,(i:Int),V.bl b,rfl,rfl,SqL.of (sm _ _ eL),atI_nat (by rw [List.getElem?_map,hb']; rfl),b,rfl,?_⟩
    refine ite2 (fun c => ?_) (fun c => ?_)
    ·refine ⟨_,rfl,D,_,_,rfl,rfl,hD',fits_lt (by rw [List.length_map]; trivial),?_⟩
     refine CW.next hi ⟨_,rfl,?_,same_upd sm _ hD⟩
     rw [upd_same,List.range_succ,List.filter_append,List.filter_cons,if_pos (by rw [hb']; exact c),List.map_append]
     exact congrArg some (lsI_app1 _ _)
    ·refine CW.next hi ⟨_,rfl,?_,sm⟩
     rw [List.range_succ,List.filter_append,List.filter_cons,if_neg (by rw [hb']; exact c),List.filter_nil,List.append_nil]
     exact hD'
   ·rintro σ' H' ⟨x,rfl,hD',sm⟩
    rw [hdd] at hD'
    exact hQ D d _ hdu (s2.free hD) hD' (s2.same sm)
  ·intro N hN
   refine ⟨_,rfl,_,rfl,_,rfl,fun p dx np ndp nex => ?_⟩
   have s2:Same H1 (upd (upd H1 dx (.own p)) p (.ins c_Sought dx [])):=fun b o e => by
    rw [upd_ne (ne_of_none e np),upd_ne (ne_of_none e ndp)]; exact e
   have epp:upd (upd H1 dx (.own p)) p (.ins c_Sought dx []) p = some (.ins c_Sought dx []):=upd_same
   have npH:∀ {b:Addr} {o:HO},H1 b = some o -> b ≠ p:=fun e => ne_of_none e np
   generalize upd (upd H1 dx (.own p)) p (.ins c_Sought dx []) = H2 at s2 epp ⊢
   have tb2:=tb1.same s2
   have sT:∀ {H':Hp},(∀ b o,H2 b = some o -> b ≠ p -> b ≠ c_T_turned_back -> H' b = some o) -> TB c_T_turned_back ⟨72,45,72,70⟩ qnB H' -> SameT c_T_turned_back ⟨72,45,72,70⟩ qnB H H':=fun k5 tc5 => ⟨fun b u nP e => k5 b u (s2 _ _ (s1 _ _ e)) (npH (s1 _ _ e)) nP,tc5⟩
   refine ⟨p,dx,a,r,h,st,rfl,epp,(s1.trans s2).seq hS,by trivial,hb,hst,tb2,(fun hz H3 k3 t3 => ?_),(fun hz h1 H3 k3 t3 => ?_),fun t ht h1 y H3 hkp hmk Z k3 t3 => ⟨rfl,?_⟩⟩
   ·have s3:=sT k3 t3
    refine ⟨c_Broken,rfl,X_Broken.cl,xm_BK,fun x hx => ?_⟩
    have s4:=s3.same (same_new hx (excO x c_Broken))
    have hxx:upd H3 x (excO x c_Broken) x = some (excO x c_Broken):=upd_same
    generalize upd H3 x (excO x c_Broken) = H4 at s4 hxx ⊢
    refine ⟨_,rfl,_,_,_,_,true,rfl,.exc X_Broken.cl hxx,rfl,xv_BK,?_⟩
    refine gNm (v':=V.bl true) rfl ?_
    dsimp only
    refine ⟨_,rfl,_,_,_,_,true,rfl,.exc X_Broken.cl hxx,rfl,kit_refl _ _,_,rfl,_,_,_,_,false,rfl,.exc X_Broken.cl hxx,rfl,x1_BK,_,rfl,_,_,_,_,false,rfl,.exc X_Broken.cl hxx,rfl,x2_BK,_,rfl,_,_,_,_,false,rfl,.exc X_Broken.cl hxx,rfl,x3_BK,(by show 4 ≤ sizeLine; decide),fun l1 hl1 => ?_⟩
    have u5:=same_new hl1 (.lst [V.bl true,.bl false,.bl false,.bl false])
    have e1:upd H4 l1 (.lst [V.bl true,.bl false,.bl false,.bl false]) l1 = some (.lst [V.bl true,.bl false,.bl false,.bl false]):=upd_same
    have hx5:=u5 _ _ hxx
    have hl1H:=s4.free hl1
    have s5:=s4.same u5
    generalize upd H4 l1 (.lst [V.bl true,.bl false,.bl false,.bl false]) = H5 at u5 e1 hx5 s5 ⊢
    refine ⟨_,rfl,.inl ⟨rfl,_,SqL.of e1⟩,_,rfl,_,_,_,_,false,rfl,.exc X_Broken.cl hx5,rfl,x4_BK,l1,_,_,rfl,rfl,e1,(by show 4 < sizeLine; decide),?_⟩
    have s6:=s5.upd tb (.lst ([V.bl true,.bl false,.bl false,.bl false] ++ [V.bl false])) hl1H (fun o v z => by rw [e1] at z; cases z)
    exact hN _ _ ⟨_,l1,[true,false,false,false,false],[0],rfl,upd_same,.inr (.inl ⟨rfl,rfl⟩),⟨fun _ => rfl,fun q _ => absurd q hz,fun q _ => absurd q hz⟩,s6⟩
   ·have s3:=sT k3 t3
    refine ⟨c_NoNumber,rfl,X_NoNumber.cl,xm_NN,fun x hx => ?_⟩
    have s4:=s3.same (same_new hx (excO x c_NoNumber))
    have hxx:upd H3 x (excO x c_NoNumber) x = some (excO x c_NoNumber):=upd_same
    generalize upd H3 x (excO x c_NoNumber) = H4 at s4 hxx ⊢
    refine ⟨_,rfl,_,_,_,_,true,rfl,.exc X_NoNumber.cl hxx,rfl,xv_NN,?_⟩
    refine gNm (v':=V.bl true) rfl ?_
    dsimp only
    refine ⟨_,rfl,_,_,_,_,false,rfl,.exc X_NoNumber.cl hxx,rfl,x1_NN,_,rfl,_,_,_,_,true,rfl,.exc X_NoNumber.cl hxx,rfl,kit_refl _ _,_,rfl,_,_,_,_,false,rfl,.exc X_NoNumber.cl hxx,rfl,x2_NN,_,rfl,_,_,_,_,false,rfl,.exc X_NoNumber.cl hxx,rfl,x3_NN,(by show 4 ≤ sizeLine; decide),fun l1 hl1 => ?_⟩
    have u5:=same_new hl1 (.lst [V.bl false,.bl true,.bl false,.bl false])
    have e1:upd H4 l1 (.lst [V.bl false,.bl true,.bl false,.bl false]) l1 = some (.lst [V.bl false,.bl true,.bl false,.bl false]):=upd_same
    have hx5:=u5 _ _ hxx
    have hl1H:=s4.free hl1
    have s5:=s4.same u5
    generalize upd H4 l1 (.lst [V.bl false,.bl true,.bl false,.bl false]) = H5 at u5 e1 hx5 s5 ⊢
    refine ⟨_,rfl,.inl ⟨rfl,_,SqL.of e1⟩,_,rfl,_,_,_,_,false,rfl,.exc X_NoNumber.cl hx5,rfl,x4_NN,l1,_,_,rfl,rfl,e1,(by show 4 < sizeLine; decide),?_⟩
    have s6:=s5.upd tb (.lst ([V.bl false,.bl true,.bl false,.bl false] ++ [V.bl false])) hl1H (fun o v z => by rw [e1] at z; cases z)
    exact hN _ _ ⟨_,l1,[false,true,false,false,false],[1],rfl,upd_same,.inr (.inr ⟨rfl,rfl⟩),⟨fun q => absurd hz q,fun _ _ => rfl,fun _ q => by trivial⟩,s6⟩
   ·have s3:=sT k3 t3
    have eK3:H3 K0 = some (.lst (([]:List Bool).map V.bl)):=k3 _ _ (s2 _ _ eK) (npH eK) (tb1.ne eK (by intro ps z; cases z))
    exact hN _ _ ⟨_,K0,[],[],rfl,eK3,.inl ⟨rfl,rfl⟩,⟨fun q => absurd ⟨t,ht⟩ q,fun _ q => by trivial,fun _ _ => rfl⟩,s3⟩
end
end K28
set_option Elab.async false
set_option linter.all false
set_option maxRecDepth 100000
set_option maxHeartbeats 4000000
namespace K28
open PySem L2 PySem.W PH
section
variable {P:Program} {w:World} {K:PySem.W.Frag} {mg:Str -> Option Value} {base:Heap}
theorem sc_changed:FnScope ["row", "hole", "cell", "way", "size", "i", "j"] ["row", "hole", "cell"] (defScope s_changed):=⟨rfl, rfl, rfl, by decide +kernel, rfl, by decide +kernel, by decide +kernel⟩
theorem ok_changed {f:Addr} {fd:FuncData} (F:Fun K "_law_changed" "_law_changed" s_changed f fd) (B:Bls mg):FnOk P w K mg base (CXW P w) 1 f fd ["row", "hole", "cell"] (spChanged K):=by
 refine F.okN sc_changed (fun vs H Q E h => ?_) (fun cdv A outer s H vs Q E hr h => ?_)
 ·obtain ⟨a,r,h,c,rfl,_⟩:=h
  rfl
 ·obtain ⟨a,r,h,c,rfl,hS,h60,hb,hQ⟩:=h
  refine ⟨_,(pss_cons (ps_set (i:=0) sc_changed.nd rfl (Or.inl rfl) (pe_callTy call_list_of rfl B.list boot_list' (pa_cons (pv 0) pa_nil)))
   (pss_cons (ps_set (i:=3) sc_changed.nd rfl (Or.inl rfl) (pe_op op_mod (pv 2) pe_int))
   (pss_cons (ps_set (i:=2) sc_changed.nd rfl (Or.inl rfl) (pe_op op_fdiv (pv 2) pe_int))
   (pss_cons (ps_set (i:=4) sc_changed.nd rfl (Or.inl rfl) (pe_callB call_len_seq rfl B.len PySem.boot_len (pa_cons (pv 0) pa_nil)))
   (pss_cons (ps_if (pt_cmpR op_eq (pv 3) pe_int (nomark _))
    (pss_one (ps_ret (pe_tup (pa_cons (pv 0) (pa_cons (pe_op op_sub (pe_op op_mod (pv 2) (pe_op op_add (pv 4) pe_int)) pe_int) pa_nil)))))
    pss_nil)
   (pss_cons (ps_if (PW.pt (pw_or (pt_cmpR op_lt (pv 4) pe_int (nomark _)) (pw_or1 (pt_cmpR op_eq (pv 3) pe_int (nomark _)))))
    (pss_one (ps_ret (pe_tup (pa_cons (pv 0) (pa_cons (pv 1) pa_nil)))))
    pss_nil)
   (pss_cons (ps_set (i:=5) sc_changed.nd rfl (Or.inl rfl) (pe_op op_mod (pv 2) (pv 4)))
   (pss_cons (ps_set (i:=6) sc_changed.nd rfl (Or.inl rfl) (pe_op op_mod (pe_op op_fdiv (pv 2) (pv 4)) (pv 4)))
   (pss_cons (ps_if (pt_cmpR op_eq (pv 3) pe_int (nomark _))
    (pss_one (ps_asg (pe_tup (pa_cons (pe_ix ix_list (pv 0) (pv 6) (fun _ _ => rfl)) (pa_cons (pe_ix ix_list (pv 0) (pv 5) (fun _ _ => rfl)) pa_nil))) (pg_tup rfl (pgs_cons (pg_sub (pv 0) (pv 5) set_list) (pgs_cons (pg_sub (pv 0) (pv 6) set_list) pgs_nil)))))
    pss_nil)
   (pss_cons (ps_if (pt_cmpR op_eq (pv 3) pe_int (nomark _))
    (pss_one (ps_asg (pe_op op_mod (pe_op op_add (pe_ix ix_list (pv 0) (pv 5) (fun _ _ => rfl)) pe_int) pe_int) (pg_sub (pv 0) (pv 5) set_list)))
    pss_nil)
   (pss_cons (ps_if (pt_cmpR op_eq (pv 3) pe_int (nomark _))
    (pss_one (ps_set (i:=0) sc_changed.nd rfl (Or.inl rfl) (pe_op op_cat (pe_slice sl_list (pv 0) po_none (po_some (pv 5))) (pe_slice sl_list (pv 0) (po_some (pe_op op_add (pv 5) pe_int)) po_none))))
    pss_nil)
   (pss_cons (ps_if (pt_cmpR op_eq (pv 3) pe_int (nomark _))
    (pss_one (ps_set (i:=0) sc_changed.nd rfl (Or.inl rfl) (pe_op op_cat (pe_op op_cat (pe_slice sl_list (pv 0) po_none (po_some (pv 5))) (pe_lst (pa_cons (pe_ix ix_list (pv 0) (pv 6) (fun _ _ => rfl)) pa_nil))) (pe_slice sl_list (pv 0) (po_some (pv 5)) po_none))))
    pss_nil)
   (pss_one (ps_ret (pe_tup (pa_cons (pv 0) (pa_cons (pv 1) pa_nil))))))))))))))))),?_⟩
  have fin:∀ (s:List Int) (h':Int) (H2:Hp) (D' T:Addr),H D' = none -> Same H H2 -> H2 D' = some (lsI s) -> s.length ≤ 61 -> (∀ z ∈ s,0 ≤ z∧z ≤ 255) -> H2 T = none -> Q (.ref T) (upd H2 T (.tup [.ref D',.int h'])):=fun s h' H2 D' T hD' s2 e2 l2 b2 hT =>
   hQ T D' s h' _ (s2.trans (same_new hT _)) (s2.free hT) hD' (ne_of_none e2 hT).symm upd_same (by rw [upd_ne (ne_of_none e2 hT)]; exact e2) l2 b2
  have hixn:∀ (n o:Nat),o < n -> ixN n (o:Int) = some o:=fun n o ho => ixN_nat ho
  refine ⟨_,rfl,a,_,rfl,.inl hS,fun D hD => ?_⟩
  have s1:=same_new hD (.lst (r.map V.int))
  have e1:upd H D (.lst (r.map V.int)) D = some (lsI r):=upd_same
  generalize upd H D (.lst (r.map V.int)) = H1 at s1 e1 ⊢
  refine ⟨_,rfl,_,_,rfl,rfl,(by show (0:Int) < 6; decide),?_⟩
  refine gNm (v':=V.int (c % 6)) rfl ?_
  refine ⟨_,rfl,_,_,rfl,rfl,⟨by decide,by decide⟩,?_⟩
  refine gNm (v':=V.int (c / 6)) rfl ?_
  refine ⟨_,rfl,D,_,rfl,.inl (SqL.of e1),?_⟩
  refine gNm (v':=V.int (r.length:Int)) (by rw [List.length_map]) ?_
  refine ⟨_,rfl,rfl,_,rfl,?_⟩
  refine ite2 (fun hc => ?_) (fun hc => ?_)
  ·refine ⟨_,rfl,_,rfl,_,rfl,_,_,rfl,rfl,_,_,rfl,rfl,(by show (0:Int) < (r.length:Int) + 3; trivial),_,_,rfl,rfl,(by show 2 ≤ sizeLine; decide),fun T hT => ?_⟩
   exact fin r _ _ D T hD s1 e1 (by trivial) hb hT
  unfold tNext
  dsimp only
  refine orOf (a:=decide ((r.length:Int) < 2)) (b:=decide (V.int (c % 6) = V.int 0)) (fun Q' q => ⟨_,rfl,_,_,rfl,rfl,_,rfl,q⟩) (fun Q' q => ⟨_,rfl,rfl,_,rfl,q⟩) ?_
  refine ite2 (fun hd => ?_) (fun hd => ?_)
  ·refine ⟨_,rfl,_,rfl,(by show 2 ≤ sizeLine; decide),fun T hT => ?_⟩
   exact fin r _ _ D T hD s1 e1 (by trivial) hb hT
  have h2:2 ≤ r.length:=by
   rcases Nat.lt_or_ge r.length 2 with z | z
   ·exact absurd (by rw [decide_eq_true (show (r.length:Int) < 2 by trivial)]; rfl) hd
   ·exact z
  have pick:∀ c:Int,∃ o:Nat,c % (r.length:Int) = (o:Int)∧o < r.length:=fun c => by
   have h1:=Int.emod_nonneg c (show (r.length:Int) ≠ 0 by trivial)
   have h2:=Int.emod_lt_of_pos c (show (0:Int) < (r.length:Int) by trivial)
   exact ⟨_,(Int.toNat_of_nonneg h1).symm,by trivial⟩
  obtain ⟨i,hi,hil⟩:=pick (c / 6)
  obtain ⟨j,hj,hjl⟩:=pick (c / 6 / (r.length:Int))
  have hn0:(0:Int) < (r.length:Int):=by trivial
  dsimp only
  refine ⟨_,rfl,_,rfl,_,_,rfl,rfl,hn0,?_⟩
  refine gNm (v':=V.int (i:Int)) (by rw [← hi]) ?_
  refine ⟨_,rfl,_,rfl,_,_,rfl,rfl,⟨hn0,by trivial⟩,_,rfl,_,_,rfl,rfl,hn0,?_⟩
  refine gNm (v':=V.int (j:Int)) (by rw [← hj]) ?_
  dsimp only
  refine sqMid (fun σ' H' => σ' = [some (.ref D),some (.int h),some (.int (c / 6)),some (.int (c % 6)),some (.int (r.length:Int)),some (.int (i:Int)),some (.int (j:Int))]∧∃ s:List Int,Same H H'∧H' D = some (lsI s)∧s.length = r.length∧(∀ z ∈ s,0 ≤ z∧z ≤ 255)) ?_ ?_
  rotate_left
  ·intro N hN
   refine ⟨_,rfl,rfl,_,rfl,?_⟩
   refine ite2 (fun hw => ?_) (fun hw => hN _ _ ⟨rfl,r,s1,e1,rfl,hb⟩)
   obtain ⟨x1,hx1⟩:∃ x,r[i]? = some x:=⟨_,List.getElem?_eq_getElem hil⟩
   obtain ⟨x2,hx2⟩:∃ x,r[j]? = some x:=⟨_,List.getElem?_eq_getElem hjl⟩
   refine ⟨_,rfl,_,rfl,D,_,(j:Int),_,rfl,rfl,SqL.of e1,at_intE hx2,_,rfl,_,rfl,D,_,(i:Int),_,rfl,rfl,SqL.of e1,at_intE hx1,(by show 2 ≤ sizeLine; decide),fun Tn hTn => ?_⟩
   have u6:=same_new hTn (.tup [V.int x2,V.int x1])
   have eTn:upd H1 Tn (.tup [V.int x2,V.int x1]) Tn = some (.tup [V.int x2,V.int x1]):=upd_same
   have sD:=s1.trans u6
   have eRD:=u6 _ _ e1
   generalize upd H1 Tn (.tup [V.int x2,V.int x1]) = H6 at u6 eTn sD eRD ⊢
   have e7:HO.lst (((r.map V.int).set i (V.int x2)).set j (V.int x1)) = lsI ((r.set i x2).set j x1):=by
    unfold lsI
    rw [List.map_set,List.map_set]
   refine ⟨Tn,_,rfl,SqT.of eTn,rfl,_,_,rfl,_,rfl,_,rfl,D,_,(i:Int),i,rfl,rfl,eRD,hixn _ _ (by rw [List.length_map]; exact hil),_,_,rfl,_,rfl,_,rfl,D,_,(j:Int),j,rfl,rfl,upd_same,hixn _ _ (by rw [List.length_set,List.length_map]; exact hjl),rfl,?_⟩
   rw [e7]
   refine hN _ _ ⟨rfl,(r.set i x2).set j x1,same_upd (same_upd sD _ hD) _ hD,upd_same,(by rw [List.length_set,List.length_set]),fun z hz => ?_⟩
   rcases List.mem_or_eq_of_mem_set hz with hz | hz
   ·rcases List.mem_or_eq_of_mem_set hz with hz | hz
    ·exact hb z hz
    ·rw [hz]; exact hb _ (List.mem_of_getElem? hx2)
   ·rw [hz]; exact hb _ (List.mem_of_getElem? hx1)
  rintro σ' H2 ⟨rfl,s,s2,e2,l2,b2⟩
  refine sqMid (fun σ' H' => σ' = [some (.ref D),some (.int h),some (.int (c / 6)),some (.int (c % 6)),some (.int (r.length:Int)),some (.int (i:Int)),some (.int (j:Int))]∧∃ s:List Int,Same H H'∧H' D = some (lsI s)∧s.length = r.length∧(∀ z ∈ s,0 ≤ z∧z ≤ 255)) ?_ ?_
  rotate_left
  ·intro N hN
   refine ⟨_,rfl,rfl,_,rfl,?_⟩
   refine ite2 (fun hw => ?_) (fun hw => hN _ _ ⟨rfl,s,s2,e2,l2,b2⟩)
   obtain ⟨x1,hx1⟩:∃ x,s[i]? = some x:=⟨_,List.getElem?_eq_getElem (by trivial)⟩
   refine ⟨_,rfl,_,rfl,D,_,(i:Int),_,rfl,rfl,SqL.of e2,at_intE hx1,_,_,rfl,rfl,_,_,rfl,rfl,(by show (0:Int) < 256; decide),_,rfl,_,rfl,D,_,(i:Int),i,rfl,rfl,e2,hixn _ _ (by rw [List.length_map]; trivial),?_⟩
   have e7:HO.lst ((s.map V.int).set i (V.int ((x1 + 1) % 256))) = lsI (s.set i ((x1 + 1) % 256)):=by
    unfold lsI
    rw [List.map_set]
   refine hN _ _ ⟨rfl,s.set i ((x1 + 1) % 256),same_upd s2 _ hD,(by rw [upd_same]; exact congrArg some e7),(by rw [List.length_set]; exact l2),fun z hz => ?_⟩
   rcases List.mem_or_eq_of_mem_set hz with hz | hz
   ·exact b2 z hz
   ·rw [hz]; trivial
  clear s1 e1 s2 e2 l2 b2
  rintro σ' H2 ⟨rfl,s,s2,e2,l2,b2⟩
  refine sqMid (fun σ' H' => ∃ D':Addr,σ' = [some (.ref D'),some (.int h),some (.int (c / 6)),some (.int (c % 6)),some (.int (r.length:Int)),some (.int (i:Int)),some (.int (j:Int))]∧H D' = none∧∃ s:List Int,Same H H'∧H' D' = some (lsI s)∧(s.length = r.length ∨ (s.length ≤ r.length∧c % 6 = 4))∧(∀ z ∈ s,0 ≤ z∧z ≤ 255)) ?_ ?_
  rotate_left
  ·intro N hN
   refine ⟨_,rfl,rfl,_,rfl,?_⟩
   refine ite2 (fun hw => ?_) (fun hw => hN _ _ ⟨D,rfl,hD,s,s2,e2,.inl l2,b2⟩)
   have hw4:c % 6 = 4:=V.int.inj (of_decide_eq_true hw)
   refine ⟨_,rfl,_,rfl,_,rfl,D,_,rfl,SqL.of e2,fun q1 hq1 => ?_⟩
   rw [cut_to (α:=Int) s i]
   have u1:=same_new hq1 (.lst ((s.take i).map V.int))
   have f1:upd H2 q1 (.lst ((s.take i).map V.int)) q1 = some (lsI (s.take i)):=upd_same
   have s3:=s2.trans u1
   have e3:=u1 _ _ e2
   generalize upd H2 q1 (.lst ((s.take i).map V.int)) = H3 at u1 f1 s3 e3 ⊢
   refine ⟨_,rfl,_,rfl,_,_,rfl,rfl,_,rfl,D,_,rfl,SqL.of e3,fun q2 hq2 => ?_⟩
   rw [show cutV (s.map V.int) (some ((i:Int) + 1)) none = (s.drop (i + 1)).map V.int from cut_from s (i + 1)]
   have u2:=same_new hq2 (.lst ((s.drop (i + 1)).map V.int))
   have f2:upd H3 q2 (.lst ((s.drop (i + 1)).map V.int)) q2 = some (lsI (s.drop (i + 1))):=upd_same
   have s4:=s3.trans u2
   have f12:=u2 _ _ f1
   generalize upd H3 q2 (.lst ((s.drop (i + 1)).map V.int)) = H4 at u2 f2 s4 f12 ⊢
   refine ⟨q1,q2,_,_,rfl,rfl,f12,f2,fits (by rw [List.length_map,List.length_map,List.length_take,List.length_drop]; trivial),fun q3 hq3 => ?_⟩
   refine hN _ _ ⟨q3,rfl,s4.free hq3,s.take i ++ s.drop (i + 1),s4.trans (same_new hq3 _),(by rw [upd_same,← List.map_append]; rfl),.inr ⟨by rw [List.length_append,List.length_take,List.length_drop]; trivial,hw4⟩,fun z hz => ?_⟩
   rcases List.mem_append.mp hz with hz | hz
   ·exact b2 z (List.mem_of_mem_take hz)
   ·exact b2 z (List.mem_of_mem_drop hz)
  clear hD s2 e2 l2 b2
  rintro σ' H2 ⟨D,rfl,hD,s,s2,e2,l2,b2⟩
  refine ⟨_,rfl,rfl,_,rfl,?_⟩
  refine ite2 (fun hw => ?_) (fun hw => ?_)
  rotate_left
  ·exact ⟨_,rfl,_,rfl,(by show 2 ≤ sizeLine; decide),fun T hT => fin s _ _ D T hD s2 e2 (by trivial) b2 hT⟩
  have hw5:c % 6 = 5:=V.int.inj (of_decide_eq_true hw)
  have l2:s.length = r.length:=by trivial
  refine ⟨_,rfl,_,rfl,_,rfl,D,_,rfl,SqL.of e2,fun q1 hq1 => ?_⟩
  rw [cut_to (α:=Int) s i]
  have u1:=same_new hq1 (.lst ((s.take i).map V.int))
  have f1:upd H2 q1 (.lst ((s.take i).map V.int)) q1 = some (lsI (s.take i)):=upd_same
  have s3:=s2.trans u1
  have e3:=u1 _ _ e2
  generalize upd H2 q1 (.lst ((s.take i).map V.int)) = H3 at u1 f1 s3 e3 ⊢
  obtain ⟨x1,hx1⟩:∃ x,s[j]? = some x:=⟨_,List.getElem?_eq_getElem (by trivial)⟩
  refine ⟨_,rfl,_,rfl,D,_,(j:Int),_,rfl,rfl,SqL.of e3,at_intE hx1,(by show 1 ≤ sizeLine; decide),fun q2 hq2 => ?_⟩
  have u2:=same_new hq2 (.lst [V.int x1])
  have f2:upd H3 q2 (.lst [V.int x1]) q2 = some (lsI [x1]):=upd_same
  have s4:=s3.trans u2
  have f12:=u2 _ _ f1
  have e4:=u2 _ _ e3
  generalize upd H3 q2 (.lst [V.int x1]) = H4 at u2 f2 s4 f12 e4 ⊢
  refine ⟨q1,q2,_,_,rfl,rfl,f12,f2,fits (by rw [List.length_map,List.length_map,List.length_take,List.length_singleton]; trivial),fun q3 hq3 => ?_⟩
  have u3:=same_new hq3 (.lst ((s.take i).map V.int ++ ([x1]:List Int).map V.int))
  have f3:upd H4 q3 (.lst ((s.take i).map V.int ++ ([x1]:List Int).map V.int)) q3 = some (lsI (s.take i ++ [x1])):=by rw [upd_same]; exact congrArg some (lsI_app1 _ _)
  have s5:=s4.trans u3
  have e5:=u3 _ _ e4
  generalize upd H4 q3 (.lst ((s.take i).map V.int ++ ([x1]:List Int).map V.int)) = H5 at u3 f3 s5 e5 ⊢
  refine ⟨_,rfl,_,rfl,_,rfl,D,_,rfl,SqL.of e5,fun q4 hq4 => ?_⟩
  rw [show cutV (s.map V.int) (some (i:Int)) none = (s.drop i).map V.int from cut_from s i]
  have u4:=same_new hq4 (.lst ((s.drop i).map V.int))
  have f4:upd H5 q4 (.lst ((s.drop i).map V.int)) q4 = some (lsI (s.drop i)):=upd_same
  have s6:=s5.trans u4
  have f34:=u4 _ _ f3
  generalize upd H5 q4 (.lst ((s.drop i).map V.int)) = H6 at u4 f4 s6 f34 ⊢
  refine ⟨q3,q4,_,_,rfl,rfl,f34,f4,fits (by rw [List.length_map,List.length_map,List.length_append,List.length_take,List.length_drop,List.length_singleton]; trivial),fun q5 hq5 => ?_⟩
  have u5:=same_new hq5 (.lst ((s.take i ++ [x1]).map V.int ++ (s.drop i).map V.int))
  have f5:upd H6 q5 (.lst ((s.take i ++ [x1]).map V.int ++ (s.drop i).map V.int)) q5 = some (lsI ((s.take i ++ [x1]) ++ s.drop i)):=by rw [upd_same,← List.map_append]; rfl
  have s7:=s6.trans u5
  have hq50:=s6.free hq5
  generalize upd H6 q5 (.lst ((s.take i ++ [x1]).map V.int ++ (s.drop i).map V.int)) = H7 at u5 f5 s7 ⊢
  refine ⟨_,rfl,_,rfl,(by show 2 ≤ sizeLine; decide),fun T hT => fin ((s.take i ++ [x1]) ++ s.drop i) _ _ q5 T hq50 s7 f5 (by rw [List.length_append,List.length_append,List.length_take,List.length_drop,List.length_singleton]; trivial) (fun z hz => ?_) hT⟩
  rcases List.mem_append.mp hz with hz | hz
  ·rcases List.mem_append.mp hz with hz | hz
   ·exact b2 z (List.mem_of_mem_take hz)
   ·have:z = x1:=by simpa using hz
    rw [this]; exact b2 _ (List.mem_of_getElem? hx1)
  ·exact b2 z (List.mem_of_mem_drop hz)
end
end K28
set_option Elab.async false
set_option linter.all false
set_option maxRecDepth 100000
set_option maxHeartbeats 4000000
namespace K28
open PySem L2 PySem.W PH
section
variable {P:Program} {w:World} {K:PySem.W.Frag} {mg:Str -> Option Value} {base:Heap}
theorem sc_law:FnScope ["script", "text", "row", "hole", "k", "cell", "some", "at", "handed", "due"] ["script"] (defScope s_law):=⟨rfl, rfl, rfl, by decide +kernel, rfl, by decide +kernel, by decide +kernel⟩
theorem ok_law {f c_T_turned_back f_cell f_text f_lturned f_textof f_lkinds f_changed:Addr} {fd d_cell d_text d_lturned d_textof d_lkinds d_changed:FuncData} (F:Fun K "law" "law" s_law f fd) (B:Bls mg) (hm_turned_back:c_T_turned_back ∈ ts) 
  (G_cell:FnOk P w K mg base (CXW P w) 1 f_cell d_cell ["script", "k"] (spCell K)) (b_cell:Binds K d_cell ["script", "k"] []) (k_cell:keepIn K (.ref f_cell) = true) (m_cell:mg "_law_cell" = some (.ref f_cell)) 
  (G_text:FnOk P w K mg base (CXW P w) 2 f_text d_text ["script", "start"] (spText45 K)) (b_text:Binds K d_text ["script", "start"] []) (k_text:keepIn K (.ref f_text) = true) (m_text:mg "_law_text" = some (.ref f_text)) 
  (G_lturned:FnOk P w K mg base (CXW P w) 1 f_lturned d_lturned ["text"] (spLTurned K)) (b_lturned:Binds K d_lturned ["text"] []) (k_lturned:keepIn K (.ref f_lturned) = true) (m_lturned:mg "_law_turned" = some (.ref f_lturned)) 
  (G_textof:FnOk P w K mg base (CXW P w) 2 f_textof d_textof ["row", "hole"] (spTextOf28 K)) (b_textof:Binds K d_textof ["row", "hole"] []) (k_textof:keepIn K (.ref f_textof) = true) (m_textof:mg "_law_text_of" = some (.ref f_textof)) 
  (G_lkinds:FnOk P w K mg base (CXW P w) 11 f_lkinds d_lkinds ["row", "hole", "step"] (spKinds28 K c_T_turned_back ⟨72, 45, 72, 70⟩)) (b_lkinds:Binds K d_lkinds ["row", "hole", "step"] []) (k_lkinds:keepIn K (.ref f_lkinds) = true) (m_lkinds:mg "_law_kinds" = some (.ref f_lkinds)) 
  (G_changed:FnOk P w K mg base (CXW P w) 1 f_changed d_changed ["row", "hole", "cell"] (spChanged K)) (b_changed:Binds K d_changed ["row", "hole", "cell"] []) (k_changed:keepIn K (.ref f_changed) = true) (m_changed:mg "_law_changed" = some (.ref f_changed)):FnOk P w K mg base (CXW P w) 12 f fd ["script"] (spLawT K ts):=by
 refine F.okN sc_law (fun vs H Q E h => ?_) (fun cdv A outer s H vs Q E hr h => ?_)
 ·obtain ⟨a,ns,rfl,_⟩:=h
  rfl
 ·obtain ⟨a,ns,rfl,hS,h63,hts,q⟩:=h
  refine ⟨_,(pss_cons (ps_set (i:=1) sc_law.nd rfl (Or.inl rfl) (pe_slice sl_list (pe_call G_text (hr.mono (show 2 ≤ 11 by decide)) rfl m_text k_text b_text .nil passN (pa_cons (pv 0) (pa_cons pe_int pa_nil))) po_none (po_some pe_int)))
   (pss_cons (ps_asg (pe_call G_lturned (hr.mono (show 1 ≤ 11 by decide)) rfl m_lturned k_lturned b_lturned .nil passN (pa_cons (pv 1) pa_nil)) (pg_tup rfl (pgs_cons (pg_name (i:=2) sc_law.nd rfl (Or.inl rfl)) (pgs_cons (pg_name (i:=3) sc_law.nd rfl (Or.inl rfl)) pgs_nil))))
   (pss_cons (ps_for PassesOwn.never rfl (pi_range2 rfl B.range (pa_cons pe_int (pa_cons (pe_callB (call_max2 rfl) rfl B.max boot_max' (pa_cons pe_int (pa_cons (pe_callB (call_min2 rfl) rfl B.min boot_min' (pa_cons (pe_callB call_len_seq rfl B.len PySem.boot_len (pa_cons (pv 0) pa_nil)) (pa_cons pe_int pa_nil))) pa_nil))) pa_nil))) (pg_name (i:=4) sc_law.nd rfl (Or.inl rfl))
    (pss_cons (ps_set (i:=5) sc_law.nd rfl (Or.inl rfl) (pe_call G_cell (hr.mono (show 1 ≤ 11 by decide)) rfl m_cell k_cell b_cell .nil passN (pa_cons (pv 0) (pa_cons (pv 4) pa_nil))))
    (pss_cons (ps_asg (pe_call G_changed (hr.mono (show 1 ≤ 11 by decide)) rfl m_changed k_changed b_changed .nil passN (pa_cons (pv 2) (pa_cons (pv 3) (pa_cons (pv 5) pa_nil)))) (pg_tup rfl (pgs_cons (pg_name (i:=6) sc_law.nd rfl (Or.inl rfl)) (pgs_cons (pg_name (i:=7) sc_law.nd rfl (Or.inl rfl)) pgs_nil))))
    (pss_cons (ps_set (i:=8) sc_law.nd rfl (Or.inl rfl) (pe_callTy call_list_of rfl B.list boot_list' (pa_cons (pv 6) pa_nil)))
    (pss_cons (ps_set (i:=9) sc_law.nd rfl (Or.inl rfl) (pe_lst pa_nil))
    (pss_cons (ps_if (pt_cmp (pc_isN (pe_call G_textof (hr.mono (show 2 ≤ 11 by decide)) rfl m_textof k_textof b_textof .nil passN (pa_cons (pv 6) (pa_cons (pv 7) pa_nil)))))
     (pss_one (ps_set (i:=9) sc_law.nd rfl (Or.inl rfl) (pe_lst (pa_cons pe_int pa_nil))))
     pss_nil)
    (pss_cons (ps_if (PW.pt (pw_or (pt_cmpR (op_neI (units_of hr)) (pe_call G_lkinds hr rfl m_lkinds k_lkinds b_lkinds .nil passN (pa_cons (pv 8) (pa_cons (pv 7) (pa_cons (pe_op op_add pe_int (pe_op op_mod (pv 5) pe_int)) pa_nil)))) (pv 9) (nomark _)) (pw_or1 (pt_cmpR (op_neI (units_of hr)) (pv 8) (pv 6) (nomark _)))))
     (pss_one (ps_ret pe_bl))
     pss_nil)
    (pss_one (ps_if (pt_cmpR (op_neI (units_of hr)) (pe_call G_lkinds hr rfl m_lkinds k_lkinds b_lkinds .nil passN (pa_cons (pv 8) (pa_cons (pv 7) (pa_cons (pe_op op_sub pe_int (pe_op op_mod (pv 5) pe_int)) pa_nil)))) (pe_slice sl_list (pe_op op_cat (pv 9) (pe_lst (pa_cons pe_int pa_nil))) po_none (po_some pe_int)) (nomark _))
     (pss_one (ps_ret pe_bl))
     pss_nil)))))))))
   (pss_one (ps_ret pe_bl))))),?_⟩
  have tc0:TB c_T_turned_back ⟨72,45,72,70⟩ qnB H:=.inl (hts _ hm_turned_back)
  refine ⟨_,rfl,a,ns,3,rfl,hS,h63,by decide,fun tx0 t0 H0 htn0 htx0 htb0 htl0 s0 => ?_⟩
  refine ⟨_,rfl,tx0,_,rfl,SqL.of htx0,fun tx hntx => ?_⟩
  rw [show cutV (t0.map V.int) none (some 60) = (t0.take 60).map V.int from cut_to (α:=Int) t0 60]
  have htb:∀ x ∈ t0.take 60,0 ≤ x∧x ≤ 255:=fun x hx => htb0 x (List.mem_of_mem_take hx)
  have htl:(t0.take 60).length ≤ 60:=by rw [List.length_take]; trivial
  have u1:=same_new hntx (.lst ((t0.take 60).map V.int))
  have htx:upd H0 tx (.lst ((t0.take 60).map V.int)) tx = some (lsI (t0.take 60)):=upd_same
  have s1:=s0.trans u1
  generalize upd H0 tx (.lst ((t0.take 60).map V.int)) = H1 at u1 htx s1 ⊢
  generalize t0.take 60 = t at htb htl htx
  refine ⟨_,rfl,tx,t,rfl,SqL.of htx,by trivial,fun T R H2 s2 hT hR eT eR => ?_⟩
  have hrl:=row_len t
  have hrb:∀ z ∈ rowT t,0 ≤ z∧z ≤ 255:=fun z hz => htb z (row_mem hz)
  refine ⟨T,_,rfl,SqT.of eT,rfl,_,_,rfl,_,_,rfl,rfl,?_⟩
  have s12:=s1.trans s2
  have sT2:SameT c_T_turned_back ⟨72,45,72,70⟩ qnB H H2:=SameT.of tc0 s12
  obtain ⟨m,hm,hm0,hm1⟩:∃ m:Int,(if (if (18:Int) < (((ns.map V.int).length:Nat):Int) then (18:Int) else (((ns.map V.int).length:Nat):Int)) > 4 then (if (18:Int) < (((ns.map V.int).length:Nat):Int) then (18:Int) else (((ns.map V.int).length:Nat):Int)) else (4:Int)) = m∧4 ≤ m∧m ≤ 18:=by
   rw [List.length_map]
   refine ⟨_,rfl,?_,?_⟩ <;> repeat' split <;> trivial
  refine ⟨_,rfl,a,_,rfl,.inl (s12.seq hS),_,_,rfl,_,_,rfl,3,m,(by rw [← hm]),⟨by trivial,by trivial,by trivial,by trivial⟩,?_⟩
  refine for_range (n:=(m - 3).toNat) (fun i σ H' => ∃ (v4 v5 v6 v7 v8 v9:Option V),σ = [some (.ref a),some (.ref tx),some (.ref R),some (.int (holeT t)),v4,v5,v6,v7,v8,v9]∧H' R = some (lsI (rowT t))∧SameT c_T_turned_back ⟨72,45,72,70⟩ qnB H H')
   ⟨none,none,none,none,none,none,rfl,eR,sT2⟩ ?_ ?_
  ·rintro i σ H3 hi ⟨v4,v5,v6,v7,v8,v9,rfl,eR3,sT3⟩
   have tc3:=sT3.tb
   refine ⟨_,rfl,_,rfl,a,ns,3 + (i:Int),rfl,sT3.seq tc0 hS,by trivial,by trivial,fun z => ?_⟩
   refine ⟨_,rfl,_,rfl,_,rfl,R,rowT t,holeT t,z,rfl,SqL.of eR3,by trivial,hrb,fun T4 D4 sg h' H4 s4 hT4 hD4 nTD eT4 eD4 l4 b4 => ?_⟩
   refine ⟨T4,_,rfl,SqT.of eT4,rfl,_,_,rfl,_,_,rfl,rfl,?_⟩
   refine ⟨_,rfl,D4,_,rfl,.inl (SqL.of eD4),fun hd hhd => ?_⟩
   have u5:=same_new hhd (.lst (sg.map V.int))
   have eh5:upd H4 hd (.lst (sg.map V.int)) hd = some (lsI sg):=upd_same
   have eD5:=u5 _ _ eD4
   have s35:=s4.trans u5
   generalize upd H4 hd (.lst (sg.map V.int)) = H5 at u5 eh5 eD5 s35 ⊢
   refine ⟨(by show 0 ≤ sizeLine; decide),fun du hdu => ?_⟩
   have u6:=same_new hdu (.lst [])
   have edu:upd H5 du (.lst []) du = some (lsI []):=upd_same
   have eh6:=u6 _ _ eh5
   have eD6:=u6 _ _ eD5
   have s36:=s35.trans u6
   generalize upd H5 du (.lst []) = H6 at u6 edu eh6 eD6 s36 ⊢
   dsimp only
   refine sqMid (fun σ' H' => ∃ (dv:Addr) (d0:List Int),σ' = [some (.ref a),some (.ref tx),some (.ref R),some (.int (holeT t)),some (.int (3 + (i:Int))),some (.int z),some (.ref D4),some (.int h'),some (.ref hd),some (.ref dv)]∧H' dv = some (lsI d0)∧((∃ t,IsTx t sg h')∧d0 = [] ∨ (¬ ∃ t,IsTx t sg h')∧d0 = [0])∧Same H6 H') ?_ ?_
   rotate_left
   ·intro N hN
    refine ⟨_,rfl,_,rfl,D4,sg,h',rfl,SqL.of eD6,by trivial,b4,(fun tt htt D' H7 s7 => ?_),fun hnn H7 s7 => ?_⟩
    ·refine ⟨false,rfl,?_⟩
     refine iteF ?_
     exact hN _ _ ⟨du,[],rfl,s7 _ _ edu,.inl ⟨⟨tt,htt⟩,rfl⟩,s7⟩
    ·refine ⟨true,rfl,?_⟩
     refine iteT ?_
     refine ⟨(by show 1 ≤ sizeLine; decide),fun dv hdv => ?_⟩
     exact hN _ _ ⟨dv,[0],rfl,upd_same,.inr ⟨hnn,rfl⟩,s7.trans (same_new hdv _)⟩
   rintro σ' H7 ⟨dv,d0,rfl,edv,hd0,s7⟩
   have eh7:=s7 _ _ eh6
   have eD7:=s7 _ _ eD6
   have s37:=s36.trans s7
   have tc7:=tc3.same s37
   refine ⟨_,rfl,_,rfl,_,rfl,_,_,rfl,rfl,(by show (0:Int) < 5; decide),_,_,rfl,rfl,hd,sg,h',1 + z % 5,rfl,SqL.of eh7,by trivial,b4,by trivial,tc7,fun K1 d1 H8 hd1 hK1 eK1 s8 => ?_⟩
   have edv8:=s8.g tc7 edv
   have eh8:=s8.g tc7 eh7
   have eD8:=s8.g tc7 eD7
   have tc8:=s8.tb
   have e10:d1 = d0:=by
    rcases hd0 with ⟨q1,q2⟩ | ⟨q1,q2⟩
    ·rw [q2]; exact hd1.2.2 q1 (by trivial)
    ·rw [q2]; exact hd1.1 q1
   subst e10
   refine ⟨_,rfl,K1,dv,_,_,rfl,rfl,SqL.of eK1,SqL.of edv8,_,rfl,?_⟩
   rw [decide_eq_true (Eq.refl d1)]
   refine iteF ?_
   refine ⟨_,rfl,_,rfl,hd,D4,_,_,rfl,rfl,SqL.of eh8,SqL.of eD8,_,rfl,?_⟩
   rw [decide_eq_true (Eq.refl sg)]
   refine iteF ?_
   refine ⟨_,rfl,_,rfl,_,rfl,_,_,rfl,rfl,(by show (0:Int) < 4; decide),_,_,rfl,rfl,hd,sg,h',0 - z % 4,rfl,SqL.of eh8,by trivial,b4,by trivial,tc8,fun K2 d2 H9 hd2 hK2 eK2 s9 => ?_⟩
   have edv9:=s9.g tc8 edv8
   have e20:d2 = (d1 ++ [1]).take 1:=by
    rcases hd0 with ⟨q1,q2⟩ | ⟨q1,q2⟩
    ·rw [q2]; exact hd2.2.1 q1 (by trivial)
    ·rw [q2]; exact hd2.1 q1
   have hdl:d1.length ≤ 1:=by rcases hd0 with ⟨_,q⟩ | ⟨_,q⟩ <;> rw [q] <;> decide
   refine ⟨_,rfl,(by show 1 ≤ sizeLine; decide),fun l1 hl1 => ?_⟩
   have ua:=same_new hl1 (.lst [V.int 1])
   have ea:upd H9 l1 (.lst [V.int 1]) l1 = some (lsI [1]):=upd_same
   have edva:=ua _ _ edv9
   have eK2a:=ua _ _ eK2
   generalize upd H9 l1 (.lst [V.int 1]) = Ha at ua ea edva eK2a ⊢
   refine ⟨dv,l1,_,_,rfl,rfl,edva,ea,fits (by rw [List.length_map,List.length_map,List.length_singleton]; trivial),fun l2 hl2 => ?_⟩
   have ub:=same_new hl2 (.lst (d1.map V.int ++ [(1:Int)].map V.int))
   have eb:upd Ha l2 (.lst (d1.map V.int ++ [(1:Int)].map V.int)) l2 = some (lsI (d1 ++ [1])):=by rw [upd_same,← List.map_append]; rfl
   have eK2b:=ub _ _ eK2a
   have sab:=ua.trans ub
   generalize upd Ha l2 (.lst (d1.map V.int ++ [(1:Int)].map V.int)) = Hb at ub eb eK2b sab ⊢
   refine ⟨_,rfl,l2,_,rfl,SqL.of eb,fun l3 hl3 => ?_⟩
   rw [show cutV (List.map V.int (d1 ++ [(1:Int)])) none (some 1) = List.map V.int ((d1 ++ [(1:Int)]).take 1) from cut_to (α:=Int) (d1 ++ [1]) 1]
   have uc:=same_new hl3 (.lst (((d1 ++ [1]).take 1).map V.int))
   have ec:upd Hb l3 (.lst (((d1 ++ [1]).take 1).map V.int)) l3 = some (lsI ((d1 ++ [1]).take 1)):=upd_same
   have eK2c:=uc _ _ eK2b
   have sac:=sab.trans uc
   generalize upd Hb l3 (.lst (((d1 ++ [1]).take 1).map V.int)) = Hc at uc ec eK2c sac ⊢
   refine ⟨K2,l3,_,_,rfl,rfl,SqL.of eK2c,SqL.of ec,_,rfl,?_⟩
   refine iteNS e20 ?_
   have sE:=((sT3.same s37).trans s8).trans (s9.same sac)
   exact ⟨_,_,_,_,_,_,rfl,sac _ _ (s9.g tc8 (s8.g tc7 (s37 _ _ eR3))),sE⟩
  ·rintro σ H3 ⟨v4,v5,v6,v7,v8,v9,rfl,eR3,sT3⟩
   exact q _
end
end K28
set_option Elab.async false
set_option linter.all false
set_option maxRecDepth 100000
set_option maxHeartbeats 4000000
namespace K28
open PySem L2 PySem.W PH
theorem len_1 {α:Type}:∀ {us:List α},us.length = 1 -> ∃ x0,us = [x0]
 | [x0],_ => ⟨x0,rfl⟩
theorem len_2 {α:Type}:∀ {us:List α},us.length = 2 -> ∃ x0 x1,us = [x0,x1]
 | [x0,x1],_ => ⟨x0,x1,rfl⟩
theorem len_3 {α:Type}:∀ {us:List α},us.length = 3 -> ∃ x0 x1 x2,us = [x0,x1,x2]
 | [x0,x1,x2],_ => ⟨x0,x1,x2,rfl⟩
theorem len_4 {α:Type}:∀ {us:List α},us.length = 4 -> ∃ x0 x1 x2 x3,us = [x0,x1,x2,x3]
 | [x0,x1,x2,x3],_ => ⟨x0,x1,x2,x3,rfl⟩
section
theorem all_mk {l:PySem.W.OpenLaw} {w:World} {K:PySem.W.Frag} {h:Heap} {mg:Str -> Option Value} {fa f1 f2 f3 f4 f5 f6 f7 f8 f9 f10 f11 f12 f13 f14 f15 f16 f17 f18 f19 f20 f21 f22 f23 c_PackError c_Broken c_NoCode c_NoNumber c_NoPlace c_NoText c_Ranked c_Sought:Addr} (X:K.In h) (G:h.Ns mainGlobals mg) (hfa:mg "law" = some (.ref fa))
  {od1 an1 od2 an2 od3 an3 od4 an4 od5 an5 od6 an6 od7 an7 od8 an8 od9 an9 od10 an10 od11 an11 od12 an12 od13 an13 od14 an14 od15 an15 od16 an16 od17 an17 od18 an18 od19 an19 od20 an20 od21 an21 od22 an22 od23 an23:Option Addr} {sl1 sl2 sl3 sl4 sl5 sl6 sl7 sl8 sl9 sl10 sl11 sl12 sl13 sl14 sl15 sl16 sl17 sl18 sl19 sl20 sl21 sl22 sl23:Array (Option Value)} {oc1 kV1 dc1 pm1 cd1 ct1 oc2 kV2 dc2 pm2 cd2 ct2 oc3 kV3 dc3 pm3 cd3 ct3 oc4 kV4 dc4 pm4 cd4 ct4 oc5 kV5 dc5 pm5 cd5 ct5 oc6 kV6 dc6 pm6 cd6 ct6 oc7 kV7 dc7 pm7 cd7 ct7 oc8 kV8 dc8 pm8 cd8 ct8 oc9 kV9 dc9 pm9 cd9 ct9 oc10 kV10 dc10 pm10 cd10 ct10 oc11 kV11 dc11 pm11 cd11 ct11 oc12 kV12 dc12 pm12 cd12 ct12 oc13 kV13 dc13 pm13 cd13 ct13 oc14 kV14 dc14 pm14 cd14 ct14 oc15 kV15 dc15 pm15 cd15 ct15 oc16 kV16 dc16 pm16 cd16 ct16 oc17 kV17 dc17 pm17 cd17 ct17 oc18 kV18 dc18 pm18 cd18 ct18 oc19 kV19 dc19 pm19 cd19 ct19 oc20 kV20 dc20 pm20 cd20 ct20 oc21 kV21 dc21 pm21 cd21 ct21 oc22 kV22 dc22 pm22 cd22 ct22 oc23 kV23 dc23 pm23 cd23 ct23:Value}
  {tk_LAST_SIGN:Tok}
  {ts:List Addr} {ca_turned_back c_T_turned_back:Addr}
  (aC_Ranked:PySem.W.nsIn K mainGlobals "Ranked" = some (some (.ref c_Ranked))) (pgC_Ranked:PySem.W.plainGet K c_Ranked Str.empty = true) (hdC_Ranked:PySem.W.hasDictIn K c_Ranked = true) (poC_Ranked:PySem.W.plainOver K c_Ranked = true) (saC_Ranked:PySem.W.findIn K (.ref c_Ranked) "__setattr__" = some (some (.builtin "object.__setattr__"))) (mkC_Ranked:PySem.W.makesIn K c_Ranked = true) (kcC_Ranked:PySem.W.keepIn K (.ref c_Ranked) = true)
  (nA_Ranked_kept:PySem.W.findIn K (.ref c_Ranked) "kept" = some none)
  (nA_Ranked_step:PySem.W.findIn K (.ref c_Ranked) "step" = some none)
  (nA_Ranked_marks:PySem.W.findIn K (.ref c_Ranked) "marks" = some none)
  (aC_Sought:PySem.W.nsIn K mainGlobals "Sought" = some (some (.ref c_Sought))) (pgC_Sought:PySem.W.plainGet K c_Sought Str.empty = true) (hdC_Sought:PySem.W.hasDictIn K c_Sought = true) (poC_Sought:PySem.W.plainOver K c_Sought = true) (saC_Sought:PySem.W.findIn K (.ref c_Sought) "__setattr__" = some (some (.builtin "object.__setattr__"))) (mkC_Sought:PySem.W.makesIn K c_Sought = true) (kcC_Sought:PySem.W.keepIn K (.ref c_Sought) = true)
  (nA_Sought_many:PySem.W.findIn K (.ref c_Sought) "many" = some none)
  (nA_Sought_ranked:PySem.W.findIn K (.ref c_Sought) "ranked" = some none)
  (nA_Sought_hole:PySem.W.findIn K (.ref c_Sought) "hole" = some none)
  (nA_Sought_step:PySem.W.findIn K (.ref c_Sought) "step" = some none)
  (nA_Sought_begins:PySem.W.findIn K (.ref c_Sought) "begins" = some none)
  (nA_Sought_rank_by_place:PySem.W.findIn K (.ref c_Sought) "rank_by_place" = some none)
  (nA_Sought_place_by_rank:PySem.W.findIn K (.ref c_Sought) "place_by_rank" = some none)
  (a1:PySem.W.nsIn K mainGlobals "is_whole" = some (some (.ref f1))) (l1:K.lookup f1 = some ⟨oc1, od1, .func (PySem.W.fnOf "is_whole" "is_whole" (defArgs s_whole) (defBody s_whole) (defScope s_whole) .none kV1 dc1 pm1 an1 cd1 ct1), sl1⟩) (cc1:PySem.W.codeIn K cd1 "is_whole" = true) (k1:PySem.W.keepIn K (.ref f1) = true)
  (a2:PySem.W.nsIn K mainGlobals "is_sign" = some (some (.ref f2))) (l2:K.lookup f2 = some ⟨oc2, od2, .func (PySem.W.fnOf "is_sign" "is_sign" (defArgs s_sign) (defBody s_sign) (defScope s_sign) .none kV2 dc2 pm2 an2 cd2 ct2), sl2⟩) (cc2:PySem.W.codeIn K cd2 "is_sign" = true) (k2:PySem.W.keepIn K (.ref f2) = true)
  (a3:PySem.W.nsIn K mainGlobals "are_signs" = some (some (.ref f3))) (l3:K.lookup f3 = some ⟨oc3, od3, .func (PySem.W.fnOf "are_signs" "are_signs" (defArgs s_signs) (defBody s_signs) (defScope s_signs) .none kV3 dc3 pm3 an3 cd3 ct3), sl3⟩) (cc3:PySem.W.codeIn K cd3 "are_signs" = true) (k3:PySem.W.keepIn K (.ref f3) = true)
  (a4:PySem.W.nsIn K mainGlobals "counts_of" = some (some (.ref f4))) (l4:K.lookup f4 = some ⟨oc4, od4, .func (PySem.W.fnOf "counts_of" "counts_of" (defArgs s_counts) (defBody s_counts) (defScope s_counts) .none kV4 dc4 pm4 an4 cd4 ct4), sl4⟩) (cc4:PySem.W.codeIn K cd4 "counts_of" = true) (k4:PySem.W.keepIn K (.ref f4) = true)
  (a5:PySem.W.nsIn K mainGlobals "marks_of" = some (some (.ref f5))) (l5:K.lookup f5 = some ⟨oc5, od5, .func (PySem.W.fnOf "marks_of" "marks_of" (defArgs s_marks) (defBody s_marks) (defScope s_marks) .none kV5 dc5 pm5 an5 cd5 ct5), sl5⟩) (cc5:PySem.W.codeIn K cd5 "marks_of" = true) (k5:PySem.W.keepIn K (.ref f5) = true)
  (a6:PySem.W.findIn K (.ref c_Ranked) "__init__" = some (some (.ref f6))) (i6:PySem.W.isFn K (.ref f6) = true) (l6:K.lookup f6 = some ⟨oc6, od6, .func (PySem.W.fnOf "__init__" "Ranked.__init__" (defArgs s_init) (defBody s_init) (defScope s_init) .none kV6 dc6 pm6 an6 cd6 ct6), sl6⟩) (cc6:PySem.W.codeIn K cd6 "Ranked.__init__" = true) (k6:PySem.W.keepIn K (.ref f6) = true)
  (a7:PySem.W.findIn K (.ref c_Ranked) "sign_at" = some (some (.ref f7))) (i7:PySem.W.isFn K (.ref f7) = true) (l7:K.lookup f7 = some ⟨oc7, od7, .func (PySem.W.fnOf "sign_at" "Ranked.sign_at" (defArgs s_signat) (defBody s_signat) (defScope s_signat) .none kV7 dc7 pm7 an7 cd7 ct7), sl7⟩) (cc7:PySem.W.codeIn K cd7 "Ranked.sign_at" = true) (k7:PySem.W.keepIn K (.ref f7) = true)
  (a8:PySem.W.findIn K (.ref c_Ranked) "ahead" = some (some (.ref f8))) (i8:PySem.W.isFn K (.ref f8) = true) (l8:K.lookup f8 = some ⟨oc8, od8, .func (PySem.W.fnOf "ahead" "Ranked.ahead" (defArgs s_ahead) (defBody s_ahead) (defScope s_ahead) .none kV8 dc8 pm8 an8 cd8 ct8), sl8⟩) (cc8:PySem.W.codeIn K cd8 "Ranked.ahead" = true) (k8:PySem.W.keepIn K (.ref f8) = true)
  (a9:PySem.W.nsIn K mainGlobals "may_be_turned" = some (some (.ref f9))) (l9:K.lookup f9 = some ⟨oc9, od9, .func (PySem.W.fnOf "may_be_turned" "may_be_turned" (defArgs s_may) (defBody s_may) (defScope s_may) .none kV9 dc9 pm9 an9 cd9 ct9), sl9⟩) (cc9:PySem.W.codeIn K cd9 "may_be_turned" = true) (k9:PySem.W.keepIn K (.ref f9) = true)
  (a10:PySem.W.nsIn K mainGlobals "turned_back" = some (some (.ref f10))) (l10:K.lookup f10 = some ⟨oc10, od10, .func (PySem.W.fnOf "turned_back" "turned_back" (defArgs s_back) (defBody s_back) (defScope s_back) .none kV10 dc10 pm10 an10 cd10 ct10), sl10⟩) (cc10:PySem.W.codeIn K cd10 "turned_back" = true) (k10:PySem.W.keepIn K (.ref f10) = true)
  (a11:PySem.W.nsIn K mainGlobals "first_ranks" = some (some (.ref f11))) (l11:K.lookup f11 = some ⟨oc11, od11, .func (PySem.W.fnOf "first_ranks" "first_ranks" (defArgs s_firstr) (defBody s_firstr) (defScope s_firstr) .none kV11 dc11 pm11 an11 cd11 ct11), sl11⟩) (cc11:PySem.W.codeIn K cd11 "first_ranks" = true) (k11:PySem.W.keepIn K (.ref f11) = true)
  (a12:PySem.W.findIn K (.ref c_Sought) "sign_ahead" = some (some (.ref f12))) (i12:PySem.W.isFn K (.ref f12) = true) (l12:K.lookup f12 = some ⟨oc12, od12, .func (PySem.W.fnOf "sign_ahead" "Sought.sign_ahead" (defArgs s_signa) (defBody s_signa) (defScope s_signa) .none kV12 dc12 pm12 an12 cd12 ct12), sl12⟩) (cc12:PySem.W.codeIn K cd12 "Sought.sign_ahead" = true) (k12:PySem.W.keepIn K (.ref f12) = true)
  (a13:PySem.W.findIn K (.ref c_Sought) "times_ahead" = some (some (.ref f13))) (i13:PySem.W.isFn K (.ref f13) = true) (l13:K.lookup f13 = some ⟨oc13, od13, .func (PySem.W.fnOf "times_ahead" "Sought.times_ahead" (defArgs s_timesa) (defBody s_timesa) (defScope s_timesa) .none kV13 dc13 pm13 an13 cd13 ct13), sl13⟩) (cc13:PySem.W.codeIn K cd13 "Sought.times_ahead" = true) (k13:PySem.W.keepIn K (.ref f13) = true)
  (a14:PySem.W.findIn K (.ref c_Sought) "rank_one_longer" = some (some (.ref f14))) (i14:PySem.W.isFn K (.ref f14) = true) (l14:K.lookup f14 = some ⟨oc14, od14, .func (PySem.W.fnOf "rank_one_longer" "Sought.rank_one_longer" (defArgs s_longer) (defBody s_longer) (defScope s_longer) .none kV14 dc14 pm14 an14 cd14 ct14), sl14⟩) (cc14:PySem.W.codeIn K cd14 "Sought.rank_one_longer" = true) (k14:PySem.W.keepIn K (.ref f14) = true)
  (a15:PySem.W.findIn K (.ref c_Sought) "set_marks" = some (some (.ref f15))) (i15:PySem.W.isFn K (.ref f15) = true) (l15:K.lookup f15 = some ⟨oc15, od15, .func (PySem.W.fnOf "set_marks" "Sought.set_marks" (defArgs s_setm) (defBody s_setm) (defScope s_setm) .none kV15 dc15 pm15 an15 cd15 ct15), sl15⟩) (cc15:PySem.W.codeIn K cd15 "Sought.set_marks" = true) (k15:PySem.W.keepIn K (.ref f15) = true)
  (a16:PySem.W.findIn K (.ref c_Sought) "__init__" = some (some (.ref f16))) (i16:PySem.W.isFn K (.ref f16) = true) (l16:K.lookup f16 = some ⟨oc16, od16, .func (PySem.W.fnOf "__init__" "Sought.__init__" (defArgs s_inits) (defBody s_inits) (defScope s_inits) .none kV16 dc16 pm16 an16 cd16 ct16), sl16⟩) (cc16:PySem.W.codeIn K cd16 "Sought.__init__" = true) (k16:PySem.W.keepIn K (.ref f16) = true)
  (a17:PySem.W.nsIn K mainGlobals "_law_cell" = some (some (.ref f17))) (l17:K.lookup f17 = some ⟨oc17, od17, .func (PySem.W.fnOf "_law_cell" "_law_cell" (defArgs s_cell) (defBody s_cell) (defScope s_cell) .none kV17 dc17 pm17 an17 cd17 ct17), sl17⟩) (cc17:PySem.W.codeIn K cd17 "_law_cell" = true) (k17:PySem.W.keepIn K (.ref f17) = true)
  (a18:PySem.W.nsIn K mainGlobals "_law_text" = some (some (.ref f18))) (l18:K.lookup f18 = some ⟨oc18, od18, .func (PySem.W.fnOf "_law_text" "_law_text" (defArgs s_text) (defBody s_text) (defScope s_text) .none kV18 dc18 pm18 an18 cd18 ct18), sl18⟩) (cc18:PySem.W.codeIn K cd18 "_law_text" = true) (k18:PySem.W.keepIn K (.ref f18) = true)
  (a19:PySem.W.nsIn K mainGlobals "_law_turned" = some (some (.ref f19))) (l19:K.lookup f19 = some ⟨oc19, od19, .func (PySem.W.fnOf "_law_turned" "_law_turned" (defArgs s_lturned) (defBody s_lturned) (defScope s_lturned) .none kV19 dc19 pm19 an19 cd19 ct19), sl19⟩) (cc19:PySem.W.codeIn K cd19 "_law_turned" = true) (k19:PySem.W.keepIn K (.ref f19) = true)
  (a20:PySem.W.nsIn K mainGlobals "_law_text_of" = some (some (.ref f20))) (l20:K.lookup f20 = some ⟨oc20, od20, .func (PySem.W.fnOf "_law_text_of" "_law_text_of" (defArgs s_textof) (defBody s_textof) (defScope s_textof) .none kV20 dc20 pm20 an20 cd20 ct20), sl20⟩) (cc20:PySem.W.codeIn K cd20 "_law_text_of" = true) (k20:PySem.W.keepIn K (.ref f20) = true)
  (a21:PySem.W.nsIn K mainGlobals "_law_kinds" = some (some (.ref f21))) (l21:K.lookup f21 = some ⟨oc21, od21, .func (PySem.W.fnOf "_law_kinds" "_law_kinds" (defArgs s_lkinds) (defBody s_lkinds) (defScope s_lkinds) .none kV21 dc21 pm21 an21 cd21 ct21), sl21⟩) (cc21:PySem.W.codeIn K cd21 "_law_kinds" = true) (k21:PySem.W.keepIn K (.ref f21) = true)
  (a22:PySem.W.nsIn K mainGlobals "_law_changed" = some (some (.ref f22))) (l22:K.lookup f22 = some ⟨oc22, od22, .func (PySem.W.fnOf "_law_changed" "_law_changed" (defArgs s_changed) (defBody s_changed) (defScope s_changed) .none kV22 dc22 pm22 an22 cd22 ct22), sl22⟩) (cc22:PySem.W.codeIn K cd22 "_law_changed" = true) (k22:PySem.W.keepIn K (.ref f22) = true)
  (a23:PySem.W.nsIn K mainGlobals "law" = some (some (.ref f23))) (l23:K.lookup f23 = some ⟨oc23, od23, .func (PySem.W.fnOf "law" "law" (defArgs s_law) (defBody s_law) (defScope s_law) .none kV23 dc23 pm23 an23 cd23 ct23), sl23⟩) (cc23:PySem.W.codeIn K cd23 "law" = true) (k23:PySem.W.keepIn K (.ref f23) = true)
  (lc_turned_back:cd10 = .ref ca_turned_back) (lx_turned_back:c_T_turned_back ∈ ts∧PySem.W.codeHdIn K ca_turned_back c_T_turned_back = true)
  (z_isinstance:PySem.W.nsIn K mainGlobals "isinstance" = some none)
  (z_list:PySem.W.nsIn K mainGlobals "list" = some none)
  (z_int:PySem.W.nsIn K mainGlobals "int" = some none)
  (z_bool:PySem.W.nsIn K mainGlobals "bool" = some none)
  (z_len:PySem.W.nsIn K mainGlobals "len" = some none)
  (z_range:PySem.W.nsIn K mainGlobals "range" = some none)
  (z_max:PySem.W.nsIn K mainGlobals "max" = some none)
  (z_ValueError:PySem.W.nsIn K mainGlobals "ValueError" = some none)
  (z_tuple:PySem.W.nsIn K mainGlobals "tuple" = some none)
  (z_min:PySem.W.nsIn K mainGlobals "min" = some none)
  (z_sorted:PySem.W.nsIn K mainGlobals "sorted" = some none)
  (z_all:PySem.W.nsIn K mainGlobals "all" = some none)
  (z_dict:PySem.W.nsIn K mainGlobals "dict" = some none)
  (z_enumerate:PySem.W.nsIn K mainGlobals "enumerate" = some none)
  (e_PackError:PySem.W.nsIn K mainGlobals "PackError" = some (some (.ref c_PackError)))
  (x0_PackError:PySem.W.excIn K c_PackError bmV "ValueError.__new__" = true) (x1_PackError:PySem.W.findIn K (.ref c_PackError) "__getattribute__" = some (some (.builtin "BaseException.__getattribute__"))) (x2_PackError:PySem.W.findIn K (.ref c_PackError) "__getattr__" = some none) (x3_PackError:PySem.W.findIn K (.ref c_PackError) "__class__" = some (some (.builtin "object.__class__"))) (x4_PackError:PySem.W.mroIn K c_PackError (.type "object") = some true) (x5_PackError:PySem.W.mroIn K c_PackError (.type "BaseException") = some true) (x6_PackError:PySem.W.typeIn K (.ref c_PackError) = some (.type "type"))
  (e_Broken:PySem.W.nsIn K mainGlobals "Broken" = some (some (.ref c_Broken)))
  (x0_Broken:PySem.W.excIn K c_Broken bmV "ValueError.__new__" = true) (x1_Broken:PySem.W.findIn K (.ref c_Broken) "__getattribute__" = some (some (.builtin "BaseException.__getattribute__"))) (x2_Broken:PySem.W.findIn K (.ref c_Broken) "__getattr__" = some none) (x3_Broken:PySem.W.findIn K (.ref c_Broken) "__class__" = some (some (.builtin "object.__class__"))) (x4_Broken:PySem.W.mroIn K c_Broken (.type "object") = some true) (x5_Broken:PySem.W.mroIn K c_Broken (.type "BaseException") = some true) (x6_Broken:PySem.W.typeIn K (.ref c_Broken) = some (.type "type"))
  (e_NoCode:PySem.W.nsIn K mainGlobals "NoCode" = some (some (.ref c_NoCode)))
  (e_NoNumber:PySem.W.nsIn K mainGlobals "NoNumber" = some (some (.ref c_NoNumber)))
  (x0_NoNumber:PySem.W.excIn K c_NoNumber bmV "ValueError.__new__" = true) (x1_NoNumber:PySem.W.findIn K (.ref c_NoNumber) "__getattribute__" = some (some (.builtin "BaseException.__getattribute__"))) (x2_NoNumber:PySem.W.findIn K (.ref c_NoNumber) "__getattr__" = some none) (x3_NoNumber:PySem.W.findIn K (.ref c_NoNumber) "__class__" = some (some (.builtin "object.__class__"))) (x4_NoNumber:PySem.W.mroIn K c_NoNumber (.type "object") = some true) (x5_NoNumber:PySem.W.mroIn K c_NoNumber (.type "BaseException") = some true) (x6_NoNumber:PySem.W.typeIn K (.ref c_NoNumber) = some (.type "type"))
  (e_NoPlace:PySem.W.nsIn K mainGlobals "NoPlace" = some (some (.ref c_NoPlace)))
  (x0_NoPlace:PySem.W.excIn K c_NoPlace bmV "ValueError.__new__" = true) (x1_NoPlace:PySem.W.findIn K (.ref c_NoPlace) "__getattribute__" = some (some (.builtin "BaseException.__getattribute__"))) (x2_NoPlace:PySem.W.findIn K (.ref c_NoPlace) "__getattr__" = some none) (x3_NoPlace:PySem.W.findIn K (.ref c_NoPlace) "__class__" = some (some (.builtin "object.__class__"))) (x4_NoPlace:PySem.W.mroIn K c_NoPlace (.type "object") = some true) (x5_NoPlace:PySem.W.mroIn K c_NoPlace (.type "BaseException") = some true) (x6_NoPlace:PySem.W.typeIn K (.ref c_NoPlace) = some (.type "type"))
  (e_NoText:PySem.W.nsIn K mainGlobals "NoText" = some (some (.ref c_NoText)))
  (xm_BK:PySem.W.mroIn K c_Broken (.ref c_PackError) = some true)
  (xv_BK:PySem.W.kitOne K (.ref c_Broken) (.type "ValueError") = some true)
  (x1_BK:PySem.W.kitOne K (.ref c_Broken) (.ref c_NoNumber) = some false)
  (x2_BK:PySem.W.kitOne K (.ref c_Broken) (.ref c_NoCode) = some false)
  (x3_BK:PySem.W.kitOne K (.ref c_Broken) (.ref c_NoPlace) = some false)
  (x4_BK:PySem.W.kitOne K (.ref c_Broken) (.ref c_NoText) = some false)
  (xm_NN:PySem.W.mroIn K c_NoNumber (.ref c_PackError) = some true)
  (xv_NN:PySem.W.kitOne K (.ref c_NoNumber) (.type "ValueError") = some true)
  (x1_NN:PySem.W.kitOne K (.ref c_NoNumber) (.ref c_Broken) = some false)
  (x2_NN:PySem.W.kitOne K (.ref c_NoNumber) (.ref c_NoCode) = some false)
  (x3_NN:PySem.W.kitOne K (.ref c_NoNumber) (.ref c_NoPlace) = some false)
  (x4_NN:PySem.W.kitOne K (.ref c_NoNumber) (.ref c_NoText) = some false)
  (g_LAST_SIGN:PySem.W.nsIn K mainGlobals "LAST_SIGN" = some (some (.int 255 tk_LAST_SIGN)))
  : ∃ fd:FuncData, (∀ (s:Shared) (v:Value), BindsTo s fd ⟨[v], []⟩ [("script", v)])∧∀ base:Heap, K.In base -> base.Ns mainGlobals mg -> BM mg base -> FnOk l.prog w K mg base (CXW l.prog w) 12 fa fd ["script"] (spLawT K ts):=by
 have e:=hfa.symm.trans (PySem.W.mg_of X G a23)
 cases e
 have F1:=fun_mk (st:=s_whole) l1 cc1 k1
 have b1:=F1.binds (ps:=["thing"]) fun _ _ _ _ _ _ us hl => by obtain ⟨x0, rfl⟩:=len_1 hl; rfl
 have m1:=PySem.W.mg_of X G a1
 have F2:=fun_mk (st:=s_sign) l2 cc2 k2
 have b2:=F2.binds (ps:=["thing"]) fun _ _ _ _ _ _ us hl => by obtain ⟨x0, rfl⟩:=len_1 hl; rfl
 have m2:=PySem.W.mg_of X G a2
 have F3:=fun_mk (st:=s_signs) l3 cc3 k3
 have b3:=F3.binds (ps:=["things"]) fun _ _ _ _ _ _ us hl => by obtain ⟨x0, rfl⟩:=len_1 hl; rfl
 have m3:=PySem.W.mg_of X G a3
 have F4:=fun_mk (st:=s_counts) l4 cc4 k4
 have b4:=F4.binds (ps:=["text"]) fun _ _ _ _ _ _ us hl => by obtain ⟨x0, rfl⟩:=len_1 hl; rfl
 have m4:=PySem.W.mg_of X G a4
 have F5:=fun_mk (st:=s_marks) l5 cc5 k5
 have b5:=F5.binds (ps:=["text", "step"]) fun _ _ _ _ _ _ us hl => by obtain ⟨x0, x1, rfl⟩:=len_2 hl; rfl
 have m5:=PySem.W.mg_of X G a5
 have F6:=fun_mk (st:=s_init) l6 cc6 k6
 have b6:=F6.binds (ps:=["self", "text", "step"]) fun _ _ _ _ _ _ us hl => by obtain ⟨x0, x1, x2, rfl⟩:=len_3 hl; rfl
 have M6:Mk K c_Ranked f6:=⟨mkC_Ranked,a6,i6,kcC_Ranked⟩
 have F7:=fun_mk (st:=s_signat) l7 cc7 k7
 have b7:=F7.binds (ps:=["self", "at"]) fun _ _ _ _ _ _ us hl => by obtain ⟨x0, x1, rfl⟩:=len_2 hl; rfl
 have M7:Meth K c_Ranked "sign_at" f7:=⟨a7, i7, k7⟩
 have F8:=fun_mk (st:=s_ahead) l8 cc8 k8
 have b8:=F8.binds (ps:=["self", "sign", "at"]) fun _ _ _ _ _ _ us hl => by obtain ⟨x0, x1, x2, rfl⟩:=len_3 hl; rfl
 have M8:Meth K c_Ranked "ahead" f8:=⟨a8, i8, k8⟩
 have F9:=fun_mk (st:=s_may) l9 cc9 k9
 have b9:=F9.binds (ps:=["row", "hole"]) fun _ _ _ _ _ _ us hl => by obtain ⟨x0, x1, rfl⟩:=len_2 hl; rfl
 have m9:=PySem.W.mg_of X G a9
 have F10:=fun_mk (st:=s_back) l10 cc10 k10
 have b10:=F10.binds (ps:=["row", "hole"]) fun _ _ _ _ _ _ us hl => by obtain ⟨x0, x1, rfl⟩:=len_2 hl; rfl
 have m10:=PySem.W.mg_of X G a10
 have F11:=fun_mk (st:=s_firstr) l11 cc11 k11
 have b11:=F11.binds (ps:=["row"]) fun _ _ _ _ _ _ us hl => by obtain ⟨x0, rfl⟩:=len_1 hl; rfl
 have m11:=PySem.W.mg_of X G a11
 have F12:=fun_mk (st:=s_signa) l12 cc12 k12
 have b12:=F12.binds (ps:=["self", "rank"]) fun _ _ _ _ _ _ us hl => by obtain ⟨x0, x1, rfl⟩:=len_2 hl; rfl
 have M12:Meth K c_Sought "sign_ahead" f12:=⟨a12, i12, k12⟩
 have F13:=fun_mk (st:=s_timesa) l13 cc13 k13
 have b13:=F13.binds (ps:=["self", "sign", "rank"]) fun _ _ _ _ _ _ us hl => by obtain ⟨x0, x1, x2, rfl⟩:=len_3 hl; rfl
 have M13:Meth K c_Sought "times_ahead" f13:=⟨a13, i13, k13⟩
 have F14:=fun_mk (st:=s_longer) l14 cc14 k14
 have b14:=F14.binds (ps:=["self", "rank"]) fun _ _ _ _ _ _ us hl => by obtain ⟨x0, x1, rfl⟩:=len_2 hl; rfl
 have M14:Meth K c_Sought "rank_one_longer" f14:=⟨a14, i14, k14⟩
 have F15:=fun_mk (st:=s_setm) l15 cc15 k15
 have b15:=F15.binds (ps:=["self"]) fun _ _ _ _ _ _ us hl => by obtain ⟨x0, rfl⟩:=len_1 hl; rfl
 have M15:Meth K c_Sought "set_marks" f15:=⟨a15, i15, k15⟩
 have F16:=fun_mk (st:=s_inits) l16 cc16 k16
 have b16:=F16.binds (ps:=["self", "row", "hole", "step"]) fun _ _ _ _ _ _ us hl => by obtain ⟨x0, x1, x2, x3, rfl⟩:=len_4 hl; rfl
 have M16:Mk K c_Sought f16:=⟨mkC_Sought,a16,i16,kcC_Sought⟩
 have F17:=fun_mk (st:=s_cell) l17 cc17 k17
 have b17:=F17.binds (ps:=["script", "k"]) fun _ _ _ _ _ _ us hl => by obtain ⟨x0, x1, rfl⟩:=len_2 hl; rfl
 have m17:=PySem.W.mg_of X G a17
 have F18:=fun_mk (st:=s_text) l18 cc18 k18
 have b18:=F18.binds (ps:=["script", "start"]) fun _ _ _ _ _ _ us hl => by obtain ⟨x0, x1, rfl⟩:=len_2 hl; rfl
 have m18:=PySem.W.mg_of X G a18
 have F19:=fun_mk (st:=s_lturned) l19 cc19 k19
 have b19:=F19.binds (ps:=["text"]) fun _ _ _ _ _ _ us hl => by obtain ⟨x0, rfl⟩:=len_1 hl; rfl
 have m19:=PySem.W.mg_of X G a19
 have F20:=fun_mk (st:=s_textof) l20 cc20 k20
 have b20:=F20.binds (ps:=["row", "hole"]) fun _ _ _ _ _ _ us hl => by obtain ⟨x0, x1, rfl⟩:=len_2 hl; rfl
 have m20:=PySem.W.mg_of X G a20
 have F21:=fun_mk (st:=s_lkinds) l21 cc21 k21
 have b21:=F21.binds (ps:=["row", "hole", "step"]) fun _ _ _ _ _ _ us hl => by obtain ⟨x0, x1, x2, rfl⟩:=len_3 hl; rfl
 have m21:=PySem.W.mg_of X G a21
 have F22:=fun_mk (st:=s_changed) l22 cc22 k22
 have b22:=F22.binds (ps:=["row", "hole", "cell"]) fun _ _ _ _ _ _ us hl => by obtain ⟨x0, x1, x2, rfl⟩:=len_3 hl; rfl
 have m22:=PySem.W.mg_of X G a22
 have F23:=fun_mk (st:=s_law) l23 cc23 k23
 have T:RTxt K mg c_Ranked:=⟨⟨pgC_Ranked,hdC_Ranked,poC_Ranked,saC_Ranked⟩,PySem.W.mg_of X G aC_Ranked,nA_Ranked_kept,nA_Ranked_step,nA_Ranked_marks⟩
 have TS:STxt K mg c_Sought:=⟨⟨pgC_Sought,hdC_Sought,poC_Sought,saC_Sought⟩,PySem.W.mg_of X G aC_Sought,nA_Sought_many,nA_Sought_ranked,nA_Sought_hole,nA_Sought_step,nA_Sought_begins,nA_Sought_rank_by_place,nA_Sought_place_by_rank⟩
 have n_isinstance:=PySem.W.mg_none_of X G z_isinstance
 have n_list:=PySem.W.mg_none_of X G z_list
 have n_int:=PySem.W.mg_none_of X G z_int
 have n_bool:=PySem.W.mg_none_of X G z_bool
 have n_len:=PySem.W.mg_none_of X G z_len
 have n_range:=PySem.W.mg_none_of X G z_range
 have n_max:=PySem.W.mg_none_of X G z_max
 have n_ValueError:=PySem.W.mg_none_of X G z_ValueError
 have n_tuple:=PySem.W.mg_none_of X G z_tuple
 have n_min:=PySem.W.mg_none_of X G z_min
 have n_sorted:=PySem.W.mg_none_of X G z_sorted
 have n_all:=PySem.W.mg_none_of X G z_all
 have n_dict:=PySem.W.mg_none_of X G z_dict
 have n_enumerate:=PySem.W.mg_none_of X G z_enumerate
 have m_PackError:=PySem.W.mg_of X G e_PackError
 have X_PackError:Ex K mg "PackError" c_PackError:=⟨m_PackError, x0_PackError, ⟨x1_PackError, x2_PackError, x3_PackError, x4_PackError, x5_PackError, x6_PackError⟩⟩
 have m_Broken:=PySem.W.mg_of X G e_Broken
 have X_Broken:Ex K mg "Broken" c_Broken:=⟨m_Broken, x0_Broken, ⟨x1_Broken, x2_Broken, x3_Broken, x4_Broken, x5_Broken, x6_Broken⟩⟩
 have m_NoCode:=PySem.W.mg_of X G e_NoCode
 have m_NoNumber:=PySem.W.mg_of X G e_NoNumber
 have X_NoNumber:Ex K mg "NoNumber" c_NoNumber:=⟨m_NoNumber, x0_NoNumber, ⟨x1_NoNumber, x2_NoNumber, x3_NoNumber, x4_NoNumber, x5_NoNumber, x6_NoNumber⟩⟩
 have m_NoPlace:=PySem.W.mg_of X G e_NoPlace
 have X_NoPlace:Ex K mg "NoPlace" c_NoPlace:=⟨m_NoPlace, x0_NoPlace, ⟨x1_NoPlace, x2_NoPlace, x3_NoPlace, x4_NoPlace, x5_NoPlace, x6_NoPlace⟩⟩
 have m_NoText:=PySem.W.mg_of X G e_NoText
 refine ⟨PySem.W.fnOf "law" "law" (defArgs s_law) (defBody s_law) (defScope s_law) .none kV23 dc23 pm23 an23 cd23 ct23, fun s v => .of_eq rfl, fun base kb _ hbm => ?_⟩
 have hc_turned_back:(PySem.W.fnOf "turned_back" "turned_back" (defArgs s_back) (defBody s_back) (defScope s_back) .none kV10 dc10 pm10 an10 cd10 ct10).code = .ref ca_turned_back:=lc_turned_back
 have CH_turned_back:=PySem.W.codeHd_of_K kb lx_turned_back.2
 have hm_turned_back:=lx_turned_back.1
 have m_LS:LSf mg:=⟨_,PySem.W.mg_of X G g_LAST_SIGN,⟨_,rfl⟩⟩
 have B:Bls mg:=⟨n_isinstance,n_list,n_int,n_bool,n_len,n_range,n_max,n_ValueError,n_tuple,n_min,n_sorted,n_all,n_dict⟩
 have G_whole:=ok_whole (P:=l.prog) (w:=w) (mg:=mg) (base:=base) F1 B
 have G_sign:=ok_sign (P:=l.prog) (w:=w) (mg:=mg) (base:=base) F2 B m_LS G_whole b1 k1 m1
 have G_signs:=ok_signs (P:=l.prog) (w:=w) (mg:=mg) (base:=base) F3 B G_sign b2 k2 m2
 have G_counts:=ok_counts (P:=l.prog) (w:=w) (mg:=mg) (base:=base) F4 B
 have G_marks:=ok_marks (P:=l.prog) (w:=w) (mg:=mg) (base:=base) F5 B n_enumerate
 have G_init:=ok_init (P:=l.prog) (w:=w) (mg:=mg) (base:=base) (c_Ranked:=c_Ranked) F6 B X_NoNumber m_NoNumber T G_marks b5 k5 m5
 have G_signat:=ok_signat (P:=l.prog) (w:=w) (mg:=mg) (base:=base) (c_Ranked:=c_Ranked) F7 B X_NoPlace m_NoPlace T
 have G_ahead:=ok_ahead (P:=l.prog) (w:=w) (mg:=mg) (base:=base) (c_Ranked:=c_Ranked) F8 B X_NoPlace m_NoPlace T
 have G_may:=ok_may (P:=l.prog) (w:=w) (mg:=mg) (base:=base) F9 B G_signs b3 k3 m3
 have G_back:=ok_back (P:=l.prog) (w:=w) (mg:=mg) (base:=base) F10 B hc_turned_back CH_turned_back hbm X_Broken m_Broken G_may b9 k9 m9
 have G_firstr:=ok_firstr (P:=l.prog) (w:=w) (mg:=mg) (base:=base) F11 B G_counts b4 k4 m4
 have G_signa:=ok_signa (P:=l.prog) (w:=w) (mg:=mg) (base:=base) (c_Ranked:=c_Ranked) (c_Sought:=c_Sought) F12 B T TS G_signat b7 M7
 have G_timesa:=ok_timesa (P:=l.prog) (w:=w) (mg:=mg) (base:=base) (c_Ranked:=c_Ranked) (c_Sought:=c_Sought) F13 B T TS G_ahead b8 M8
 have G_longer:=ok_longer (P:=l.prog) (w:=w) (mg:=mg) (base:=base) (c_Ranked:=c_Ranked) (c_Sought:=c_Sought) F14 B TS G_signa b12 M12 G_timesa b13 M13
 have G_setm:=ok_setm (P:=l.prog) (w:=w) (mg:=mg) (base:=base) (c_Ranked:=c_Ranked) (c_Sought:=c_Sought) F15 B TS G_longer b14 M14
 have G_inits:=ok_inits (P:=l.prog) (w:=w) (mg:=mg) (base:=base) (c_Ranked:=c_Ranked) (c_Sought:=c_Sought) F16 B T TS G_init b6 M6 G_back b10 k10 m10 G_firstr b11 k11 m11 G_setm b15 M15
 have G_cell:=ok_cell (P:=l.prog) (w:=w) (mg:=mg) (base:=base) F17 B
 have G_text:=ok_text (P:=l.prog) (w:=w) (mg:=mg) (base:=base) F18 B G_cell b17 k17 m17
 have G_lturned:=ok_lturned (P:=l.prog) (w:=w) (mg:=mg) (base:=base) F19 B
 have G_textof:=ok_textof (P:=l.prog) (w:=w) (mg:=mg) (base:=base) F20 B G_lturned b19 k19 m19
 have G_lkinds:=ok_lkinds (P:=l.prog) (w:=w) (mg:=mg) (base:=base) (c_Ranked:=c_Ranked) (c_Sought:=c_Sought) F21 B X_Broken X_NoNumber X_PackError m_Broken m_NoCode m_NoNumber m_NoPlace m_NoText m_PackError xm_BK xv_BK x1_BK x2_BK x3_BK x4_BK xm_NN xv_NN x1_NN x2_NN x3_NN x4_NN TS G_inits b16 M16
 have G_changed:=ok_changed (P:=l.prog) (w:=w) (mg:=mg) (base:=base) F22 B
 exact ok_law (P:=l.prog) (w:=w) (mg:=mg) (base:=base) F23 B hm_turned_back G_cell b17 k17 m17 G_text b18 k18 m18 G_lturned b19 k19 m19 G_textof b20 k20 m20 G_lkinds b21 k21 m21 G_changed b22 k22 m22
theorem walk {l:PySem.W.OpenLaw} {q:Program} {loose:List Str} {XP:(Str -> Option Value) -> Heap -> Prop} {YP:World -> Heap -> Prop} {d:DefRec} {K:Params -> PySem.W.Frag} {ts:List Addr} (hn:l.most = some 63) (hdf:d.params.defaults = [])
  (hY:∀ (w:World) (h:Heap),YP w h -> (K w.params).In h) (hT:∀ (w:World) (h:Heap),YP w h -> ∀ P ∈ ts,h.get? P = some (PySem.W.tabObj #[])) (hK:∀ w:World,tabsK (K w.params) ts = true)
  (F:∀ (w:World) (mg:Str -> Option Value) (fa:Addr) (h:Heap),(K w.params).In h -> h.Ns mainGlobals mg -> mg d.name = some (.ref fa) →
   ∃ fd:FuncData, (∀ (s:Shared) (u:Value), BindsTo s fd ⟨[u], []⟩ [("script", u)])∧∀ base:Heap, (K w.params).In base -> base.Ns mainGlobals mg -> BM mg base -> FnOk l.prog w (K w.params) mg base (CXW l.prog w) 12 fa fd ["script"] (spLawT (K w.params) ts)) :
  PySem.W.WalkO q loose XP YP l.row.toRowW d [] (fun f vs => PySem.call f vs) :=
 L2.walk_ofT (ts:=ts) (n:=63) (k:=12) (x:="script") (CX:=fun w => CXW l.prog w) (sp:=fun w => spLawT (K w.params) ts) hn (by decide) hdf ⟨rfl, by decide, by decide⟩ hY hT hK F (fun _ _ a ns hl hS hT => ⟨a, ns, rfl, hS, hl, hT, fun _ => rfl⟩) fun _ _ _ _ _ z => by
  obtain ⟨_,_,_,_,_,_,_,_,_,_,_,_,_,hE⟩:=z
  exact hE
end
end K28
theorem PySem.W.Fast.tw13424525651181181528:True:=trivial
theorem PySem.W.Fast.tw2119495981637693286:True:=trivial
theorem PySem.W.Fast.tw3700314691890285075:True:=trivial
theorem PySem.W.Fast.tw16134213404057446651:True:=trivial
theorem PySem.W.Fast.tw8167668083448541163:True:=trivial
theorem PySem.W.Fast.tw588806678751541984:True:=trivial
theorem PySem.W.Fast.tw14154667602086440389:True:=trivial
theorem PySem.W.Fast.tw18219718051920054151:True:=trivial
theorem PySem.W.Fast.tw7856724835073532672:True:=trivial
theorem PySem.W.Fast.tw14739432049609626777:True:=trivial
theorem PySem.W.Fast.tw2987042408714786987:True:=trivial
theorem PySem.W.Fast.tw8109941418035760054:True:=trivial
theorem PySem.W.Fast.tw2834974624761758326:True:=trivial
theorem PySem.W.Fast.tw12948119807492360561:True:=trivial
theorem PySem.W.Fast.tw4543434739534757519:True:=trivial
theorem PySem.W.Fast.tw12816860551145584077:True:=trivial
theorem PySem.W.Fast.tw6451414976636878807:True:=trivial
theorem PySem.W.Fast.tw15237918716386337830:True:=trivial
theorem PySem.W.Fast.tw10817072654819870284:True:=trivial
theorem PySem.W.Fast.tw1257990074920721663:True:=trivial
theorem PySem.W.Fast.tw10105356434072082138:True:=trivial
theorem PySem.W.Fast.tw4846857917786615150:True:=trivial
theorem PySem.W.Fast.tw15729610851578885265:True:=trivial
theorem PySem.W.Fast.tw17359896812603995706:True:=trivial
theorem PySem.W.Fast.tw15457109515897844219:True:=trivial
theorem PySem.W.Fast.tw1537214539265308841:True:=trivial
theorem PySem.W.Fast.tw17453435177467876865:True:=trivial
theorem PySem.W.Fast.tw9452703593971961959:True:=trivial
theorem PySem.W.Fast.tw1387458789671426006:True:=trivial
theorem PySem.W.Fast.tw4026018880109641984:True:=trivial
theorem PySem.W.Fast.tw10374941020581272282:True:=trivial
theorem PySem.W.Fast.tw11223401673148458138:True:=trivial
theorem PySem.W.Fast.tw3121269730992554115:True:=trivial
theorem PySem.W.Fast.tw5227996359335011692:True:=trivial
theorem PySem.W.Fast.tw10683971164850879881:True:=trivial
theorem PySem.W.Fast.tw474324768615716398:True:=trivial
theorem PySem.W.Fast.tw143596582555822466:True:=trivial
theorem PySem.W.Fast.tw8393533374677145984:True:=trivial
theorem PySem.W.Fast.tw6014455786023290444:True:=trivial
theorem PySem.W.Fast.tw5776717053701959977:True:=trivial
open PySem PySem.W PyProof.Rows
set_option maxRecDepth 100000 in
set_option maxHeartbeats 0 in
theorem PySem.Challenge.cw_packhall_k28_sought_refused_holds : PySem.Challenge.rw_packhall_k28_sought_refused.Holds := by
  w_on; o_law; k_head; (case hw => w_witness2)
  k_fill
  refine K28.walk (l := PySem.Challenge.rw_packhall_k28_sought_refused) rfl rfl (fun w h Y => PySem.W.km_in_of Y) (fun w h Y => PySem.W.km_tabs_of Y) (fun w => by kernel_rfl) ?F
  case F =>
    intro w mg fa h KX G hmg
    refine' K28.all_mk KX G hmg ?aC_Ranked ?pgC_Ranked ?hdC_Ranked ?poC_Ranked ?saC_Ranked ?mkC_Ranked ?kcC_Ranked ?nA_Ranked_kept ?nA_Ranked_step ?nA_Ranked_marks ?aC_Sought ?pgC_Sought ?hdC_Sought ?poC_Sought ?saC_Sought ?mkC_Sought ?kcC_Sought ?nA_Sought_many ?nA_Sought_ranked ?nA_Sought_hole ?nA_Sought_step ?nA_Sought_begins ?nA_Sought_rank_by_place ?nA_Sought_place_by_rank ?a1 ?l1 ?cc1 ?k1 ?a2 ?l2 ?cc2 ?k2 ?a3 ?l3 ?cc3 ?k3 ?a4 ?l4 ?cc4 ?k4 ?a5 ?l5 ?cc5 ?k5 ?a6 ?i6 ?l6 ?cc6 ?k6 ?a7 ?i7 ?l7 ?cc7 ?k7 ?a8 ?i8 ?l8 ?cc8 ?k8 ?a9 ?l9 ?cc9 ?k9 ?a10 ?l10 ?cc10 ?k10 ?a11 ?l11 ?cc11 ?k11 ?a12 ?i12 ?l12 ?cc12 ?k12 ?a13 ?i13 ?l13 ?cc13 ?k13 ?a14 ?i14 ?l14 ?cc14 ?k14 ?a15 ?i15 ?l15 ?cc15 ?k15 ?a16 ?i16 ?l16 ?cc16 ?k16 ?a17 ?l17 ?cc17 ?k17 ?a18 ?l18 ?cc18 ?k18 ?a19 ?l19 ?cc19 ?k19 ?a20 ?l20 ?cc20 ?k20 ?a21 ?l21 ?cc21 ?k21 ?a22 ?l22 ?cc22 ?k22 ?a23 ?l23 ?cc23 ?k23 ?lc_turned_back ?lx_turned_back ?z_isinstance ?z_list ?z_int ?z_bool ?z_len ?z_range ?z_max ?z_ValueError ?z_tuple ?z_min ?z_sorted ?z_all ?z_dict ?z_enumerate ?e_PackError ?x0_PackError ?x1_PackError ?x2_PackError ?x3_PackError ?x4_PackError ?x5_PackError ?x6_PackError ?e_Broken ?x0_Broken ?x1_Broken ?x2_Broken ?x3_Broken ?x4_Broken ?x5_Broken ?x6_Broken ?e_NoCode ?e_NoNumber ?x0_NoNumber ?x1_NoNumber ?x2_NoNumber ?x3_NoNumber ?x4_NoNumber ?x5_NoNumber ?x6_NoNumber ?e_NoPlace ?x0_NoPlace ?x1_NoPlace ?x2_NoPlace ?x3_NoPlace ?x4_NoPlace ?x5_NoPlace ?x6_NoPlace ?e_NoText ?xm_BK ?xv_BK ?x1_BK ?x2_BK ?x3_BK ?x4_BK ?xm_NN ?xv_NN ?x1_NN ?x2_NN ?x3_NN ?x4_NN ?g_LAST_SIGN
    (case aC_Ranked => k_is)
    (case pgC_Ranked => k_is)
    (case hdC_Ranked => k_is)
    (case poC_Ranked => k_is)
    (case saC_Ranked => k_is)
    (case mkC_Ranked => k_is)
    (case kcC_Ranked => k_is)
    (case nA_Ranked_kept => k_is)
    (case nA_Ranked_step => k_is)
    (case nA_Ranked_marks => k_is)
    (case aC_Sought => k_is)
    (case pgC_Sought => k_is)
    (case hdC_Sought => k_is)
    (case poC_Sought => k_is)
    (case saC_Sought => k_is)
    (case mkC_Sought => k_is)
    (case kcC_Sought => k_is)
    (case nA_Sought_many => k_is)
    (case nA_Sought_ranked => k_is)
    (case nA_Sought_hole => k_is)
    (case nA_Sought_step => k_is)
    (case nA_Sought_begins => k_is)
    (case nA_Sought_rank_by_place => k_is)
    (case nA_Sought_place_by_rank => k_is)
    (case a1 => k_is)
    (case l1 => k_is)
    (case cc1 => k_is)
    (case k1 => k_is)
    (case a2 => k_is)
    (case l2 => k_is)
    (case cc2 => k_is)
    (case k2 => k_is)
    (case a3 => k_is)
    (case l3 => k_is)
    (case cc3 => k_is)
    (case k3 => k_is)
    (case a4 => k_is)
    (case l4 => k_is)
    (case cc4 => k_is)
    (case k4 => k_is)
    (case a5 => k_is)
    (case l5 => k_is)
    (case cc5 => k_is)
    (case k5 => k_is)
    (case a6 => k_is)
    (case i6 => k_is)
    (case l6 => k_is)
    (case cc6 => k_is)
    (case k6 => k_is)
    (case a7 => k_is)
    (case i7 => k_is)
    (case l7 => k_is)
    (case cc7 => k_is)
    (case k7 => k_is)
    (case a8 => k_is)
    (case i8 => k_is)
    (case l8 => k_is)
    (case cc8 => k_is)
    (case k8 => k_is)
    (case a9 => k_is)
    (case l9 => k_is)
    (case cc9 => k_is)
    (case k9 => k_is)
    (case a10 => k_is)
    (case l10 => k_is)
    (case cc10 => k_is)
    (case k10 => k_is)
    (case a11 => k_is)
    (case l11 => k_is)
    (case cc11 => k_is)
    (case k11 => k_is)
    (case a12 => k_is)
    (case i12 => k_is)
    (case l12 => k_is)
    (case cc12 => k_is)
    (case k12 => k_is)
    (case a13 => k_is)
    (case i13 => k_is)
    (case l13 => k_is)
    (case cc13 => k_is)
    (case k13 => k_is)
    (case a14 => k_is)
    (case i14 => k_is)
    (case l14 => k_is)
    (case cc14 => k_is)
    (case k14 => k_is)
    (case a15 => k_is)
    (case i15 => k_is)
    (case l15 => k_is)
    (case cc15 => k_is)
    (case k15 => k_is)
    (case a16 => k_is)
    (case i16 => k_is)
    (case l16 => k_is)
    (case cc16 => k_is)
    (case k16 => k_is)
    (case a17 => k_is)
    (case l17 => k_is)
    (case cc17 => k_is)
    (case k17 => k_is)
    (case a18 => k_is)
    (case l18 => k_is)
    (case cc18 => k_is)
    (case k18 => k_is)
    (case a19 => k_is)
    (case l19 => k_is)
    (case cc19 => k_is)
    (case k19 => k_is)
    (case a20 => k_is)
    (case l20 => k_is)
    (case cc20 => k_is)
    (case k20 => k_is)
    (case a21 => k_is)
    (case l21 => k_is)
    (case cc21 => k_is)
    (case k21 => k_is)
    (case a22 => k_is)
    (case l22 => k_is)
    (case cc22 => k_is)
    (case k22 => k_is)
    (case a23 => k_is)
    (case l23 => k_is)
    (case cc23 => k_is)
    (case k23 => k_is)
    (case lc_turned_back => exact rfl)
    (case lx_turned_back => exact ⟨List.Mem.head _,by kernel_rfl⟩)
    (case z_isinstance => k_is)
    (case z_list => k_is)
    (case z_int => k_is)
    (case z_bool => k_is)
    (case z_len => k_is)
    (case z_range => k_is)
    (case z_max => k_is)
    (case z_ValueError => k_is)
    (case z_tuple => k_is)
    (case z_min => k_is)
    (case z_sorted => k_is)
    (case z_all => k_is)
    (case z_dict => k_is)
    (case z_enumerate => k_is)
    (case e_PackError => k_is)
    (case x0_PackError => k_exc)
    (case x1_PackError => k_is)
    (case x2_PackError => k_is)
    (case x3_PackError => k_is)
    (case x4_PackError => k_is)
    (case x5_PackError => k_is)
    (case x6_PackError => k_is)
    (case e_Broken => k_is)
    (case x0_Broken => k_exc)
    (case x1_Broken => k_is)
    (case x2_Broken => k_is)
    (case x3_Broken => k_is)
    (case x4_Broken => k_is)
    (case x5_Broken => k_is)
    (case x6_Broken => k_is)
    (case e_NoCode => k_is)
    (case e_NoNumber => k_is)
    (case x0_NoNumber => k_exc)
    (case x1_NoNumber => k_is)
    (case x2_NoNumber => k_is)
    (case x3_NoNumber => k_is)
    (case x4_NoNumber => k_is)
    (case x5_NoNumber => k_is)
    (case x6_NoNumber => k_is)
    (case e_NoPlace => k_is)
    (case x0_NoPlace => k_exc)
    (case x1_NoPlace => k_is)
    (case x2_NoPlace => k_is)
    (case x3_NoPlace => k_is)
    (case x4_NoPlace => k_is)
    (case x5_NoPlace => k_is)
    (case x6_NoPlace => k_is)
    (case e_NoText => k_is)
    (case xm_BK => k_is)
    (case xv_BK => kit_is)
    (case x1_BK => kit_is)
    (case x2_BK => kit_is)
    (case x3_BK => kit_is)
    (case x4_BK => kit_is)
    (case xm_NN => k_is)
    (case xv_NN => kit_is)
    (case x1_NN => kit_is)
    (case x2_NN => kit_is)
    (case x3_NN => kit_is)
    (case x4_NN => kit_is)
    (case g_LAST_SIGN => k_is)

