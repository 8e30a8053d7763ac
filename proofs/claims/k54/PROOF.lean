import PyProof.Rows.All
import Wide.All
import OpenK.AllK
import Wide.FinOn
import Lean
import PyProof.EqAt
import PyProof.EqKinds
import PyProof.TupleCall
import PyProof.NsDelKeeps
import PyProof.NeKinds
import PySem.Challenge.RW_packhall_k54_whole_shares_as_bits
local macro_rules | `(tactic| trivial) => `(tactic| first | with_reducible assumption | lia | omega)
set_option Elab.async false
set_option linter.all false
set_option maxRecDepth 100000
namespace L2
open PySem PySem.Spec PyProof.Rows
noncomputable abbrev Key:=Sum Int Str
noncomputable def keyIs:Key -> Value -> Bool
 | .inl k,v => Value.isInt k v
 | .inr x,v => Value.isStrOf x v
noncomputable def keyH (w:World):Key -> Int
 | .inl k => hashInt k
 | .inr x => hashStr w x
theorem keyIs_shape:∀ {k:Key} {v:Value},keyIs k v = true -> (∃ i t,k = Sum.inl i∧v = Value.int i t) ∨ (∃ x t,k = Sum.inr x∧v = Value.str x t)
 | .inl i,v,h => by
  obtain ⟨t,e⟩:=Value.isInt_shape (k:=i) (v:=v) h
  exact .inl ⟨i,t,rfl,e⟩
 | .inr x,v,h => by
  obtain ⟨t,e⟩:=Value.isStrOf_shape (x:=x) (v:=v) h
  exact .inr ⟨x,t,rfl,e⟩
theorem keyIs_int (i:Int) (t:Tok):keyIs (.inl i) (.int i t) = true:=by simp [keyIs,Value.isInt]
theorem keyIs_str (x:Str) (t:Tok):keyIs (.inr x) (.str x t) = true:=by simp [keyIs,Value.isStrOf]
theorem key_ll (a b:Int):decide ((Sum.inl a:Key) = Sum.inl b) = (a == b):=by
 by_cases e:a = b
 ·subst e; simp
 ·have h:¬ (Sum.inl a:Key) = Sum.inl b:=fun q => e (Sum.inl.inj q)
  rw [decide_eq_false h]
  exact (beq_eq_false_iff_ne.mpr e).symm
theorem key_rr (a b:Str):decide ((Sum.inr a:Key) = Sum.inr b) = decide (a = b):=by
 by_cases e:a = b
 ·subst e; simp
 ·have h:¬ (Sum.inr a:Key) = Sum.inr b:=fun q => e (Sum.inr.inj q)
  rw [decide_eq_false h,decide_eq_false e]
theorem key_lr (a:Int) (b:Str):decide ((Sum.inl a:Key) = Sum.inr b) = false:=decide_eq_false (fun q => nomatch q)
theorem key_rl (a:Str) (b:Int):decide ((Sum.inr a:Key) = Sum.inl b) = false:=decide_eq_false (fun q => nomatch q)
noncomputable def mixKind (prog:Program) (w:World):PySem.KeyKind prog w Key where
 is:=keyIs
 hash:=keyH w
 inj:=fun v a b ha hb => by
  rcases keyIs_shape ha with ⟨i,t,rfl,rfl⟩ | ⟨x,t,rfl,rfl⟩
  ·rcases keyIs_shape hb with ⟨j,u,rfl,e⟩ | ⟨y,u,rfl,e⟩
   ·injection e with e1 _; rw [e1]
   ·exact nomatch e
  ·rcases keyIs_shape hb with ⟨j,u,rfl,e⟩ | ⟨y,u,rfl,e⟩
   ·exact nomatch e
   ·injection e with e1 _; rw [e1]
 byValue:=fun k v h => by
  rcases keyIs_shape h with ⟨i,t,rfl,rfl⟩ | ⟨x,t,rfl,rfl⟩ <;> rfl
 pyHash:=fun hv h => by
  rcases keyIs_shape hv with ⟨i,t,rfl,rfl⟩ | ⟨x,t,rfl,rfl⟩
  ·exact wpAny_pyHash_int h
  ·exact wpAny_pyHash_str h
 eqBool:=fun hu hv h => by
  rcases keyIs_shape hu with ⟨i,t,rfl,rfl⟩ | ⟨x,t,rfl,rfl⟩
  ·rcases keyIs_shape hv with ⟨j,u,rfl,rfl⟩ | ⟨y,u,rfl,rfl⟩
   ·rw [key_ll] at h; exact wpAny_eqBool_int h
   ·rw [key_lr] at h; exact SeqAt.EqAt.int_str i t y u _ _ _ _ h
  ·rcases keyIs_shape hv with ⟨j,u,rfl,rfl⟩ | ⟨y,u,rfl,rfl⟩
   ·rw [key_rl] at h; exact SeqAt.EqAt.str_int x t j u _ _ _ _ h
   ·rw [key_rr] at h; exact wpAny_eqBool_str h
 «strs»:=fun k x t v h => by
  rcases keyIs_shape h with ⟨i,u,rfl,e⟩ | ⟨y,u,rfl,e⟩
  ·exact nomatch e
  ·injection e with e1 _
   subst e1
   cases v <;> rfl
theorem mixKind_int (prog:Program) (w:World) (i:Int) (t:Tok):(mixKind prog w).is (.inl i) (.int i t) = true:=keyIs_int i t
theorem mixKind_str (prog:Program) (w:World) (x:Str) (t:Tok):(mixKind prog w).is (.inr x) (.str x t) = true:=keyIs_str x t
end L2
namespace L2
open PySem PySem.Spec PyProof.Rows
inductive V where
 | non | bl (b:Bool) | int (i:Int) | str (x:Str) | byt (b:Array UInt8) | flt (b:UInt64) | ref (a:Addr) | ty (n:String)
 deriving DecidableEq
noncomputable def RelV:V -> Value -> Prop
 | .non,u => u = Value.none
 | .bl b,u => u = Value.bool b
 | .int i,u => ∃ t,u = Value.int i t
 | .str x,u => ∃ t,u = Value.str x t
 | .byt b,u => ∃ t,u = Value.bytes b t
 | .flt b,u => ∃ t,u = Value.float b t
 | .ref a,u => u = Value.ref a
 | .ty n,u => u = Value.type n
noncomputable abbrev Vals:List V -> List Value -> Prop:=Paired RelV
theorem Vals.length {xs:List V} {us:List Value} (r:Vals xs us):xs.length = us.length:=Paired.length r
theorem Vals.get:∀ {xs:List V} {us:List Value} {i:Nat} {x:V},Vals xs us -> xs[i]? = some x -> ∃ u,us[i]? = some u∧RelV x u
 | _,_,_,_,.nil,e => by simp at e
 | _,_,0,_,.cons r _,e => by simp at e; subst e; exact ⟨_,rfl,r⟩
 | _,_,i + 1,x,.cons _ t,e => by
  obtain ⟨u,h1,h2⟩:=Vals.get (i:=i) (x:=x) t (by simpa using e)
  exact ⟨u,by simpa using h1,h2⟩
theorem Vals.set {x:V} {u:Value} (r:RelV x u):∀ {xs:List V} {us:List Value} (i:Nat),Vals xs us -> Vals (xs.set i x) (us.set i u)
 | _,_,_,.nil => .nil
 | _,_,0,.cons _ t => .cons r t
 | _,_,i + 1,.cons q t => .cons q (Vals.set r i t)
theorem Vals.append:∀ {xs ys:List V} {us ws:List Value},Vals xs us -> Vals ys ws -> Vals (xs ++ ys) (us ++ ws)
 | _,_,_,_,.nil,s => s
 | _,_,_,_,.cons r t,s => .cons r (Vals.append t s)
theorem Vals.take:∀ {xs:List V} {us:List Value} (n:Nat),Vals xs us -> Vals (xs.take n) (us.take n)
 | _,_,0,_ => .nil
 | _,_,_ + 1,.nil => .nil
 | _,_,n + 1,.cons r t => .cons r (Vals.take n t)
theorem Vals.drop:∀ {xs:List V} {us:List Value} (n:Nat),Vals xs us -> Vals (xs.drop n) (us.drop n)
 | _,_,0,r => r
 | _,_,_ + 1,.nil => .nil
 | _,_,n + 1,.cons _ t => Vals.drop n t
noncomputable def RelO:Option V -> Option Value -> Prop
 | some v,some u => RelV v u
 | none,none => True
 | _,_ => False
noncomputable def KV {κ:Type}:List (κ × V) -> List (κ × Value) -> Prop:=Paired fun (p:κ × V) (q:κ × Value) => p.1 = q.1∧RelV p.2 q.2
noncomputable def kV:Key -> V
 | .inl i => .int i
 | .inr x => .str x
inductive HO where
 /-- a list -/
 | lst (xs:List V)
 /-- a tuple (never changes) -/
 | tup (xs:List V)
 /-- a dict whose keys are ints and texts; one whose keys are tuples of ints and texts (the empty one is both) -/
 | dK (kvs:List (Key × V)) | dT (kvs:List (List Key × V))
 /-- a set of ints: its members,its size -/
 | set (S:Int -> Bool) (n:Nat)
 /-- an instance of the class at C,its dict at dx,its attributes -/
 | ins (C dx:Addr) (fs:List (Str × V))
 /-- the dict of the instance at x -/
 | own (x:Addr)
 /-- the dict of an exception -/
 | xd (fs:List (Str × V))
 /-- a bound method,f of x -/
 | met (f x:Addr)
 /-- a range object lo,lo + 1,.. below hi -/
 | rng (lo hi:Int)
 /-- a thing that is known to the object (the script; a dict while a loop walks it): read,never written while it is so -/
 | frz (o:Obj) (u:HO)
 /-- a code object's table -/
 | tbl (ps:Array Value)
 /-- any other thing,by what is true of its one object (a def of one's own: SetO a S n := HO.ext fun h => ..) -/
 | ext (φ:Heap -> Prop)
noncomputable abbrev Hp:=Addr -> Option HO
noncomputable def upd (H:Hp) (a:Addr) (o:HO):Hp:=fun b => if b = a then some o else H b
theorem upd_same {H:Hp} {a:Addr} {o:HO}:upd H a o a = some o:=by unfold upd; rw [if_pos rfl]
theorem upd_ne {H:Hp} {a b:Addr} {o:HO} (h:b ≠ a):upd H a o b = H b:=by unfold upd; rw [if_neg h]
theorem upd_upd {H:Hp} {a:Addr} {o u:HO}:upd (upd H a o) a u = upd H a u:=by
 funext b; unfold upd; split <;> rfl
theorem ne_of {H:Hp} {a b:Addr} {o u:HO} (h:H a = some o) (h':H b = some u) (d:o ≠ u):a ≠ b:=by
 intro e; subst e; rw [h] at h'; exact d (Option.some.inj h')
theorem ne_of_none {H:Hp} {a b:Addr} {o:HO} (h:H a = some o) (h':H b = none):a ≠ b:=by
 intro e; subst e; rw [h] at h'; cases h'
section
variable (P:Program) (w:World)
noncomputable def ObjOk (H:Hp) (h:Heap) (a:Addr):HO -> Prop
 | .lst xs => xs.length ≤ sizeLine∧∃ (its:List Value) (n:Nat), Vals xs its∧h.get? a = some { cls:=.type "list", data:=.seq its.toArray n }
 | .tup xs => xs.length ≤ sizeLine∧∃ its:List Value,Vals xs its∧IsTup h a its.toArray
 | .dK kvs => kvs.length ≤ sizeLine∧(a == sysModules) = false∧∃ vs,KV kvs vs∧h.DictOf (mixKind P w) a vs
 | .dT kvs => kvs.length ≤ sizeLine∧(a == sysModules) = false∧∃ xs:List (List Key × Addr × Value),
   Paired (fun (p:List Key × V) (q:List Key × Addr × Value) => p.1 = q.1∧H q.2.1 = some (.tup (p.1.map kV))∧RelV p.2 q.2.2) kvs xs ∧
   ∃ o es ep,h.get? a = some o∧o.ExactDict∧o.data = .dict es ep∧es.toList = xs.map (entryOfKey (tupleKind (mixKind P w)))∧(xs.map (·.1)).Nodup
 | .set S n => h.SetOf (intKind P w) a S n
 | .ins C dx fs => H dx = some (.own a)∧fs.length ≤ 1000∧dx ≠ a∧h.get? a = some (PySem.W.instObj C dx) ∧
   ∃ mA,h.Ns1 dx mA∧(∀ f,RelO (fs.lookup f) (mA f))∧PySem.Within mA (fs.map (·.1))
 | .own _ => ∃ o,h.get? a = some o
 | .xd fs => ∃ mA,h.Ns1 a mA∧∀ f,RelO (fs.lookup f) (mA f)
 | .rng lo hi => ∃ t u v, h.get? a = some { cls:=.type "range", data:=.fields #[.int lo t, .int hi u, .int 1 v] }
 | .frz o u => h.get? a = some o∧ObjOk H h a u
 | .tbl ps => h.get? a = some { cls:=.none,data:=.fields ps }
 | .met f x => h.get? a = some (PySem.W.methodObj (.ref f) (.ref x))
 | .ext φ => φ h∧(∃ o,h.get? a = some o)∧∀ h1 h2:Heap,φ h1 -> (∀ o,h1.get? a = some o -> h2.get? a = some o) -> φ h2
noncomputable def HOk (H:Hp) (h:Heap):Prop:=∀ a o,H a = some o -> ObjOk P w H h a o
end
section
variable {P:Program} {w:World} {H H':Hp} {h h':Heap} {a:Addr} {o:HO}
theorem ObjOk.lt (x:ObjOk P w H h a o):a < h.objs.size:=by
 cases o with
 | lst xs => obtain ⟨_,_,_,_,e⟩:=x; exact Heap.lt_size e
 | tup xs => obtain ⟨_,_,_,p⟩:=x; exact p.lt
 | dK kvs => obtain ⟨_,_,_,_,o,_,_,e,_⟩:=x; exact Heap.lt_size e
 | dT kvs => obtain ⟨_,_,_,_,o,_,_,e,_⟩:=x; exact Heap.lt_size e
 | set S n => obtain ⟨o,_,_,_,e,_⟩:=x; exact Heap.lt_size e
 | ins C dx fs => obtain ⟨_,_,_,e,_⟩:=x; exact Heap.lt_size e
 | own y => obtain ⟨_,e⟩:=x; exact Heap.lt_size e
 | xd fs => obtain ⟨_,⟨_,_,_,e,_⟩,_⟩:=x; exact Heap.lt_size e
 | rng lo hi => obtain ⟨_,_,_,e⟩:=x; exact Heap.lt_size e
 | frz ob u => obtain ⟨e,_⟩:=x; exact Heap.lt_size e
 | tbl ps => exact Heap.lt_size (show h.get? a = some _ from x)
 | met f y => exact Heap.lt_size (show h.get? a = some _ from x)
 | ext φ => obtain ⟨_,⟨_,e⟩,_⟩:=x; exact Heap.lt_size e
theorem Paired.mapP {α β:Type} {F G:α -> β -> Prop}:∀ {l₁:List α} {l₂:List β},Paired F l₁ l₂ -> (∀ a b,F a b -> G a b) -> Paired G l₁ l₂
 | _,_,.nil,_ => .nil
 | _,_,.cons r t,f => .cons (f _ _ r) (Paired.mapP t f)
theorem ObjOk.stay (x:ObjOk P w H h a o) (k:∀ b u,(b = a ∨ H b = some (.own a)) -> h.get? b = some u -> h'.get? b = some u)
  (ho:∀ b,H b = some (.own a) -> H' b = some (.own a)) (ht:∀ b xs,H b = some (.tup xs) -> H' b = some (.tup xs)):ObjOk P w H' h' a o:=by
 induction o with
 | lst xs => obtain ⟨z,its,n,r,e⟩:=x; exact ⟨z,its,n,r,k _ _ (.inl rfl) e⟩
 | tup xs => obtain ⟨z,its,r,ob,e,c⟩:=x; exact ⟨z,its,r,ob,k _ _ (.inl rfl) e,c⟩
 | dK kvs => obtain ⟨z,y,vs,r,ob,es,ep,e,c⟩:=x; exact ⟨z,y,vs,r,ob,es,ep,k _ _ (.inl rfl) e,c⟩
 | dT kvs =>
  obtain ⟨z,y,xs,r,ob,es,ep,e,c⟩:=x
  exact ⟨z,y,xs,Paired.mapP r fun p q z => ⟨z.1,ht _ _ z.2.1,z.2.2⟩,ob,es,ep,k _ _ (.inl rfl) e,c⟩
 | set S n => obtain ⟨ob,es,ep,t,e,c⟩:=x; exact ⟨ob,es,ep,t,k _ _ (.inl rfl) e,c⟩
 | ins C dx fs =>
  obtain ⟨d,z,ne,e,mA,⟨od,es,ep,e2,c⟩,r⟩:=x
  exact ⟨ho _ d,z,ne,k _ _ (.inl rfl) e,mA,⟨od,es,ep,k _ _ (.inr d) e2,c⟩,r⟩
 | own y => obtain ⟨ob,e⟩:=x; exact ⟨ob,k _ _ (.inl rfl) e⟩
 | xd fs => obtain ⟨mA,⟨od,es,ep,e,c⟩,r⟩:=x; exact ⟨mA,⟨od,es,ep,k _ _ (.inl rfl) e,c⟩,r⟩
 | rng lo hi => obtain ⟨t,u,v,e⟩:=x; exact ⟨t,u,v,k _ _ (.inl rfl) e⟩
 | frz ob u ih => obtain ⟨e,q⟩:=x; exact ⟨k _ _ (.inl rfl) e,ih q⟩
 | tbl ps =>
  have e:h.get? a = some { cls:=.none,data:=.fields ps }:=x
  show h'.get? a = some { cls:=.none,data:=.fields ps }
  exact k a _ (.inl rfl) e
 | met f y =>
  have e:h.get? a = some (PySem.W.methodObj (.ref f) (.ref y)):=x
  show h'.get? a = some (PySem.W.methodObj (.ref f) (.ref y))
  exact k a _ (.inl rfl) e
 | ext φ => obtain ⟨p,⟨o,e⟩,st⟩:=x; exact ⟨st _ _ p fun o q => k _ _ (.inl rfl) q,⟨o,k _ _ (.inl rfl) e⟩,st⟩
theorem HOk.lt (x:HOk P w H h) (e:H a = some o):a < h.objs.size:=(x a o e).lt
theorem HOk.fresh (x:HOk P w H h) (e:h.objs.size ≤ a):H a = none:=by
 cases q:H a with
 | none => rfl
 | some u => exact absurd (Nat.lt_of_lt_of_le (x.lt q) e) (Nat.lt_irrefl _)
theorem HOk.kept (x:HOk P w H h) (k:∀ b u,h.get? b = some u -> h'.get? b = some u):HOk P w H h':=fun a o e =>
 (x a o e).stay (fun b u _ q => k b u q) (fun _ q => q) fun _ _ q => q
theorem HOk.laid (x:HOk P w H h) (k:∀ b u,h.get? b = some u -> h'.get? b = some u) (hp:h.objs.size ≤ a) (new:ObjOk P w (upd H a o) h' a o):HOk P w (upd H a o) h':=fun b u e => by
 have hn:=x.fresh hp
 by_cases hb:b = a
 ·subst hb; rw [upd_same] at e; cases e; exact new
 ·rw [upd_ne hb] at e
  exact (x b u e).stay (fun c v _ q => k c v q) (fun c q => by rw [upd_ne (ne_of_none q hn)]; exact q) fun c xs q => by rw [upd_ne (ne_of_none q hn)]; exact q
end
noncomputable def Rd (H:Hp) (a:Addr) (u:HO):Prop:=H a = some u ∨ ∃ o,H a = some (.frz o u)
theorem Rd.ok {P:Program} {w:World} {H:Hp} {h:Heap} {a:Addr} {u:HO} (r:Rd H a u) (x:HOk P w H h):ObjOk P w H h a u:=by
 rcases r with r | ⟨o,r⟩
 ·exact x a u r
 ·obtain ⟨_,q⟩:=x a _ r
  exact q
noncomputable def Mut:Option HO -> Prop
 | some (.lst _) => True
 | some (.dK _) => True
 | some (.dT _) => True
 | some (.set _ _) => True
 | some (.ins _ _ _) => True
 | some (.ext _) => True
 | _ => False
section
variable {P:Program} {w:World} {H:Hp} {h h':Heap} {x e:Addr} {o':HO}
theorem HOk.write (ok:HOk P w H h) (mu:Mut (H x)) (he:e = x ∨ H e = some (.own x)) (k:∀ b u,b ≠ e -> h.get? b = some u -> h'.get? b = some u) (heo:∃ u,h'.get? e = some u)
  (new:ObjOk P w (upd H x o') h' x o'):HOk P w (upd H x o') h':=fun b u q => by
 have nown:∀ c y,H c = some (.own y) -> c ≠ x:=fun c y r z => by subst z; rw [r] at mu; exact mu
 have ntup:∀ c xs,H c = some (.tup xs) -> c ≠ x:=fun c xs r z => by subst z; rw [r] at mu; exact mu
 by_cases hb:b = x
 ·subst hb; rw [upd_same] at q; cases q; exact new
 ·rw [upd_ne hb] at q
  by_cases hbe:b = e
  ·have q':H b = some (.own x):=by
    rcases he with z | z
    ·exact absurd (hbe.trans z) hb
    ·rw [hbe]; exact z
   rw [q] at q'; cases q'
   obtain ⟨v,hv⟩:=heo
   exact ⟨v,by rw [hbe]; exact hv⟩
  ·refine (ok b u q).stay (fun c v hc r => k c v ?_ r) (fun c r => by rw [upd_ne (nown c b r)]; exact r) fun c xs r => by rw [upd_ne (ntup c xs r)]; exact r
   rcases hc with rfl | hc
   ·exact hbe
   ·rintro rfl
    rcases he with z | z
    ·exact nown c b hc z
    ·rw [hc] at z; cases z; exact hb rfl
end
structure Un (fs ex:List Addr) (H H':Hp) (h h':Heap):Prop where
 keep:∀ b o,h.get? b = some o -> H b = none -> b ∉ fs -> b ∉ ex -> h'.get? b = some o
 slot:∀ b o,h.get? b = some o -> H b = none -> b ∈ fs -> b ∉ ex -> ∃ sl,h'.get? b = some { o with slots:=sl }
 free:∀ b o,h.get? b = some o -> H b = none -> b ∉ ex -> H' b = none
 there:∀ b o,h.get? b = some o -> b ∉ ex -> ∃ o',h'.get? b = some o'
 tups:∀ b xs,H b = some (.tup xs) -> H' b = some (.tup xs)
 frzs:∀ b o u,H b = some (.frz o u) -> H' b = some (.frz o u)
 tbls:∀ b ps,H b = some (.tbl ps) -> ∃ more,H' b = some (.tbl (ps ++ more))
section
variable {fs fs' ex ex':List Addr} {H H1 H2:Hp} {h h1 h2 h':Heap} {a x e:Addr} {o:HO}
theorem Un.any (u:Un fs ex H H1 h h1) {b:Addr} {ob:Obj} (q:h.get? b = some ob) (n:H b = none) (hx:b ∉ ex):∃ sl,h1.get? b = some { ob with slots:=sl }:=by
 by_cases hb:b ∈ fs
 ·exact u.slot b ob q n hb hx
 ·exact ⟨ob.slots,u.keep b ob q n hb hx⟩
theorem Un.kept (k:∀ b u,h.get? b = some u -> h'.get? b = some u):Un fs ex H H h h' :=
 ⟨fun b ob q _ _ _ => k b ob q,fun b ob q _ _ _ => ⟨ob.slots,k b ob q⟩,fun _ _ _ n _ => n,fun b ob q _ => ⟨ob,k b ob q⟩,fun _ _ q => q,fun _ _ _ q => q,fun _ ps q => ⟨#[],by rw [q]; simp⟩⟩
theorem Un.refl:Un fs ex H H h h:=Un.kept fun _ _ q => q
theorem Un.laid (k:∀ b u,h.get? b = some u -> h'.get? b = some u) (hp:h.objs.size ≤ a) (hn:H a = none):Un fs ex H (upd H a o) h h' where
 keep:=fun b u q _ _ _ => k b u q
 slot:=fun b u q _ _ _ => ⟨u.slots,k b u q⟩
 free:=fun b u q n _ => by rw [upd_ne (Nat.ne_of_lt (Nat.lt_of_lt_of_le (Heap.lt_size q) hp))]; exact n
 there:=fun b u q _ => ⟨u,k b u q⟩
 tups:=fun b xs q => by rw [upd_ne (ne_of_none q hn)]; exact q
 frzs:=fun b u xs q => by rw [upd_ne (ne_of_none q hn)]; exact q
 tbls:=fun b ps q => ⟨#[],by rw [upd_ne (ne_of_none q hn),q]; simp⟩
theorem Un.write (mu:Mut (H x)) (he:e = x ∨ H e = some (.own x)) (k:∀ b u,b ≠ e -> h.get? b = some u -> h'.get? b = some u) (heo:∃ u,h'.get? e = some u):Un fs ex H (upd H x o) h h':=by
 have hx:∀ b,H b = none -> b ≠ x:=fun b n z => by subst z; rw [n] at mu; exact mu
 have hb:∀ b,H b = none -> b ≠ e:=fun b n z => by
  subst z
  rcases he with r | r
  ·exact hx b n r
  ·rw [n] at r; cases r
 have hm:∀ b u,H b = some u -> ¬ Mut (some u) -> b ≠ x:=fun b u q nm z => by subst z; rw [q] at mu; exact nm mu
 refine ⟨fun b u q n _ _ => k b u (hb b n) q,fun b u q n _ _ => ⟨u.slots,k b u (hb b n) q⟩,fun b u q n _ => by rw [upd_ne (hx b n)]; exact n,fun b u q _ => ?_,
  fun b xs q => by rw [upd_ne (hm b _ q fun z => z)]; exact q,fun b u xs q => by rw [upd_ne (hm b _ q fun z => z)]; exact q,fun b ps q => ⟨#[],by rw [upd_ne (hm b _ q fun z => z),q]; simp⟩⟩
 by_cases hbe:b = e
 ·subst hbe; exact heo
 ·exact ⟨u,k b u hbe q⟩
end
noncomputable def trk (h:Heap) (H:Hp):List Addr:=(List.range h.objs.size).filter fun a => (H a).isSome
noncomputable def hidT (h:Heap) (H:Hp):Heap:=PySem.W.hideAll h (trk h H)
theorem hidT_size (h:Heap) (H:Hp):(hidT h H).objs.size = h.objs.size:=PySem.W.hideAll_size _ _
theorem hidT_get {h:Heap} {H:Hp} {b:Addr} {o:Obj} (e:h.get? b = some o) (n:H b = none):(hidT h H).get? b = some o :=
 PySem.W.hideAll_get _ e fun hm => by
  have q:(H b).isSome = true:=(List.mem_filter.mp hm).2
  rw [n] at q; simp at q
theorem of_hidT {h:Heap} {H:Hp} {b:Addr} {o:Obj} (e:(hidT h H).get? b = some o):h.get? b = some o∧H b = none:=by
 have e':h.get? b = some o:=PySem.W.of_hideAll (trk h H) e
 refine ⟨e',?_⟩
 cases q:H b with
 | none => rfl
 | some x =>
  have hm:b ∈ trk h H:=List.mem_filter.mpr ⟨List.mem_range.mpr (Heap.lt_size e'),by simp [q]⟩
  have z:(hidT h H).get? b = none:=PySem.W.hideAll_none (trk h H) hm
  rw [z] at e; cases e
end L2
namespace L2
open PySem PySem.Spec PyProof.Rows
structure Mod (K:PySem.W.Frag) (mg:Str -> Option Value) (base:Heap):Prop where
 kin:K.In base
 glob:base.Ns mainGlobals mg
 blt:∃ mb, base.Ns builtinsNs mb∧∀ x:Str, x ≠ "__name__" -> mb x = bootBuiltins x
 nolimit:base.NoLimit
structure Cx where
 prog:Program
 w:World
 K:PySem.W.Frag
 mg:Str -> Option Value
 base:Heap
 A:Around
 N:List Str
 s₀:Shared
 H₀:Hp
 env:Env
 outer:List Env
 stack:List Env
 ex:List Addr
 fn:Str -> Bool
 calm:Bool
 pn:List (Addr × Obj)
 xe:Value -> Shared -> Prop
noncomputable def frs (l:List Env):List Addr:=l.filterMap (·.frame)
noncomputable abbrev Cx.fs (X:Cx):List Addr:=frs X.outer
noncomputable def Vis (sc:Scope) (x:Str):Prop:=sc.names.lookup x = some .local ∨ sc.names.lookup x = some .cell ∨ sc.names.lookup x = some .free
noncomputable def Loc (sc:Scope) (x:Str):Prop:=sc.names.lookup x = some .local ∨ sc.names.lookup x = some .cell
noncomputable def Look (env:Env) (h:Heap) (m:Str -> Option Value) (x:Str) (u:Value):Prop :=
 (env.kindOf x = some .local∧m x = some u) ∨ ((env.kindOf x = some .cell ∨ env.kindOf x = some .free)∧∃ c,env.cells.lookup x = some c∧h.IsCell c (some u))
structure Cx.Ok (X:Cx):Prop where
 mod:Mod X.K X.mg X.base
 kind:X.env.scope.kind = .function
 glob:X.env.globals = mainGlobals
 blt:X.env.builtins = builtinsNs
 above:X.s₀.heap.objs.size ≤ X.env.locals
 inj:∀ x y c,X.env.cells.lookup x = some c -> X.env.cells.lookup y = some c -> x = y
 has:∀ x,(X.env.kindOf x = some .cell ∨ X.env.kindOf x = some .free) -> ∃ c,X.env.cells.lookup x = some c
 cab:∀ x c,X.fn x = true -> X.env.cells.lookup x = some c -> X.s₀.heap.objs.size ≤ c
 hd:X.calm = true -> X.A.handled = none
 frames:X.A.frames = some X.stack
 stk:X.stack = X.outer ∨ (X.stack = X.env :: X.outer∧X.env.frame = some X.env.locals)
 exf:∀ b ∈ X.ex,b ≠ X.env.locals∧∀ x c,X.env.cells.lookup x = some c -> c ≠ b
 bs:∀ b o,X.base.get? b = some o -> X.s₀.heap.get? b = some o∧X.H₀ b = none
 bsz:X.base.objs.size ≤ X.s₀.heap.objs.size
 noex:∀ b o,X.base.get? b = some o -> b ∉ X.ex
 exfs:∀ b ∈ X.ex,b ∉ X.fs
 funs:X.s₀.heap.FunFrames X.base X.outer
 frf:∀ b ∈ X.fs,X.H₀ b = none
structure Inv (X:Cx) (pins:List (Addr × Obj)) (σ:List (Option V)) (H:Hp) (s:Shared):Prop where
 ok:X.Ok
 os:s.os = X.s₀.os
 bare:AllBare s.gens
 base:Un X.fs X.ex X.H₀ H X.s₀.heap s.heap
 loc:∃ m,s.heap.Ns X.env.locals m∧∀ (i:Nat) (x:Str) (v:V),X.N[i]? = some x -> σ[i]? = some (some v) -> Vis X.env.scope x -> ∃ u,RelV v u∧Look X.env s.heap m x u
 cell:∀ x c,X.env.cells.lookup x = some c -> ∃ v,s.heap.IsCell c v
 free:H X.env.locals = none
 freeC:∀ x c,X.env.cells.lookup x = some c -> H c = none
 pin:∀ p ∈ X.pn ++ pins,s.heap.get? p.1 = some p.2∧H p.1 = none∧p.1 ≠ X.env.locals∧p.1 ∉ X.fs∧∀ v,p.2.data ≠ .cell v
 hok:HOk X.prog X.w H s.heap
 len:σ.length = X.N.length
section
variable {X:Cx} {pins:List (Addr × Obj)} {σ:List (Option V)} {H H':Hp} {s:Shared} {h':Heap}
theorem Cx.Ok.nofr (ok:X.Ok) {b:Addr} {o:Obj} (e:X.base.get? b = some o):b ∉ X.fs:=fun hb => by
 have:=(ok.funs.mem hb).1
 rw [e] at this; cases this
theorem Inv.bs (I:Inv X pins σ H s):∀ b o,X.base.get? b = some o -> s.heap.get? b = some o∧H b = none:=fun b o e =>
 ⟨I.base.keep b o (I.ok.bs b o e).1 (I.ok.bs b o e).2 (I.ok.nofr e) (I.ok.noex b o e),I.base.free b o (I.ok.bs b o e).1 (I.ok.bs b o e).2 (I.ok.noex b o e)⟩
theorem Inv.bk (I:Inv X pins σ H s):∀ b o,X.base.get? b = some o -> s.heap.get? b = some o:=fun b o e => (I.bs b o e).1
theorem Inv.mod (I:Inv X pins σ H s):Mod X.K X.mg X.base:=I.ok.mod
theorem Inv.kIn (I:Inv X pins σ H s):X.K.In s.heap:=I.ok.mod.kin.keeps I.bk
theorem Inv.lt (I:Inv X pins σ H s):X.env.locals < s.heap.objs.size:=let ⟨_,hn,_⟩:=I.loc; hn.lt
theorem Inv.sz (I:Inv X pins σ H s):X.s₀.heap.objs.size ≤ s.heap.objs.size:=Nat.le_trans I.ok.above (Nat.le_of_lt I.lt)
theorem Inv.nofs (I:Inv X pins σ H s) {a:Addr} (h:s.heap.objs.size ≤ a):a ∉ X.fs:=fun hb => by
 obtain ⟨_,o,ho,_⟩:=I.ok.funs.mem hb
 exact absurd (Nat.lt_of_lt_of_le (Heap.lt_size ho) (Nat.le_trans I.sz h)) (Nat.lt_irrefl _)
theorem Inv.cne (I:Inv X pins σ H s):∀ x c,X.env.cells.lookup x = some c -> c ≠ X.env.locals:=fun x c e z => by
 obtain ⟨v,o,ho,hd⟩:=I.cell x c e
 obtain ⟨m,⟨o',es,ep,ho',hd',_⟩,_⟩:=I.loc
 rw [z,ho'] at ho; cases ho; rw [hd'] at hd; cases hd
theorem Inv.funs (I:Inv X pins σ H s):s.heap.FunFrames X.base X.outer:=by
 have all:∀ (l:List Env),(∀ b ∈ frs l,b ∈ X.fs) -> X.s₀.heap.FunFrames X.base l -> s.heap.FunFrames X.base l:=by
  intro l
  induction l with
  | nil => intro _ _; trivial
  | cons env r ih =>
   intro hs hl
   obtain ⟨hk,⟨L,o,hf,hn,ho,hd⟩,hr⟩:=hl
   have hL:L ∈ X.fs:=hs L (by unfold frs; rw [List.filterMap_cons,hf]; exact List.mem_cons_self)
   obtain ⟨sl,e⟩:=I.base.slot L o ho (I.ok.frf L hL) hL fun z => I.ok.exfs L z hL
   exact ⟨hk,⟨L,_,hf,hn,e,hd⟩,ih (fun b hb => hs b (by unfold frs; rw [List.filterMap_cons,hf]; exact List.mem_cons_of_mem _ hb)) hr⟩
 exact all X.outer (fun _ hb => hb) I.ok.funs
theorem Inv.stack (I:Inv X pins σ H s):s.heap.FunFrames X.base X.stack:=by
 rcases I.ok.stk with e | ⟨e,hf⟩
 ·rw [e]; exact I.funs
 ·rw [e]
  obtain ⟨m,hn,_⟩:=I.loc
  refine .cons (by rw [I.ok.kind]; decide) hf hn ?_ I.funs
  exact Heap.get?_none_of_le (Nat.le_trans I.ok.bsz I.ok.above)
theorem Inv.stkSub (I:Inv X pins σ H s):∀ b ∈ frs X.stack,b ∈ X.env.locals :: X.fs:=fun b hb => by
 rcases I.ok.stk with e | ⟨e,hf⟩
 ·rw [e] at hb; exact List.mem_cons_of_mem _ hb
 ·rw [e] at hb
  unfold frs at hb
  rw [List.filterMap_cons,hf] at hb
  exact hb
theorem Inv.stkFree (I:Inv X pins σ H s):∀ b ∈ frs X.stack,H b = none:=fun b hb => by
 rcases List.mem_cons.mp (I.stkSub b hb) with e | hb
 ·rw [e]; exact I.free
 ·obtain ⟨_,o,ho,_⟩:=I.ok.funs.mem hb
  exact I.base.free b o ho (I.ok.frf b hb) fun z => I.ok.exfs b z hb
theorem Inv.step {g':Array GenState} {t':Nat} {d':Drawn} {ch:List Addr} (I:Inv X pins σ H s)
  (hch:∀ b ∈ ch,(b ∈ X.ex ∨ X.s₀.heap.objs.size ≤ b)∧b ≠ X.env.locals∧(∀ x c,X.env.cells.lookup x = some c -> c ≠ b)∧∀ p ∈ X.pn ++ pins,p.1 ≠ b)
  (keep:∀ b o,b ≠ X.env.locals -> b ∉ X.fs -> b ∉ ch -> s.heap.get? b = some o -> H b = none -> h'.get? b = some o)
  (slot:∀ b o,b ≠ X.env.locals -> b ∈ X.fs -> b ∉ ch -> s.heap.get? b = some o -> H b = none -> ∃ sl,h'.get? b = some { o with slots:=sl }) (free:∀ b o,b ∉ ch -> s.heap.get? b = some o -> H b = none -> H' b = none)
  (there:∀ b o,b ∉ ch -> s.heap.get? b = some o -> ∃ o',h'.get? b = some o')
  (tups:∀ b xs,H b = some (.tup xs) -> H' b = some (.tup xs)) (frzs:∀ b o u,H b = some (.frz o u) -> H' b = some (.frz o u)) (tbls:∀ b ps,H b = some (.tbl ps) -> ∃ more,H' b = some (.tbl (ps ++ more)))
  (ns:∀ m,s.heap.Ns X.env.locals m -> h'.Ns X.env.locals m) (hok:HOk X.prog X.w H' h') (hg:AllBare g') :
  Inv X pins σ H' { s with heap:=h',gens:=g',drawn:=d',toks:=t' }:=by
 have neL:∀ b o,X.s₀.heap.get? b = some o -> b ≠ X.env.locals:=fun b o e => Nat.ne_of_lt (Nat.lt_of_lt_of_le (Heap.lt_size e) I.ok.above)
 have neC:∀ b o,X.s₀.heap.get? b = some o -> b ∉ X.ex -> b ∉ ch:=fun b o e hx hb => by
  rcases (hch b hb).1 with z | z
  ·exact hx z
  ·exact absurd (Nat.lt_of_lt_of_le (Heap.lt_size e) z) (Nat.lt_irrefl _)
 have cellK:∀ x c,X.env.cells.lookup x = some c -> ∀ v,s.heap.IsCell c v -> h'.IsCell c v:=fun x c e v ⟨o,ho,hd⟩ => by
  have nch:c ∉ ch:=fun z => (hch c z).2.2.1 x c e rfl
  by_cases hc:c ∈ X.fs
  ·obtain ⟨sl,q⟩:=slot c o (I.cne x c e) hc nch ho (I.freeC x c e)
   exact ⟨_,q,hd⟩
  ·exact ⟨o,keep c o (I.cne x c e) hc nch ho (I.freeC x c e),hd⟩
 refine ⟨I.ok,I.os,hg,⟨fun b o e n hb hx => ?_,fun b o e n hb hx => ?_,fun b o e n hx => ?_,fun b o e hx => ?_,fun b xs e => tups b xs (I.base.tups b xs e),fun b o xs e => frzs b o xs (I.base.frzs b o xs e),fun b ps e => ?_⟩,?_,fun x c e => ?_,?_,fun x c e => ?_,fun p hp => ?_,hok,I.len⟩
 ·exact keep b o (neL b o e) hb (neC b o e hx) (I.base.keep b o e n hb hx) (I.base.free b o e n hx)
 ·obtain ⟨sl,e1⟩:=I.base.slot b o e n hb hx
  obtain ⟨sl',e2⟩:=slot b _ (neL b o e) hb (neC b o e hx) e1 (I.base.free b o e n hx)
  exact ⟨sl',e2⟩
 ·obtain ⟨o',e1⟩:=I.base.there b o e hx
  exact free b o' (neC b o e hx) e1 (I.base.free b o e n hx)
 ·obtain ⟨o',e1⟩:=I.base.there b o e hx
  exact there b o' (neC b o e hx) e1
 ·obtain ⟨m1,e1⟩:=I.base.tbls b ps e
  obtain ⟨m2,e2⟩:=tbls b _ e1
  exact ⟨m1 ++ m2,by rw [e2,Array.append_assoc]⟩
 ·obtain ⟨m,hn,hl⟩:=I.loc
  refine ⟨m,ns m hn,fun i x v e1 e2 e3 => ?_⟩
  obtain ⟨u,r,l⟩:=hl i x v e1 e2 e3
  refine ⟨u,r,?_⟩
  rcases l with l | ⟨k,c,e,z⟩
  ·exact .inl l
  ·exact .inr ⟨k,c,e,cellK x c e _ z⟩
 ·obtain ⟨v,z⟩:=I.cell x c e
  exact ⟨v,cellK x c e v z⟩
 ·obtain ⟨m,⟨o,_,_,ho,_⟩,_⟩:=I.loc
  exact free _ o (fun z => (hch _ z).2.1 rfl) ho I.free
 ·obtain ⟨v,o,ho,hd⟩:=I.cell x c e
  exact free c o (fun z => (hch c z).2.2.1 x c e rfl) ho (I.freeC x c e)
 ·obtain ⟨e,n,ne,nf,d⟩:=I.pin p hp
  have nch:p.1 ∉ ch:=fun z => (hch p.1 z).2.2.2 p hp rfl
  exact ⟨keep p.1 p.2 ne nf nch e n,free p.1 p.2 nch e n,ne,nf,d⟩
theorem Inv.un {t':Nat} (I:Inv X pins σ H s) (u:Un X.fs [] H H' s.heap h') (hok:HOk X.prog X.w H' h'):Inv X pins σ H' { s with heap:=h',toks:=t' }:=by
 obtain ⟨m,⟨o,es,ep,ho,r⟩,_⟩:=id I.loc
 obtain ⟨sl,hL⟩:=u.any ho I.free (by simp)
 exact I.step (g':=s.gens) (d':=s.drawn) (ch:=[]) (fun _ z => nomatch z) (fun b o _ hb _ e n => u.keep b o e n hb (by simp)) (fun b o _ hb _ e n => u.slot b o e n hb (by simp)) (fun b o _ e n => u.free b o e n (by simp)) (fun b o _ e => u.there b o e (by simp)) u.tups u.frzs u.tbls (fun m' hm => by
  obtain ⟨o',es',ep',ho',r'⟩:=hm
  rw [ho] at ho'; cases ho'
  exact ⟨_,es',ep',hL,r'⟩) hok I.bare
theorem Inv.call {g':Array GenState} {t':Nat} {d':Drawn} {ch:List Addr} (I:Inv X pins σ H s) (u:Un (frs X.stack) ch H H' s.heap h') (hok:HOk X.prog X.w H' h') (hg:AllBare g')
  (hch:∀ b ∈ ch,(b ∈ X.ex ∨ X.s₀.heap.objs.size ≤ b)∧b ≠ X.env.locals∧(∀ x c,X.env.cells.lookup x = some c -> c ≠ b)∧∀ p ∈ X.pn ++ pins,p.1 ≠ b) :
  Inv X pins σ H' { s with heap:=h',gens:=g',drawn:=d',toks:=t' }:=by
 obtain ⟨m,⟨o,es,ep,ho,r⟩,_⟩:=id I.loc
 obtain ⟨sl,hL⟩:=u.any ho I.free fun z => (hch _ z).2.1 rfl
 exact I.step (ch:=ch) hch (fun b o hL hb hc e n => u.keep b o e n (fun z => (List.mem_cons.mp (I.stkSub b z)).elim hL hb) hc) (fun b o _ _ hc e n => u.any e n hc) (fun b o hc e n => u.free b o e n hc) (fun b o hc e => u.there b o e hc) u.tups u.frzs u.tbls (fun m' hm => by
  obtain ⟨o',es',ep',ho',r'⟩:=hm
  rw [ho] at ho'; cases ho'
  exact ⟨_,es',ep',hL,r'⟩) hok hg
theorem Inv.turned {t':Nat} {it:Addr} (I:Inv X pins σ H s) (k:∀ b o,b ≠ it -> s.heap.get? b = some o -> h'.get? b = some o) (hn:H it = none) (hL:it ≠ X.env.locals)
  (h1:it ∈ X.ex ∨ X.s₀.heap.objs.size ≤ it) (h2:∀ x c,X.env.cells.lookup x = some c -> c ≠ it) (h3:∀ p ∈ X.pn ++ pins,p.1 ≠ it):Inv X pins σ H { s with heap:=h',toks:=t' }:=by
 have nit:∀ b u,H b = some u -> b ≠ it:=fun b u e z => by rw [z,hn] at e; cases e
 refine I.step (g':=s.gens) (d':=s.drawn) (ch:=[it]) (fun b hb => ?_) (fun b o _ _ hc e _ => k b o (fun z => hc (by simp [z])) e) (fun b o _ _ hc e _ => ⟨o.slots,k b o (fun z => hc (by simp [z])) e⟩) (fun _ _ _ _ n => n)
  (fun b o hc e => ⟨o,k b o (fun z => hc (by simp [z])) e⟩) (fun _ _ e => e) (fun _ _ _ e => e) (fun b ps e => ⟨#[],by rw [e]; simp⟩) (fun m hm => ?_) (fun b u e => ?_) I.bare
 ·have e:b = it:=by simpa using hb
  subst e
  exact ⟨h1,hL,h2,h3⟩
 ·obtain ⟨o,es,ep,ho,r⟩:=hm
  exact ⟨o,es,ep,k _ o (Ne.symm hL) ho,r⟩
 ·refine (I.hok b u e).stay (fun c v hc q => k c v ?_ q) (fun _ q => q) fun _ _ q => q
  rcases hc with z | z
  ·rw [z]; exact nit b u e
  ·exact nit c _ z
theorem Inv.tok (I:Inv X pins σ H s) (t:Nat):Inv X pins σ H { s with toks:=t }:=I.un (h':=s.heap) (t':=t) Un.refl I.hok
theorem Inv.kept {t':Nat} (I:Inv X pins σ H s) (k:∀ b u,s.heap.get? b = some u -> h'.get? b = some u):Inv X pins σ H { s with heap:=h',toks:=t' }:=I.un (Un.kept k) (I.hok.kept k)
theorem Inv.laid {a:Addr} {o:HO} {t':Nat} (I:Inv X pins σ H s) (k:∀ b u,s.heap.get? b = some u -> h'.get? b = some u) (hp:s.heap.objs.size ≤ a) (new:ObjOk X.prog X.w (upd H a o) h' a o) :
  Inv X pins σ (upd H a o) { s with heap:=h',toks:=t' }:=I.un (Un.laid k hp (I.hok.fresh hp)) (I.hok.laid k hp new)
theorem Inv.write {x e:Addr} {o:HO} {t':Nat} (I:Inv X pins σ H s) (mu:Mut (H x)) (he:e = x ∨ H e = some (.own x)) (k:∀ b u,b ≠ e -> s.heap.get? b = some u -> h'.get? b = some u) (heo:∃ u,h'.get? e = some u)
  (new:ObjOk X.prog X.w (upd H x o) h' x o):Inv X pins σ (upd H x o) { s with heap:=h',toks:=t' }:=I.un (Un.write mu he k heo) (I.hok.write mu he k heo new)
theorem Inv.pins_of {pins':List (Addr × Obj)} (I:Inv X pins σ H s) (h:∀ p ∈ pins',s.heap.get? p.1 = some p.2∧H p.1 = none∧p.1 ≠ X.env.locals∧p.1 ∉ X.fs∧∀ v,p.2.data ≠ .cell v):Inv X pins' σ H s :=
 ⟨I.ok,I.os,I.bare,I.base,I.loc,I.cell,I.free,I.freeC,fun p hp => (List.mem_append.mp hp).elim (fun z => I.pin p (List.mem_append_left _ z)) (h p),I.hok,I.len⟩
theorem nodup_ix {N:List Str} (hN:N.Nodup) {i j:Nat} {x:Str} (a:N[i]? = some x) (b:N[j]? = some x):i = j:=by
 obtain ⟨h1,e1⟩:=List.getElem?_eq_some_iff.mp a
 obtain ⟨h2,e2⟩:=List.getElem?_eq_some_iff.mp b
 exact (List.getElem_inj hN).mp (e1.trans e2.symm)
theorem store_ok2 {M:Model} {A:Around} {E:Value -> Shared -> Prop} {i:Nat} {x:Str} {v:V} {u:Value} {Q:Unit -> Shared -> Prop} (I:Inv X pins σ H s) (hN:X.N.Nodup) (hi:X.N[i]? = some x) (hx:Loc X.env.scope x) (r:RelV v u)
  (h:∀ s',Inv X pins (σ.set i (some v)) H s' -> (∃ a,Heap.SameBut a s.heap s'.heap∧(a = X.env.locals ∨ X.env.cells.lookup x = some a)) -> Q () s') (hf:X.fn x = true ∨ X.env.scope.names.lookup x = some .local:=by first | exact .inl rfl | exact .inr rfl | assumption):wpAny M A (storeName X.env x u) Q E s:=by
 obtain ⟨m,hn,hl⟩:=id I.loc
 have hcls:(X.env.scope.kind == .class || (X.env.scope.kind == .module && X.env.locals != X.env.globals)) = false:=by rw [I.ok.kind]; rfl
 have hiσ:i < σ.length:=by rw [I.len]; exact (List.getElem?_eq_some_iff.mp hi).1
 have cne:=I.cne
 have tracked:∀ {a:Addr} {h':Heap},(∃ o,s.heap.get? a = some o∧H a = none) -> Heap.SameBut a s.heap h' -> HOk X.prog X.w H h':=fun {a h'} ha hs b ob e => by
  obtain ⟨_,_,hfree⟩:=ha
  refine (I.hok b ob e).stay (fun c w' hc q => (hs.2 c ?_).trans q) (fun _ q => q) fun _ _ q => q
  rintro rfl
  rcases hc with rfl | hc
  ·rw [hfree] at e; cases e
  ·rw [hfree] at hc; cases hc
 rcases hx with hk | hk
 ·refine wpAny_storeName_local hk hn (fun h' hn' hs => ?_) hcls
  obtain ⟨oL,_,_,hoL,_⟩:=id hn
  refine h _ ⟨I.ok,I.os,I.bare,⟨fun b o e n hb hx => ?_,fun b o e n hb hx => ?_,I.base.free,fun b o e hx => ?_,I.base.tups,I.base.frzs,I.base.tbls⟩,⟨_,hn',fun j y v' e1 e2 e3 => ?_⟩,fun y c e => ?_,I.free,I.freeC,fun p hp => ?_,tracked ⟨oL,hoL,I.free⟩ hs,by simpa using I.len⟩ ⟨_,hs,.inl rfl⟩
  ·exact (hs.2 b (Nat.ne_of_lt (Nat.lt_of_lt_of_le (Heap.lt_size e) I.ok.above))).trans (I.base.keep b o e n hb hx)
  ·obtain ⟨sl,e1⟩:=I.base.slot b o e n hb hx
   exact ⟨sl,(hs.2 b (Nat.ne_of_lt (Nat.lt_of_lt_of_le (Heap.lt_size e) I.ok.above))).trans e1⟩
  ·obtain ⟨o',e1⟩:=I.base.there b o e hx
   exact ⟨o',(hs.2 b (Nat.ne_of_lt (Nat.lt_of_lt_of_le (Heap.lt_size e) I.ok.above))).trans e1⟩
  ·by_cases hj:j = i
   ·subst hj
    rw [hi] at e1; cases e1
    rw [List.getElem?_set_self hiσ] at e2
    cases e2
    exact ⟨u,r,.inl ⟨hk,by simp⟩⟩
   ·rw [List.getElem?_set_ne (Ne.symm hj)] at e2
    obtain ⟨u',r',q⟩:=hl j y v' e1 e2 e3
    refine ⟨u',r',?_⟩
    rcases q with ⟨k,e⟩ | ⟨k,c,e,z⟩
    ·refine .inl ⟨k,?_⟩
     have:y ≠ x:=fun e => hj (nodup_ix hN e1 (e ▸ hi))
     simp [this,e]
    ·exact .inr ⟨k,c,e,z.sameBut hs (cne y c e)⟩
  ·obtain ⟨w',z⟩:=I.cell y c e
   exact ⟨w',z.sameBut hs (cne y c e)⟩
  ·obtain ⟨e,n,ne,nf,d⟩:=I.pin p hp
   exact ⟨(hs.2 p.1 ne).trans e,n,ne,nf,d⟩
 ·have hfn:X.fn x = true:=by
   rcases hf with z | z
   ·exact z
   ·rw [z] at hk; cases hk
  obtain ⟨c,hc⟩:=I.ok.has x (.inl hk)
  obtain ⟨w',z⟩:=I.cell x c hc
  refine wpAny_storeName_cell I.ok.kind hk hc z (fun h' hc' hs => ?_)
  obtain ⟨oc,hoc,hocd⟩:=id z
  refine h { s with heap:=h' } ⟨I.ok,I.os,I.bare,⟨fun b o e n hb hx => ?_,fun b o e n hb hx => ?_,I.base.free,fun b o e hx => ?_,I.base.tups,I.base.frzs,I.base.tbls⟩,⟨m,hn.sameBut hs (Ne.symm (cne x c hc)),fun j y v' e1 e2 e3 => ?_⟩,fun y c' e => ?_,I.free,I.freeC,fun p hp => ?_,tracked ⟨oc,hoc,I.freeC x c hc⟩ hs,by simpa using I.len⟩ ⟨c,hs,.inr hc⟩
  ·exact (hs.2 b (Nat.ne_of_lt (Nat.lt_of_lt_of_le (Heap.lt_size e) (I.ok.cab x c hfn hc)))).trans (I.base.keep b o e n hb hx)
  ·obtain ⟨sl,e1⟩:=I.base.slot b o e n hb hx
   exact ⟨sl,(hs.2 b (Nat.ne_of_lt (Nat.lt_of_lt_of_le (Heap.lt_size e) (I.ok.cab x c hfn hc)))).trans e1⟩
  ·obtain ⟨o',e1⟩:=I.base.there b o e hx
   exact ⟨o',(hs.2 b (Nat.ne_of_lt (Nat.lt_of_lt_of_le (Heap.lt_size e) (I.ok.cab x c hfn hc)))).trans e1⟩
  ·by_cases hj:j = i
   ·subst hj
    rw [hi] at e1; cases e1
    rw [List.getElem?_set_self hiσ] at e2
    cases e2
    exact ⟨u,r,.inr ⟨.inl hk,c,hc,hc'⟩⟩
   ·rw [List.getElem?_set_ne (Ne.symm hj)] at e2
    obtain ⟨u',r',q⟩:=hl j y v' e1 e2 e3
    refine ⟨u',r',?_⟩
    rcases q with q | ⟨k,c',e,z'⟩
    ·exact .inl q
    ·refine .inr ⟨k,c',e,z'.sameBut hs ?_⟩
     rintro rfl
     exact hj (nodup_ix hN e1 (I.ok.inj _ _ _ e hc ▸ hi))
  ·by_cases hcc:c' = c
   ·subst hcc; exact ⟨_,hc'⟩
   ·obtain ⟨w2,z2⟩:=I.cell y c' e
    exact ⟨w2,z2.sameBut hs hcc⟩
  ·obtain ⟨e,n,ne,nf,d⟩:=I.pin p hp
   refine ⟨(hs.2 p.1 ?_).trans e,n,ne,nf,d⟩
   intro q
   rw [q,hoc] at e
   have q':oc = p.2:=Option.some.inj e
   exact d w' (by rw [← q']; exact hocd)
theorem store_ok {M:Model} {A:Around} {E:Value -> Shared -> Prop} {i:Nat} {x:Str} {v:V} {u:Value} {Q:Unit -> Shared -> Prop} (I:Inv X pins σ H s) (hN:X.N.Nodup) (hi:X.N[i]? = some x) (hx:Loc X.env.scope x) (r:RelV v u)
  (h:∀ s',Inv X pins (σ.set i (some v)) H s' -> Q () s') (hf:X.fn x = true ∨ X.env.scope.names.lookup x = some .local:=by first | exact .inl rfl | exact .inr rfl | assumption):wpAny M A (storeName X.env x u) Q E s :=
 store_ok2 I hN hi hx r (fun s' I' _ => h s' I') hf
end
noncomputable abbrev XK:=Value -> Option Addr -> Hp -> Prop
noncomputable abbrev St:=List (Option V)
noncomputable abbrev VK:=V -> Hp -> Prop
noncomputable abbrev TE:=St -> Hp -> VK -> Prop
noncomputable abbrev TT:=St -> Hp -> (Bool -> Hp -> Prop) -> Prop
noncomputable abbrev TA:=St -> Hp -> (List V -> Hp -> Prop) -> Prop
structure Ends where
 nx:St -> Hp -> Prop
 rt:VK
 bk:St -> Hp -> Prop:=fun _ _ => False
 ct:St -> Hp -> Prop:=fun _ _ => False
noncomputable abbrev TS:=Ends -> St -> Hp -> Prop
noncomputable def EP (X:Cx) (pins:List (Addr × Obj)) (σ:St) (Q:VK) (u:Value) (s':Shared):Prop:=∃ v H',Inv X pins σ H' s'∧RelV v u∧Q v H'
noncomputable def TP (X:Cx) (pins:List (Addr × Obj)) (σ:St) (Q:Bool -> Hp -> Prop) (b:Bool) (s':Shared):Prop:=∃ H',Inv X pins σ H' s'∧Q b H'
noncomputable def AP (X:Cx) (pins:List (Addr × Obj)) (σ:St) (Q:List V -> Hp -> Prop) (us:List Value) (s':Shared):Prop:=∃ vs H',Inv X pins σ H' s'∧Vals vs us∧Q vs H'
noncomputable def SP (X:Cx) (pins:List (Addr × Obj)) (D:Ends) (f:Flow) (s':Shared):Prop :=
 match f with
 | .next => ∃ σ' H',Inv X pins σ' H' s'∧D.nx σ' H'
 | .brk => ∃ σ' H',Inv X pins σ' H' s'∧D.bk σ' H'
 | .cont => ∃ σ' H',Inv X pins σ' H' s'∧D.ct σ' H'
 | .ret u => ∃ v σ' H',Inv X pins σ' H' s'∧RelV v u∧D.rt v H'
noncomputable def PE (X:Cx) (e:Expr) (t:TE):Prop :=
 ∀ (pins:List (Addr × Obj)) (s:Shared) (σ:St) (H:Hp) (Q:VK),Inv X pins σ H s -> t σ H Q -> wpAny (model X.prog X.w) X.A (eval e X.env) (EP X pins σ Q) X.xe s
noncomputable def PT (X:Cx) (e:Expr) (t:TT):Prop :=
 ∀ (pins:List (Addr × Obj)) (s:Shared) (σ:St) (H:Hp) (Q:Bool -> Hp -> Prop),Inv X pins σ H s -> t σ H Q -> wpAny (model X.prog X.w) X.A (isTrue e X.env (eval e X.env)) (TP X pins σ Q) X.xe s
noncomputable def PW (X:Cx) (e:Expr) (t:TT):Prop :=
 ∀ (whole:Sem Value) (pins:List (Addr × Obj)) (s:Shared) (σ:St) (H:Hp) (Q:Bool -> Hp -> Prop),Inv X pins σ H s -> t σ H Q -> wpAny (model X.prog X.w) X.A (isTrue e X.env whole) (TP X pins σ Q) X.xe s
theorem PW.pt {X:Cx} {e:Expr} {t:TT} (h:PW X e t):PT X e t:=h _
noncomputable def PA (X:Cx) (es:List Expr) (t:TA):Prop :=
 ∀ (pos:Pos) (pins:List (Addr × Obj)) (s:Shared) (σ:St) (H:Hp) (Q:List V -> Hp -> Prop),Inv X pins σ H s -> t σ H Q -> wpAny (model X.prog X.w) X.A (spliced (backTo pos (starEach es X.env))) (AP X pins σ Q) X.xe s
noncomputable def PS (X:Cx) (st:Stmt) (t:TS):Prop :=
 ∀ (pins:List (Addr × Obj)) (s:Shared) (σ:St) (H:Hp) (D:Ends),Inv X pins σ H s -> t D σ H -> wpAny (model X.prog X.w) X.A (exec st X.env) (SP X pins D) X.xe s
noncomputable def PSs (X:Cx) (st:List Stmt) (t:TS):Prop :=
 ∀ (pins:List (Addr × Obj)) (s:Shared) (σ:St) (H:Hp) (D:Ends),Inv X pins σ H s -> t D σ H -> wpAny (model X.prog X.w) X.A (execs st X.env) (SP X pins D) X.xe s
theorem thn {α:Type} {t:Sem α} {Q Q':α -> Shared -> Prop} {M:Model} {A:Around} {E:Value -> Shared -> Prop} {s:Shared} (h:wpAny M A t Q E s) (hQ:∀ a s,Q a s -> Q' a s):wpAny M A t Q' E s:=wpAny_mono h hQ fun _ _ x => x
end L2
namespace L2
open PySem PySem.Spec PyProof.Rows
section
variable {X:Cx}
theorem bin {a b:Expr} {ta tb:TE} (ha:PE X a ta) (hb:PE X b tb) {pins:List (Addr × Obj)} {s:Shared} {σ:St} {H:Hp} {R:V -> V -> Hp -> Prop} (I:Inv X pins σ H s) (h:ta σ H fun x H1 => tb σ H1 fun y H2 => R x y H2)
  {α:Type} {Q:α -> Shared -> Prop} {f:Value -> Value -> Sem α}
  (hf:∀ v u s2 x y H2,Inv X pins σ H2 s2 -> RelV x v -> RelV y u -> R x y H2 -> wpAny (model X.prog X.w) X.A (f v u) Q X.xe s2) :
  wpAny (model X.prog X.w) X.A (eval a X.env) (fun v s₁ => wpAny (model X.prog X.w) X.A (eval b X.env) (fun u s₂ => wpAny (model X.prog X.w) X.A (f v u) Q X.xe s₂) X.xe s₁) X.xe s:=by
 refine thn (ha pins s σ H _ I h) fun v s1 ⟨x,H1,I1,r1,q1⟩ => ?_
 refine thn (hb pins s1 σ H1 _ I1 q1) fun u s2 ⟨y,H2,I2,r2,q2⟩ => ?_
 exact hf v u s2 x y H2 I2 r1 r2 q2
noncomputable def tVar (i:Nat):TE:=fun σ H Q => ∃ v,σ[i]? = some (some v)∧Q v H
noncomputable def tC (v:V):TE:=fun _ H Q => Q v H
theorem pe_var {i:Nat} {x:Str} {pos:Pos} (hN:X.N[i]? = some x) (hv:Vis X.env.scope x) (hd:(x == ("__debug__":Str)) = false:=by decide) (hcd:(x == ("__classdict__":Str)) = false:=by decide):PE X (.Name x pos) (tVar i):=by
 intro pins s σ H Q I h
 obtain ⟨v,e,h⟩:=h
 obtain ⟨m,hn,hl⟩:=I.loc
 obtain ⟨u,r,l⟩:=hl i x v hN e hv
 have fin:EP X pins σ Q u s:=⟨v,H,I,r,h⟩
 rcases l with ⟨hk,hm⟩ | ⟨hk,c,hc,hcell⟩
 ·exact wpAny_Name (wpAny_loadName_local I.ok.kind hk hn hm fin) hd
 ·rcases hk with hk | hk
  ·exact wpAny_Name (wpAny_loadName_cell I.ok.kind hk hc hcell fin) hd
  ·exact wpAny_Name (wpAny_loadName_free I.ok.kind hk hc hcell fin hcd) hd
theorem pe_int {i j pos}:PE X (.Constant (.int i) j pos) (tC (.int i)):=fun _ _ _ H _ I h => wpAny_Constant_int ⟨.int i,H,I.tok _,⟨_,rfl⟩,h⟩
theorem pe_bl {b j pos}:PE X (.Constant (.bool b) j pos) (tC (.bl b)):=fun _ _ _ H _ I h => Constant_bool ⟨.bl b,H,I,rfl,h⟩
theorem pe_non {j pos}:PE X (.Constant .none j pos) (tC .non):=fun _ _ _ H _ I h => Constant_none ⟨.non,H,I,rfl,h⟩
theorem pe_str {x j pos}:PE X (.Constant (.str x) j pos) (tC (.str x)):=fun _ _ _ H _ I h => Calls.Constant_str ⟨.str x,H,I.tok _,⟨_,rfl⟩,h⟩
noncomputable def Gl (X:Cx) (x:Str):Prop:=X.env.kindOf x = some .globalImplicit
theorem ld_glob {E:Value -> Shared -> Prop} {pins:List (Addr × Obj)} {s:Shared} {σ:St} {H:Hp} {x:Str} {u:Value} {pos:Pos} {Q:Value -> Shared -> Prop} (I:Inv X pins σ H s) (hg:Gl X x) (hm:X.mg x = some u) (h:Q u s)
  (hd:(x == ("__debug__":Str)) = false:=by decide):wpAny (model X.prog X.w) X.A (eval (.Name x pos) X.env) Q E s :=
 Calls.Name_function_global I.ok.kind hg (Calls.loadGlobal_global (by rw [I.ok.glob]; exact I.mod.glob.keeps I.bk) hm h) hd
theorem ld_blt {E:Value -> Shared -> Prop} {pins:List (Addr × Obj)} {s:Shared} {σ:St} {H:Hp} {x:Str} {u:Value} {pos:Pos} {Q:Value -> Shared -> Prop} (I:Inv X pins σ H s) (hg:Gl X x) (hm:X.mg x = none) (hv:bootBuiltins x = some u) (h:Q u s)
  (hn:x ≠ "__name__":=by decide) (hd:(x == ("__debug__":Str)) = false:=by decide):wpAny (model X.prog X.w) X.A (eval (.Name x pos) X.env) Q E s:=by
 obtain ⟨mb,h1,h2⟩:=I.mod.blt
 exact Calls.Name_function_global I.ok.kind hg (Calls.loadGlobal_builtin (by rw [I.ok.glob]; exact I.mod.glob.keeps I.bk) hm (by rw [I.ok.blt]; exact h1.keeps I.bk) ((h2 x hn).trans hv) h) hd
theorem pe_glob {x:Str} {v:V} {u:Value} {pos:Pos} (hg:Gl X x) (hm:X.mg x = some u) (r:RelV v u) (hd:(x == ("__debug__":Str)) = false:=by decide):PE X (.Name x pos) (tC v) :=
 fun _ _ _ H _ I h => ld_glob I hg hm ⟨v,H,I,r,h⟩ hd
theorem pe_bltn {x:Str} {v:V} {u:Value} {pos:Pos} (hg:Gl X x) (hm:X.mg x = none) (hv:bootBuiltins x = some u) (r:RelV v u) (hn:x ≠ "__name__":=by decide) (hd:(x == ("__debug__":Str)) = false:=by decide):PE X (.Name x pos) (tC v) :=
 fun _ _ _ H _ I h => ld_blt I hg hm hv ⟨v,H,I,r,h⟩ hn hd
variable {a b:Expr} {ta tb:TE} {pos:Pos}
noncomputable def PC (X:Cx) (op:CmpOp) (a b:Expr) (t:TE):Prop :=
 ∀ (pins:List (Addr × Obj)) (s:Shared) (σ:St) (H:Hp) (Q:VK),Inv X pins σ H s -> t σ H Q →
  wpAny (model X.prog X.w) X.A (eval a X.env) (fun v s₁ => wpAny (model X.prog X.w) X.A (eval b X.env) (fun u s₂ => wpAny (model X.prog X.w) X.A (compareOp op v u) (EP X pins σ Q) X.xe s₂) X.xe s₁) X.xe s
theorem nobehind (b:Expr) {op:CmpOp} (h:op ≠ .In) (h2:op ≠ .NotIn):behindInMarks op b = false:=by
 have e1:(op == CmpOp.In) = false:=by cases op <;> first | rfl | exact absurd rfl h
 have e2:(op == CmpOp.NotIn) = false:=by cases op <;> first | rfl | exact absurd rfl h2
 cases b <;> simp [behindInMarks,e1,e2]
noncomputable def tIsN (ta:TE):TE:=fun σ H Q => ta σ H fun x H1 => Q (.bl (decide (x = .non))) H1
theorem RelV.none_iff {x:V} {v:Value} (r:RelV x v):(v == Value.none) = decide (x = .non):=by
 cases x with
 | non => cases r; rfl
 | bl _ => cases r; rfl
 | int _ => obtain ⟨t,rfl⟩:=r; rfl
 | str _ => obtain ⟨t,rfl⟩:=r; rfl
 | byt _ => obtain ⟨t,rfl⟩:=r; rfl
 | flt _ => obtain ⟨t,rfl⟩:=r; rfl
 | ref _ => cases r; rfl
 | ty _ => cases r; rfl
theorem pc_isN {j pos'} (ha:PE X a ta):PC X .Is a (.Constant .none j pos') (tIsN ta):=by
 intro pins s σ H Q I h
 refine thn (ha pins s σ H _ I h) fun v s1 ⟨x,H1,I1,r1,q1⟩ => ?_
 exact Constant_none (is_none_gen ⟨.bl _,H1,I1,by rw [r1.none_iff]; rfl,q1⟩)
noncomputable def tB (t:TE):TT:=fun σ H Q => t σ H fun x H1 => ∃ c,x = .bl c∧Q c H1
theorem pe_cmp {op:CmpOp} {t:TE} (h:PC X op a b t) (h1:behindInMarks op b = false:=by first | exact nobehind _ (by decide) (by decide) | rfl):PE X (.Compare a [op] [b] pos) t:=fun pins s σ H Q I hw => wpAny_Compare1 (h pins s σ H Q I hw) h1
theorem pt_cmp {op:CmpOp} {t:TE} (h:PC X op a b t) (h1:behindInMarks op b = false:=by first | exact nobehind _ (by decide) (by decide) | rfl):PT X (.Compare a [op] [b] pos) (tB t):=by
 intro pins s σ H Q I hw
 refine wpAny_isTrue_Compare1 (thn (h pins s σ H _ I hw) fun v s1 h1 => thn h1 fun u s2 h2 => thn h2 fun c s3 ⟨x,H1,I1,r1,q1⟩ => ?_) h1
 obtain ⟨d,rfl,q⟩:=q1
 cases r1
 exact wpAny_truthy_bool ⟨H1,I1,q⟩
theorem pt_val {e:Expr} {t:TE} (h:PE X e t) (he:∀ whole,isTrue e X.env whole = (do let v ← whole; standAt e.pos; holding [v] (truthy v)):=by intro _; rfl):PT X e (tB t):=by
 intro pins s σ H Q I hw
 refine isTrue_plain (thn (h pins s σ H _ I hw) fun v s1 ⟨x,H1,I1,r1,q1⟩ => ?_) (he _)
 obtain ⟨d,rfl,q⟩:=q1
 cases r1
 exact wpAny_truthy_bool ⟨H1,I1,q⟩
variable {tA tB':TT} {rest:List Expr}
noncomputable def tAnd (t u:TT):TT:=fun σ H Q => t σ H fun c H1 => if c = true then u σ H1 Q else Q false H1
noncomputable def tOr (t u:TT):TT:=fun σ H Q => t σ H fun c H1 => if c = true then Q true H1 else u σ H1 Q
noncomputable def tNot (t:TT):TT:=fun σ H Q => t σ H fun c H1 => Q (!c) H1
theorem pw_and1 (ha:PT X a tA):PW X (.BoolOp .And [a] pos) tA:=by
 intro wh pins s σ H Q I h
 refine isTrue_and (thn (ha pins s σ H Q I h) fun c s1 e => ?_)
 cases c with
 | true => exact isTrue_and_nil e
 | false => exact e
theorem pw_or1 (ha:PT X a tA):PW X (.BoolOp .Or [a] pos) tA:=by
 intro wh pins s σ H Q I h
 refine isTrue_or (thn (ha pins s σ H Q I h) fun c s1 e => ?_)
 cases c with
 | false => exact isTrue_or_nil e
 | true => exact e
theorem pw_and (ha:PT X a tA) (hb:PW X (.BoolOp .And (b :: rest) pos) tB'):PW X (.BoolOp .And (a :: b :: rest) pos) (tAnd tA tB'):=by
 intro wh pins s σ H Q I h
 refine isTrue_and (thn (ha pins s σ H _ I h) fun c s1 ⟨H1,I1,q1⟩ => ?_)
 cases c with
 | true => exact hb wh pins s1 σ H1 Q I1 q1
 | false => exact ⟨H1,I1,q1⟩
theorem pw_or (ha:PT X a tA) (hb:PW X (.BoolOp .Or (b :: rest) pos) tB'):PW X (.BoolOp .Or (a :: b :: rest) pos) (tOr tA tB'):=by
 intro wh pins s σ H Q I h
 refine isTrue_or (thn (ha pins s σ H _ I h) fun c s1 ⟨H1,I1,q1⟩ => ?_)
 cases c with
 | true => exact ⟨H1,I1,q1⟩
 | false => exact hb wh pins s1 σ H1 Q I1 q1
theorem pt_not (ha:PT X a tA):PT X (.UnaryOp .Not a pos) (tNot tA):=by
 intro pins s σ H Q I h
 exact isTrue_not (ha pins s σ H (fun c H1 => Q (!c) H1) I h)
noncomputable def tAndV (ta tb:TE):TE:=fun σ H Q => ta σ H fun x H1 => ∃ c,x = .bl c∧if c = true then tb σ H1 Q else Q (.bl false) H1
noncomputable def tNotV (ta:TE):TE:=fun σ H Q => ta σ H fun x H1 => ∃ c,x = .bl c∧Q (.bl (!c)) H1
theorem pe_one {op} {t:TE} (h:PE X a t):PE X (.BoolOp op [a] pos) t:=fun pins s σ H Q I hw => BoolOp_one (h pins s σ H Q I hw)
theorem pe_and (ha:PE X a ta) (hb:PE X (.BoolOp .And (b :: rest) pos) tb):PE X (.BoolOp .And (a :: b :: rest) pos) (tAndV ta tb):=by
 intro pins s σ H Q I h
 refine BoolOp_and (thn (ha pins s σ H _ I h) fun v s1 ⟨x,H1,I1,r1,q1⟩ => ?_)
 obtain ⟨c,rfl,q1⟩:=q1
 cases r1
 refine wpAny_truthy_bool ?_
 cases c with
 | true => exact hb pins s1 σ H1 Q I1 q1
 | false => exact ⟨.bl false,H1,I1,rfl,q1⟩
theorem pe_not (ha:PE X a ta):PE X (.UnaryOp .Not a pos) (tNotV ta):=by
 intro pins s σ H Q I h
 refine UnaryOp_ (thn (ha pins s σ H _ I h) fun v s1 ⟨x,H1,I1,r1,q1⟩ => ?_)
 obtain ⟨c,rfl,q1⟩:=q1
 cases r1
 exact not_of (wpAny_truthy_bool ⟨.bl (!c),H1,I1,rfl,q1⟩)
end
end L2
namespace L2
open PySem PySem.Spec PyProof.Rows
noncomputable def SqL (K:PySem.W.Frag) (H:Hp) (a:Addr) (xs:List V):Prop :=
 Rd H a (.lst xs) ∨
  ∃ (o:Obj) (its:Array Value) (n:Nat), K.lookup a = some o∧o.cls = .type "list"∧o.dict = none∧o.data = .seq its n∧its.size ≤ sizeLine∧Vals xs its.toList
noncomputable def SqT (K:PySem.W.Frag) (H:Hp) (a:Addr) (xs:List V):Prop :=
 Rd H a (.tup xs) ∨
  ∃ (o:Obj) (its:Array Value) (n:Nat), K.lookup a = some o∧o.cls = .type "tuple"∧o.data = .seq its n∧its.size ≤ sizeLine∧Vals xs its.toList
noncomputable def absV:Value -> Option V
 | .none => some .non
 | .bool b => some (.bl b)
 | .int i _ => some (.int i)
 | .str x _ => some (.str x)
 | .bytes b _ => some (.byt b)
 | .float b _ => some (.flt b)
 | .ref a => some (.ref a)
 | .type n => some (.ty n)
 | _ => none
theorem RelV.abs {x:V} {u:Value} (r:RelV x u):absV u = some x:=by
 cases x with
 | non => cases r; rfl
 | bl _ => cases r; rfl
 | int _ => obtain ⟨t,rfl⟩:=r; rfl
 | str _ => obtain ⟨t,rfl⟩:=r; rfl
 | byt _ => obtain ⟨t,rfl⟩:=r; rfl
 | flt _ => obtain ⟨t,rfl⟩:=r; rfl
 | ref _ => cases r; rfl
 | ty _ => cases r; rfl
theorem RelV.inj {x y:V} {u:Value} (r:RelV x u) (q:RelV y u):x = y:=Option.some.inj (r.abs.symm.trans q.abs)
theorem Vals.inj:∀ {xs ys:List V} {us:List Value},Vals xs us -> Vals ys us -> xs = ys
 | _,_,_,.nil,.nil => rfl
 | _,_,_,.cons r t,.cons r' t' => by rw [r.inj r',Vals.inj t t']
section
variable {X:Cx} {pins:List (Addr × Obj)} {σ:St} {H:Hp} {s:Shared} {a:Addr} {xs ys:List V}
theorem SqL.of {K:PySem.W.Frag} (h:H a = some (.lst xs)):SqL K H a xs:=.inl (.inl h)
theorem SqT.of {K:PySem.W.Frag} (h:H a = some (.tup xs)):SqT K H a xs:=.inl (.inl h)
theorem Inv.list (I:Inv X pins σ H s) (h:SqL X.K H a xs):∃ its:List Value,Vals xs its∧PlainL s.heap a its.toArray∧xs.length ≤ sizeLine:=by
 rcases h with h | ⟨o,its,n,hk,hc,hd,hs,hz,r⟩
 ·obtain ⟨z,its,n,r,e⟩:=h.ok I.hok
  exact ⟨its,r,⟨_,n,e,rfl,rfl,rfl⟩,z⟩
 ·refine ⟨its.toList,r,⟨o,n,I.kIn a o hk,hc,hd,by simpa using hs⟩,?_⟩
  have e:=r.length
  simp only [Array.length_toList] at e
  trivial
theorem Inv.tuple (I:Inv X pins σ H s) (h:SqT X.K H a xs):∃ its:List Value,Vals xs its∧IsTup s.heap a its.toArray∧xs.length ≤ sizeLine:=by
 rcases h with h | ⟨o,its,n,hk,hc,hs,hz,r⟩
 ·obtain ⟨z,its,r,p⟩:=h.ok I.hok
  exact ⟨its,r,p,z⟩
 ·refine ⟨its.toList,r,⟨o,I.kIn a o hk,hc,n,by simpa using hs⟩,?_⟩
  have e:=r.length
  simp only [Array.length_toList] at e
  trivial
theorem Inv.list_inj (I:Inv X pins σ H s) (h:SqL X.K H a xs) (h':SqL X.K H a ys):xs = ys:=by
 obtain ⟨its,r,⟨o,n,e,_,_,d⟩,_⟩:=I.list h
 obtain ⟨its',r',⟨o',n',e',_,_,d'⟩,_⟩:=I.list h'
 rw [e] at e'; cases e'
 rw [d] at d'
 injection d' with d1 _
 have:its = its':=by simpa using congrArg Array.toList d1
 subst this
 exact r.inj r'
theorem Inv.tuple_inj (I:Inv X pins σ H s) (h:SqT X.K H a xs) (h':SqT X.K H a ys):xs = ys:=by
 obtain ⟨its,r,⟨o,e,_,n,d⟩,_⟩:=I.tuple h
 obtain ⟨its',r',⟨o',e',_,n',d'⟩,_⟩:=I.tuple h'
 rw [e] at e'; cases e'
 rw [d] at d'
 injection d' with d1 _
 have:its = its':=by simpa using congrArg Array.toList d1
 subst this
 exact r.inj r'
end
noncomputable abbrev Cx.wish (X:Cx) (E:Value -> Shared -> Prop):Cx:={ X with xe:=E }
noncomputable abbrev Cx.nox (X:Cx):Cx:=X.wish fun _ _ => False
theorem Cx.Ok.wish {X:Cx} (ok:X.Ok) (E:Value -> Shared -> Prop):(X.wish E).Ok :=
 ⟨ok.mod,ok.kind,ok.glob,ok.blt,ok.above,ok.inj,ok.has,ok.cab,ok.hd,ok.frames,ok.stk,ok.exf,ok.bs,ok.bsz,ok.noex,ok.exfs,ok.funs,ok.frf⟩
theorem Cx.Ok.unwish {X:Cx} {E:Value -> Shared -> Prop} (ok:(X.wish E).Ok):X.Ok :=
 ⟨ok.mod,ok.kind,ok.glob,ok.blt,ok.above,ok.inj,ok.has,ok.cab,ok.hd,ok.frames,ok.stk,ok.exf,ok.bs,ok.bsz,ok.noex,ok.exfs,ok.funs,ok.frf⟩
section
variable {X:Cx} {pins:List (Addr × Obj)} {σ:St} {H:Hp} {s:Shared} {E:Value -> Shared -> Prop}
theorem Inv.wish (I:Inv X pins σ H s) (E:Value -> Shared -> Prop):Inv (X.wish E) pins σ H s:=⟨I.ok.wish E,I.os,I.bare,I.base,I.loc,I.cell,I.free,I.freeC,I.pin,I.hok,I.len⟩
theorem Inv.unwish (I:Inv (X.wish E) pins σ H s):Inv X pins σ H s:=⟨I.ok.unwish,I.os,I.bare,I.base,I.loc,I.cell,I.free,I.freeC,I.pin,I.hok,I.len⟩
theorem SP.unwish {D:Ends} {f:Flow} {s':Shared} (h:SP (X.wish E) pins D f s'):SP X pins D f s':=by
 cases f with
 | next => obtain ⟨σ',H',I,q⟩:=h; exact ⟨σ',H',I.unwish,q⟩
 | brk => obtain ⟨σ',H',I,q⟩:=h; exact ⟨σ',H',I.unwish,q⟩
 | cont => obtain ⟨σ',H',I,q⟩:=h; exact ⟨σ',H',I.unwish,q⟩
 | ret u => obtain ⟨v,σ',H',I,r,q⟩:=h; exact ⟨v,σ',H',I.unwish,r,q⟩
theorem PSs.nox {st:List Stmt} {t:TS} (h:PSs X.nox st t):PSs X st t:=fun pins s σ H D I hw =>
 wpAny_mono (h pins s σ H D (I.wish _) hw) (fun _ _ q => q.unwish) fun _ _ z => False.elim z
end
section
variable {X:Cx} {st:Stmt} {rest:List Stmt} {t u:TS} {e:Expr} {te:TE} {pos:Pos}
noncomputable def tNext:TS:=fun D σ H => D.nx σ H
noncomputable def tSeq (t u:TS):TS:=fun D σ H => t { D with nx:=u D } σ H
theorem pss_nil:PSs X [] tNext:=fun _ _ σ H _ I h => wpAny_execs_nil ⟨σ,H,I,h⟩
theorem pss_cons (h1:PS X st t) (h2:PSs X rest u):PSs X (st :: rest) (tSeq t u):=by
 intro pins s σ H D I h
 refine wpAny_execs_cons (thn (h1 pins s σ H { D with nx:=u D } I h) fun f s1 q => ?_)
 cases f with
 | next =>
  obtain ⟨σ',H',I',q⟩:=q
  exact h2 pins s1 σ' H' D I' q
 | ret v => exact q
 | brk => exact q
 | cont => exact q
theorem pss_one (h1:PS X st t):PSs X [st] t:=by
 intro pins s σ H D I h
 refine wpAny_execs_cons (thn (h1 pins s σ H D I h) fun f s1 q => ?_)
 cases f with
 | next => exact wpAny_execs_nil q
 | ret v => exact q
 | brk => exact q
 | cont => exact q
theorem Inv.quiet {pins:List (Addr × Obj)} {σ:St} {H:Hp} {s:Shared} (I:Inv X pins σ H s):interactive X.env = false:=by simp [interactive,I.ok.kind]
noncomputable def tDrop (te:TE):TS:=fun D σ H => te σ H fun _ H1 => D.nx σ H1
theorem ps_expr (he:PE X e te) (hs:swapsWith e none pos.line X.env = pure false:=by rfl):PS X (.Expr e pos) (tDrop te):=by
 intro pins s σ H D I h
 exact wpAny_Expr_any (thn (he pins s σ H _ I h) fun v s1 ⟨x,H1,I1,r1,q1⟩ => ⟨σ,H1,I1,q1⟩) I.quiet hs
noncomputable def tRet (te:TE):TS:=fun D σ H => te σ H D.rt
theorem ps_ret (he:PE X e te):PS X (.Return (some e) pos) (tRet te):=by
 intro pins s σ H D I h
 exact wpAny_Return_some (thn (he pins s σ H _ I h) fun v s1 ⟨x,H1,I1,r1,q1⟩ => ⟨x,σ,H1,I1,r1,q1⟩)
noncomputable def tIfS (c:TT) (t u:TS):TS:=fun D σ H => c σ H fun b H1 => if b = true then t D σ H1 else u D σ H1
theorem ps_if {c:Expr} {a b:List Stmt} {tc:TT} (hc:PT X c tc) (ha:PSs X a t) (hb:PSs X b u):PS X (.If c a b pos) (tIfS tc t u):=by
 intro pins s σ H D I h
 refine wpAny_If (thn (hc pins s σ H _ I h) fun d s1 ⟨H1,I1,q1⟩ => ?_)
 cases d with
 | true => exact ha pins s1 σ H1 D I1 q1
 | false => exact hb pins s1 σ H1 D I1 q1
end
noncomputable abbrev TG:=V -> St -> Hp -> (St -> Hp -> Prop) -> Prop
noncomputable abbrev TGs:=List V -> St -> Hp -> (St -> Hp -> Prop) -> Prop
noncomputable def PG (X:Cx) (target:Expr) (t:TG):Prop :=
 ∀ (pins:List (Addr × Obj)) (s:Shared) (σ:St) (H:Hp) (v:V) (u:Value) (Q:St -> Hp -> Prop),Inv X pins σ H s -> RelV v u -> t v σ H Q →
  wpAny (model X.prog X.w) X.A (assign target X.env u) (fun _ s' => ∃ σ' H',Inv X pins σ' H' s'∧Q σ' H') X.xe s
noncomputable def PGs (X:Cx) (ts:List Expr) (t:TGs):Prop :=
 ∀ (pins:List (Addr × Obj)) (s:Shared) (σ:St) (H:Hp) (vs:List V) (us:List Value) (Q:St -> Hp -> Prop),Inv X pins σ H s -> Vals vs us -> t vs σ H Q →
  wpAny (model X.prog X.w) X.A (assignInOrder ((assignEach ts X.env).map (·.2)) us) (fun _ s' => ∃ σ' H',Inv X pins σ' H' s'∧Q σ' H') X.xe s
noncomputable abbrev TSet:=V -> V -> V -> Hp -> (Hp -> Prop) -> Prop
noncomputable def PSet (X:Cx) (t:TSet):Prop :=
 ∀ (pins:List (Addr × Obj)) (s:Shared) (σ:St) (H:Hp) (o i v:V) (ov iv u:Value) (Q:Hp -> Prop),Inv X pins σ H s -> RelV o ov -> RelV i iv -> RelV v u -> t o i v H Q →
  wpAny (model X.prog X.w) X.A (setItem ov iv u) (fun _ s' => ∃ H',Inv X pins σ H' s'∧Q H') X.xe s
section
variable {X:Cx} {pos:Pos}
noncomputable def gName (i:Nat):TG:=fun v σ H Q => Q (σ.set i (some v)) H
theorem pg_name {i:Nat} {x:Str} (hN:X.N.Nodup) (hi:X.N[i]? = some x) (hx:Loc X.env.scope x) (hf:X.fn x = true ∨ X.env.scope.names.lookup x = some .local:=by first | exact .inl rfl | exact .inr rfl | assumption):PG X (.Name x pos) (gName i):=by
 intro pins s σ H v u Q I r h
 exact wpAny_assign_Name (store_ok I hN hi hx r (fun s' I' => ⟨_,H,I',h⟩) hf)
noncomputable def gNil:TGs:=fun vs σ H Q => vs = []∧Q σ H
noncomputable def gCons (t:TG) (u:TGs):TGs:=fun vs σ H Q => ∃ v r,vs = v :: r∧t v σ H fun σ' H' => u r σ' H' Q
theorem pgs_nil:PGs X [] gNil:=by
 intro pins s σ H vs us Q I r h
 obtain ⟨e,h⟩:=h
 subst e
 cases r
 exact assignInOrder_nil ⟨σ,H,I,h⟩
theorem pgs_cons {e:Expr} {es:List Expr} {t:TG} {u:TGs} (h1:PG X e t) (h2:PGs X es u)
  (hs:(assignEach (e :: es) X.env).map (·.2) = assign e X.env :: (assignEach es X.env).map (·.2):=by rfl):PGs X (e :: es) (gCons t u):=by
 intro pins s σ H vs us Q I r h
 obtain ⟨v,vr,e1,h⟩:=h
 subst e1
 cases r with
 | cons r rr =>
  rw [hs]
  refine assignInOrder_cons (thn (h1 pins s σ H _ _ _ I r h) fun _ s1 ⟨σ1,H1,I1,q1⟩ => ?_)
  exact h2 pins s1 σ1 H1 _ _ Q I1 rr q1
noncomputable def gTup (K:PySem.W.Frag) (n:Nat) (t:TGs):TG:=fun v σ H Q => ∃ a xs,v = .ref a∧SqT K H a xs∧xs.length = n∧t xs σ H Q
theorem pg_tup {es:List Expr} {k:Nat} {t:TGs} {n:Nat} (hc:X.calm = true) (h:PGs X es t)
  (hn:(assignEach es X.env).length = n:=by rfl) (hst:(assignEach es X.env).findIdx? (·.1) = none:=by rfl):PG X (.Tuple es k pos) (gTup X.K n t):=by
 intro pins s σ H v u Q I r hw
 obtain ⟨a,xs,e1,hq,hl,hw⟩:=hw
 subst e1
 cases r
 obtain ⟨its,rv,ht,hz⟩:=I.tuple hq
 refine assign_Tuple_tuple (I.ok.hd hc) ht (by simp [hn,← hl,rv.length]) hst fun h' hx => ?_
 have I1:Inv X pins σ H { s with heap:=h' }:=I.kept (t':=s.toks) fun b o e => hx b o (Nat.ne_of_lt (Heap.lt_size e)) e
 exact h pins _ σ H xs _ Q I1 (by simpa using rv) hw
noncomputable def gSub (to ti:TE) (t:TSet):TG:=fun v σ H Q => to σ H fun o H1 => ti σ H1 fun i H2 => t o i v H2 fun H3 => Q σ H3
theorem pg_sub {o i:Expr} {to ti:TE} {t:TSet} (ho:PE X o to) (hi:PE X i ti) (hs:PSet X t)
  (ha:∀ v,assign (.Subscript o i pos) X.env v = (do
   let ov ← holding [v] (eval o X.env)
   let iv ← holding [v,ov] (eval i X.env)
   standAt pos
   holding [v,ov,iv] (setItem ov iv v)
   release [v,ov,iv] []):=by intro _; rfl):PG X (.Subscript o i pos) (gSub to ti t):=by
 intro pins s σ H v u Q I r h
 rw [ha]
 refine wpAny_bind (wpAny_holding (thn (ho pins s σ H _ I h) fun ov s1 ⟨x,H1,I1,r1,q1⟩ => ?_))
 refine wpAny_bind (wpAny_holding (thn (hi pins s1 σ H1 _ I1 q1) fun iv s2 ⟨y,H2,I2,r2,q2⟩ => ?_))
 refine wpAny_bind (wpAny_standAt (wpAny_bind (wpAny_holding (thn (hs pins s2 σ H2 x y v ov iv u _ I2 r1 r2 r q2) fun _ s3 ⟨H3,I3,q3⟩ => ?_))))
 exact wpAny_release ⟨σ,H3,I3,q3⟩
noncomputable def tAsg (te:TE) (g:TG):TS:=fun D σ H => te σ H fun x H1 => g x σ H1 D.nx
theorem ps_asg {tg e:Expr} {te:TE} {g:TG} (he:PE X e te) (hg:PG X tg g) (hs:swapsWithSole [tg] e pos.line X.env = pure false:=by rfl) (hw:swappedStores [tg] e X.env = pure none:=by rfl)
  (h1:(assignEach [tg] X.env).map (·.2) = [assign tg X.env]:=by rfl):PS X (.Assign [tg] e pos) (tAsg te g):=by
 intro pins s σ H D I h
 refine wpAny_Assign_stores (thn (he pins s σ H _ I h) fun v s1 ⟨x,H1,I1,r1,q1⟩ => ?_) hs hw
 rw [h1]
 exact thn (hg pins s1 σ H1 x v _ I1 r1 q1) fun _ s2 q => q
theorem ps_set {i:Nat} {x:Str} {e:Expr} {te:TE} {pos':Pos} (hN:X.N.Nodup) (hi:X.N[i]? = some x) (hx:Loc X.env.scope x) (he:PE X e te) (hs:swapsWith e (some (.Name x pos')) pos.line X.env = pure false:=by rfl) (hf:X.fn x = true ∨ X.env.scope.names.lookup x = some .local:=by first | exact .inl rfl | exact .inr rfl | assumption) :
  PS X (.Assign [.Name x pos'] e pos) (tAsg te (gName i)):=by
 intro pins s σ H D I h
 refine wpAny_Assign_Name (thn (he pins s σ H _ I h) fun v s1 ⟨y,H1,I1,r1,q1⟩ => ?_) hs
 exact store_ok I1 hN hi hx r1 (fun s2 I2 => ⟨_,H1,I2,q1⟩) hf
end
section
variable {X:Cx} {pos:Pos}
noncomputable def tWhile (c:TT) (tb:TS):TS:=fun D σ H => ∃ W:Nat -> St -> Hp -> Prop,(∃ m,W m σ H)∧∀ m σ H,W m σ H →
 c σ H fun b H1 => if b = true then ∃ N:St -> Hp -> Prop,(∀ σ' H',N σ' H' -> ∃ m',m' < m∧W m' σ' H')∧tb { D with nx:=N,ct:=N,bk:=D.nx } σ H1 else D.nx σ H1
theorem ps_while {c:Expr} {body:List Stmt} {tc:TT} {tb:TS} (hp:PassesOwn (model X.prog X.w) X.A X.env X.xe) (hc:PT X c tc) (hb:PSs X body tb):PS X (.While c body [] pos) (tWhile tc tb):=by
 intro pins s σ H D I h
 obtain ⟨W,⟨m0,w0⟩,turn⟩:=h
 refine wpAny_While (codeAny_whileLoop (fun n s' => ∃ σ' H',Inv X pins σ' H' s'∧W n σ' H') ?_ m0 ⟨σ,H,I,w0⟩)
 rintro n s1 ⟨σ1,H1,I1,w1⟩
 refine wpAny_passesOwn hp (thn (hc pins s1 σ1 H1 _ I1 (turn n σ1 H1 w1)) fun b s2 ⟨H2,I2,q2⟩ => ?_)
 cases b with
 | true =>
  obtain ⟨N,hN,q2⟩:=q2
  rw [if_pos rfl]
  refine wpAny_passesOwn hp (thn (hb pins s2 σ1 H2 _ I2 q2) fun f s3 q3 => ?_)
  cases f with
  | next =>
   obtain ⟨σ3,H3,I3,n3⟩:=q3
   obtain ⟨m',hm,w3⟩:=hN σ3 H3 n3
   exact ⟨m',hm,σ3,H3,I3,w3⟩
  | cont =>
   obtain ⟨σ3,H3,I3,n3⟩:=q3
   obtain ⟨m',hm,w3⟩:=hN σ3 H3 n3
   exact ⟨m',hm,σ3,H3,I3,w3⟩
  | brk => exact q3
  | ret v => exact q3
 | false =>
  rw [if_neg Bool.false_ne_true]
  exact wpAny_execs_nil ⟨σ1,H2,I2,q2⟩
end
structure It where
 go:Nat -> Hp -> Prop
 yld:Nat -> Hp -> V -> Hp -> Prop
 stop:Nat -> Hp -> Prop
noncomputable def FpOk (X:Cx) (pins:List (Addr × Obj)) (H:Hp) (b:Addr):Prop :=
 H b = none∧b ≠ X.env.locals∧b ∉ X.fs∧(b ∈ X.ex ∨ X.s₀.heap.objs.size ≤ b)∧(∀ x c,X.env.cells.lookup x = some c -> c ≠ b)∧∀ p ∈ X.pn ++ pins,p.1 ≠ b
theorem Inv.fpOk {X:Cx} {pins:List (Addr × Obj)} {σ:St} {H H':Hp} {s:Shared} {b:Addr} (I:Inv X pins σ H s) (hb:s.heap.objs.size ≤ b) (hn:H' b = none):FpOk X pins H' b:=by
 refine ⟨hn,Nat.ne_of_gt (Nat.lt_of_lt_of_le I.lt hb),I.nofs hb,.inr (Nat.le_trans I.sz hb),fun x c e z => ?_,fun p hp z => ?_⟩
 ·obtain ⟨v,q⟩:=I.cell x c e
  exact absurd (Nat.lt_of_lt_of_le q.lt (by rw [z]; exact hb)) (Nat.lt_irrefl _)
 ·exact absurd (Nat.lt_of_lt_of_le (Heap.lt_size (I.pin p hp).1) (by rw [z]; exact hb)) (Nat.lt_irrefl _)
structure Turn (P:Program) (w:World) (K:PySem.W.Frag) (tg:Expr) (J:It) (fp:List Addr) (it:Addr) (tn:Nat -> Heap -> Prop):Prop where
 mem:it ∈ fp
 obj:∀ i h,tn i h -> ∀ b ∈ fp,∃ o,h.get? b = some o∧∀ v,o.data ≠ .cell v
 keep:∀ i h h',tn i h -> (∀ b ∈ fp,∀ o,h.get? b = some o -> h'.get? b = some o) -> tn i h'
 item:∀ (X:Cx),X.prog = P -> X.w = w -> X.K = K -> X.calm = true -> ∀ (i:Nat) (pins:List (Addr × Obj)) (s:Shared) (σ:St) (H:Hp) (E:Value -> Shared -> Prop),Inv X pins σ H s -> (∀ b ∈ fp,FpOk X pins H b) -> tn i s.heap -> J.go i H →
  wpAny (model P w) X.A (pyNext (.ref it)) (fun r s1 => ∃ u,r = some u ∧
   wpAny (model P w) X.A (letOwnedTupleGo tg (.ref it) u) (fun _ s2 => ∃ x H',Inv X pins σ H' s2∧RelV x u∧J.yld i H x H'∧tn (i + 1) s2.heap∧∀ b ∈ fp,H' b = none) E s1) E s
 done:∀ (X:Cx),X.prog = P -> X.w = w -> X.K = K -> X.calm = true -> ∀ (i:Nat) (pins:List (Addr × Obj)) (s:Shared) (σ:St) (H:Hp) (E:Value -> Shared -> Prop),Inv X pins σ H s -> (∀ b ∈ fp,FpOk X pins H b) -> tn i s.heap -> J.stop i H →
  wpAny (model P w) X.A (pyNext (.ref it)) (fun r s1 => r = none∧Inv X pins σ H s1) E s
 self:∀ (A:Around) (i:Nat) (s:Shared) (Q:Value -> Shared -> Prop) (E:Value -> Shared -> Prop),tn i s.heap -> Q (.ref it) s -> wpAny (model P w) A (pyIter (.ref it)) Q E s
noncomputable abbrev TI:=St -> Hp -> (It -> Hp -> Prop) -> Prop
noncomputable def PIE (X:Cx) (pins:List (Addr × Obj)) (σ:St) (tg:Expr) (R:It -> Hp -> Prop) (itv:Value) (s2:Shared):Prop :=
 ∃ (it:Addr) (fp:List Addr) (tn:Nat -> Heap -> Prop) (J:It) (H':Hp),itv = .ref it∧Inv X pins σ H' s2∧Turn X.prog X.w X.K tg J fp it tn∧tn 0 s2.heap∧(∀ b ∈ fp,FpOk X pins H' b)∧R J H'
noncomputable def PI (X:Cx) (tg iter:Expr) (wi:TI):Prop :=
 ∀ (pins:List (Addr × Obj)) (s:Shared) (σ:St) (H:Hp) (R:It -> Hp -> Prop),Inv X pins σ H s -> wi σ H R →
  wpAny (model X.prog X.w) X.A (eval iter X.env) (fun v s1 => wpAny (model X.prog X.w) X.A (pyIter v) (PIE X pins σ tg R) X.xe s1) X.xe s
theorem go_of {M : Model} {A : Around} {E : Value → Shared → Prop} {s : Shared} {tg : Expr} {it : Addr} {u : Value} {o : Obj} {n : String} {vs : Array Value} {Q : Unit → Shared → Prop} (ho : s.heap.get? it = some o) (hc : o.cls = .type n) (hd : o.data = .fields vs)
    (hn : ["enumerate", "zip", "dict_itemiterator", "dict_reverseitemiterator", "odict_iterator", "itertools.zip_longest", "itertools.pairwise"].contains n = false) (hQ : Q () s) : wpAny M A (letOwnedTupleGo tg (.ref it) u) Q E s := by
  unfold letOwnedTupleGo
  cases tg <;> first
    | exact wpAny_pure hQ
    | (cases u <;> first
        | exact wpAny_pure hQ
        | (refine wpAny_bind (wpAny_load ho ?_)
           rw [hc,hd]
           show wpAny M A (if (["enumerate", "zip", "dict_itemiterator", "dict_reverseitemiterator", "odict_iterator", "itertools.zip_longest", "itertools.pairwise"].contains n && vs[0]? == some (rawInt _)) = true then _ else _) Q E s
           rw [if_neg (by intro h; rw [hn,Bool.false_and] at h; cases h)]
           exact wpAny_pure hQ))
noncomputable def Itl (K:PySem.W.Frag) (a:Addr):It :=
 ⟨fun i H => ∃ xs x,SqL K H a xs∧xs[i]? = some x,fun i H x H' => H' = H∧∀ xs,SqL K H a xs -> xs[i]? = some x,fun i H => ∃ xs,SqL K H a xs∧xs.length ≤ i⟩
noncomputable def Itr (lo:Int) (n:Nat):It:=⟨fun i _ => i < n,fun i H x H' => H' = H∧x = .int (lo + i),fun i _ => n ≤ i⟩
theorem turn_list {P:Program} {w:World} {K:PySem.W.Frag} {tg:Expr} (a it:Addr):Turn P w K tg (Itl K a) [it] it (fun i h => h.IsListIter it a i) where
 mem:=by simp
 obj:=fun i h st b hb => by
  have e:b = it:=by simpa using hb
  subst e
  obtain ⟨o,e,c,d⟩:=st
  exact ⟨o,e,fun v z => by rw [d] at z; cases z⟩
 keep:=fun i h h' st k => st.at fun o e => k it (by simp) o e
 item:=by
  intro X hP hw hK hc i pins s σ H E I hf st hg
  subst hP hw hK
  obtain ⟨xs,x,hq,hx⟩:=hg
  obtain ⟨its,rv,p,hz⟩:=I.list hq
  obtain ⟨u,hu,ru⟩:=rv.get hx
  obtain ⟨f0,f1,f2,f3,f4,f5⟩:=hf it (by simp)
  refine wpAny_pyNext_list_item st p.isList (x:=u) (by simpa using hu) fun h' st' sb => ?_
  have I1:Inv X pins σ H { s with heap:=h' }:=I.turned (t':=s.toks) (fun b o hb e => (sb.2 b hb).trans e) f0 f1 f3 f4 f5
  obtain ⟨o,e,c,d⟩:=id st'
  exact ⟨u,rfl,go_of (s:={ s with heap:=h' }) e c d (by decide) ⟨x,H,I1,ru,⟨rfl,fun ys hy => by rw [I.list_inj hy hq]; exact hx⟩,st',fun b hb => (hf b hb).1⟩⟩
 done:=by
  intro X hP hw hK hc i pins s σ H E I hf st hg
  subst hP hw hK
  obtain ⟨xs,hq,hx⟩:=hg
  obtain ⟨its,rv,p,hz⟩:=I.list hq
  obtain ⟨f0,f1,f2,f3,f4,f5⟩:=hf it (by simp)
  have hl:=rv.length
  exact wpAny_pyNext_list_end (I.ok.hd hc) st p.isList (by simp; trivial) fun h' eb => ⟨rfl,I.turned (t':=s.toks) (fun b o hb e => eb b o hb e) f0 f1 f3 f4 f5⟩
 self:=fun _ _ _ _ _ st h => wpAny_pyIter_listiter st h
theorem turn_range {P:Program} {w:World} {K:PySem.W.Frag} {tg:Expr} (it:Addr) (lo:Int) (n:Nat):Turn P w K tg (Itr lo n) [it] it (fun i h => IsRangeIter h it (lo + (i:Nat) * 1) ((n:Int) - (i:Nat)) 1) where
 mem:=by simp
 obj:=fun i h st b hb => by
  have e:b = it:=by simpa using hb
  subst e
  exact ⟨_,st,fun v z => by
   have z':Data.fields _ = Data.cell v:=z
   cases z'⟩
 keep:=fun i h h' st k => k it (by simp) _ st
 item:=by
  intro X hP hw hK hc i pins s σ H E I hf st hg
  subst hP hw hK
  obtain ⟨f0,f1,f2,f3,f4,f5⟩:=hf it (by simp)
  have W:=Walks.range (prog:=X.prog) (w:=X.w) (I.ok.hd hc) it lo 1 n
  refine W.item i s _ _ hg st fun v h' tk hv st' kk => ?_
  obtain ⟨t,rfl⟩:=hv
  have I1:Inv X pins σ H { s with heap:=h',toks:=tk }:=I.turned (fun b o hb e => kk b o (by simpa using hb) e) f0 f1 f3 f4 f5
  refine ⟨_, rfl, go_of (s:={ s with heap:=h', toks:=tk }) (n:="range_iterator") st' rfl rfl (by decide) ⟨.int (lo + i), H, I1, ⟨t, ?_⟩, ⟨rfl, rfl⟩, st', fun b hb => (hf b hb).1⟩⟩
  rw [Int.mul_one]
 done:=by
  intro X hP hw hK hc i pins s σ H E I hf st hg
  subst hP hw hK
  obtain ⟨f0,f1,f2,f3,f4,f5⟩:=hf it (by simp)
  exact wpAny_pyNext_range_end (I.ok.hd hc) st (by have:n ≤ i:=hg; trivial) fun h' eb => ⟨rfl,I.turned (t':=s.toks) (fun b o hb e => eb b o hb e) f0 f1 f3 f4 f5⟩
 self:=fun _ _ _ _ _ st h => wpAny_pyIter_rangeiter st h
end L2
namespace L2
open PySem PySem.Spec PyProof.Rows
section
variable {X:Cx} {tg:Expr}
noncomputable def iList (K:PySem.W.Frag) (tl:TE):TI:=fun σ H R => tl σ H fun x H1 => ∃ a,x = .ref a∧(∃ xs,SqL K H1 a xs)∧R (Itl K a) H1
theorem pi_list {l:Expr} {tl:TE} (hl:PE X l tl):PI X tg l (iList X.K tl):=by
 intro pins s σ H R I h
 refine thn (hl pins s σ H _ I h) fun v s1 ⟨x,H1,I1,r1,q1⟩ => ?_
 obtain ⟨a,e,⟨xs,hq⟩,q⟩:=q1
 subst e
 cases r1
 obtain ⟨its,rv,p,hz⟩:=I1.list hq
 refine wpAny_pyIter_list p.isList ?_
 refine ⟨s1.heap.objs.size,[s1.heap.objs.size],_,_,H1,rfl,I1.kept (t':=s1.toks) fun b o e => Heap.get?_push_of_some _ e,turn_list a _,⟨_,Heap.get?_push_size _ rfl,rfl,rfl⟩,fun b hb => ?_,q⟩
 have e:b = s1.heap.objs.size:=by simpa using hb
 subst e
 exact I1.fpOk (Nat.le_refl _) (I1.hok.fresh (Nat.le_refl _))
theorem range_it {pins:List (Addr × Obj)} {σ:St} {H:Hp} {s:Shared} {R:It -> Hp -> Prop} {E:Value -> Shared -> Prop} {lo hi:Int} {t u v:Tok} {tk:Nat} (I:Inv X pins σ H s) (h1:-(2 ^ 62) ≤ lo) (h2:lo < 2 ^ 62) (h3:-(2 ^ 62) ≤ hi) (h4:hi < 2 ^ 62)
  (q:R (Itr lo (hi - lo).toNat) H):wpAny (model X.prog X.w) X.A (pyIter (.ref s.heap.objs.size)) (PIE X pins σ tg R) E { s with heap:=s.heap.push { cls:=.type "range", data:=.fields #[.int lo t, .int hi u, .int 1 v] }, toks:=tk }:=by
 refine wpAny_pyIter_range (IsRange.new ..) (small_one h1 h2 h3 h4) ?_
 have I1:Inv X pins σ H { s with heap:=s.heap.push { cls:=.type "range", data:=.fields #[.int lo t, .int hi u, .int 1 v] }, toks:=tk }:=I.kept fun b o e => Heap.get?_push_of_some _ e
 refine ⟨(s.heap.push { cls:=.type "range", data:=.fields #[.int lo t, .int hi u, .int 1 v] }).objs.size, [(s.heap.push { cls:=.type "range", data:=.fields #[.int lo t, .int hi u, .int 1 v] }).objs.size], _, _, H, rfl,
  I1.kept (t':=tk) fun b o e => Heap.get?_push_of_some _ e,turn_range _ lo (hi - lo).toNat,?_,fun b hb => ?_,q⟩
 ·have e1:lo + ((0:Nat):Int) * 1 = lo:=by simp
  have e2:(((hi - lo).toNat:Nat):Int) - ((0:Nat):Int) = Builtin.Range.rangeSize lo hi 1:=by rw [rangeSize_one]; split <;> trivial
  show IsRangeIter _ _ (lo + ((0:Nat):Int) * 1) ((((hi - lo).toNat:Nat):Int) - ((0:Nat):Int)) 1
  rw [e1,e2]
  exact Heap.get?_push_size _ rfl
 ·have e:b = (s.heap.push { cls:=.type "range", data:=.fields #[.int lo t, .int hi u, .int 1 v] }).objs.size:=by simpa using hb
  subst e
  exact I1.fpOk (Nat.le_refl _) (I1.hok.fresh (Nat.le_refl _))
noncomputable def iRng1 (ta:TA):TI:=fun σ H R => ta σ H fun vs H1 => ∃ j:Int,vs = [.int j]∧-(2 ^ 62) ≤ j∧j < 2 ^ 62∧R (Itr 0 j.toNat) H1
noncomputable def iRng2 (ta:TA):TI:=fun σ H R => ta σ H fun vs H1 => ∃ i j:Int,vs = [.int i,.int j]∧(-(2 ^ 62) ≤ i∧i < 2 ^ 62∧-(2 ^ 62) ≤ j∧j < 2 ^ 62)∧R (Itr i (j - i).toNat) H1
theorem pi_range1 {a:Expr} {ta:TA} {p pos:Pos} (hg:Gl X "range") (hm:X.mg "range" = none) (ha:PA X [a] ta) (hs:starEach [a] X.env = [(false, eval a X.env)]:=by rfl):PI X tg (.Call (.Name "range" p) [a] [] pos) (iRng1 ta):=by
 intro pins s σ H R I h
 refine Call_ (ld_blt I hg hm boot_range (PyProof.Rows.callWith_type1 (thn (ha pos pins s σ H _ I h) fun us s1 ⟨vs,H1,I1,r1,q1⟩ => ?_) hs rfl))
 obtain ⟨j,e,q1,q2,q⟩:=q1
 subst e
 cases r1 with
 | cons r rr =>
  cases rr
  obtain ⟨t,rfl⟩:=r
  exact call_range_1 (range_it I1 (by trivial) (by trivial) q1 q2 (by simpa using q))
theorem pi_range2 {a b:Expr} {ta:TA} {p pos:Pos} (hg:Gl X "range") (hm:X.mg "range" = none) (ha:PA X [a, b] ta) (hs:starEach [a, b] X.env = [(false, eval a X.env), (false, eval b X.env)]:=by rfl) (hs2:starEach [b] X.env = [(false, eval b X.env)]:=by rfl) :
  PI X tg (.Call (.Name "range" p) [a, b] [] pos) (iRng2 ta):=by
 intro pins s σ H R I h
 refine Call_ (ld_blt I hg hm boot_range (PyProof.Rows.callWith_type1 (thn (ha pos pins s σ H _ I h) fun us s1 ⟨vs,H1,I1,r1,q1⟩ => ?_) (by rw [hs,hs2]) (by rw [hs2]; rfl)))
 obtain ⟨i,j,e,⟨q1,q2,q3,q4⟩,q⟩:=q1
 subst e
 cases r1 with
 | cons r rr =>
  cases rr with
  | cons r' rr =>
   cases rr
   obtain ⟨t,rfl⟩:=r
   obtain ⟨t',rfl⟩:=r'
   exact call_range_2 (range_it I1 q1 q2 q3 q4 q)
noncomputable def tFor (wi:TI) (g:TG) (tb:TS):TS:=fun D σ H => wi σ H fun J H1 => ∃ W:Nat -> Nat -> St -> Hp -> Prop,(∃ m,W 0 m σ H1)∧∀ i m σ H,W i m σ H →
 (J.stop i H∧D.nx σ H) ∨ (J.go i H∧∃ N:St -> Hp -> Prop,(∀ σ' H',N σ' H' -> ∃ m',m' < m∧W (i + 1) m' σ' H')∧∀ x H',J.yld i H x H' -> g x σ H' fun σ2 H2 => tb { D with nx:=N,ct:=N,bk:=D.nx } σ2 H2)
noncomputable def pinsAt (fp:List Addr) (h:Heap):List (Addr × Obj):=fp.filterMap fun b => (h.get? b).map fun o => (b,o)
theorem mem_pinsAt {fp:List Addr} {h:Heap} {b:Addr} {o:Obj} (hb:b ∈ fp) (e:h.get? b = some o):(b,o) ∈ pinsAt fp h:=List.mem_filterMap.mpr ⟨b,hb,by rw [e]; rfl⟩
theorem of_pinsAt {fp:List Addr} {h:Heap} {p:Addr × Obj} (hp:p ∈ pinsAt fp h):p.1 ∈ fp∧h.get? p.1 = some p.2:=by
 obtain ⟨b,hb,e⟩:=List.mem_filterMap.mp hp
 cases q:h.get? b with
 | none => rw [q] at e; cases e
 | some o =>
  rw [q] at e
  have e':(b,o) = p:=Option.some.inj e
  subst e'
  exact ⟨hb,q⟩
theorem Inv.pinned {pins:List (Addr × Obj)} {σ:St} {H:Hp} {s:Shared} {fp:List Addr} (I:Inv X pins σ H s) (hf:∀ b ∈ fp,FpOk X pins H b) (ho:∀ b ∈ fp,∃ o,s.heap.get? b = some o∧∀ v,o.data ≠ .cell v):Inv X (pins ++ pinsAt fp s.heap) σ H s :=
 I.pins_of fun p hp => (List.mem_append.mp hp).elim (fun z => I.pin p (List.mem_append_right _ z)) fun z => by
  obtain ⟨hb,e⟩:=of_pinsAt z
  obtain ⟨f0,f1,f2,_⟩:=hf p.1 hb
  obtain ⟨o,e',d⟩:=ho p.1 hb
  rw [e] at e'; cases e'
  exact ⟨e,f0,f1,f2,d⟩
theorem Inv.unpinned {pins pl:List (Addr × Obj)} {σ:St} {H:Hp} {s:Shared} (I:Inv X (pins ++ pl) σ H s):Inv X pins σ H s:=I.pins_of fun p hp => I.pin p (List.mem_append_right _ (List.mem_append_left _ hp))
theorem ps_for {iter:Expr} {body:List Stmt} {wi:TI} {g:TG} {tb:TS} {pos:Pos} (hp:PassesOwn (model X.prog X.w) X.A X.env X.xe) (hc:X.calm = true) (hi:PI X tg iter wi) (hg:PG X tg g) (hb:PSs X body tb)
  (hs:∀ x,foldedSetIterable iter X.env x = pure x:=by intro _; rfl):PS X (.For tg iter body [] pos) (tFor wi g tb):=by
 intro pins s σ H D I h
 refine wpAny_For (thn (hi pins s σ H _ I h) fun v s1 h1 => thn h1 fun itv s2 h2 => ?_) hs
 obtain ⟨it,fp,tn,J,H2,e,I2,T,st2,f2,W,⟨m0,w0⟩,turn⟩:=h2
 subst e
 -- what stays true of the iterator's objects through the loop
 have stat:∀ {H':Hp},(∀ b ∈ fp,H' b = none) -> ∀ b ∈ fp,FpOk X pins H' b:=fun hn b hb => ⟨hn b hb,(f2 b hb).2⟩
 refine codeAny_forLoop_any (fun n s' => ∃ i σ' H',Inv X pins σ' H' s'∧tn i s'.heap∧(∀ b ∈ fp,H' b = none)∧W i n σ' H') ?_ m0 ⟨0,σ,H2,I2,st2,fun b hb => (f2 b hb).1,w0⟩
 rintro n s3 ⟨i,σ3,H3,I3,st3,fr3,w3⟩
 rcases turn i n σ3 H3 w3 with ⟨stop,qn⟩ | ⟨go,N,hN,step⟩
 ·refine wpAny_passesOwn hp (thn (T.done X rfl rfl rfl hc i pins s3 σ3 H3 X.xe I3 (stat fr3) st3 stop) fun r s4 ⟨hr,I4⟩ => ?_)
  subst hr
  exact wpAny_execs_nil ⟨σ3,H3,I4,qn⟩
 ·refine wpAny_passesOwn hp (thn (T.item X rfl rfl rfl hc i pins s3 σ3 H3 X.xe I3 (stat fr3) st3 go) fun r s4 ⟨u,hr,h4⟩ => ?_)
  subst hr
  refine wpAny_passesOwn hp (thn h4 fun _ s5 ⟨x,H5,I5,r5,y5,st5,fr5⟩ => ?_)
  have I5':=I5.pinned (stat fr5) (T.obj _ _ st5)
  refine wpAny_passesOwn hp (thn (hg _ s5 σ3 H5 x u _ I5' r5 (step x H5 y5)) fun _ s6 ⟨σ6,H6,I6,q6⟩ => ?_)
  refine wpAny_passesOwn hp (thn (hb _ s6 σ6 H6 _ I6 q6) fun f s7 q7 => ?_)
  have again:∀ {σ7:St} {H7:Hp},Inv X (pins ++ pinsAt fp s5.heap) σ7 H7 s7 -> N σ7 H7 -> ∃ m,m < n∧∃ i σ' H',Inv X pins σ' H' s7∧tn i s7.heap∧(∀ b ∈ fp,H' b = none)∧W i m σ' H':=fun {σ7 H7} I7 n7 => by
   obtain ⟨m',hm,w7⟩:=hN σ7 H7 n7
   refine ⟨m',hm,i + 1,σ7,H7,I7.unpinned,T.keep _ _ _ st5 fun b hb o e => (I7.pin (b,o) (List.mem_append_right _ (List.mem_append_right _ (mem_pinsAt hb e)))).1,fun b hb => ?_,w7⟩
   obtain ⟨o,e,d⟩:=T.obj _ _ st5 b hb
   exact (I7.pin (b,o) (List.mem_append_right _ (List.mem_append_right _ (mem_pinsAt hb e)))).2.1
  cases f with
  | next => obtain ⟨σ7,H7,I7,n7⟩:=q7; exact again I7 n7
  | cont => obtain ⟨σ7,H7,I7,n7⟩:=q7; exact again I7 n7
  | brk => obtain ⟨σ7,H7,I7,q7⟩:=q7; exact ⟨σ7,H7,I7.unpinned,q7⟩
  | ret v => obtain ⟨x7,σ7,H7,I7,r7,q7⟩:=q7; exact ⟨x7,σ7,H7,I7.unpinned,r7,q7⟩
end
theorem for_list {K:PySem.W.Frag} {a:Addr} {xs:List V} {g:TG} {tb:TS} {D:Ends} {σ:St} {H:Hp} (Pv:Nat -> St -> Hp -> Prop) (h0:Pv 0 σ H) (hl:∀ i σ H,i ≤ xs.length -> Pv i σ H -> SqL K H a xs)
  (hs:∀ i x σ H,xs[i]? = some x -> Pv i σ H -> g x σ H fun σ2 H2 => tb { D with nx:=Pv (i + 1),ct:=Pv (i + 1),bk:=D.nx } σ2 H2) (hd:∀ σ H,Pv xs.length σ H -> D.nx σ H) :
  ∃ W:Nat -> Nat -> St -> Hp -> Prop,(∃ m,W 0 m σ H)∧∀ i m σ H,W i m σ H →
   ((Itl K a).stop i H∧D.nx σ H) ∨ ((Itl K a).go i H∧∃ N:St -> Hp -> Prop,(∀ σ' H',N σ' H' -> ∃ m',m' < m∧W (i + 1) m' σ' H')∧∀ x H',(Itl K a).yld i H x H' -> g x σ H' fun σ2 H2 => tb { D with nx:=N,ct:=N,bk:=D.nx } σ2 H2):=by
 refine ⟨fun i m σ H => m = xs.length - i∧i ≤ xs.length∧Pv i σ H,⟨xs.length,by simp,Nat.zero_le _,h0⟩,?_⟩
 rintro i m σ H ⟨rfl,hi,p⟩
 have q:=hl i σ H hi p
 by_cases hlt:i < xs.length
 ·refine .inr ⟨⟨xs,xs[i],q,by simp [hlt]⟩,Pv (i + 1),fun σ' H' p' => ⟨xs.length - (i + 1),by trivial,rfl,hlt,p'⟩,fun x H' y => ?_⟩
  obtain ⟨e,y⟩:=y
  subst e
  exact hs i x σ _ (y xs q) p
 ·have e:i = xs.length:=by trivial
  subst e
  exact .inl ⟨⟨xs,q,Nat.le_refl _⟩,hd σ H p⟩
theorem for_range {lo:Int} {n:Nat} {g:TG} {tb:TS} {D:Ends} {σ:St} {H:Hp} (Pv:Nat -> St -> Hp -> Prop) (h0:Pv 0 σ H)
  (hs:∀ i σ H,i < n -> Pv i σ H -> g (.int (lo + i)) σ H fun σ2 H2 => tb { D with nx:=Pv (i + 1),ct:=Pv (i + 1),bk:=D.nx } σ2 H2) (hd:∀ σ H,Pv n σ H -> D.nx σ H) :
  ∃ W:Nat -> Nat -> St -> Hp -> Prop,(∃ m,W 0 m σ H)∧∀ i m σ H,W i m σ H →
   ((Itr lo n).stop i H∧D.nx σ H) ∨ ((Itr lo n).go i H∧∃ N:St -> Hp -> Prop,(∀ σ' H',N σ' H' -> ∃ m',m' < m∧W (i + 1) m' σ' H')∧∀ x H',(Itr lo n).yld i H x H' -> g x σ H' fun σ2 H2 => tb { D with nx:=N,ct:=N,bk:=D.nx } σ2 H2):=by
 refine ⟨fun i m σ H => m = n - i∧i ≤ n∧Pv i σ H,⟨n,by simp,Nat.zero_le _,h0⟩,?_⟩
 rintro i m σ H ⟨rfl,hi,p⟩
 by_cases hlt:i < n
 ·refine .inr ⟨hlt,Pv (i + 1),fun σ' H' p' => ⟨n - (i + 1),by trivial,rfl,hlt,p'⟩,fun x H' y => ?_⟩
  obtain ⟨e,y⟩:=y
  subst e y
  exact hs i σ _ hlt p
 ·have e:i = n:=by trivial
  subst e
  exact .inl ⟨Nat.le_refl _,hd σ H p⟩
end L2
namespace L2
open PySem PySem.Spec PyProof.Rows
noncomputable abbrev R2:=V -> V -> Hp -> VK -> Prop
noncomputable def OpR (X:Cx) (f:Value -> Value -> Sem Value) (r:R2):Prop :=
 ∀ (pins:List (Addr × Obj)) (s:Shared) (σ:St) (H:Hp) (x y:V) (v u:Value) (Q:VK),Inv X pins σ H s -> RelV x v -> RelV y u -> r x y H Q →
  wpAny (model X.prog X.w) X.A (f v u) (EP X pins σ Q) X.xe s
noncomputable def UnR (X:Cx) (f:Value -> Sem Value) (r:V -> Hp -> VK -> Prop):Prop :=
 ∀ (pins:List (Addr × Obj)) (s:Shared) (σ:St) (H:Hp) (x:V) (v:Value) (Q:VK),Inv X pins σ H s -> RelV x v -> r x H Q →
  wpAny (model X.prog X.w) X.A (f v) (EP X pins σ Q) X.xe s
noncomputable def CallR (X:Cx) (f:Value) (r:List V -> Hp -> VK -> Prop):Prop :=
 ∀ (pins:List (Addr × Obj)) (s:Shared) (σ:St) (H:Hp) (xs:List V) (us:List Value) (Q:VK),Inv X pins σ H s -> Vals xs us -> r xs H Q →
  wpAny (model X.prog X.w) X.A (call f us) (EP X pins σ Q) X.xe s
noncomputable def tOp (r:R2) (ta tb:TE):TE:=fun σ H Q => ta σ H fun x H1 => tb σ H1 fun y H2 => r x y H2 Q
noncomputable def tUn (r:V -> Hp -> VK -> Prop) (ta:TE):TE:=fun σ H Q => ta σ H fun x H1 => r x H1 Q
noncomputable def rI (C:Int -> Int -> Prop) (g:Int -> Int -> V):R2:=fun x y H Q => ∃ i j,x = .int i∧y = .int j∧C i j∧Q (g i j) H
noncomputable def rI0 (g:Int -> Int -> V):R2:=fun x y H Q => ∃ i j,x = .int i∧y = .int j∧Q (g i j) H
noncomputable def rU (g:Int -> V):V -> Hp -> VK -> Prop:=fun x H Q => ∃ i,x = .int i∧Q (g i) H
section
variable {X:Cx} {a b c:Expr} {ta tb tc:TE} {pos:Pos}
theorem binT (ha:PE X a ta) (hb:PE X b tb) {pins:List (Addr × Obj)} {s:Shared} {σ:St} {H:Hp} {R:V -> V -> Hp -> Prop} (I:Inv X pins σ H s)
  (h:ta σ H fun x H1 => tb σ H1 fun y H2 => R x y H2) {Q:Value -> Shared -> Prop} {f:Value -> Value -> Sem Value}
  (hf:∀ v u s2 x y H2,Inv X pins σ H2 s2 -> RelV x v -> RelV y u -> R x y H2 -> wpAny (model X.prog X.w) X.A (f v u) Q X.xe s2) :
  wpAny (model X.prog X.w) X.A (eval a X.env) (fun v s₁ => wpAny (model X.prog X.w) X.A (eval b X.env) (fun u s₂ => wpAny (model X.prog X.w) X.A (f v u) Q X.xe s₂) X.xe s₁) X.xe s:=by
 refine thn (ha pins s σ H _ I h) fun v s1 ⟨x,H1,I1,r1,q1⟩ => ?_
 refine thn (hb pins s1 σ H1 _ I1 q1) fun u s2 ⟨y,H2,I2,r2,q2⟩ => ?_
 exact hf v u s2 x y H2 I2 r1 r2 q2
theorem pe_op {op:Operator} {r:R2} (ho:OpR X (binaryOp op) r) (ha:PE X a ta) (hb:PE X b tb):PE X (.BinOp a op b pos) (tOp r ta tb):=by
 intro pins s σ H Q I h
 exact wpAny_BinOp (binT ha hb I h fun v u s2 x y H2 I2 rx ry q => ho pins s2 σ H2 x y v u Q I2 rx ry q)
theorem pe_un {op:UnaryOp} {r:V -> Hp -> VK -> Prop} (ho:UnR X (unaryOp op) r) (ha:PE X a ta):PE X (.UnaryOp op a pos) (tUn r ta):=by
 intro pins s σ H Q I h
 exact UnaryOp_ (thn (ha pins s σ H _ I h) fun v s1 ⟨x,H1,I1,r1,q1⟩ => ho pins s1 σ H1 x v Q I1 r1 q1)
theorem opI {f:Value -> Value -> Sem Value} {C:Int -> Int -> Prop} {g:Int -> Int -> Int}
  (rule:∀ (i j:Int) (t u:Tok) (s:Shared) (Q:Value -> Shared -> Prop) (E:Value -> Shared -> Prop),C i j -> Q (.int (g i j) s.toks) { s with toks:=s.toks + 1 } -> wpAny (model X.prog X.w) X.A (f (.int i t) (.int j u)) Q E s) :
  OpR X f (rI C fun i j => .int (g i j)):=by
 intro pins s σ H x y v u Q I rx ry h
 obtain ⟨i,j,rfl,rfl,hc,q⟩:=h
 obtain ⟨t,rfl⟩:=rx
 obtain ⟨t',rfl⟩:=ry
 exact rule i j t t' s _ _ hc ⟨.int (g i j),H,I.tok _,⟨_,rfl⟩,q⟩
theorem opI0 {f:Value -> Value -> Sem Value} {g:Int -> Int -> Int}
  (rule:∀ (i j:Int) (t u:Tok) (s:Shared) (Q:Value -> Shared -> Prop) (E:Value -> Shared -> Prop),Q (.int (g i j) s.toks) { s with toks:=s.toks + 1 } -> wpAny (model X.prog X.w) X.A (f (.int i t) (.int j u)) Q E s) :
  OpR X f (rI0 fun i j => .int (g i j)):=by
 intro pins s σ H x y v u Q I rx ry h
 obtain ⟨i,j,rfl,rfl,q⟩:=h
 obtain ⟨t,rfl⟩:=rx
 obtain ⟨t',rfl⟩:=ry
 exact rule i j t t' s _ _ ⟨.int (g i j),H,I.tok _,⟨_,rfl⟩,q⟩
theorem opB0 {f:Value -> Value -> Sem Value} {g:Int -> Int -> Bool}
  (rule:∀ (i j:Int) (t u:Tok) (s:Shared) (Q:Value -> Shared -> Prop) (E:Value -> Shared -> Prop),Q (.bool (g i j)) s -> wpAny (model X.prog X.w) X.A (f (.int i t) (.int j u)) Q E s) :
  OpR X f (rI0 fun i j => .bl (g i j)):=by
 intro pins s σ H x y v u Q I rx ry h
 obtain ⟨i,j,rfl,rfl,q⟩:=h
 obtain ⟨t,rfl⟩:=rx
 obtain ⟨t',rfl⟩:=ry
 exact rule i j t t' s _ _ ⟨.bl (g i j),H,I,rfl,q⟩
noncomputable def CDiv (i j:Int):Prop:=0 < j∧j < 1073741824
noncomputable def CPow (i j:Int):Prop:=0 ≤ j∧j ≤ 1000000∧i.natAbs < 2 ^ 64
noncomputable def CMul (i j:Int):Prop:=(-(2 ^ 64) < i∧i < 2 ^ 64) ∨ (-(2 ^ 64) < j∧j < 2 ^ 64)
theorem CMul.ok {i j:Int} (h:CMul i j):IntMulOk i j:=by
 rcases h with ⟨h1,h2⟩ | ⟨h1,h2⟩
 ·exact .of_left (intBits_le_64 h1 h2)
 ·exact .of_right (intBits_le_64 h1 h2)
theorem op_add:OpR X (binaryOp .Add) (rI0 fun i j => .int (i + j)):=opI0 fun _ _ _ _ _ _ _ q => add_int q
theorem op_sub:OpR X (binaryOp .Sub) (rI0 fun i j => .int (i - j)):=opI0 fun _ _ _ _ _ _ _ q => sub_int q
theorem op_mul:OpR X (binaryOp .Mult) (rI CMul fun i j => .int (i * j)):=opI fun _ _ _ _ _ _ _ hc q => mul_int q hc.ok
theorem op_fdiv:OpR X (binaryOp .FloorDiv) (rI CDiv fun i j => .int (i / j)):=opI fun i j _ _ _ _ _ hc q => by
 have h1:(0:Int) < j:=hc.1
 have h2:j < 1073741824:=hc.2
 exact floordiv_int (by trivial) (by rw [Int.fdiv_eq_ediv_of_nonneg i (by trivial)]; exact q) (.inl (PyProof.noPylong_small (by trivial)))
theorem op_mod:OpR X (binaryOp .Mod) (rI (fun _ j => 0 < j) fun i j => .int (i % j)):=opI fun i j _ _ _ _ _ hc q => by
 have h1:(0:Int) < j:=hc
 exact mod_int' (by trivial) (by rw [Int.fmod_eq_emod_of_nonneg i (by trivial)]; exact q)
theorem op_shl:OpR X (binaryOp .LShift) (rI CPow fun i j => .int (i * 2 ^ j.toNat)):=opI fun _ _ _ _ _ _ _ hc q => lshift_int_small hc.1 hc.2.1 hc.2.2 q
theorem unI {f:Value -> Sem Value} {g:Int -> Int}
  (rule:∀ (i:Int) (t:Tok) (s:Shared) (Q:Value -> Shared -> Prop) (E:Value -> Shared -> Prop),Q (.int (g i) s.toks) { s with toks:=s.toks + 1 } -> wpAny (model X.prog X.w) X.A (f (.int i t)) Q E s) :
  UnR X f (rU fun i => .int (g i)):=by
 intro pins s σ H x v Q I rx h
 obtain ⟨i,rfl,q⟩:=h
 obtain ⟨t,rfl⟩:=rx
 exact rule i t s _ _ ⟨.int (g i),H,I.tok _,⟨_,rfl⟩,q⟩
theorem un_neg:UnR X (unaryOp .USub) (rU fun i => .int (-i)):=unI fun _ _ _ _ _ q => neg_int q
end
noncomputable def scal:V -> V -> Bool
 | .non,.non => true | .non,.int _ => true | .int _,.non => true | .non,.bl _ => true | .bl _,.non => true | .non,.str _ => true | .str _,.non => true
 | .int _,.int _ => true | .bl _,.bl _ => true | .str _,.str _ => true | .byt _,.byt _ => true
 | .int _,.str _ => true | .str _,.int _ => true | .bl _,.str _ => true | .str _,.bl _ => true
 | _,_ => false
noncomputable def rEq:R2:=fun x y H Q => scal x y = true∧Q (.bl (decide (x = y))) H
theorem dec_int {i j:Int}:decide (V.int i = V.int j) = (i == j):=by
 rw [Bool.eq_iff_iff]
 simp
theorem dec_bl {i j:Bool}:decide (V.bl i = V.bl j) = (i == j):=by
 rw [Bool.eq_iff_iff]
 simp
theorem dec_str {i j:Str}:decide (V.str i = V.str j) = (i == j):=by
 rw [Bool.eq_iff_iff]
 simp
theorem dec_byt {i j:Array UInt8}:decide (V.byt i = V.byt j) = (i.toList == j.toList):=by
 rw [Bool.eq_iff_iff]
 cases i
 cases j
 simp
section
variable {X:Cx} {a b c:Expr} {ta tb tc:TE} {pos:Pos}
theorem fin_bl {pins:List (Addr × Obj)} {σ:St} {H:Hp} {s:Shared} {Q:VK} {k k':Bool} (I:Inv X pins σ H s) (q:Q (.bl k) H) (e:k = k'):EP X pins σ Q (.bool k') s:=by
 subst e
 exact ⟨.bl k,H,I,rfl,q⟩
theorem op_eq:OpR X (compareOp .Eq) rEq:=by
 intro pins s σ H x y v u Q I rx ry h
 obtain ⟨hs,q⟩:=h
 cases x with
 | non =>
  cases rx
  cases y with
  | non => cases ry; exact PySem.EqNone.eq_none_none (fin_bl I q (by simp))
  | bl j => cases ry; exact PySem.EqNone.eq_none_bool (fin_bl I q (by simp))
  | int j => obtain ⟨t',rfl⟩:=ry; exact PySem.EqNone.eq_none_int (fin_bl I q (by simp))
  | str j => obtain ⟨t',rfl⟩:=ry; exact PySem.EqNone.eq_none_str (fin_bl I q (by simp))
  | _ => exact absurd (show false = true from hs) Bool.false_ne_true
 | bl i =>
  cases rx
  cases y with
  | non => cases ry; exact PySem.EqNone.eq_bool_none (fin_bl I q (by simp))
  | bl j => cases ry; exact eq_bool (fin_bl I q dec_bl)
  | str j => obtain ⟨t',rfl⟩:=ry; exact PySem.EqMixed.eq_bool_str (fin_bl I q (by simp))
  | _ => exact absurd (show false = true from hs) Bool.false_ne_true
 | int i =>
  obtain ⟨t,rfl⟩:=rx
  cases y with
  | non => cases ry; exact PySem.EqNone.eq_int_none (fin_bl I q (by simp))
  | int j => obtain ⟨t',rfl⟩:=ry; exact eq_int (fin_bl I q dec_int)
  | str j => obtain ⟨t',rfl⟩:=ry; exact PySem.EqMixed.eq_int_str (fin_bl I q (by simp))
  | _ => exact absurd (show false = true from hs) Bool.false_ne_true
 | str i =>
  obtain ⟨t,rfl⟩:=rx
  cases y with
  | non => cases ry; exact PySem.EqNone.eq_str_none (fin_bl I q (by simp))
  | bl j => cases ry; exact PySem.EqMixed.eq_str_bool (fin_bl I q (by simp))
  | int j => obtain ⟨t',rfl⟩:=ry; exact PySem.EqMixed.eq_str_int (fin_bl I q (by simp))
  | str j => obtain ⟨t',rfl⟩:=ry; exact eq_str (fin_bl I q dec_str)
  | _ => exact absurd (show false = true from hs) Bool.false_ne_true
 | byt i =>
  obtain ⟨t,rfl⟩:=rx
  cases y with
  | byt j => obtain ⟨t',rfl⟩:=ry; exact PySem.W.eq_bytes (fin_bl I q dec_byt)
  | _ => exact absurd (show false = true from hs) Bool.false_ne_true
 | _ => cases y <;> exact absurd (show false = true from hs) Bool.false_ne_true
theorem op_lt:OpR X (compareOp .Lt) (rI0 fun i j => .bl (decide (i < j))):=opB0 fun _ _ _ _ _ _ _ q => lt_int q
theorem op_le:OpR X (compareOp .LtE) (rI0 fun i j => .bl (decide (i ≤ j))):=opB0 fun _ _ _ _ _ _ _ q => le_int q
theorem op_gt:OpR X (compareOp .Gt) (rI0 fun i j => .bl (decide (j < i))):=opB0 fun _ _ _ _ _ _ _ q => gt_int q
theorem op_ge:OpR X (compareOp .GtE) (rI0 fun i j => .bl (decide (j ≤ i))):=opB0 fun _ _ _ _ _ _ _ q => ge_int q
theorem nomark (b:Expr) {op:CmpOp} (h:op ≠ .In:=by decide) (h2:op ≠ .NotIn:=by decide):behindInMarks op b = false:=by
 have e1:(op == CmpOp.In) = false:=by cases op <;> first | rfl | exact absurd rfl h
 have e2:(op == CmpOp.NotIn) = false:=by cases op <;> first | rfl | exact absurd rfl h2
 cases b <;> simp [behindInMarks,e1,e2]
theorem pe_cmpR {op:CmpOp} {r:R2} (ho:OpR X (compareOp op) r) (ha:PE X a ta) (hb:PE X b tb) (hm:behindInMarks op b = false):PE X (.Compare a [op] [b] pos) (tOp r ta tb):=by
 intro pins s σ H Q I h
 exact wpAny_Compare1 (binT ha hb I h fun v u s2 x y H2 I2 rx ry q => ho pins s2 σ H2 x y v u Q I2 rx ry q) hm
noncomputable def tTest (t:TE):TT:=fun σ H Q => t σ H fun x H' => ∃ k,x = .bl k∧Q k H'
theorem pt_cmpR {op:CmpOp} {r:R2} (ho:OpR X (compareOp op) r) (ha:PE X a ta) (hb:PE X b tb) (hm:behindInMarks op b = false):PT X (.Compare a [op] [b] pos) (tTest (tOp r ta tb)):=by
 intro pins s σ H Q I h
 refine wpAny_isTrue_Compare1 (thn (ha pins s σ H _ I h) fun v s1 ⟨x,H1,I1,r1,q1⟩ => thn (hb pins s1 σ H1 _ I1 q1) fun u s2 ⟨y,H2,I2,r2,q2⟩ =>
  thn (ho pins s2 σ H2 x y v u _ I2 r1 r2 q2) fun c s3 ⟨z,H3,I3,r3,k,e,q3⟩ => ?_) hm
 subst e
 cases r3
 exact wpAny_truthy_bool ⟨H3,I3,q3⟩
theorem line63:(sizeLine:Nat) < 2 ^ 63:=by rw [sizeLine_eq]; decide
theorem vals1 {x:V} {us:List Value} (r:Vals [x] us):∃ u,us = [u]∧RelV x u:=by
 cases r with
 | cons r1 r2 => cases r2; exact ⟨_,rfl,r1⟩
theorem vals2 {x y:V} {us:List Value} (r:Vals [x,y] us):∃ u w',us = [u,w']∧RelV x u∧RelV y w':=by
 cases r with
 | cons r1 r2 =>
  cases r2 with
  | cons r3 r4 => cases r4; exact ⟨_,_,rfl,r1,r3⟩
theorem call_max2 (hc:X.calm = true):CallR X (.builtin "max") (fun xs H Q => ∃ i j, xs = [.int i, .int j]∧Q (.int (if j > i then j else i)) H):=by
 intro pins s σ H xs us Q I r h
 obtain ⟨i,j,rfl,q⟩:=h
 obtain ⟨u,w',rfl,⟨t,rfl⟩,⟨t',rfl⟩⟩:=vals2 r
 refine max_two_ints (I.ok.hd hc) fun h' tk k => ⟨_,H,I.kept k,?_,q⟩
 by_cases hj:j > i
 ·rw [if_pos hj,if_pos hj]; exact ⟨_,rfl⟩
 ·rw [if_neg hj,if_neg hj]; exact ⟨_,rfl⟩
theorem call_min2 (hc:X.calm = true):CallR X (.builtin "min") (fun xs H Q => ∃ i j, xs = [.int i, .int j]∧Q (.int (if j < i then j else i)) H):=by
 intro pins s σ H xs us Q I r h
 obtain ⟨i,j,rfl,q⟩:=h
 obtain ⟨u,w',rfl,⟨t,rfl⟩,⟨t',rfl⟩⟩:=vals2 r
 refine min_two_ints (I.ok.hd hc) fun h' tk k => ⟨_,H,I.kept k,?_,q⟩
 by_cases hj:j < i
 ·rw [if_pos hj,if_pos hj]; exact ⟨_,rfl⟩
 ·rw [if_neg hj,if_neg hj]; exact ⟨_,rfl⟩
theorem call_int1:CallR X (.type "int") (fun xs H Q => (∃ i, xs = [.int i]∧Q (.int i) H) ∨ ∃ k, xs = [.bl k]∧Q (.int (if k then 1 else 0)) H):=by
 intro pins s σ H xs us Q I r h
 rcases h with ⟨i,rfl,q⟩ | ⟨k,rfl,q⟩
 ·obtain ⟨u,rfl,t,rfl⟩:=vals1 r
  exact call_int_int ⟨.int i,H,I,⟨_,rfl⟩,q⟩
 ·obtain ⟨u,rfl,r1⟩:=vals1 r
  cases r1
  exact call_int_bool ⟨.int (if k then 1 else 0),H,I.tok _,⟨_,rfl⟩,q⟩
end
end L2
namespace L2
open PySem PySem.Spec PyProof.Rows
structure ObjM (h:Heap) (x dx C:Addr) (mA:Str -> Option Value):Prop where
 obj:h.get? x = some (PySem.W.instObj C dx)
 ns:h.Ns1 dx mA
 ne:dx ≠ x
theorem lookIn_ns {h:Heap} {dx:Addr} {mA:Str -> Option Value} (n:h.Ns1 dx mA):∃ od,h.get? dx = some od∧∀ name,PySem.W.lookIn name od = some (mA name):=by
 obtain ⟨o,es,ep,ho,hd,hk,_,hm⟩:=n
 refine ⟨o,ho,fun name => ?_⟩
 have e:=hm name
 unfold nsFind findBy at e
 rw [← Array.find?_toList] at e
 unfold PySem.W.lookIn
 rw [hd]
 dsimp only
 split
 ·rename_i y q
  rw [q] at e
  exact congrArg some e
 ·rename_i q
  rw [q] at e
  have a:es.toList.any (·.refKey) = false:=by
   rw [List.any_eq_false]
   intro y hy
   obtain ⟨z,t,hkey⟩:=hk y (Array.mem_toList_iff.mp hy)
   simp [DictEntry.refKey,hkey]
  have a':¬ es.toList.any (·.refKey) = true:=by rw [a]; exact Bool.false_ne_true
  rw [if_neg a']
  exact congrArg some e
theorem ObjM.look {h:Heap} {x dx C:Addr} {mA:Str -> Option Value} (I:ObjM h x dx C mA):∃ od,PySem.W.InstAt h x (PySem.W.instObj C dx) C (some od)∧∀ name,PySem.W.lookIn name od = some (mA name) :=
 let ⟨od,ho,hl⟩:=lookIn_ns I.ns
 ⟨od,⟨I.obj,rfl,rfl,ho⟩,hl⟩
section
variable {prog:Program} {w:World} {A:Around} {E:Value -> Shared -> Prop} {s:Shared} {K:PySem.W.Frag} {x dx C f:Addr} {mA:Str -> Option Value} {name:Str} {v:Value}
end
theorem RelO.some_of {v:V} {o:Option Value} (r:RelO (some v) o):∃ u,o = some u∧RelV v u:=by
 cases o with
 | none => exact (show False from r).elim
 | some u => exact ⟨u,rfl,r⟩
section
variable {P:Program} {w:World} {H H':Hp} {h h':Heap} {a C dx:Addr} {fs fs':List (Str × V)}
theorem ins_get (hok:HOk P w H h) (e:H a = some (.ins C dx fs)):∃ mA,ObjM h a dx C mA∧(∀ f,RelO (fs.lookup f) (mA f))∧PySem.Within mA (fs.map (·.1))∧fs.length ≤ 1000∧H dx = some (.own a):=by
 obtain ⟨d,z,ne,ob,mA,n,r,q⟩:=(show ObjOk P w H h a (.ins C dx fs) from hok a _ e)
 exact ⟨mA,⟨ob,n,ne⟩,r,q,z,d⟩
end
structure Cls (K:PySem.W.Frag) (C:Addr):Prop where
 pg:PySem.W.plainGet K C Str.empty = true
 hd:PySem.W.hasDictIn K C = true
 po:PySem.W.plainOver K C = true
 sa:PySem.W.findIn K (.ref C) "__setattr__" = some (some (.builtin "object.__setattr__"))
theorem Cls.get {K:PySem.W.Frag} {C:Addr} (c:Cls K C) (f:Str):PySem.W.plainGet K C f = true:=c.pg
structure Con (K:PySem.W.Frag) (C:Addr) (f:Str) (v:V) (u:Value):Prop where
 at_:PySem.W.findIn K (.ref C) f = some (some u)
 rel:RelV v u
 get:PySem.W.specialIn K u "__get__" = some none
 cp:PySem.W.copiedNames.contains f = false
structure Meth (K:PySem.W.Frag) (C:Addr) (m:Str) (f:Addr):Prop where
 at_:PySem.W.findIn K (.ref C) m = some (some (.ref f))
 fn:PySem.W.isFn K (.ref f) = true
 kp:PySem.W.keepIn K (.ref f) = true
section
variable {X:Cx} {pins:List (Addr × Obj)} {σ:St} {H:Hp} {s:Shared} {a C dx:Addr} {fs:List (Str × V)} {f:Str} {v:V} {A:Around} {E:Value -> Shared -> Prop}
end
section
variable {X:Cx} {o e value:Expr} {f:Str} {pos pos' tpos:Pos} {ta tv:TE}
end
section
variable {X:Cx} {pins:List (Addr × Obj)} {σ:St} {H:Hp} {s:Shared} {A:Around} {E:Value -> Shared -> Prop} {Q:Value -> Shared -> Prop} {c:Value} {b:Bool}
inductive TyOf (K:PySem.W.Frag) (H:Hp):V -> Value -> Prop where
 | non:TyOf K H .non (.type "NoneType")
 | bl (x:Bool):TyOf K H (.bl x) (.type "bool")
 | int (i:Int):TyOf K H (.int i) (.type "int")
 | str (x:Str):TyOf K H (.str x) (.type "str")
 | flt (x:UInt64):TyOf K H (.flt x) (.type "float")
 | lst {a:Addr} {xs:List V} (e:H a = some (.lst xs)):TyOf K H (.ref a) (.type "list")
 | frz {a:Addr} {o:Obj} {xs:List V} (e:H a = some (.frz o (.lst xs))):TyOf K H (.ref a) (.type "list")
 | tup {a:Addr} {xs:List V} (e:H a = some (.tup xs)):TyOf K H (.ref a) (.type "tuple")
 | dK {a:Addr} {kvs:List (Key × V)} (e:H a = some (.dK kvs)):TyOf K H (.ref a) (.type "dict")
 | dT {a:Addr} {kvs:List (List Key × V)} (e:H a = some (.dT kvs)):TyOf K H (.ref a) (.type "dict")
 | ins {a C dx:Addr} {fs:List (Str × V)} (e:H a = some (.ins C dx fs)) (cl:Cls K C) (ha:PySem.W.findIn K (.ref C) "__class__" = some (some (.builtin "object.__class__")))
   (hn:PySem.W.specialIn K (.builtin "object.__class__") "__get__" = some (some (.builtin "getset_descriptor.__get__"))) (htk:PySem.W.takesIn K (.builtin "object.__class__") = some true)
   (hm:PySem.W.mroIn K C (.type "object") = some true):TyOf K H (.ref a) (.ref C)
theorem isinst_ok {x:V} {u t:Value} (I:Inv X pins σ H s) (rx:RelV x u) (ty:TyOf X.K H x t) (e:PySem.W.kitOne X.K t c = some b) (h:∀ tk,Q (.bool b) { s with toks:=tk }) :
  wpAny (model X.prog X.w) A (call (.builtin "isinstance") [u, c]) Q E s:=by
 cases ty with
 | non => cases (show u = Value.none from rx); exact PySem.W.kia_one PySem.W.kitx_none I.kIn True.intro e (fun z => nomatch z) h
 | bl y => cases (show u = Value.bool y from rx); exact PySem.W.kia_one PySem.W.kitx_bool I.kIn True.intro e (fun z => nomatch z) h
 | int i => obtain ⟨t,q⟩:=(show ∃ t,u = Value.int i t from rx); cases q; exact PySem.W.kia_one PySem.W.kitx_int I.kIn True.intro e (fun z => nomatch z) h
 | str y => obtain ⟨t,q⟩:=(show ∃ t,u = Value.str y t from rx); cases q; exact PySem.W.kia_one PySem.W.kitx_str I.kIn True.intro e (fun z => nomatch z) h
 | flt y => obtain ⟨t,q⟩:=(show ∃ t,u = Value.float y t from rx); cases q; exact PySem.W.kia_one PySem.W.kitx_float I.kIn True.intro e (fun z => nomatch z) h
 | @lst a xs ea =>
  cases (show u = Value.ref a from rx)
  obtain ⟨_,_,n,_,h1⟩:=(show ObjOk X.prog X.w H s.heap a (.lst xs) from I.hok a _ ea)
  exact PySem.W.kia_one PySem.W.kitx_list I.kIn ⟨_,h1,rfl⟩ e (fun z => nomatch z) h
 | @frz a ob xs ea =>
  cases (show u = Value.ref a from rx)
  obtain ⟨_,_,_,n,_,h1⟩:=(show ObjOk X.prog X.w H s.heap a (.frz ob (.lst xs)) from I.hok a _ ea)
  exact PySem.W.kia_one PySem.W.kitx_list I.kIn ⟨_,h1,rfl⟩ e (fun z => nomatch z) h
 | @tup a xs ea =>
  cases (show u = Value.ref a from rx)
  obtain ⟨_,_,_,p⟩:=(show ObjOk X.prog X.w H s.heap a (.tup xs) from I.hok a _ ea)
  obtain ⟨o,h1,h2,_⟩:=p
  exact PySem.W.kia_one PySem.W.kitx_tuple I.kIn ⟨o,h1,h2⟩ e (fun z => nomatch z) h
 | @dK a kvs ea =>
  cases (show u = Value.ref a from rx)
  obtain ⟨_,_,vs,_,p⟩:=(show ObjOk X.prog X.w H s.heap a (.dK kvs) from I.hok a _ ea)
  obtain ⟨o,es,ep,h1,h2,_⟩:=p
  exact PySem.W.kia_one PySem.W.kitx_dict I.kIn ⟨o,h1,h2.1⟩ e (fun z => nomatch z) h
 | @dT a kvs ea =>
  cases (show u = Value.ref a from rx)
  obtain ⟨_,_,xs,_,o,es,ep,h1,h2,_⟩:=(show ObjOk X.prog X.w H s.heap a (.dT kvs) from I.hok a _ ea)
  exact PySem.W.kia_one PySem.W.kitx_dict I.kIn ⟨o,h1,h2.1⟩ e (fun z => nomatch z) h
 | @ins a C dx fs ea cl ha hn htk hm =>
  cases (show u = Value.ref a from rx)
  obtain ⟨mA,O,_⟩:=ins_get I.hok ea
  obtain ⟨od,J,_⟩:=O.look
  exact PySem.W.kia_one (PySem.W.kitx_own (cl.get _) cl.hd ha hn htk hm) I.kIn J e (fun z => nomatch z) h
end
end L2
namespace L2
open PySem PySem.Spec PyProof.Rows
structure Room (k:Nat) (A:Around):Prop where
 hd:A.handled = none
 dp:A.depth + 3 * k + 5 < recursionLimit
 un:A.units + 16 * k + 200 < cLine
theorem Room.mono {j k:Nat} {A:Around} (r:Room k A) (h:j ≤ k):Room j A:=⟨r.hd,by have:=r.dp; trivial,by have:=r.un; trivial⟩
theorem Room.deeper {k:Nat} {A:Around} (r:Room (k + 1) A) (env:Env):Room k (A.deeper env) :=
 ⟨r.hd,by have:=r.dp; show A.depth + 1 + 3 * k + 5 < _; trivial,by have:=r.un; show A.units + 3 + 16 * k + 200 < _; trivial⟩
theorem Room.depth {k:Nat} {A:Around} (r:Room k A):A.depth < recursionLimit:=by have:=r.dp; trivial
theorem Room.units {k:Nat} {A:Around} (r:Room k A):A.units + 64 < cLine:=by have:=r.un; trivial
noncomputable def tNil:TA:=fun _ H Q => Q [] H
noncomputable def tCons (ta:TE) (tr:TA):TA:=fun σ H Q => ta σ H fun x H1 => tr σ H1 fun xs H2 => Q (x :: xs) H2
section
variable {X:Cx} {e:Expr} {es:List Expr} {te:TE} {t:TA} {pos:Pos}
theorem pa_nil:PA X [] tNil:=fun _ _ _ _ H Q I h => Calls.spliced_nil ⟨[],H,I,.nil,h⟩
theorem pa_cons (ha:PE X e te) (hr:PA X es t) (hs:starEach (e :: es) X.env = (false,eval e X.env) :: starEach es X.env:=by rfl):PA X (e :: es) (tCons te t):=by
 intro pos pins s σ H Q I h
 rw [hs]
 show wpAny _ _ (spliced ((false,eval e X.env) :: backTo pos (starEach es X.env))) _ _ s
 refine Calls.spliced_cons (thn (ha pins s σ H _ I h) fun u s1 ⟨x,H1,I1,r1,q1⟩ => ?_)
 exact thn (hr pos pins s1 σ H1 _ I1 q1) fun us s2 ⟨xs,H2,I2,r2,q2⟩ => ⟨x :: xs,H2,I2,.cons r1 r2,q2⟩
noncomputable def tTup (t:TA):TE:=fun σ H Q => t σ H fun xs H1 => xs.length ≤ sizeLine∧∀ p,H1 p = none -> Q (.ref p) (upd H1 p (.tup xs))
noncomputable def tLst (t:TA):TE:=fun σ H Q => t σ H fun xs H1 => xs.length ≤ sizeLine∧∀ p,H1 p = none -> Q (.ref p) (upd H1 p (.lst xs))
theorem pe_tup {x1} (h:PA X es t):PE X (.Tuple es x1 pos) (tTup t):=by
 intro pins s σ H Q I hq
 refine wpAny_Tuple_spliced (thn (h pos pins s σ H _ I hq) fun us s1 ⟨xs,H1,I1,r,z,q⟩ => ⟨by rw [← r.length]; exact z,?_⟩)
 have hf:H1 s1.heap.objs.size = none:=I1.hok.fresh (Nat.le_refl _)
 refine ⟨.ref s1.heap.objs.size,upd H1 s1.heap.objs.size (.tup xs),I1.laid (t':=s1.toks) (fun b u e => Heap.get?_push_of_some _ e) (Nat.le_refl _) ?_,rfl,q _ hf⟩
 exact ⟨z,us,r,⟨_,Heap.get?_push_size _ rfl,rfl,_,rfl⟩⟩
theorem pe_lst (h:PA X es t):PE X (.List es pos) (tLst t):=by
 intro pins s σ H Q I hq
 refine wpAny_List_spliced (thn (h pos pins s σ H _ I hq) fun us s1 ⟨xs,H1,I1,r,z,q⟩ => ⟨by rw [← r.length]; exact z,?_⟩)
 have hf:H1 s1.heap.objs.size = none:=I1.hok.fresh (Nat.le_refl _)
 refine ⟨.ref s1.heap.objs.size,upd H1 s1.heap.objs.size (.lst xs),I1.laid (t':=s1.toks) (fun b u e => Heap.get?_push_of_some _ e) (Nat.le_refl _) ?_,rfl,q _ hf⟩
 exact ⟨z,us,0,r,Heap.get?_push_size _ rfl⟩
end
noncomputable abbrev Sp:=List V -> Hp -> VK -> XK -> Prop
noncomputable abbrev CXT:=List Env -> Hp -> Shared -> XK -> Value -> Shared -> Prop
structure Env0 (P:Program) (w:World) (K:PySem.W.Frag) (mg:Str -> Option Value) (base:Heap) (A:Around) (outer:List Env) (s:Shared) (H:Hp):Prop where
 frames:A.frames = some outer
 mod:Mod K mg base
 bs:∀ b o,base.get? b = some o -> s.heap.get? b = some o∧H b = none
 bsz:base.objs.size ≤ s.heap.objs.size
 funs:s.heap.FunFrames base outer
 frf:∀ b ∈ frs outer,H b = none
 hok:HOk P w H s.heap
 bare:AllBare s.gens
noncomputable def CE (outer:List Env) (P:Program) (w:World) (H:Hp) (s:Shared) (Q:VK) (u:Value) (s':Shared):Prop :=
 ∃ v H',s'.os = s.os∧AllBare s'.gens∧Un (frs outer) [] H H' s.heap s'.heap∧HOk P w H' s'.heap∧RelV v u∧Q v H'
noncomputable def CR (CX:CXT) (outer:List Env) (P:Program) (w:World) (H:Hp) (s:Shared) (Q:VK) (E:XK) (r:Result) (s':Shared):Prop :=
 match r with
 | .ok (.ret u) => CE outer P w H s Q u s'
 | .ok _ => False
 | .error e => CX outer H s E e s'
structure FnOk (P:Program) (w:World) (K:PySem.W.Frag) (mg:Str -> Option Value) (base:Heap) (CX:CXT) (k:Nat) (f:Addr) (fd:FuncData) (ps:List Str) (sp:Sp):Prop where
 len:∀ vs H Q E,sp vs H Q E -> vs.length = ps.length
 run:∀ (A:Around) (outer:List Env) (s:Shared) (H:Hp) (args:Args) (us:List Value) (vs:List V) (Q:VK) (E:XK),Room k A -> Env0 P w K mg base A outer s H -> BindsTo s fd args (ps.zip us) -> Vals vs us -> sp vs H Q E →
  codeAny (model P w) A (.call (.ref f) args) (CR CX outer P w H s Q E) s
section
variable {X:Cx} {pins:List (Addr × Obj)} {σ:St} {H:Hp} {s s':Shared}
theorem Inv.env0 (I:Inv X pins σ H s):Env0 X.prog X.w X.K X.mg X.base X.A X.stack s H :=
 ⟨I.ok.frames,I.ok.mod,I.bs,Nat.le_trans I.ok.bsz I.sz,I.stack,I.stkFree,I.hok,I.bare⟩
theorem Inv.after {Q:VK} {u:Value} (I:Inv X pins σ H s) (h:CE X.stack X.prog X.w H s Q u s'):EP X pins σ Q u s':=by
 obtain ⟨v,H',os,bare,un,hok,r,q⟩:=h
 obtain ⟨hh,g,d,t,os'⟩:=s'
 obtain rfl:os' = s.os:=os
 exact ⟨v,H',I.call (h':=hh) (g':=g) (d':=d) (t':=t) (ch:=[]) un hok bare (fun b z => absurd z (by simp)),r,q⟩
end
noncomputable def tCall (sp:Sp) (dvs:List V) (E:XK) (t:TA):TE:=fun σ H Q => t σ H fun vs H1 => sp (vs ++ dvs) H1 Q E
noncomputable def Binds (K:PySem.W.Frag) (fd:FuncData) (ps:List Str) (ds:List Value):Prop :=
 ∀ (s:Shared) (us:List Value),K.In s.heap -> (us ++ ds).length = ps.length -> BindsTo s fd ⟨us,[]⟩ (ps.zip (us ++ ds))
theorem Binds.all {K:PySem.W.Frag} {fd:FuncData} {ps:List Str} (h:∀ us:List Value,us.length = ps.length -> bindArgs fd ⟨us,[]⟩ = pure (ps.zip us)):Binds K fd ps []:=fun s us _ hl => by
 rw [List.append_nil] at hl ⊢
 exact .of_eq (h us hl)
noncomputable def Passes (CX:CXT) (X:Cx) (E:XK):Prop:=∀ (pins:List (Addr × Obj)) (σ:St) (H:Hp) (s:Shared) (e:Value) (s':Shared),Inv X pins σ H s -> CX X.stack H s E e s' -> X.xe e s'
section
variable {X:Cx} {CX:CXT} {k:Nat} {f C:Addr} {fd:FuncData} {ps:List Str} {sp:Sp} {dvs:List V} {ds:List Value} {E:XK} {x m:Str} {p pos apos:Pos} {e o:Expr} {es:List Expr} {ta:TE} {t:TA}
theorem run_fn {pins:List (Addr × Obj)} {σ:St} {H:Hp} {s:Shared} {Q:VK} {us:List Value} {vs:List V} (F:FnOk X.prog X.w X.K X.mg X.base CX k f fd ps sp) (hr:Room k X.A) (hb:Binds X.K fd ps ds) (hd:Vals dvs ds) (hx:Passes CX X E)
  (I:Inv X pins σ H s) (r:Vals vs us) (h:sp (vs ++ dvs) H Q E):wpAny (model X.prog X.w) X.A (call (.ref f) us) (EP X pins σ Q) X.xe s:=by
 have r2:Vals (vs ++ dvs) (us ++ ds):=r.append hd
 have hl:(us ++ ds).length = ps.length:=by rw [← r2.length]; exact F.len _ _ _ _ h
 refine wpAny_call (codeAny_mono (F.run X.A X.stack s H ⟨us,[]⟩ (us ++ ds) (vs ++ dvs) Q E hr I.env0 (hb s us I.kIn hl) r2 h) fun r s' hq => ?_)
 cases r with
 | error e => exact hx pins σ H s e s' I hq
 | ok fl =>
  cases fl with
  | ret u => exact I.after hq
  | next => exact False.elim hq
  | brk => exact False.elim hq
  | cont => exact False.elim hq
theorem pe_call (F:FnOk X.prog X.w X.K X.mg X.base CX k f fd ps sp) (hr:Room k X.A) (hg:Gl X x) (hm:X.mg x = some (.ref f)) (hk:PySem.W.keepIn X.K (.ref f) = true) (hb:Binds X.K fd ps ds) (hd:Vals dvs ds) (hx:Passes CX X E)
  (ha:PA X (e :: es) t) (hdb:(x == ("__debug__":Str)) = false:=by decide) (he:starEach (e :: es) X.env = (false, eval e X.env) :: starEach es X.env:=by rfl) (hpl:(backTo pos (starEach es X.env)).any (·.1) = false:=by rfl) :
  PE X (.Call (.Name x p) (e :: es) [] pos) (tCall sp dvs E t):=by
 intro pins s σ H Q I h
 refine wpAny_Call_Name_kw (ld_glob I hg hm ?_ hdb)
 refine PySem.W.callWith_K (h₀:=X.base) I.ok.mod.kin hk (thn (ha pos pins s σ H _ I h) fun us s1 ⟨vs,H1,I1,r,q⟩ => ⟨I1.kIn,?_⟩) he hpl
 exact run_fn F hr hb hd hx I1 r q
structure Mk (K:PySem.W.Frag) (C f:Addr):Prop where
 makes:PySem.W.makesIn K C = true
 init:PySem.W.findIn K (.ref C) "__init__" = some (some (.ref f))
 fn:PySem.W.isFn K (.ref f) = true
 kp:PySem.W.keepIn K (.ref C) = true
end
section
variable {X:Cx} {CX:CXT} {k:Nat} {f C:Addr} {fd:FuncData} {ps ks:List Str} {sp:Sp} {E:XK} {x m:Str} {p pos apos kpos:Pos} {e o:Expr} {es:List Expr} {kws:List Keyword} {te ta:TE} {t tk:TA} {nm:Option Str}
structure KBinds (K:PySem.W.Frag) (fd:FuncData) (ps ks:List Str) (g:List Value -> List Value -> List Value) (gV:List V -> List V -> List V):Prop where
 to:∀ (s:Shared) (us ws:List Value),K.In s.heap -> (g us ws).length = ps.length -> BindsTo s fd ⟨us,ks.zip ws⟩ (ps.zip (g us ws))
 rel:∀ {vs:List V} {us:List Value} {zs:List V} {ws:List Value},Vals vs us -> Vals zs ws -> Vals (gV vs zs) (g us ws)
variable {g:List Value -> List Value -> List Value} {gV:List V -> List V -> List V}
end
structure FnScope (N P:List Str) (sc:Scope):Prop where
 kind:sc.kind = .function
 co:sc.isCoroutine = false
 gen:sc.isGenerator = false
 nd:N.Nodup
 pre:N.take P.length = P
 par:∀ x ∈ P,sc.names.lookup x = some .local ∨ sc.names.lookup x = some .cell
 nofree:∀ y ∈ sc.names,y.2 ≠ .free
theorem bindL_out {kindOf:Str -> Option NameKind} {x:Str}:∀ {binds:List (Str × Value)} {m:Str -> Option Value},(∀ v,(x,v) ∉ binds) -> bindL kindOf binds m x = m x
 | [],_,_ => rfl
 | (n,v) :: r,m,h => by
  unfold bindL
  rw [bindL_out fun w hw => h w (List.mem_cons_of_mem _ hw)]
  split
  ·have:x ≠ n:=by rintro rfl; exact h v List.mem_cons_self
   simp [this]
  ·rfl
theorem bindC_out {kindOf:Str -> Option NameKind} {x:Str}:∀ {binds:List (Str × Value)} {m:Str -> Option Value},(∀ v,(x,v) ∉ binds) -> bindC kindOf binds m x = m x
 | [],_,_ => rfl
 | (n,v) :: r,m,h => by
  unfold bindC
  rw [bindC_out fun w hw => h w (List.mem_cons_of_mem _ hw)]
  split
  ·rfl
  ·have:x ≠ n:=by rintro rfl; exact h v List.mem_cons_self
   simp [this]
theorem bindL_get {kindOf:Str -> Option NameKind} {x:Str} {v:Value}:∀ {P:List Str} {vs:List Value} {i:Nat} {m:Str -> Option Value},P.Nodup -> P[i]? = some x -> vs[i]? = some v -> kindOf x = some .local →
  bindL kindOf (P.zip vs) m x = some v
 | [],_,_,_,_,h,_,_ => by simp at h
 | _ :: _,[],_,_,_,_,h,_ => by simp at h
 | p :: P,w :: vs,0,m,nd,h1,h2,hk => by
  simp at h1 h2; subst h1; subst h2
  show bindL kindOf ((p,w) :: P.zip vs) m p = _
  unfold bindL
  rw [bindL_out fun v hv => (List.nodup_cons.mp nd).1 (List.of_mem_zip hv).1,if_pos hk]
  simp
 | p :: P,w :: vs,i + 1,m,nd,h1,h2,hk => by
  show bindL kindOf ((p,w) :: P.zip vs) m x = _
  unfold bindL
  exact bindL_get (i:=i) (List.nodup_cons.mp nd).2 (by simpa using h1) (by simpa using h2) hk
theorem bindC_get {kindOf:Str -> Option NameKind} {x:Str} {v:Value}:∀ {P:List Str} {vs:List Value} {i:Nat} {m:Str -> Option Value},P.Nodup -> P[i]? = some x -> vs[i]? = some v -> kindOf x ≠ some .local →
  bindC kindOf (P.zip vs) m x = some v
 | [],_,_,_,_,h,_,_ => by simp at h
 | _ :: _,[],_,_,_,_,h,_ => by simp at h
 | p :: P,w :: vs,0,m,nd,h1,h2,hk => by
  simp at h1 h2; subst h1; subst h2
  show bindC kindOf ((p,w) :: P.zip vs) m p = _
  unfold bindC
  rw [bindC_out fun v hv => (List.nodup_cons.mp nd).1 (List.of_mem_zip hv).1,if_neg hk]
  simp
 | p :: P,w :: vs,i + 1,m,nd,h1,h2,hk => by
  show bindC kindOf ((p,w) :: P.zip vs) m x = _
  unfold bindC
  exact bindC_get (i:=i) (List.nodup_cons.mp nd).2 (by simpa using h1) (by simpa using h2) hk
noncomputable def start (N:List Str) (vs:List V):St:=vs.map some ++ List.replicate (N.length - vs.length) none
noncomputable def cxOf (CX:CXT) (P:Program) (w:World) (K:PySem.W.Frag) (mg:Str -> Option Value) (base:Heap) (N:List Str) (qual:Str) (scope:Scope) (f:Addr) (cd:Value) (A:Around) (outer:List Env) (s:Shared) (H:Hp) (E:XK):Cx where
 prog:=P
 w:=w
 K:=K
 mg:=mg
 base:=base
 A:=A.deeper (envOfC qual scope s.heap.objs.size f cd)
 N:=N
 s₀:=s
 H₀:=H
 env:=envOfC qual scope s.heap.objs.size f cd
 outer:=outer
 stack:=envOfC qual scope s.heap.objs.size f cd :: outer
 ex:=[]
 calm:=true
 fn:=fun _ => true
 pn:=[]
 xe:=fun e s' => wpAny (model P w) (A.deeper (envOfC qual scope s.heap.objs.size f cd)) (leaving (envOfC qual scope s.heap.objs.size f cd) e) (fun _ s'' => CX outer H s E e s'') (fun e' s'' => CX outer H s E e' s'') s'
theorem cell_has {sc:Scope} {n:Nat} {x:Str} (h:sc.names.lookup x = some .cell):∃ c,(cellsFrom n sc.names []).lookup x = some c:=by
 have q:=PySem.W.cellsFrom_some sc.names n [] (.inl h)
 exact Option.isSome_iff_exists.mp q
theorem inv_start {CX:CXT} {P:Program} {w:World} {K:PySem.W.Frag} {mg:Str -> Option Value} {base:Heap} {N ps:List Str} {qual:Str} {scope:Scope} {f:Addr} {cd:Value} {A:Around} {outer:List Env} {s s1:Shared} {H:Hp} {E:XK} {us:List Value} {vs:List V}
  (S:FnScope N ps scope) (hd:A.handled = none) (e0:Env0 P w K mg base A outer s H) (hl:vs.length = ps.length) (r:Vals vs us)
  (x:InCallC s s.heap.objs.size (bindL (envOfC qual scope s.heap.objs.size f cd).kindOf (ps.zip us) fun _ => none) (cellsFrom (s.heap.objs.size + 1) scope.names []) (bindC (envOfC qual scope s.heap.objs.size f cd).kindOf (ps.zip us) fun _ => none) s1) :
  Inv (cxOf CX P w K mg base N qual scope f cd A outer s H E) [] (start N vs) H s1:=by
 have hpl:ps.length ≤ N.length:=by have:=congrArg List.length S.pre; rw [List.length_take] at this; trivial
 obtain ⟨h1,tk,rfl,hk⟩:=x.done
 have noA:∀ b:Addr,b ∉ (cxOf CX P w K mg base N qual scope f cd A outer s H E).ex:=fun b z => absurd (show b ∈ ([]:List Addr) from z) (by simp)
 refine ⟨⟨e0.mod,S.kind,rfl,rfl,Nat.le_refl _,fun y z c h1 h2 => ?_,fun y hy => ?_,fun y c _ h => ?_,fun _ => hd,Around.frames_deeper e0.frames,.inr ⟨rfl,rfl⟩,fun b z => absurd z (noA b),e0.bs,e0.bsz,fun b _ _ => noA b,fun b z => absurd z (noA b),e0.funs,e0.frf⟩,
  rfl,e0.bare,Un.kept hk,⟨_,x.toInCall.ns,fun i y v h1 h2 h3 => ?_⟩,fun y c h => ⟨_,x.cell y c h⟩,e0.hok.fresh (Nat.le_refl _),fun y c h => ?_,fun p hp => absurd (show p ∈ ([]:List (Addr × Obj)) from hp) (by simp),e0.hok.kept hk,?_⟩
 ·exact name_of_addr x.apart (PySem.mem_of_lookup h1) (PySem.mem_of_lookup h2)
 ·have hy:scope.names.lookup y = some .cell ∨ scope.names.lookup y = some .free:=hy
  rcases hy with hy | hy
  ·exact cell_has hy
  ·exact absurd rfl (S.nofree _ (PySem.mem_of_lookup hy))
 ·exact Nat.le_of_lt (x.above y c (PySem.mem_of_lookup h))
 ·have hi:i < vs.length:=by
   unfold start at h2
   by_cases hi:i < vs.length
   ·exact hi
   ·rw [List.getElem?_append_right (by simpa using hi)] at h2
    rw [List.getElem?_replicate] at h2
    split at h2 <;> cases h2
  have ha:vs[i]? = some v:=by
   unfold start at h2
   rw [List.getElem?_append_left (by simpa using hi),List.getElem?_map] at h2
   cases e:vs[i]? with
   | none => rw [e] at h2; cases h2
   | some a => rw [e] at h2; cases h2; rfl
  obtain ⟨u,hu,rv⟩:=r.get ha
  have hp:ps[i]? = some y:=by
   rw [← S.pre,List.getElem?_take_of_lt (by trivial)]; exact h1
  have ndP:ps.Nodup:=by rw [← S.pre]; exact S.nd.sublist (List.take_sublist _ _)
  refine ⟨u,rv,?_⟩
  rcases S.par y (List.mem_of_getElem? hp) with k | k
  ·exact .inl ⟨k,bindL_get ndP hp hu k⟩
  ·obtain ⟨c,e⟩:=cell_has (n:=s.heap.objs.size + 1) k
   refine .inr ⟨.inl k,c,e,?_⟩
   have q:=x.cell y c e
   rw [bindC_get ndP hp hu (by show scope.names.lookup y ≠ _; rw [k]; decide)] at q
   exact q
 ·exact e0.hok.fresh (Nat.le_of_lt (x.above y c (PySem.mem_of_lookup h)))
 ·unfold start
  show _ = N.length
  rw [List.length_append,List.length_map,List.length_replicate]
  trivial
theorem fn_of {CX:CXT} {P:Program} {w:World} {K:PySem.W.Frag} {mg:Str -> Option Value} {base:Heap} {k:Nat} {f:Addr} {name qual:Str} {params:Arguments} {body:List Stmt} {scope:Scope} {dV kV doc pm cdv ct oc:Value} {an od:Option Addr}
  {osl:Array (Option Value)} {N ps:List Str} {sp:Sp} (lk:K.lookup f = some ⟨oc,od,.func (PySem.W.fnOf name qual params body scope dV kV doc pm an cdv ct),osl⟩) (hcd:PySem.W.codeIn K cdv qual = true) (S:FnScope N ps scope)
  (len:∀ vs H Q E,sp vs H Q E -> vs.length = ps.length)
  (hbody:∀ (A:Around) (outer:List Env) (s:Shared) (H:Hp) (vs:List V) (Q:VK) (E:XK),Room k (A.deeper (envOfC qual scope s.heap.objs.size f cdv)) -> sp vs H Q E →
   ∃ t,PSs (cxOf CX P w K mg base N qual scope f cdv A outer s H E) body t∧t { nx:=fun _ H' => Q .non H',rt:=Q } (start N vs) H) :
  FnOk P w K mg base CX (k + 1) f (PySem.W.fnOf name qual params body scope dV kV doc pm an cdv ct) ps sp:=by
 refine ⟨len,fun A outer s H args us vs Q E hr e0 hb r hsp => ?_⟩
 have hl:=len _ _ _ _ hsp
 have KX:K.In s.heap:=e0.mod.kin.keeps fun b o e => (e0.bs b o e).1
 have lim:s.heap.NoLimit:=e0.mod.nolimit.keeps fun b o e => (e0.bs b o e).1
 have hkind:∀ y ∈ ps.zip us,scope.names.lookup y.1 = some .local ∨ (scope.names.lookup y.1 = some .cell∧((cellsFrom (s.heap.objs.size + 1) scope.names []).lookup y.1).isSome = true):=fun ⟨n,v⟩ hy => by
  rcases S.par n (List.of_mem_zip hy).1 with q | q
  ·exact .inl q
  ·exact .inr ⟨q,PySem.W.cellsFrom_some _ _ _ (.inl q)⟩
 refine codeAny_call_function hr.depth (KX _ _ lk) rfl S.co S.gen rfl (PySem.W.codeRec_of KX hcd) (hb _ _ _ _ ?_)
 refine wpAny_newFunctionEnv_cells S.kind hkind fun env he s1 x => ?_
 subst he
 refine ⟨lim.keeps x.toInCall.keep,codeAny_func ?_⟩
 obtain ⟨t,ht,hq⟩:=hbody A outer s H vs Q E (hr.deeper _) hsp
 have I:Inv (cxOf CX P w K mg base N qual scope f cdv A outer s H E) [] (start N vs) H s1:=inv_start S hr.hd e0 hl r x
 refine wpAny_mono (ht [] s1 (start N vs) H _ I hq) (fun fl s' hs => ?_) fun e s' hs => hs
 have fin:∀ {σ':St} {H':Hp} {v:V} {u:Value},Inv (cxOf CX P w K mg base N qual scope f cdv A outer s H E) [] σ' H' s' -> RelV v u -> Q v H' -> CE outer P w H s Q u s' :=
  fun {σ' H' v u} J rv q => ⟨v,H',J.os,J.bare,J.base,J.hok,rv,q⟩
 cases fl with
 | ret u =>
  obtain ⟨v,σ',H',J,rv,q⟩:=hs
  exact fin J rv q
 | next =>
  obtain ⟨σ',H',J,q⟩:=hs
  exact fin (v:=V.non) (u:=Value.none) J rfl q
 | brk =>
  obtain ⟨_,_,_,q⟩:=hs
  exact False.elim q
 | cont =>
  obtain ⟨_,_,_,q⟩:=hs
  exact False.elim q
end L2
namespace L2
open PySem PySem.Spec PyProof.Rows
section
variable {X:Cx} {x:Str} {p pos:Pos} {e:Expr} {es:List Expr} {t:TA} {id T:String} {r:List V -> Hp -> VK -> Prop}
noncomputable def tCB (r:List V -> Hp -> VK -> Prop) (t:TA):TE:=fun σ H Q => t σ H fun vs H1 => r vs H1 Q
theorem pe_callB (hc:CallR X (.builtin id) r) (hg:Gl X x) (hm:X.mg x = none) (hv:bootBuiltins x = some (.builtin id)) (ha:PA X (e :: es) t) (hn:x ≠ "__name__":=by decide) (hdb:(x == ("__debug__":Str)) = false:=by decide)
  (he:starEach (e :: es) X.env = (false,eval e X.env) :: starEach es X.env:=by rfl) (hpl:(backTo pos (starEach es X.env)).any (·.1) = false:=by rfl):PE X (.Call (.Name x p) (e :: es) [] pos) (tCB r t):=by
 intro pins s σ H Q I h
 refine wpAny_Call_Name_kw (ld_blt I hg hm hv ?_ hn hdb)
 exact PyProof.Rows.callWith_builtin1 (thn (ha pos pins s σ H _ I h) fun us s1 ⟨vs,H1,I1,r1,q1⟩ => hc pins s1 σ H1 vs us Q I1 r1 q1) he hpl
theorem pe_callTy (hc:CallR X (.type T) r) (hg:Gl X x) (hm:X.mg x = none) (hv:bootBuiltins x = some (.type T)) (ha:PA X (e :: es) t) (hn:x ≠ "__name__":=by decide) (hdb:(x == ("__debug__":Str)) = false:=by decide)
  (he:starEach (e :: es) X.env = (false,eval e X.env) :: starEach es X.env:=by rfl) (hpl:(backTo pos (starEach es X.env)).any (·.1) = false:=by rfl):PE X (.Call (.Name x p) (e :: es) [] pos) (tCB r t):=by
 intro pins s σ H Q I h
 refine wpAny_Call_Name_kw (ld_blt I hg hm hv ?_ hn hdb)
 exact PyProof.Rows.callWith_type1 (thn (ha pos pins s σ H _ I h) fun us s1 ⟨vs,H1,I1,r1,q1⟩ => hc pins s1 σ H1 vs us Q I1 r1 q1) he hpl
end
end L2
namespace HT
open PySem PyProof.Rows
section
open PySem.SeqAt
open PySem.AutoSeq1 (wpAny_loadPart')
open PySem.MeetsSeq PySem.MeetsSeq2 PySem.MeetsSeq3
end
section
variable {prog:Program} {w:World} {A:Around} {E:Value -> Shared -> Prop} {s:Shared}
noncomputable def sIx (n d:Nat):Option Int -> Nat
 | none => d
 | some v => if v < 0 then (v + (n:Int)).toNat else min v.toNat n
theorem sIx_none (n d:Nat):sIx n d none = d:=rfl
theorem sIx_nat (n d k:Nat):sIx n d (some (k:Int)) = min k n:=by
 show (if (k:Int) < 0 then ((k:Int) + (n:Int)).toNat else min (k:Int).toNat n) = min k n
 rw [if_neg (by trivial),Int.toNat_natCast]
end
end HT
namespace L2
open PySem PySem.Spec PyProof.Rows
noncomputable abbrev TO:=St -> Hp -> (Option Int -> Hp -> Prop) -> Prop
noncomputable def PO (X:Cx) (e:Option Expr) (t:TO):Prop :=
 ∀ (pins:List (Addr × Obj)) (s:Shared) (σ:St) (H:Hp) (Q:Option Int -> Hp -> Prop),Inv X pins σ H s -> t σ H Q →
  wpAny (model X.prog X.w) X.A (evalPart e X.env) (fun u s' => ∃ o H',Inv X pins σ H' s'∧IsPart u o∧Q o H') X.xe s
noncomputable def tNoPart:TO:=fun _ H Q => Q none H
noncomputable def tPart (t:TE):TO:=fun σ H Q => t σ H fun x H1 => ∃ i,x = .int i∧Q (some i) H1
section
variable {X:Cx} {e:Expr} {te:TE} {lo hi:Option Expr} {tl th:TO} {pos p2:Pos}
theorem po_none:PO X none tNoPart:=by
 intro pins s σ H Q I h
 rw [evalPart_none]
 exact wpAny_pure ⟨none,H,I,.none,h⟩
theorem po_some (h:PE X e te):PO X (some e) (tPart te):=by
 intro pins s σ H Q I hw
 rw [evalPart_some]
 refine thn (h pins s σ H _ I hw) fun u s1 ⟨x,H1,I1,r1,q1⟩ => ?_
 obtain ⟨i,rfl,q⟩:=q1
 obtain ⟨t,rfl⟩:=r1
 exact ⟨some i,H1,I1,.int i t,q⟩
noncomputable def SlR (X:Cx) (r:V -> Option Int -> Option Int -> Hp -> VK -> Prop):Prop :=
 ∀ (pins:List (Addr × Obj)) (s:Shared) (σ:St) (H:Hp) (x:V) (v vl vu:Value) (lo hi:Option Int) (sl:Addr) (Q:VK),Inv X pins σ H s -> RelV x v -> s.heap.IsSliceOf sl vl vu .none -> IsPart vl lo -> IsPart vu hi -> r x lo hi H Q →
  ∃ T id, typeLookup (.type T) "__getitem__" = pure (some (.builtin id))∧s.TypeIs v T∧wpAny (model X.prog X.w) X.A (getItem v (.ref sl)) (EP X pins σ Q) X.xe s
noncomputable def tSl (r:V -> Option Int -> Option Int -> Hp -> VK -> Prop) (te:TE) (tl th:TO):TE:=fun σ H Q => te σ H fun x H1 => tl σ H1 fun l H2 => th σ H2 fun u H3 => r x l u H3 Q
theorem pe_slice {r:V -> Option Int -> Option Int -> Hp -> VK -> Prop} (hr:SlR X r) (he:PE X e te) (hl:PO X lo tl) (hu:PO X hi th):PE X (.Subscript e (.Slice lo hi none p2) pos) (tSl r te tl th):=by
 intro pins s σ H Q I h
 refine Subscript_ (thn (he pins s σ H _ I h) fun v s1 ⟨x,H1,I1,r1,q1⟩ => ?_)
 refine wpAny_Slice (thn (hl pins s1 σ H1 _ I1 q1) fun vl s2 ⟨l,H2,I2,pl,q2⟩ => thn (hu pins s2 σ H2 _ I2 q2) fun vu s3 ⟨u,H3,I3,pu,q3⟩ => ?_)
 rw [evalPart_none]
 refine wpAny_pure ?_
 have I4:Inv X pins σ H3 { s3 with heap:=s3.heap.push { cls:=.type "slice", data:=.fields #[vl, vu, .none] } }:=I3.kept (t':=s3.toks) fun b ob q => Heap.get?_push_of_some _ q
 obtain ⟨T, id, hT, ht, hg⟩:=hr pins { s3 with heap:=s3.heap.push { cls:=.type "slice", data:=.fields #[vl, vu, .none] } } σ H3 x v vl vu l u s3.heap.objs.size Q I4 r1 (Heap.IsSliceOf.new ..) pl pu q3
 show wpAny (model X.prog X.w) X.A (subscriptTail e (.Slice lo hi none p2) v (.ref s3.heap.objs.size)) (EP X pins σ Q) X.xe { s3 with heap:=s3.heap.push { cls:=.type "slice", data:=.fields #[vl, vu, .none] } }
 exact tail_any (ops:=[.ref s3.heap.objs.size,v]) ht hT hg (by with_unfolding_all rfl)
noncomputable def cutV (xs:List V) (lo hi:Option Int):List V:=(xs.drop (HT.sIx xs.length 0 lo)).take (HT.sIx xs.length xs.length hi - HT.sIx xs.length 0 lo)
theorem cutV_length (xs:List V) (lo hi:Option Int):(cutV xs lo hi).length ≤ xs.length:=by
 unfold cutV
 rw [List.length_take,List.length_drop]
 trivial
end
end L2
namespace L2
open PySem PySem.Spec PyProof.Rows
noncomputable def ixN (n:Nat) (i:Int):Option Nat:=if 0 ≤ i then (if i < n then some i.toNat else none) else if -(n:Int) ≤ i then some (i + n).toNat else none
noncomputable def atI {α:Type} (xs:List α) (i:Int):Option α:=(ixN xs.length i).bind fun j => xs[j]?
theorem ixN_seq {n:Nat} {i:Int} {j:Nat} (h:ixN n i = some j):seqIndex? i n = some j∧j < n∧-(n:Int) ≤ i∧i < n:=by
 unfold ixN at h
 by_cases h0:0 ≤ i
 ·rw [if_pos h0] at h
  by_cases h1:i < n
  ·rw [if_pos h1] at h
   have e:i.toNat = j:=Option.some.inj h
   exact ⟨by rw [seqIndex_of h0 h1,e],by trivial,by trivial,h1⟩
  ·rw [if_neg h1] at h; cases h
 ·rw [if_neg h0] at h
  by_cases h1:-(n:Int) ≤ i
  ·rw [if_pos h1] at h
   have e:(i + n).toNat = j:=Option.some.inj h
   exact ⟨by rw [seqIndex_neg (by trivial) h1,e],by trivial,h1,by trivial⟩
  ·rw [if_neg h1] at h; cases h
theorem atI_get {α:Type} {xs:List α} {i:Int} {v:α} (h:atI xs i = some v):∃ j,seqIndex? i xs.length = some j∧xs[j]? = some v∧j < xs.length∧-(xs.length:Int) ≤ i∧i < xs.length:=by
 unfold atI at h
 cases e:ixN xs.length i with
 | none => rw [e] at h; cases h
 | some j =>
  rw [e] at h
  obtain ⟨h1,h2,h3,h4⟩:=ixN_seq e
  exact ⟨j,h1,h,h2,h3,h4⟩
theorem atI_nat {α:Type} {xs:List α} {j:Nat} {v:α} (h:xs[j]? = some v):atI xs (j:Int) = some v:=by
 have hj:j < xs.length:=(List.getElem?_eq_some_iff.mp h).1
 have e:ixN xs.length (j:Int) = some j:=by
  unfold ixN
  rw [if_pos (by trivial),if_pos (by trivial)]; simp
 unfold atI; rw [e]; exact h
theorem atI_last {α:Type} (xs:List α) (v:α):atI (xs ++ [v]) (-1) = some v:=by
 have hl:(xs ++ [v]).length = xs.length + 1:=by simp
 have e:ixN (xs ++ [v]).length (-1) = some xs.length:=by
  unfold ixN
  rw [hl,if_neg (by decide),if_pos (by trivial)]
  congr 1
  trivial
 unfold atI
 rw [e]
 show (xs ++ [v])[xs.length]? = some v
 simp
noncomputable def PlainIx (b:Expr):Prop:=∀ o i,subscripted b false o i = operate [o,i] (getItem o i)
noncomputable def IxR (X:Cx) (r:R2):Prop :=
 ∀ (value slice:Expr) (pins:List (Addr × Obj)) (s:Shared) (σ:St) (H:Hp) (x y:V) (v u:Value) (Q:VK),Inv X pins σ H s -> RelV x v -> RelV y u -> r x y H Q →
  subscripted slice false v u = operate [v,u] (getItem v u) -> wpAny (model X.prog X.w) X.A (subscriptTail value slice v u) (EP X pins σ Q) X.xe s
noncomputable def MtR (X:Cx) (id:String) (r:V -> List V -> Hp -> VK -> Prop):Prop :=
 ∀ (pins:List (Addr × Obj)) (s:Shared) (σ:St) (H:Hp) (x:V) (xs:List V) (v:Value) (us:List Value) (Q:VK),Inv X pins σ H s -> RelV x v -> Vals xs us -> r x xs H Q →
  wpAny (model X.prog X.w) X.A (call (.builtin id) (v :: us)) (EP X pins σ Q) X.xe s
section
variable {X:Cx} {a b:Expr} {ta tb:TE} {pos:Pos}
theorem pe_ix {r:R2} (hr:IxR X r) (ha:PE X a ta) (hb:PE X b tb) (hs:PlainIx b):PE X (.Subscript a b pos) (tOp r ta tb):=by
 intro pins s σ H Q I h
 exact Subscript_ (binT ha hb I h fun v u s2 x y H2 I2 rx ry q => hr a b pins s2 σ H2 x y v u Q I2 rx ry q (hs _ _))
noncomputable def rIxL (K:PySem.W.Frag):R2:=fun x y H Q => ∃ p xs i v,x = .ref p∧y = .int i∧SqL K H p xs∧atI xs i = some v∧Q v H
noncomputable def rIxT (K:PySem.W.Frag):R2:=fun x y H Q => ∃ p xs i v,x = .ref p∧y = .int i∧SqT K H p xs∧atI xs i = some v∧Q v H
theorem ix_list:IxR X (rIxL X.K):=by
 intro value slice pins s σ H x y v u Q I rx ry h hs
 obtain ⟨p,xs,i,z,rfl,rfl,hq,he,q⟩:=h
 cases rx
 obtain ⟨t,rfl⟩:=ry
 obtain ⟨its,r,pl,hz⟩:=I.list hq
 obtain ⟨j,h1,h2,h3,h4,h5⟩:=atI_get he
 obtain ⟨w,ew,rw'⟩:=r.get h2
 have hl:=r.length
 have hn:=line63
 have fin:EP X pins σ Q w s:=⟨z,H,I,rw',q⟩
 by_cases h0:0 ≤ i
 ·have hj:i.toNat = j:=by
   rw [seqIndex_of h0 h5] at h1
   exact Option.some.inj h1
  exact item_listR pl.isList h0 (by trivial) (by rw [hj]; simpa using ew) fin hs
 ·have hj:(i + (its.toArray.size:Int)).toNat = j:=by
   rw [seqIndex_neg (by trivial) h4] at h1
   rw [List.size_toArray,← hl]
   exact Option.some.inj h1
  exact subscriptTail_builtinR (x:=w) pl.isList.typeIs slot_list_getitem.lookup
   (wpAny_getItem_list_neg (Q:=fun r s' => r = w∧EP X pins σ Q r s') pl.isList (by trivial) (by rw [List.size_toArray] <;> trivial) (by trivial) (by rw [hj]; simpa using ew) ⟨rfl,fin⟩) hs
theorem ix_tup:IxR X (rIxT X.K):=by
 intro value slice pins s σ H x y v u Q I rx ry h hs
 obtain ⟨p,xs,i,z,rfl,rfl,hq,he,q⟩:=h
 cases rx
 obtain ⟨t,rfl⟩:=ry
 obtain ⟨its,r,pl,hz⟩:=I.tuple hq
 obtain ⟨j,h1,h2,h3,h4,h5⟩:=atI_get he
 obtain ⟨w,ew,rw'⟩:=r.get h2
 have hl:=r.length
 have hn:=line63
 have fin:EP X pins σ Q w s:=⟨z,H,I,rw',q⟩
 exact subscriptTail_builtinR (x:=w) pl.typeIs slot_tuple_getitem.lookup
  (getItem_tuple (j:=j) (Q:=fun r s' => r = w∧EP X pins σ Q r s') pl (by trivial) (by trivial) (by rw [List.size_toArray,← hl]; exact h1) (by simpa using ew) ⟨rfl,fin⟩) hs
theorem mapSeq_set (its:List Value) (n j:Nat) (u:Value):Obj.mapSeq (·.setIfInBounds j u) { cls:=.type "list", data:=.seq its.toArray n } = { cls:=.type "list", data:=.seq (its.set j u).toArray n }:=by
 simp [Obj.mapSeq]
theorem Inv.lst {pins:List (Addr × Obj)} {σ:St} {H:Hp} {s:Shared} {p:Addr} {xs:List V} (I:Inv X pins σ H s) (h:H p = some (.lst xs)) :
  ∃ (its:List Value) (n:Nat), Vals xs its∧s.heap.get? p = some { cls:=.type "list", data:=.seq its.toArray n }∧xs.length ≤ sizeLine:=by
 obtain ⟨z,its,n,r,e⟩:=I.hok p _ h
 exact ⟨its,n,r,e,z⟩
theorem Inv.lstUpd {pins:List (Addr × Obj)} {σ:St} {H:Hp} {s:Shared} {p:Addr} {xs ys:List V} {its its':List Value} {n n':Nat} {f:Obj -> Obj} (I:Inv X pins σ H s) (h:H p = some (.lst xs))
  (ho:s.heap.get? p = some { cls:=.type "list", data:=.seq its.toArray n }) (hf:f { cls:=.type "list", data:=.seq its.toArray n } = { cls:=.type "list", data:=.seq its'.toArray n' }) (r:Vals ys its') (hz:ys.length ≤ sizeLine) (t:Nat) :
  Inv X pins σ (upd H p (.lst ys)) { s with heap:=s.heap.update p f,toks:=t }:=by
 have e:(s.heap.update p f).get? p = some { cls:=.type "list", data:=.seq its'.toArray n' }:=by
  rw [Heap.get?_update_self f ho (by rw [hf] <;> rfl),hf]
 refine I.write (x:=p) (e:=p) (by rw [h]; trivial) (.inl rfl) (fun b u hb q => (Heap.get?_update_other _ _ (Ne.symm hb)).trans q) ⟨_,e⟩ ?_
 exact ⟨hz,its',n',r,e⟩
noncomputable def rSetL:V -> V -> V -> Hp -> (Hp -> Prop) -> Prop:=fun o i v H Q => ∃ p xs k j,o = .ref p∧i = .int k∧H p = some (.lst xs)∧ixN xs.length k = some j∧Q (upd H p (.lst (xs.set j v)))
theorem set_list:PSet X rSetL:=by
 intro pins s σ H o i v ov iv u Q I ro ri rv h
 obtain ⟨p,xs,k,j,rfl,rfl,hp,hj,q⟩:=h
 cases ro
 obtain ⟨t,rfl⟩:=ri
 obtain ⟨its,n,r,ho,hz⟩:=I.lst hp
 obtain ⟨h1,h2,h3,h4⟩:=ixN_seq hj
 have hl:=r.length
 have hn:=line63
 have I':Inv X pins σ (upd H p (.lst (xs.set j v))) { s with heap:=s.heap.update p (Obj.mapSeq (·.setIfInBounds j u)) } :=
  I.lstUpd hp ho (mapSeq_set its n j u) (r.set rv j) (by rw [List.length_set]; exact hz) s.toks
 by_cases h0:0 ≤ k
 ·have hk:k.toNat = j:=by
   rw [seqIndex_of h0 h4] at h1
   exact Option.some.inj h1
  exact PySem.W.ki_setAt ho h0 (by trivial) (by rw [List.size_toArray,← hl]; exact h4) (by rw [hk]; exact ⟨_,I',q⟩)
 ·have hk:(k + (its.toArray.size:Int)).toNat = j:=by
   rw [seqIndex_neg (by trivial) h3] at h1
   rw [List.size_toArray,← hl]
   exact Option.some.inj h1
  exact PySem.W.ki_setBack ho (by trivial) (by rw [List.size_toArray,← hl]; exact h3) (by trivial) (by rw [hk]; exact ⟨_,I',q⟩)
theorem slice_bounds (lo hi:Option Int) (n:Nat):(sliceBounds lo hi none n).1 = ((HT.sIx n 0 lo:Nat):Int)∧(sliceBounds lo hi none n).2.1 = ((HT.sIx n n hi:Nat):Int)∧(sliceBounds lo hi none n).2.2 = 1:=by
 refine ⟨?_,?_,rfl⟩
 ·cases lo with
  | none => simp [sliceBounds,HT.sIx]
  | some i =>
   simp only [sliceBounds,HT.sIx,Option.getD_none,show (1:Int) > 0 by decide,if_true]
   by_cases h:i < 0
   ·simp only [h,if_true] <;> trivial
   ·simp only [h,if_false] <;> trivial
 ·cases hi with
  | none => simp [sliceBounds,HT.sIx]
  | some i =>
   simp only [sliceBounds,HT.sIx,Option.getD_none,show (1:Int) > 0 by decide,if_true]
   by_cases h:i < 0
   ·simp only [h,if_true] <;> trivial
   ·simp only [h,if_false] <;> trivial
theorem slicePick_cut (its:List Value) (lo hi:Option Int):slicePick its.toArray lo hi none = ((its.drop (HT.sIx its.length 0 lo)).take (HT.sIx its.length its.length hi - HT.sIx its.length 0 lo)).toArray:=by
 obtain ⟨h1,h2,h3⟩:=slice_bounds lo hi its.toArray.size
 unfold slicePick
 rw [h1,h2,h3]
 simp only [sliceRange_one,pick_run,List.size_toArray] <;> rfl
noncomputable def rSlL (K:PySem.W.Frag):V -> Option Int -> Option Int -> Hp -> VK -> Prop:=fun x lo hi H Q => ∃ a xs,x = .ref a∧SqL K H a xs∧∀ p,H p = none -> Q (.ref p) (upd H p (.lst (cutV xs lo hi)))
theorem sl_list:SlR X (rSlL X.K):=by
 intro pins s σ H x v vl vu lo hi sl Q I rx hs pl pu h
 obtain ⟨a,xs,rfl,hx,q⟩:=h
 cases rx
 obtain ⟨its,r,ht,hz⟩:=I.list hx
 have hlen:=r.length
 refine ⟨"list", _, slot_list_getitem.lookup, ht.isList.typeIs, ?_⟩
 refine wpAny_getItem_list_slice ht.isList hs pl pu .none (by simp) ?_ (by rw [List.size_toArray] <;> trivial)
 rw [slicePick_cut,← hlen]
 refine ⟨.ref s.heap.objs.size,_,I.laid (t':=s.toks) (o:=.lst (cutV xs lo hi)) (fun b ob q => Heap.get?_push_of_some _ q) (Nat.le_refl _) ?_,rfl,q _ (I.hok.fresh (Nat.le_refl _))⟩
 exact ⟨Nat.le_trans (cutV_length xs lo hi) hz,_,0,(r.drop (HT.sIx xs.length 0 lo)).take (HT.sIx xs.length xs.length hi - HT.sIx xs.length 0 lo),Heap.get?_push_size _ rfl⟩
noncomputable def flatV:V -> Bool
 | .non => true
 | .bl _ => true
 | .int _ => true
 | .str _ => true
 | _ => false
noncomputable def eqV:V -> V -> Bool
 | .non,.non => true
 | .bl a,.bl b => a == b
 | .bl a,.int b => (if a then 1 else 0) == b
 | .int a,.bl b => a == (if b then 1 else 0)
 | .int a,.int b => a == b
 | .str a,.str b => a == b
 | _,_ => false
theorem eqAt_V {A:Around} {s:Shared} {y x:V} {u v:Value} (ry:RelV y u) (rx:RelV x v) (fy:flatV y = true) (fx:flatV x = true):SeqAt.EqAt A s u v (eqV y x):=by
 cases y with
 | non =>
  cases ry
  cases x with
  | non => cases rx; exact SeqAt.EqAt.same _
  | bl b => cases rx; exact SeqAt.EqAt.none_bool b
  | int b => obtain ⟨t,rfl⟩:=rx; exact SeqAt.EqAt.none_int b t
  | str b => obtain ⟨t,rfl⟩:=rx; exact SeqAt.EqAt.none_str b t
  | _ => exact absurd (show false = true from fx) Bool.false_ne_true
 | bl a =>
  cases ry
  cases x with
  | non => cases rx; exact SeqAt.EqAt.bool_none a
  | bl b => cases rx; exact SeqAt.EqAt.bool_bool a b
  | int b => obtain ⟨t,rfl⟩:=rx; exact SeqAt.EqAt.bool_int a b t
  | str b => obtain ⟨t,rfl⟩:=rx; exact SeqAt.EqAt.bool_str a b t
  | _ => exact absurd (show false = true from fx) Bool.false_ne_true
 | int a =>
  obtain ⟨t',rfl⟩:=ry
  cases x with
  | non => cases rx; exact SeqAt.EqAt.int_none a t'
  | bl b => cases rx; exact SeqAt.EqAt.int_bool a t' b
  | int b => obtain ⟨t,rfl⟩:=rx; exact SeqAt.EqAt.int_int a t' b t
  | str b => obtain ⟨t,rfl⟩:=rx; exact SeqAt.EqAt.int_str a t' b t
  | _ => exact absurd (show false = true from fx) Bool.false_ne_true
 | str a =>
  obtain ⟨t',rfl⟩:=ry
  cases x with
  | non => cases rx; exact SeqAt.EqAt.str_none a t'
  | bl b => cases rx; exact SeqAt.EqAt.str_bool a t' b
  | int b => obtain ⟨t,rfl⟩:=rx; exact SeqAt.EqAt.str_int a t' b t
  | str b => obtain ⟨t,rfl⟩:=rx; exact SeqAt.EqAt.str_str a t' b t
  | _ => exact absurd (show false = true from fx) Bool.false_ne_true
 | _ => exact absurd (show false = true from fy) Bool.false_ne_true
noncomputable def eqU (x:V) (u:Value):Bool:=match u with
 | .none => eqV .non x
 | .bool b => eqV (.bl b) x
 | .int i _ => eqV (.int i) x
 | .str z _ => eqV (.str z) x
 | _ => false
theorem eqU_of {x y:V} {u:Value} (r:RelV y u) (f:flatV y = true):eqU x u = eqV y x:=by
 cases y with
 | non => cases r; rfl
 | bl b => cases r; rfl
 | int i => obtain ⟨t,rfl⟩:=r; rfl
 | str z => obtain ⟨t,rfl⟩:=r; rfl
 | _ => exact absurd (show false = true from f) Bool.false_ne_true
theorem any_eqU {x:V}:∀ {xs:List V} {us:List Value},Vals xs us -> xs.all flatV = true -> us.any (eqU x) = xs.any fun y => eqV y x
 | _,_,.nil,_ => rfl
 | y :: xs,u :: us,.cons r t,f => by
  rw [List.all_cons,Bool.and_eq_true] at f
  rw [List.any_cons,List.any_cons,eqU_of r f.1,any_eqU t f.2]
theorem mem_eqAt {A:Around} {s:Shared} {x:V} {v:Value} (rx:RelV x v) (fx:flatV x = true):∀ {xs:List V} {us:List Value},Vals xs us -> xs.all flatV = true -> ∀ u ∈ us,SeqAt.EqAt A s u v (eqU x u)
 | _,_,.nil,_ => fun u hu => by cases hu
 | y :: xs,u :: us,.cons r t,f => fun u' hu => by
  rw [List.all_cons,Bool.and_eq_true] at f
  rcases List.mem_cons.mp hu with rfl | hu
  ·rw [eqU_of r f.1]; exact eqAt_V r rx f.1 fx
  ·exact mem_eqAt rx fx t f.2 u' hu
noncomputable def inV (x:V) (xs:List V):Bool:=xs.any fun y => eqV y x
noncomputable def rIn (K:PySem.W.Frag) (neg:Bool):R2:=fun x y H Q => ∃ p xs,y = .ref p∧(SqL K H p xs ∨ SqT K H p xs)∧flatV x = true∧xs.all flatV = true∧Q (.bl (if neg then !inV x xs else inV x xs)) H
theorem op_notIn_seq:OpR X (compareOp .NotIn) (rIn X.K true):=by
 intro pins s σ H x y v u Q I rx ry h
 obtain ⟨p,xs,rfl,hq,fx,fs,q⟩:=h
 cases ry
 rcases hq with hq | hq
 ·obtain ⟨its,r,pl,hz⟩:=I.list hq
  refine SeqAt.notIn_listAt (eqU x) pl.isList (fun w hw => mem_eqAt rx fx r fs w (by simpa using hw)) ⟨.bl _,H,I,rfl,?_⟩
  rw [show its.toArray.any (eqU x) = its.any (eqU x) by simp,any_eqU r fs]
  exact q
 ·obtain ⟨its,r,pl,hz⟩:=I.tuple hq
  refine SeqAt.notIn_tupleAt (eqU x) pl (fun w hw => mem_eqAt rx fx r fs w (by simpa using hw)) ⟨.bl _,H,I,rfl,?_⟩
  rw [show its.toArray.any (eqU x) = its.any (eqU x) by simp,any_eqU r fs]
  exact q
theorem call_len_seq:CallR X (.builtin "len") (fun xs H Q => ∃ p ys, xs = [.ref p]∧(SqL X.K H p ys ∨ SqT X.K H p ys)∧Q (.int ys.length) H):=by
 intro pins s σ H xs us Q I r h
 obtain ⟨p,ys,rfl,hq,q⟩:=h
 obtain ⟨u,rfl,rx⟩:=vals1 r
 cases rx
 have hn:=line63
 rcases hq with hq | hq
 ·obtain ⟨its,r',pl,hz⟩:=I.list hq
  have hlen:=r'.length
  exact Calls.call_len_list pl.isList (by simp only [List.size_toArray] <;> trivial) ⟨.int ys.length,H,I.tok _,⟨s.toks + 1,by rw [List.size_toArray,hlen]⟩,q⟩
 ·obtain ⟨its,r',pl,hz⟩:=I.tuple hq
  have hlen:=r'.length
  exact len_tuple pl (by simp only [List.size_toArray] <;> trivial) ⟨.int ys.length,H,I.tok _,⟨s.toks + 1,by rw [List.size_toArray,hlen]⟩,q⟩
theorem call_list_of:CallR X (.type "list") (fun xs H Q => ∃ p ys, xs = [.ref p]∧(SqL X.K H p ys ∨ SqT X.K H p ys)∧∀ l, H l = none -> Q (.ref l) (upd H l (.lst ys))):=by
 intro pins s σ H xs us Q I r h
 obtain ⟨p,ys,rfl,hq,q⟩:=h
 obtain ⟨u,rfl,rx⟩:=vals1 r
 cases rx
 have fin:∀ (its:List Value),Vals ys its -> ys.length ≤ sizeLine -> ∀ (h':Heap) (c':Nat),(∀ b o',s.heap.get? b = some o' -> h'.get? b = some o') →
   h'.get? s.heap.objs.size = some { cls:=.type "list", dict:=none, data:=.seq its.toArray c', slots:=#[] } -> EP X pins σ Q (.ref s.heap.objs.size) { s with heap:=h' }:=fun its r' hz h' c' kp e =>
  ⟨.ref s.heap.objs.size,_,I.laid (t':=s.toks) kp (Nat.le_refl _) (show ObjOk X.prog X.w _ h' _ (.lst ys) from ⟨hz,its,c',r',e⟩),rfl,q _ (I.hok.fresh (Nat.le_refl _))⟩
 rcases hq with hq | hq
 ·obtain ⟨its,r',pl,hz⟩:=I.list hq
  have hlen:=r'.length
  obtain ⟨o,ho,hc,n,hd⟩:=pl.isList
  exact call_list_seq p (.inl rfl) ho hc hd (fun h' c' kp e => fin its r' hz h' c' kp e) (by simp only [List.size_toArray] <;> trivial)
 ·obtain ⟨its,r',pl,hz⟩:=I.tuple hq
  have hlen:=r'.length
  obtain ⟨o,ho,hc,n,hd⟩:=pl
  exact call_list_seq p (.inr rfl) ho hc hd (fun h' c' kp e => fin its r' hz h' c' kp e) (by simp only [List.size_toArray] <;> trivial)
noncomputable def tyV (K:PySem.W.Frag) (T:String) (x:V) (H:Hp):Prop:=match x with
 | .str _ => T = "str"
 | .int _ => T = "int"
 | .ref p => (T = "list"∧∃ xs, SqL K H p xs) ∨ (T = "tuple"∧∃ o, K.lookup p = some o∧o.cls = .type "tuple"∧o.dict = none) ∨
   (T = "dict"∧((∃ kvs, H p = some (.dK kvs)) ∨ ∃ kvs, H p = some (.dT kvs))) ∨ (T = "set"∧∃ S n, H p = some (.set S n))
 | _ => False
theorem tyV_is {pins:List (Addr × Obj)} {σ:St} {H:Hp} {s:Shared} {T:String} {x:V} {v:Value} (I:Inv X pins σ H s) (r:RelV x v) (ty:tyV X.K T x H) :
  s.TypeIs v T∧∀ a,v = .ref a -> ∃ ob,s.heap.get? a = some ob∧ob.dict = none:=by
 cases x with
 | str z =>
  obtain ⟨t,rfl⟩:=r
  cases (show T = "str" from ty)
  exact ⟨typeIs_str s z t,fun _ e => nomatch e⟩
 | int i =>
  obtain ⟨t,rfl⟩:=r
  cases (show T = "int" from ty)
  exact ⟨typeIs_int s i t,fun _ e => nomatch e⟩
 | ref p =>
  cases r
  rcases ty with ⟨rfl,xs,hq⟩ | ⟨rfl,o,hk,hc,hd⟩ | ⟨rfl,hk⟩ | ⟨rfl,S,n,hk⟩
  ·obtain ⟨its,_,pl,_⟩:=I.list hq
   refine ⟨pl.isList.typeIs,fun a e => ?_⟩
   cases e
   obtain ⟨o,n,e,c,hd,_⟩:=pl
   exact ⟨o,e,hd⟩
  ·refine ⟨⟨o,I.kIn p o hk,hc⟩,fun a e => ?_⟩
   cases e
   exact ⟨o,I.kIn _ o hk,hd⟩
  ·have z:∃ o,s.heap.get? p = some o∧o.ExactDict:=by
    rcases hk with ⟨kvs,hk⟩ | ⟨kvs,hk⟩
    ·obtain ⟨_,_,_,_,o,_,_,e,ex,_⟩:=I.hok p _ hk
     exact ⟨o,e,ex⟩
    ·obtain ⟨_,_,_,_,o,_,_,e,ex,_⟩:=I.hok p _ hk
     exact ⟨o,e,ex⟩
   obtain ⟨o,e,ex⟩:=z
   refine ⟨⟨o,e,ex.1⟩,fun a e2 => ?_⟩
   cases e2
   exact ⟨o,e,ex.2.1⟩
  ·obtain ⟨o,_,_,_,e,ex,_⟩:=I.hok p _ hk
   refine ⟨⟨o,e,ex.1⟩,fun a e2 => ?_⟩
   cases e2
   exact ⟨o,e,ex.2.1⟩
 | _ => exact False.elim ty
noncomputable def tBM0 (K:PySem.W.Frag) (T:String) (r:V -> List V -> Hp -> VK -> Prop) (to:TE):TE:=fun σ H Q => to σ H fun x H1 => tyV K T x H1∧r x [] H1 Q
noncomputable def tBM (K:PySem.W.Frag) (T:String) (r:V -> List V -> Hp -> VK -> Prop) (to:TE) (t:TA):TE:=fun σ H Q => to σ H fun x H1 => tyV K T x H1∧t σ H1 fun xs H2 => r x xs H2 Q
variable {o e:Expr} {es:List Expr} {to:TE} {t:TA} {name:Str} {apos cpos:Pos} {T id:String} {r:V -> List V -> Hp -> VK -> Prop}
theorem pe_bm0 (pa:PlainAttrs T) (slot:Slot T name id) (hty:typeOf (.builtin id) = pure (.type "method_descriptor")) (hm:MtR X id r) (ho:PE X o to)
  (hbase:attributeBase o name X.env (eval o X.env) = eval o X.env:=by rfl) (hline:(apos.endLine == cpos.line) = true:=by rfl):PE X (.Call (.Attribute o name apos) [] [] cpos) (tBM0 X.K T r to):=by
 intro pins s σ H Q I h
 refine wpAny_Call_method0_late hbase hline (thn (ho pins s σ H _ I h) fun v s1 ⟨x,H1,I1,r1,ty,q1⟩ => ?_)
 obtain ⟨h1,h2⟩:=tyV_is I1 r1 ty
 exact ⟨T,id,pa,slot,hty,h1,h2,Calls.callWith_builtin rfl (PySem.evalArgs_none (hm pins s1 σ H1 x [] v [] Q I1 r1 .nil q1))⟩
theorem pe_bm (pa:PlainAttrs T) (slot:Slot T name id) (hty:typeOf (.builtin id) = pure (.type "method_descriptor")) (hm:MtR X id r) (ho:PE X o to) (ha:PA X (e :: es) t)
  (hbase:attributeBase o name X.env (eval o X.env) = eval o X.env:=by rfl)
  (hfew:((backTo cpos (starEach (e :: es) X.env)).all (fun x => !x.1) && (backToKw cpos (keywordEach [] X.env)).all (fun x => x.1.isSome)
   && decide ((e :: es).length + ([]:List Keyword).length + (if ([]:List Keyword).isEmpty then 0 else 1) < 30)) = true:=by rfl)
  (hline:(apos.endLine == cpos.line) = true:=by rfl) (hs:starEach (e :: es) X.env = (false,eval e X.env) :: starEach es X.env:=by rfl) (hplain:(backTo cpos (starEach es X.env)).any (·.1) = false:=by rfl) :
  PE X (.Call (.Attribute o name apos) (e :: es) [] cpos) (tBM X.K T r to t):=by
 intro pins s σ H Q I h
 refine wpAny_Call_method_late hbase hfew hline rfl (thn (ho pins s σ H _ I h) fun v s1 ⟨x,H1,I1,r1,ty,q1⟩ => ?_)
 obtain ⟨h1,h2⟩:=tyV_is I1 r1 ty
 refine ⟨T,id,pa,slot,hty,h1,h2,?_⟩
 have hA:=ha cpos pins s1 σ H1 _ I1 q1
 rw [hs] at hA ⊢
 refine Calls.callWith_builtin (by show (false || (backTo cpos (starEach es X.env)).any (·.1)) = false; rw [hplain] <;> rfl) (Calls.evalArgs_plain ?_)
 exact thn hA fun us s2 ⟨vs,H2,I2,r2,q2⟩ => hm pins s2 σ H2 x vs v us Q I2 r1 r2 q2
end
end L2
namespace L2
open PySem PySem.Spec PyProof.Rows
noncomputable def MtM (X:Cx) (id:String) (r:V -> List V -> Hp -> VK -> Prop):Prop :=
 ∀ (pins:List (Addr × Obj)) (s:Shared) (σ:St) (H:Hp) (x:V) (xs:List V) (v:Value) (us:List Value) (Q:VK),Inv X pins σ H s -> RelV x v -> Vals xs us -> r x xs H Q →
  wpAny (model X.prog X.w) X.A (call (.builtin id) (v :: us)) (EP X pins σ Q) X.xe s
theorem Vals.one:∀ {x:V} {us:List Value},Vals [x] us -> ∃ u,us = [u]∧RelV x u
 | _,_,.cons r .nil => ⟨_,rfl,r⟩
theorem Vals.two:∀ {x y:V} {us:List Value},Vals [x,y] us -> ∃ u v,us = [u,v]∧RelV x u∧RelV y v
 | _,_,_,.cons r (.cons q .nil) => ⟨_,_,rfl,r,q⟩
theorem Vals.zero:∀ {us:List Value},Vals [] us -> us = []
 | _,.nil => rfl
theorem Vals.dropLast {xs:List V} {us:List Value} (h:Vals xs us):Vals xs.dropLast us.dropLast:=by
 induction h with
 | nil => exact .nil
 | cons r t ih =>
  cases t with
  | nil => exact .nil
  | cons q t' => exact .cons r ih
theorem Vals.eraseIdx:∀ {xs:List V} {us:List Value} (i:Nat),Vals xs us -> Vals (xs.eraseIdx i) (us.eraseIdx i)
 | _,_,_,.nil => .nil
 | _,_,0,.cons _ t => t
 | _,_,i + 1,.cons r t => .cons r (Vals.eraseIdx i t)
theorem Vals.reverse {xs:List V} {us:List Value} (h:Vals xs us):Vals xs.reverse us.reverse:=by
 induction h with
 | nil => exact .nil
 | cons r t ih => rw [List.reverse_cons,List.reverse_cons]; exact Vals.append ih (.cons r .nil)
theorem Vals.rep {xs:List V} {us:List Value} (h:Vals xs us):∀ k:Nat,Vals (List.replicate k xs).flatten (List.replicate k us).flatten
 | 0 => .nil
 | k + 1 => by
  rw [List.replicate_succ,List.replicate_succ,List.flatten_cons,List.flatten_cons]
  exact Vals.append h (Vals.rep h k)
theorem erase_last {α:Type} (l:List α):l.eraseIdx (l.length - 1) = l.dropLast:=by
 induction l with
 | nil => rfl
 | cons a r ih =>
  cases r with
  | nil => rfl
  | cons b r =>
   have e:(a :: b :: r).length - 1 = ((b :: r).length - 1) + 1:=by
    have h1:(a :: b :: r).length = r.length + 2:=rfl
    have h2:(b :: r).length = r.length + 1:=rfl
    trivial
   rw [e,List.eraseIdx_cons_succ,ih]
   all_goals rfl
theorem len_erase {α:Type}:∀ (l:List α) (i:Nat),(l.eraseIdx i).length ≤ l.length
 | [],_ => Nat.le_refl _
 | _ :: _,0 => Nat.le_succ _
 | _ :: r,i + 1 => Nat.succ_le_succ (len_erase r i)
theorem foldl_rep (its:List Value):∀ (k:Nat) (acc:List Value),
  List.foldl (fun x1 x2 => x1 ++ x2) acc.toArray (List.replicate k its.toArray) = (acc ++ (List.replicate k its).flatten).toArray
 | 0,acc => by simp
 | k + 1,acc => by
  have e:acc.toArray ++ its.toArray = (acc ++ its).toArray:=by simp
  have e2:(acc ++ its) ++ (List.replicate k its).flatten = acc ++ (List.replicate (k + 1) its).flatten:=by
   rw [List.replicate_succ,List.flatten_cons,List.append_assoc]
  rw [← e2,← foldl_rep its k (acc ++ its),← e,List.replicate_succ,List.foldl_cons]
section
variable {X:Cx} {pins:List (Addr × Obj)} {σ:St} {H:Hp} {s:Shared} {l b:Addr} {xs ys zs:List V}
theorem Inv.lset {its its':List Value} {n:Nat} {f:Array Value -> Array Value} {t':Nat} (I:Inv X pins σ H s) (hH:H l = some (.lst xs))
  (e:s.heap.get? l = some { cls:=.type "list", data:=.seq its.toArray n }) (hf:f its.toArray = its'.toArray) (hv:Vals ys its') (hz:ys.length ≤ sizeLine) :
  Inv X pins σ (upd H l (.lst ys)) { s with heap:=s.heap.update l (Obj.mapSeq f),toks:=t' }:=by
 have q:=PySem.IsL.update e f
 rw [hf] at q
 refine I.write (x:=l) (e:=l) (by rw [hH]; exact trivial) (.inl rfl) (fun b' u hb hu => (Heap.get?_update_other s.heap (Obj.mapSeq f) (Ne.symm hb)).trans hu) ⟨_,q⟩ ?_
 exact ⟨hz,its',_,hv,q⟩
theorem Inv.lnew {its:List Value} {t':Nat} (I:Inv X pins σ H s) (hv:Vals ys its) (hz:ys.length ≤ sizeLine) :
  Inv X pins σ (upd H s.heap.objs.size (.lst ys)) { s with heap:=s.heap.push { cls:=.type "list", data:=.seq its.toArray }, toks:=t' } :=
 I.laid (fun _ _ q => Heap.get?_push_of_some _ q) (Nat.le_refl _) ⟨hz,its,0,hv,Heap.get?_push_size _ rfl⟩
theorem Inv.fresh (I:Inv X pins σ H s):H s.heap.objs.size = none:=I.hok.fresh (Nat.le_refl _)
theorem Inv.lstM (I:Inv X pins σ H s) (hH:H l = some (.lst xs)):xs.length ≤ sizeLine∧∃ (its:List Value) (n:Nat), Vals xs its∧xs.length = its.length∧s.heap.get? l = some { cls:=.type "list", data:=.seq its.toArray n }:=by
 obtain ⟨z,its,n,r,e⟩:=I.hok l _ hH
 exact ⟨z,its,n,r,r.length,e⟩
theorem notLongL {n:Nat} (h:n ≤ sizeLine):Builtin.List.listTooLong n = false:=by
 unfold Builtin.List.listTooLong
 exact decide_eq_false (by trivial)
end
section
variable {X:Cx}
noncomputable def rAppend:V -> List V -> Hp -> VK -> Prop:=fun x vs H Q => ∃ l xs y,x = .ref l∧vs = [y]∧H l = some (.lst xs)∧xs.length < sizeLine∧Q .non (upd H l (.lst (xs ++ [y])))
theorem mt_append:MtM X "list.append" rAppend:=by
 intro pins s σ H x vs v us Q I rx rv h
 obtain ⟨l,xs,y,rfl,rfl,hH,hz,q⟩:=h
 cases rx
 obtain ⟨u,rfl,ru⟩:=rv.one
 obtain ⟨z,its,n,r,hl,e⟩:=I.lstM hH
 refine call_meets F.slot_list_append ⟨_,e,rfl⟩ F.entry_list_append (F.args_list_append_2 _ _) (PySem.list_append l its.toArray n u (by rw [List.size_toArray]; trivial)) ⟨e,?_⟩
 refine ⟨.non,_,I.lset (its':=its ++ [u]) hH e (by simp) (r.append (.cons ru .nil)) ?_,rfl,q⟩
 rw [List.length_append,List.length_singleton]
 trivial
noncomputable def rExtend:V -> List V -> Hp -> VK -> Prop:=fun x vs H Q => ∃ l b xs zs,x = .ref l∧vs = [.ref b]∧H l = some (.lst xs)∧H b = some (.lst zs)∧xs.length + zs.length ≤ sizeLine∧Q .non (upd H l (.lst (xs ++ zs)))
theorem mt_extend:MtM X "list.extend" rExtend:=by
 intro pins s σ H x vs v us Q I rx rv h
 obtain ⟨l,b,xs,zs,rfl,rfl,hH,hB,hz,q⟩:=h
 cases rx
 obtain ⟨u,rfl,ru⟩:=rv.one
 cases ru
 obtain ⟨z,its,n,r,hl,e⟩:=I.lstM hH
 obtain ⟨z2,its2,n2,r2,hl2,e2⟩:=I.lstM hB
 have hsz:its.toArray.size + its2.toArray.size ≤ sizeLine:=by rw [List.size_toArray,List.size_toArray]; trivial
 have hlong:¬ (!its.toArray.isEmpty && Builtin.List.listTooLong (its.toArray.size + its2.toArray.size)) = true:=by
  rw [notLongL hsz,Bool.and_false]
  exact Bool.false_ne_true
 refine call_meets F.slot_list_extend ⟨_,e,rfl⟩ F.entry_list_extend (F.args_list_extend_2 _ _)
  (AutoSeq1.list_extend_list_list_0 l its.toArray n b its2.toArray n2 hlong (by rw [List.size_toArray]; trivial) (by trivial)) ⟨e,e2,?_⟩
 refine ⟨.non,_,I.lset (its':=its ++ its2) hH e (by simp) (r.append r2) ?_,rfl,q⟩
 rw [List.length_append]
 trivial
noncomputable def rPop:V -> List V -> Hp -> VK -> Prop:=fun x vs H Q => ∃ l xs y,x = .ref l∧vs = []∧H l = some (.lst xs)∧xs[xs.length - 1]? = some y∧Q y (upd H l (.lst xs.dropLast))
theorem mt_pop:MtM X "list.pop" rPop:=by
 intro pins s σ H x vs v us Q I rx rv h
 obtain ⟨l,xs,y,rfl,rfl,hH,hy,q⟩:=h
 cases rx
 have hus:=rv.zero
 subst hus
 obtain ⟨z,its,n,r,hl,e⟩:=I.lstM hH
 obtain ⟨u,hu,ru⟩:=r.get hy
 have hy':its.toArray[its.toArray.size - 1]? = some u:=by
  show its.toArray[its.length - 1]? = some u
  rw [← Array.getElem?_toList,← hl]
  exact hu
 refine call_meets F.slot_list_pop ⟨_,e,rfl⟩ F.entry_list_pop (F.args_list_pop_1 _) (MeetsSeq.list_pop_last l its.toArray n u hy' (by rw [List.size_toArray]; trivial)) ⟨e,?_⟩
 refine ⟨y,_,I.lset (its':=its.dropLast) hH e ?_ r.dropLast ?_,ru,q⟩
 ·show its.toArray.eraseIdxIfInBounds (its.toArray.size - 1) = its.dropLast.toArray
  rw [List.size_toArray,List.eraseIdxIfInBounds_toArray,erase_last]
 ·rw [List.length_dropLast]
  trivial
noncomputable def rReverse:V -> List V -> Hp -> VK -> Prop:=fun x vs H Q => ∃ l xs,x = .ref l∧vs = []∧H l = some (.lst xs)∧Q .non (upd H l (.lst xs.reverse))
theorem mt_reverse:MtM X "list.reverse" rReverse:=by
 intro pins s σ H x vs v us Q I rx rv h
 obtain ⟨l,xs,rfl,rfl,hH,q⟩:=h
 cases rx
 have hus:=rv.zero
 subst hus
 obtain ⟨z,its,n,r,hl,e⟩:=I.lstM hH
 refine call_meets F.slot_list_reverse ⟨_,e,rfl⟩ F.entry_list_reverse (F.args_list_reverse_1 _) (AutoSeq1.list_reverse_list_0 l its.toArray n (by rw [List.size_toArray]; trivial)) ⟨e,?_⟩
 refine ⟨.non,_,I.lset (its':=its.reverse) hH e (by simp) r.reverse ?_,rfl,q⟩
 rw [List.length_reverse]
 trivial
noncomputable def rCat:R2:=fun x y H Q => ∃ l b xs zs,x = .ref l∧y = .ref b∧H l = some (.lst xs)∧H b = some (.lst zs)∧xs.length + zs.length ≤ sizeLine∧∀ p,H p = none -> Q (.ref p) (upd H p (.lst (xs ++ zs)))
theorem op_cat:OpR X (binaryOp .Add) rCat:=by
 intro pins s σ H x y v u Q I rx ry h
 obtain ⟨l,b,xs,zs,rfl,rfl,hH,hB,hz,q⟩:=h
 cases rx
 cases ry
 obtain ⟨z,its,n,r,hl,e⟩:=I.lstM hH
 obtain ⟨z2,its2,n2,r2,hl2,e2⟩:=I.lstM hB
 refine PySem.P.add_list e e2 ?_ (by rw [List.size_toArray,List.size_toArray]; trivial)
 have ea:its.toArray ++ its2.toArray = (its ++ its2).toArray:=by simp
 rw [ea]
 exact ⟨.ref _,_,I.lnew (t':=s.toks) (r.append r2) (by rw [List.length_append]; trivial),rfl,q _ I.fresh⟩
noncomputable def rRep:R2:=fun x y H Q => ∃ l k xs,x = .ref l∧y = .int k∧H l = some (.lst xs)∧-(2 ^ 63) ≤ k∧k < 2 ^ 63∧xs.length * k.toNat ≤ sizeLine ∧
 ∀ p,H p = none -> Q (.ref p) (upd H p (.lst (List.replicate k.toNat xs).flatten))
theorem len_rep {α:Type} (xs:List α) (k:Nat):(List.replicate k xs).flatten.length = k * xs.length:=by
 induction k with
 | zero => simp
 | succ k ih => rw [List.replicate_succ,List.flatten_cons,List.length_append,ih,Nat.succ_mul,Nat.add_comm]
theorem op_rep:OpR X (binaryOp .Mult) rRep:=by
 intro pins s σ H x y v u Q I rx ry h
 obtain ⟨l,k,xs,rfl,rfl,hH,h1,h2,hz,q⟩:=h
 cases rx
 obtain ⟨t,rfl⟩:=ry
 obtain ⟨z,its,n,r,hl,e⟩:=I.lstM hH
 have hlen:its.toArray.size * k.toNat ≤ sizeLine:=by rw [List.size_toArray,← hl]; exact hz
 have hcap:¬ its.toArray.size * k.toNat > (2 ^ 63 - 1) / 8:=by
  have:(sizeLine:Nat) ≤ (2 ^ 63 - 1) / 8:=by decide
  trivial
 have hfit:¬ (!Builtin.List.listFitsIndex k) = true:=by
  rw [fitsIndex_both h1 h2]
  exact Bool.false_ne_true
 have hlong:¬ Builtin.List.listTooLong (its.toArray.size * k.toNat) = true:=by
  rw [notLongL hlen]
  exact Bool.false_ne_true
 have hnew:List.foldl (fun x1 x2 => x1 ++ x2) #[] (List.replicate (if its.toArray.isEmpty = true then 0 else k.toNat) its.toArray) = (List.replicate k.toNat its).flatten.toArray:=by
  have f0:∀ m:Nat,List.foldl (fun x1 x2 => x1 ++ x2) #[] (List.replicate m its.toArray) = (List.replicate m its).flatten.toArray:=fun m => by
   have:=foldl_rep its m []
   rw [List.nil_append] at this
   exact this
  rw [f0]
  cases its with
  | nil => simp
  | cons a r' => rw [if_neg (by simp)]
 refine wpAny_binaryOp_repeat_ref (T:="list") (U:="int") (by decide) ⟨_, e, rfl⟩ (fun s' => typeIs_int s' k t) noFill_list_mul F.fills_int_mul F.slot_int_rmul repeat_list F.slot_int_index.lookup
  (call_meets F.slot_int_rmul (typeIs_int s k t) F.entry_int_rmul (F.args_int_rmul_2 _ _) (int___rmul___int_list k t l its.toArray n)
   ⟨e,rfl,⟨_,e,rfl⟩,call_meets F.slot_list_mul ⟨_,e,rfl⟩ F.entry_list_mul (F.args_list_mul_2 _ _) (AutoListH.list___mul___list_int_3 l its.toArray n k t hfit hcap hlong) ⟨e,?_⟩⟩)
 rw [hnew]
 exact ⟨.ref _,_,I.lnew (t':=s.toks) (r.rep k.toNat) (by rw [len_rep,Nat.mul_comm]; exact hz),rfl,q _ I.fresh⟩
end
section
variable {prog:Program} {w:World} {A:Around} {E:Value -> Shared -> Prop} {s:Shared}
theorem bounds_run {a c n:Nat} (hac:a ≤ c) (hc:c ≤ n):sliceBounds (some (a:Int)) (some (c:Int)) none n = ((a:Int),(c:Int),1):=by
 simp only [sliceBounds,Option.getD_none]
 have h1:¬ ((a:Int) < 0):=by trivial
 have h2:¬ ((c:Int) < 0):=by trivial
 simp only [h1,h2,if_false,show (1:Int) > 0 by decide,if_true]
 congr 1
 ·trivial
 ·congr 1; trivial
set_option maxRecDepth 100000 in
theorem setItem_slice {l b sl : Addr} {items new : Array Value} {n n2 : Nat} {vl vu : Value} {a c : Nat} {Q : Unit → Shared → Prop}
    (e : s.heap.get? l = some { cls := .type "list", data := .seq items n }) (e2 : s.heap.get? b = some { cls := .type "list", data := .seq new n2 }) (hne : l ≠ b)
    (hs : s.heap.IsSliceOf sl vl vu .none) (pl : IsPart vl (some (a : Int))) (pu : IsPart vu (some (c : Int))) (hac : a ≤ c) (hc : c ≤ items.size)
    (hsz : items.size + new.size ≤ sizeLine) (h : Q () { s with heap := s.heap.update l (Obj.mapSeq fun xs => xs.extract 0 a ++ new ++ xs.extract c xs.size) }) :
    wpAny (model prog w) A (setItem (.ref l) (.ref sl) (.ref b)) Q E s := by
  have hl : s.heap.IsList l items := PySem.IsL.isList e
  have hb : s.heap.IsList b new := PySem.IsL.isList e2
  obtain ⟨os,hos,hcs,hds⟩ := id hs
  have hTs : s.TypeIs (.ref sl) "slice" := ⟨os, hos, hcs⟩
  have hstep : ¬ ((rawPart none == rawInt 0) = true) := Bool.false_ne_true
  have hsame : Builtin.List.listSameRef (.ref l) (.ref b) = false := by
    unfold Builtin.List.listSameRef
    exact beq_eq_false_iff_ne.mpr hne
  have hmax : (max (a : Int) (c : Int)).toNat = c := by trivial
  have hz' : ((fun xs : Array Value => xs.extract 0 a ++ new ++ xs.extract c xs.size) items).size ≤ sizeLine + 1 := by
    simp only [Array.size_append,Array.size_extract]
    trivial
  unfold setItem
  try with_reducible refine wpAny_holding ?_
  first | refine wpAny_bind (wpAny_pure ?_) | skip
  refine wpAny_bind (wpAny_sequenceKey hl.typeIs (by decide) ?_)
  refine wpAny_bind (wpAny_callSpecial?_slot (name := Str.ofString "__setitem__") hl.typeIs slot_list_setitem
    (wpAny_call_entry slot_list_setitem hl.typeIs entry_list_setitem ?_ (args_list_setitem _ _ _)))
  show wpAny _ _ (Builtin.List.listSubscript? (.ref sl) >>= _) _ _ s
  refine wpAny_bind ?_
  unfold Builtin.List.listSubscript?
  refine wpAny_bind (wpAny_specialOf hTs slice_no_index ?_)
  simp only [Option.isNone_none,if_true]
  refine wpAny_pure ?_
  show wpAny _ _ (typeOf (.ref sl) >>= _) _ _ s
  refine wpAny_bind (wpAny_typeOf hTs ?_)
  first
    | rw [if_neg (by decide)]
    | refine PySem.W.KFB.if_not (by decide) ?_
  rw [listSliceParts_eq]
  refine wpAny_bind (wpAny_bind (wpAny_field hos hds (x := .none) rfl (wpAny_bind (wpAny_listPart .none ?_))))
  rw [if_neg hstep]
  refine wpAny_bind (wpAny_field hos hds (x := vl) rfl (wpAny_bind (wpAny_listPart pl ?_)))
  refine wpAny_bind (wpAny_field hos hds (x := vu) rfl (wpAny_bind (wpAny_listPart pu (wpAny_pure ?_))))
  first
    | simp only [hsame,Bool.false_eq_true,if_false]
    | refine PySem.W.KFB.if_not hsame ?_
    | (dsimp only
       rw [if_neg (by rw [hsame]; exact Bool.false_ne_true)])
  refine wpAny_bind (m := Builtin.List.listAllItems (.ref b) "must assign iterable to extended slice") ?_
  unfold Builtin.List.listAllItems
  refine wpAny_bind (wpAny_typeOf hb.typeIs ?_)
  first
    | refine PySem.W.KFB.if_so (by decide) ?_
    | rw [if_pos (by decide)]
    | simp only [beq_self_eq_true,Bool.true_or,if_true]
  unfold Builtin.List.listItems
  refine wpAny_bind (wpAny_seqItems e2 rfl (wpAny_pure ?_))
  refine wpAny_bind (wpAny_bind (wpAny_seqItems e rfl (wpAny_pure ?_)))
  refine wpAny_bind (wpAny_of_eq ((sliceIndices_raw (some (a : Int)) (some (c : Int)) none items.size (by simp)).trans (congrArg (pure : Int × Int × Int → Sem (Int × Int × Int)) (bounds_run hac hc))) ?_)
  show wpAny _ _ (if ((1 : Int) == 1) = true then _ else _) _ _ s
  rw [if_pos (by decide)]
  refine wpAny_bind (wpAny_rule ?_)
  first
    | simp only [notLongL hsz,Bool.false_eq_true,if_false]
    | refine PySem.W.KFB.if_not (notLongL hsz) ?_
  first | refine wpAny_bind (wpAny_pure ?_) | skip
  show wpAny _ _ (updateSeq l (fun xs => xs.extract 0 ((a : Int)).toNat ++ new ++ xs.extract (max (a : Int) (c : Int)).toNat xs.size) >>= _) _ _ s
  rw [hmax,Int.toNat_natCast]
  refine wpAny_bind (wpAny_updateSeq (hz := Nat.le_trans (Nat.le_add_right _ _) hsz) (_hz' := hz') e rfl ?_)
  refine wpAny_bind (wpAny_letGo ?_)
  first
    | exact wpAny_bind (wpAny_pure (wpAny_pure ⟨.none,rfl,wpAny_pure h⟩))
    | exact wpAny_pure ⟨.none,rfl,wpAny_pure h⟩
end
section
variable {X:Cx}
end
end L2
namespace Att
open PySem PySem.W PySem.Calls PyProof.Rows
theorem ints_of_wellAll {P:Params} {h:Heap}:∀ (ns:List Int) (vs:List Value),WellAll P h vs (ns.map WData.int) -> IntsAre vs ns:=by
 intro ns
 induction ns with
 | nil =>
  intro vs w
  rw [List.map_nil] at w
  cases w
  exact .nil
 | cons n ns ih =>
  intro vs w
  rw [List.map_cons] at w
  cases w with
  | cons a b =>
   cases a
   exact .cons _ _ (ih _ b)
theorem script_of {l:OpenLaw} {n:Nat} (hn:l.most = some n) {P:Params} {h:Heap} {args:List WData} {vals:List Value}
  (hpre:l.row.toRowW.claim.pre args = true) (hwl:WellAll P h vals args) :
  ∃ a vs ns, vals = [Value.ref a]∧args = [WData.list (ns.map WData.int)]∧h.get? a = some { cls:=.type "list", data:=.seq vs.toArray }∧IntsAre vs ns∧ns.length ≤ n:=by
 have hsh:WShape.hasAll [] args [.list .int] = true:=(pre_splitW hpre).1
 have hc:l.pre.holds [] { args:=args } = true:=(pre_splitW hpre).2
 obtain ⟨d,r,rfl,h1,h2⟩:=hasAllW_cons hsh
 obtain rfl:=hasAllW_nil h2
 obtain ⟨xs,rfl,h3⟩:=hasW_list h1
 obtain ⟨ns,rfl⟩:=items_int h3
 have hlen:ns.length ≤ n:=by
  unfold OpenLaw.pre at hc
  have h4:(WTm.not (.lt (.lit (.int (n:Int))) (.len (.arg 0)))).holds [] { args:=[.list (ns.map .int)] } = true:=by
   have h4:=(holds_andW hc).1
   rw [hn] at h4
   exact h4
  have h5:=condW_of h4 (w_not (w_lt w_lit (w_len_list (w_arg rfl))))
  rw [List.length_map] at h5
  refine Nat.le_of_not_lt fun q => ?_
  have q':(n:Int) < ((ns.length:Nat):Int):=by trivial
  first
   | (rw [decide_eq_true q'] at h5; exact absurd h5 (by decide))
   | (simp at h5; trivial)
 cases hwl with
 | cons w1 w2 =>
  cases w2
  cases w1 with
  | list ho hall => exact ⟨_,_,ns,rfl,rfl,ho,ints_of_wellAll ns _ hall,hlen⟩
theorem post_true (l:OpenLaw) (args:List WData):l.row.toRowW.claim.post args (.bool true) args = true :=
 postW_of (r:=l.row.toRowW) (X:=(true == true))
  (show WShape.has [] (.bool true) .bool = true by first | rfl | decide | simp [WShape.has,WShape.arms,WShape.armsAll])
  (show (WTm.eq .res (.lit (.bool true))).value [] { args:=args,res:=some (.bool true),after:=args } = some (.bool (true == true)) from w_eq_bool (w_res rfl) w_lit) rfl
theorem attach_call {l:OpenLaw} {n:Nat} {q:Program} {loose:List Str} {XP:(Str -> Option Value) -> Heap -> Prop} {YP:World -> Heap -> Prop} {d:DefRec}
  (hn:l.most = some n) (hdf:d.params.defaults = [])
  (call:∀ (w:World) (s₀ s₁:Shared) (mg mb:Str -> Option Value) (fa:Addr) (o:Obj) (pm cd doc:Value) (a:Addr) (vs:List Value) (ns:List Int),
   Ground q loose [] XP w s₀ mg mb s₁.heap -> YP w s₁.heap →
   s₁.heap.get? fa = some o -> o.data = .func (docDef d.name d.params d.body d.scope pm cd doc) -> s₁.heap.CodeRec cd d.name -> mg d.name = some (.ref fa) →
   s₁.heap.get? a = some { cls:=.type "list", data:=.seq vs.toArray } -> IntsAre vs ns -> ns.length ≤ n -> s₁.gens = #[] →
   codeAny (model l.prog w) callerA (.call (.ref fa) ⟨[.ref a],[]⟩) (fun r s' => r = .ok (.ret (.bool true))∧OldK s₁.heap s'.heap∧s'.os = s₁.os∧AllBare s'.gens) s₁) :
  WalkO q loose XP YP l.row.toRowW d [] (fun f vs => PySem.call f vs):=by
 intro w s₀ s₁ mg mb G Y fa o pm cd doc dV kV ho hd hcd hD hmg hg args vals as hpre hlay hrd hwl hlo
 obtain rfl:dV = .none:=Dflts.none hD hdf
 obtain rfl:kV = .none:=Dflts.noKw hD
 obtain ⟨a,vs,ns,rfl,rfl,hobj,hints,hlen⟩:=script_of hn hpre hwl
 refine enter_call (codeAny_mono (call w s₀ s₁ mg mb fa o pm cd doc a vs ns G Y ho (fd_plain hd) hcd hmg hobj hints hlen hg) fun r s' hq => ?_)
 obtain ⟨rfl,h2,h3,h4⟩:=hq
 exact ⟨.inl ⟨.bool true,.bool true,[],rfl,fun _ => rfl,.bool true,post_true l _,fun _ => ⟨List.Pairwise.nil,fun _ hm => (nomatch hm)⟩⟩,h2,h3,h4⟩
section
variable {prog:Program} {w:World} {A:Around} {E:Value -> Shared -> Prop} {s:Shared} {K:Frag}
end
end Att
namespace L2
open PySem PySem.Spec PyProof.Rows
theorem vals_ints:∀ {vs:List Value} {ns:List Int},IntsAre vs ns -> Vals (ns.map V.int) vs
 | _,_,.nil => .nil
 | _,_,.cons n t h => .cons ⟨t,rfl⟩ (vals_ints h)
noncomputable def Only (H:Hp):Prop:=∀ b,H b = none ∨ ∃ o xs,H b = some (.frz o (.lst xs))
theorem law_call {P:Program} {w:World} {K:PySem.W.Frag} {mg mb:Str -> Option Value} {CX:CXT} {k:Nat} {fa a:Addr} {fd:FuncData} {x:Str} {sp:Sp} {s₁:Shared} {vs:List Value} {ns:List Int}
  (KX:K.In s₁.heap) (hns:s₁.heap.Ns mainGlobals mg) (hb:s₁.heap.Ns builtinsNs mb) (hbb:∀ x:Str, x ≠ "__name__" -> mb x = bootBuiltins x) (hlim:s₁.heap.NoLimit) (hg:s₁.gens = #[])
  (ha:s₁.heap.get? a = some { cls:=.type "list", data:=.seq vs.toArray }) (hi:IntsAre vs ns) (hl:ns.length ≤ sizeLine) (hr:Room k callerA)
  (F:∀ base:Heap,K.In base -> base.Ns mainGlobals mg -> FnOk P w K mg base CX k fa fd [x] sp) (hbind:∀ (s:Shared) (u:Value),BindsTo s fd ⟨[u],[]⟩ [(x,u)])
  (hsp:∀ H:Hp,Only H -> SqL K H a (ns.map V.int) -> sp [.ref a] H (fun v _ => v = .bl true) fun _ _ _ => False)
  (hCX:∀ H e s',CX [] H s₁ (fun _ _ _ => False) e s' -> False) :
  codeAny (model P w) callerA (.call (.ref fa) ⟨[.ref a],[]⟩) (fun r s' => r = .ok (.ret (.bool true))∧OldK s₁.heap s'.heap∧s'.os = s₁.os∧AllBare s'.gens) s₁:=by
 have rv:=vals_ints hi
 have lenV:=hi.length
 -- from an abstract heap in which nothing but the script may be tracked
 have core:∀ H:Hp,Only H -> SqL K H a (ns.map V.int) -> HOk P w H s₁.heap -> (∀ b,H b ≠ none -> b = a) -> (H a ≠ none -> K.lookup a = none) →
   codeAny (model P w) callerA (.call (.ref fa) ⟨[.ref a],[]⟩) (fun r s' => r = .ok (.ret (.bool true))∧OldK s₁.heap s'.heap∧s'.os = s₁.os∧AllBare s'.gens) s₁:=by
  intro H hO hS hok hA hK
  have base_of:∀ {b:Addr} {o:Obj},s₁.heap.get? b = some o -> H b = none -> (hidT s₁.heap H).get? b = some o:=fun e n => hidT_get e n
  have noA:∀ {b:Addr} {o:Obj} {es:Array DictEntry} {ep:Nat},s₁.heap.get? b = some o -> o.data = .dict es ep -> H b = none:=fun {b o es ep} e d => by
   cases q:H b with
   | none => rfl
   | some u =>
    have e':b = a:=hA b (by rw [q]; simp)
    subst e'
    rw [ha] at e; cases e
    have d':Data.seq vs.toArray _ = Data.dict es ep:=d
    cases d'
  have nsK:∀ {b:Addr} {m:Str -> Option Value},s₁.heap.Ns b m -> (hidT s₁.heap H).Ns b m:=fun {b m} ⟨o,es,ep,e,d,r⟩ => ⟨o,es,ep,base_of e (noA e d),d,r⟩
  have hKb:K.In (hidT s₁.heap H):=fun b o e => base_of (KX b o e) (by
   cases q:H b with
   | none => rfl
   | some u =>
    have e':b = a:=hA b (by rw [q]; simp)
    subst e'
    rw [hK (by rw [q]; simp)] at e; cases e)
  have hM:Mod K mg (hidT s₁.heap H):=⟨hKb,nsK hns,⟨mb,nsK hb,hbb⟩,let ⟨mc,h1,h2⟩:=hlim; ⟨mc,nsK h1,h2⟩⟩
  have e0:Env0 P w K mg (hidT s₁.heap H) callerA [] s₁ H:=⟨rfl,hM,fun b o e => of_hidT e,Nat.le_of_eq (hidT_size _ _),trivial,fun b hb => absurd (show b ∈ ([]:List Addr) from hb) (by simp),hok,.of_eq hg⟩
  refine codeAny_mono ((F _ hKb (nsK hns)).run callerA [] s₁ H ⟨[.ref a],[]⟩ [.ref a] [.ref a] _ _ hr e0 (hbind s₁ (.ref a)) (.cons rfl .nil) (hsp H hO hS)) fun r s' h => ?_
  cases r with
  | error e => exact (hCX H e s' h).elim
  | ok fl =>
   cases fl with
   | next => exact False.elim h
   | brk => exact False.elim h
   | cont => exact False.elim h
   | ret u =>
    obtain ⟨v,H',os,bare,un,hok',r',q⟩:=h
    have q':v = .bl true:=q
    subst q'
    obtain rfl:u = Value.bool true:=r'
    refine ⟨rfl,OldK.of_keep fun b o e => ?_,os,bare⟩
    cases q:H b with
    | none => exact un.keep b o e q (by intro z; exact absurd (show b ∈ ([]:List Addr) from z) (by simp)) (by simp)
    | some u =>
     rcases hO b with z | ⟨ob,xs,z⟩
     ·rw [q] at z; cases z
     ·have z2:=un.frzs b ob _ z
      obtain ⟨e1,_⟩:=hok b _ z
      obtain ⟨e2,_⟩:=hok' b _ z2
      rw [e] at e1; cases e1
      exact e2
 cases hk:K.lookup a with
 | some o =>
  -- the script is one of the module's own objects
  have e:=KX a o hk
  rw [ha] at e
  cases e
  refine core (fun _ => none) (fun _ => .inl rfl) (.inr ⟨_,vs.toArray,_,hk,rfl,rfl,rfl,by rw [List.size_toArray,lenV]; exact hl,by simpa using rv⟩) (fun b u z => by have z':(none:Option HO) = some u:=z; cases z') (fun b z => absurd rfl z) fun z => absurd rfl z
 | none =>
  refine core (fun b => if b = a then some (.frz { cls:=.type "list", data:=.seq vs.toArray } (.lst (ns.map V.int))) else none) (fun b => ?_) (.inl (.inr ⟨{ cls:=.type "list", data:=.seq vs.toArray }, if_pos rfl⟩)) (fun b u z => ?_) (fun b z => ?_) fun _ => hk
  ·by_cases hb:b = a
   ·exact .inr ⟨_,_,if_pos hb⟩
   ·exact .inl (if_neg hb)
  ·by_cases hb:b = a
   ·have z':=(if_pos hb).symm.trans z
    cases z'
    subst hb
    exact ⟨ha,by rw [List.length_map]; exact hl,vs,_,rv,ha⟩
   ·have z':=(if_neg hb).symm.trans z
    cases z'
  ·by_cases hb:b = a
   ·exact hb
   ·exact absurd (if_neg hb) z
end L2
namespace L2
open PySem PySem.Spec PyProof.Rows
noncomputable abbrev KOf {K:PySem.W.Frag} {h:Heap} (_:K.In h):PySem.W.Frag:=K
theorem walk_of {l:PySem.W.OpenLaw} {n k:Nat} {q:Program} {loose:List Str} {XP:(Str -> Option Value) -> Heap -> Prop} {YP:World -> Heap -> Prop} {d:DefRec} {K:Params -> PySem.W.Frag} {CX:World -> CXT} {sp:World -> Sp} {x:Str}
  (hn:l.most = some n) (hn2:n ≤ sizeLine) (hdf:d.params.defaults = []) (hr:Room k callerA)
  (hY:∀ (w:World) (h:Heap),YP w h -> (K w.params).In h)
  (F:∀ (w:World) (mg:Str -> Option Value) (fa:Addr) (h:Heap),(K w.params).In h -> h.Ns mainGlobals mg -> mg d.name = some (.ref fa) →
   ∃ fd:FuncData,(∀ (s:Shared) (u:Value),BindsTo s fd ⟨[u],[]⟩ [(x,u)]) ∧
    ∀ base:Heap,(K w.params).In base -> base.Ns mainGlobals mg -> FnOk l.prog w (K w.params) mg base (CX w) k fa fd [x] (sp w))
  (hsp:∀ (w:World) (H:Hp) (a:Addr) (ns:List Int),ns.length ≤ n -> Only H -> SqL (K w.params) H a (ns.map V.int) -> sp w [.ref a] H (fun v _ => v = .bl true) fun _ _ _ => False)
  (hCX:∀ (w:World) (H:Hp) (s:Shared) (e:Value) (s':Shared),CX w [] H s (fun _ _ _ => False) e s' -> False) :
  PySem.W.WalkO q loose XP YP l.row.toRowW d [] (fun f vs => PySem.call f vs):=by
 refine Att.attach_call hn hdf fun w s₀ s₁ mg mb fa o pm cd doc a vs ns G Y ho hd hcd hmg hobj hints hlen hg => ?_
 have KX:=hY w _ Y
 obtain ⟨fd,hb,hF⟩:=F w mg fa _ KX G.T.g hmg
 exact law_call KX G.T.g G.T.b G.T.builtins G.T.nolimit hg hobj hints (Nat.le_trans hlen hn2) hr hF hb (fun H hO hS => hsp w H a ns hlen hO hS) fun H e s' => hCX w H s₁ e s'
end L2
namespace L2
open PySem PySem.Spec PyProof.Rows
noncomputable def defArgs (s:Stmt):Arguments:=match s with
 | .FunctionDef _ a _ _ _ _ _ _ _ _ => a
 | _ => { posonlyargs:=[],args:=[],vararg:=none,kwonlyargs:=[],kw_defaults:=[],kwarg:=none,defaults:=[] }
noncomputable def defBody (s:Stmt):List Stmt:=match s with
 | .FunctionDef _ _ b _ _ _ _ _ _ _ => b
 | _ => []
noncomputable def defScope (s:Stmt):Scope:=match s with
 | .FunctionDef _ _ _ _ _ _ sc _ _ _ => sc
 | _ => { kind:=.function,names:=[],isGenerator:=false,isCoroutine:=false }
noncomputable abbrev CX0:CXT:=fun _ _ _ _ _ _ => False
noncomputable abbrev E0:XK:=fun _ _ _ => False
structure Fun (K:PySem.W.Frag) (x qual:Str) (st:Stmt) (f:Addr) (fd:FuncData):Prop where
 ex:∃ (oc:Value) (od:Option Addr) (kV doc pm:Value) (an:Option Addr) (cdv ct:Value) (osl:Array (Option Value)),
  fd = PySem.W.fnOf x qual (defArgs st) (defBody st) (defScope st) .none kV doc pm an cdv ct∧K.lookup f = some ⟨oc,od,.func fd,osl⟩∧PySem.W.codeIn K cdv qual = true
 kp:PySem.W.keepIn K (.ref f) = true
section
variable {P:Program} {w:World} {K:PySem.W.Frag} {mg:Str -> Option Value} {base:Heap}
theorem Fun.ok {x qual:Str} {st:Stmt} {f:Addr} {fd:FuncData} {N ps:List Str} {k:Nat} {sp:Sp} (F:Fun K x qual st f fd) (S:FnScope N ps (defScope st)) (len:∀ vs H Q E,sp vs H Q E -> vs.length = ps.length)
  (hbody:∀ (cdv:Value) (A:Around) (outer:List Env) (s:Shared) (H:Hp) (vs:List V) (Q:VK) (E:XK),Room k (A.deeper (envOfC qual (defScope st) s.heap.objs.size f cdv)) -> sp vs H Q E →
   ∃ t,PSs (cxOf CX0 P w K mg base N qual (defScope st) f cdv A outer s H E).nox (defBody st) t∧t { nx:=fun _ H' => Q .non H',rt:=Q } (start N vs) H):FnOk P w K mg base CX0 (k + 1) f fd ps sp:=by
 obtain ⟨oc,od,kV,doc,pm,an,cdv,ct,osl,rfl,lk,hcd⟩:=F.ex
 refine fn_of lk hcd S len fun A outer s H vs Q E hr hsp => ?_
 obtain ⟨t,h,q⟩:=hbody cdv A outer s H vs Q E hr hsp
 exact ⟨t,h.nox,q⟩
theorem Fun.binds {x qual:Str} {st:Stmt} {f:Addr} {fd:FuncData} {ps:List Str} (F:Fun K x qual st f fd)
  (h:∀ (kV doc pm:Value) (an:Option Addr) (cdv ct:Value) (us:List Value),us.length = ps.length -> bindArgs (PySem.W.fnOf x qual (defArgs st) (defBody st) (defScope st) .none kV doc pm an cdv ct) ⟨us,[]⟩ = pure (ps.zip us)):Binds K fd ps []:=by
 obtain ⟨oc,od,kV,doc,pm,an,cdv,ct,osl,rfl,lk,hcd⟩:=F.ex
 exact .all (h kV doc pm an cdv ct)
theorem fun_mk {x qual:Str} {st:Stmt} {f:Addr} {oc:Value} {od an:Option Addr} {osl:Array (Option Value)} {kV doc pm cdv ct:Value} (l:K.lookup f = some ⟨oc,od,.func (PySem.W.fnOf x qual (defArgs st) (defBody st) (defScope st) .none kV doc pm an cdv ct),osl⟩)
  (c:PySem.W.codeIn K cdv qual = true) (k:PySem.W.keepIn K (.ref f) = true):Fun K x qual st f (PySem.W.fnOf x qual (defArgs st) (defBody st) (defScope st) .none kV doc pm an cdv ct):=⟨⟨oc,od,kV,doc,pm,an,cdv,ct,osl,rfl,l,c⟩,k⟩
end
theorem hu_of {A:Around} {k:Nat} (hr:Room k A):A.units + 1 < cLine:=Nat.lt_of_le_of_lt (Nat.add_le_add_left (by decide:1 ≤ 64) _) hr.units
section
variable {X:Cx}
theorem pv (i:Nat) {x:Str} {pos:Pos} (hN:X.N[i]? = some x:=by rfl) (hv:Vis X.env.scope x:=by first | exact Or.inl rfl | exact Or.inr (Or.inl rfl) | exact Or.inr (Or.inr rfl)) (hd:(x == ("__debug__":Str)) = false:=by decide)
  (hcd:(x == ("__classdict__":Str)) = false:=by decide):PE X (.Name x pos) (tVar i):=pe_var hN hv hd hcd
end
theorem iteF {A B:Prop} (h:B):if false = true then A else B:=by
 rw [if_neg Bool.false_ne_true]
 exact h
theorem iteT {A B:Prop} (h:A):if true = true then A else B:=by
 rw [if_pos rfl]
 exact h
theorem ite2 {c A B:Prop} [Decidable c] (h1:c -> A) (h2:¬ c -> B):if c then A else B:=by
 by_cases h:c
 ·rw [if_pos h]
  exact h1 h
 ·rw [if_neg h]
  exact h2 h
theorem iteNS {c A B:Prop} [Decidable c] (hc:c) (h:B):if (!decide c) = true then A else B:=by
 rw [decide_eq_true hc]
 exact iteF h
noncomputable def Same (H H':Hp):Prop:=∀ b o,H b = some o -> H' b = some o
theorem Same.refl (H:Hp):Same H H:=fun _ _ h => h
theorem Same.trans {H H1 H2:Hp} (a:Same H H1) (b:Same H1 H2):Same H H2:=fun c o h => b c o (a c o h)
theorem Same.free {H H':Hp} (e:Same H H') {l:Addr} (h:H' l = Option.none):H l = Option.none:=by
 cases q:H l with
 | none => rfl
 | some o =>
  rw [e l o q] at h
  cases h
theorem Same.seq {K:PySem.W.Frag} {H H':Hp} {a:Addr} {xs:List V} (e:Same H H') (h:SqL K H a xs):SqL K H' a xs:=by
 rcases h with (h | ⟨o,h⟩) | h
 ·exact .inl (.inl (e _ _ h))
 ·exact .inl (.inr ⟨o,e _ _ h⟩)
 ·exact .inr h
end L2
set_option Elab.async false
set_option linter.all false
set_option maxRecDepth 100000
namespace L2
open PySem PySem.Spec PyProof.Rows
noncomputable def clos (cells:List (Str × Addr)):List (Str × NameKind) -> List (Str × Addr) -> List (Str × Addr)
 | [],cs => cs
 | (n,k) :: r,cs => if (k == NameKind.free) = true then (match cells.lookup n with | some c => clos cells r ((n,c) :: cs) | none => clos cells r cs) else clos cells r cs
theorem clos_for {env:Env}:∀ (l:List (Str × NameKind)) (cs:List (Str × Addr)),(∀ x ∈ l,x.2 = .free -> ∃ c,env.cells.lookup x.1 = some c) →
  (forIn (m:=Sem) l cs fun x r => match x with
   | (name,kind) => if (kind == NameKind.free) = true then do let c ← cellOf env name; pure (ForInStep.yield ((name,c) :: r)) else pure (ForInStep.yield r)) = pure (clos env.cells l cs)
 | [],cs,_ => by rfl
 | (n,k) :: r,cs,h => by
  have ih:=fun cs => clos_for r cs fun x hx => h x (List.mem_cons_of_mem _ hx)
  rw [List.forIn_cons]
  unfold clos
  by_cases hk:(k == NameKind.free) = true
  ·obtain ⟨c,hc⟩:=h (n,k) List.mem_cons_self (by simpa using hk)
   have hc':env.cells.lookup n = some c:=hc
   simp only [hk,if_true,hc']
   have e:cellOf env n = pure c:=by unfold cellOf; rw [hc']
   rw [e]
   simp only [pure_bind]
   exact ih _
  ·have hk':(k == NameKind.free) = false:=by simpa using hk
   simp only [hk',Bool.false_eq_true,if_false,pure_bind]
   exact ih _
theorem clos_eq {scope:Scope} {env:Env} (h:∀ x ∈ scope.names,x.2 = .free -> ∃ c,env.cells.lookup x.1 = some c):closureFor scope env = pure (clos env.cells scope.names []):=by
 unfold closureFor
 have:=clos_for (env:=env) scope.names [] h
 simp only [this,pure_bind]
theorem clos_sub {cells:List (Str × Addr)} {x:Str} {c:Addr}:∀ (l:List (Str × NameKind)) (cs:List (Str × Addr)),(∀ y d,cs.lookup y = some d -> cells.lookup y = some d) -> (clos cells l cs).lookup x = some c -> cells.lookup x = some c
 | [],cs,h,e => h x c e
 | (n,k) :: r,cs,h,e => by
  unfold clos at e
  split at e
  ·split at e
   ·rename_i d hd
    refine clos_sub r _ (fun y z q => ?_) e
    rw [List.lookup_cons] at q
    split at q
    ·rename_i hy
     cases q
     rw [eq_of_beq hy]; exact hd
    ·exact h y z q
   ·exact clos_sub r cs h e
  ·exact clos_sub r cs h e
theorem clos_keep {cells:List (Str × Addr)} {x:Str}:∀ (l:List (Str × NameKind)) (cs:List (Str × Addr)),(∃ c,cs.lookup x = some c) -> ∃ c,(clos cells l cs).lookup x = some c
 | [],cs,h => h
 | (n,k) :: r,cs,h => by
  unfold clos
  split
  ·split
   ·refine clos_keep r _ ?_
    rw [List.lookup_cons]
    split
    ·exact ⟨_,rfl⟩
    ·exact h
   ·exact clos_keep r cs h
  ·exact clos_keep r cs h
theorem clos_has {cells:List (Str × Addr)} {x:Str}:∀ (l:List (Str × NameKind)) (cs:List (Str × Addr)),(x,NameKind.free) ∈ l -> (∃ c,cells.lookup x = some c) -> ∃ c,(clos cells l cs).lookup x = some c
 | [],_,h,_ => nomatch h
 | (n,k) :: r,cs,h,⟨c,hc⟩ => by
  unfold clos
  rcases List.mem_cons.mp h with e | h
  ·cases e
   rw [if_pos (by rfl),hc]
   refine clos_keep r _ ⟨c,?_⟩
   simp [List.lookup_cons]
  ·split
   ·split
    ·exact clos_has r _ h ⟨c,hc⟩
    ·exact clos_has r _ h ⟨c,hc⟩
   ·exact clos_has r _ h ⟨c,hc⟩
theorem relabel_free {env:Env}:∀ {names:List (Str × NameKind)} {x:Str},names.lookup x = some .free →
  (names.map fun (n,k) => if (k == NameKind.free && env.scope.kind == .function && env.kindOf n == some .cell) then (n,NameKind.cell) else (n,k)).lookup x = some .cell ∨
  (names.map fun (n,k) => if (k == NameKind.free && env.scope.kind == .function && env.kindOf n == some .cell) then (n,NameKind.cell) else (n,k)).lookup x = some .free
 | [],_,h => by simp at h
 | (n,k) :: r,x,h => by
  have ih:=@relabel_free env r x
  by_cases hc:(k == NameKind.free && env.scope.kind == .function && env.kindOf n == some .cell) = true
  ·simp only [List.map_cons,if_pos hc,List.lookup_cons]
   cases hx:x == n with
   | true => exact .inl rfl
   | false =>
    simp only [List.lookup_cons,hx] at h
    exact ih h
  ·simp only [List.map_cons,if_neg hc,List.lookup_cons]
   cases hx:x == n with
   | true =>
    simp only [List.lookup_cons,hx] at h
    cases h
    exact .inr rfl
   | false =>
    simp only [List.lookup_cons,hx] at h
    exact ih h
theorem relabel_back {env:Env}:∀ {names:List (Str × NameKind)} {x:Str},(∀ y ∈ names,y.2 ≠ .cell) →
  ((names.map fun (n,k) => if (k == NameKind.free && env.scope.kind == .function && env.kindOf n == some .cell) then (n,NameKind.cell) else (n,k)).lookup x = some .cell ∨
  (names.map fun (n,k) => if (k == NameKind.free && env.scope.kind == .function && env.kindOf n == some .cell) then (n,NameKind.cell) else (n,k)).lookup x = some .free) -> (x,NameKind.free) ∈ names
 | [],_,_,h => by simp at h
 | (n,k) :: r,x,hn,h => by
  have ih:=@relabel_back env r x fun y hy => hn y (List.mem_cons_of_mem _ hy)
  by_cases hc:(k == NameKind.free && env.scope.kind == .function && env.kindOf n == some .cell) = true
  ·simp only [List.map_cons,if_pos hc,List.lookup_cons] at h
   have hk:k = .free:=by
    simp only [Bool.and_eq_true] at hc
    exact eq_of_beq hc.1.1
   cases hx:x == n with
   | true => rw [eq_of_beq hx,hk]; exact List.mem_cons_self
   | false =>
    simp only [hx] at h
    exact List.mem_cons_of_mem _ (ih h)
  ·simp only [List.map_cons,if_neg hc,List.lookup_cons] at h
   cases hx:x == n with
   | true =>
    simp only [hx] at h
    rcases h with h | h
    ·have e:k = .cell:=Option.some.inj h
     exact absurd e (hn (n,k) List.mem_cons_self)
    ·have e:k = .free:=Option.some.inj h
     rw [eq_of_beq hx,e]; exact List.mem_cons_self
   | false =>
    simp only [hx] at h
    exact List.mem_cons_of_mem _ (ih h)
noncomputable def compCx (X:Cx) (N:List Str) (scope:Scope) (C:Addr) (s:Shared) (H:Hp) (fp:List Addr):Cx where
 prog:=X.prog
 w:=X.w
 K:=X.K
 mg:=X.mg
 base:=X.base
 A:=X.A
 N:=N
 s₀:=s
 H₀:=H
 env:=compEnvC scope (clos X.env.cells scope.names []) C X.env
 outer:=X.stack
 stack:=X.stack
 ex:=fp
 fn:=fun _ => false
 calm:=X.calm
 pn:=[]
 xe:=fun _ _ => False
structure CompScope (X:Cx) (N:List Str) (js:List (Option Nat)) (scope:Scope):Prop where
 kind:scope.kind = .function
 nocell:∀ y ∈ scope.names,y.2 ≠ .cell
 locs:∀ y ∈ scope.names,y.2 = .local -> scope.names.lookup y.1 = some .local
 free:∀ y ∈ scope.names,y.2 = .free -> X.env.kindOf y.1 = some .cell ∨ X.env.kindOf y.1 = some .free
 len:js.length = N.length
 js:∀ (i j:Nat) (x:Str),js[i]? = some (some j) -> N[i]? = some x -> X.N[j]? = some x∧scope.names.lookup x = some .free
noncomputable def innerSt (js:List (Option Nat)) (σ:St):St:=js.map fun j => (j.bind fun j => σ[j]?).join
section
variable {X:Cx} {pins:List (Addr × Obj)} {σ:St} {H:Hp} {s:Shared} {N:List Str} {js:List (Option Nat)} {scope:Scope} {fp:List Addr} {C D:Addr} {h₁:Heap} {m:Str -> Option Value} {tk:Nat}
theorem lookup_mem {α β:Type} [BEq α] [LawfulBEq α] {x:α} {y:β}:∀ {l:List (α × β)},l.lookup x = some y -> (x,y) ∈ l
 | [],h => by simp at h
 | (a,b) :: r,h => by
  rw [List.lookup_cons] at h
  split at h
  ·rename_i hx
   cases h
   rw [eq_of_beq hx]; exact List.mem_cons_self
  ·exact List.mem_cons_of_mem _ (lookup_mem h)
theorem inv_comp (S:CompScope X N js scope) (I:Inv X pins σ H s) (f2:∀ b ∈ fp,FpOk X pins H b) (hfp:∀ b ∈ fp,b < s.heap.objs.size) (keep:∀ b o,s.heap.get? b = some o -> h₁.get? b = some o)
  (hD0:s.heap.objs.size ≤ D) (hC0:s.heap.objs.size ≤ C) (hDC:D ≠ C) (hD:∃ n, h₁.get? D = some { cls:=.type "list", data:=.seq ([]:List Value).toArray n }) (hns:h₁.Ns C m) :
  Inv (compCx X N scope C s H fp) [] (innerSt js σ) (upd H D (.lst [])) { s with heap:=h₁,toks:=tk }:=by
 have hc:∀ x ∈ scope.names,x.2 = .free -> ∃ c,X.env.cells.lookup x.1 = some c:=fun x hx e => I.ok.has _ (S.free x hx e)
 have sub:∀ x c,(clos X.env.cells scope.names []).lookup x = some c -> X.env.cells.lookup x = some c:=fun x c e => clos_sub _ _ (fun _ _ z => by simp at z) e
 have clt:∀ x c,X.env.cells.lookup x = some c -> c < s.heap.objs.size:=fun x c e => by obtain ⟨v,q⟩:=I.cell x c e; exact q.lt
 have hasF:∀ x,(x,NameKind.free) ∈ scope.names -> ∃ c,(clos X.env.cells scope.names []).lookup x = some c:=fun x hx => clos_has _ _ hx (hc (x,.free) hx rfl)
 have fD:H D = none:=I.hok.fresh hD0
 have fC:H C = none:=I.hok.fresh hC0
 refine ⟨⟨I.ok.mod,S.kind,I.ok.glob,I.ok.blt,hC0,fun x y c h1 h2 => I.ok.inj x y c (sub _ _ h1) (sub _ _ h2),fun x hx => ?_,fun x c h _ => (Bool.noConfusion h),I.ok.hd,I.ok.frames,.inl rfl,fun b hb => ⟨?_,fun x c e => (f2 b hb).2.2.2.2.1 x c (sub _ _ e)⟩,I.bs,
   Nat.le_trans I.ok.bsz I.sz,fun b o e hb => ?_,fun b hb z => ?_,I.stack,I.stkFree⟩,
  rfl,I.bare,Un.laid keep hD0 fD,⟨m,hns,fun i x v h1 h2 h3 => ?_⟩,fun x c e => ?_,?_,fun x c e => ?_,fun p hp => absurd hp (by simp [compCx]),I.hok.laid keep hD0 ?_,?_⟩
 ·exact hasF x (relabel_back S.nocell hx)
 ·exact Nat.ne_of_lt (Nat.lt_of_lt_of_le (hfp b hb) hC0)
 ·rcases (f2 b hb).2.2.2.1 with q | q
  ·exact I.ok.noex b o e q
  ·exact absurd (Nat.lt_of_lt_of_le (Heap.lt_size e) (Nat.le_trans I.ok.bsz q)) (Nat.lt_irrefl _)
 ·rcases List.mem_cons.mp (I.stkSub b z) with q | q
  ·exact (f2 b hb).2.1 q
  ·exact (f2 b hb).2.2.1 q
 ·have h2':(js[i]?.map fun j => (j.bind fun j => σ[j]?).join) = some (some v):=by rw [← List.getElem?_map]; exact h2
  cases ej:js[i]? with
  | none => rw [ej] at h2'; cases h2'
  | some j =>
   rw [ej] at h2'
   cases j with
   | none => simp at h2'
   | some j =>
    have e2:σ[j]? = some (some v):=by
     simp only [Option.map_some,Option.bind_some,Option.some.injEq] at h2'
     cases q:σ[j]? with
     | none => rw [q] at h2'; simp at h2'
     | some z => rw [q] at h2'; simp at h2'; rw [h2']
    obtain ⟨n1,n2⟩:=S.js i j x ej h1
    have hx:=lookup_mem n2
    have hk:=S.free _ hx rfl
    obtain ⟨m0,_,hl⟩:=I.loc
    obtain ⟨u,r,l⟩:=hl j x v n1 e2 (hk.elim (fun z => .inr (.inl z)) fun z => .inr (.inr z))
    refine ⟨u,r,?_⟩
    rcases l with ⟨k,_⟩ | ⟨_,c,e,z⟩
    ·have k':X.env.kindOf x = some .local:=k
     rcases hk with q | q <;> (rw [show X.env.kindOf x = _ from q] at k'; cases k')
    ·obtain ⟨c',e'⟩:=hasF x hx
     have:=sub _ _ e'
     rw [e] at this; cases this
     exact .inr ⟨relabel_free n2,c,e',z.keeps keep⟩
 ·obtain ⟨v,q⟩:=I.cell x c (sub _ _ e)
  exact ⟨v,q.keeps keep⟩
 ·show upd H D _ C = none
  rw [upd_ne (Ne.symm hDC)]; exact fC
 ·show upd H D _ c = none
  have hlt:=clt x c (sub _ _ e)
  rw [upd_ne (Nat.ne_of_lt (Nat.lt_of_lt_of_le hlt hD0))]
  exact I.freeC x c (sub _ _ e)
 ·obtain ⟨n,hD⟩:=hD
  exact ⟨Nat.zero_le _,[],n,.nil,hD⟩
 ·show (innerSt js σ).length = N.length
  unfold innerSt
  rw [List.length_map,S.len]
end
noncomputable def PIfs (X:Cx) (ifs:List Expr) (t:TT):Prop :=
 ∀ (pins:List (Addr × Obj)) (s:Shared) (σ:St) (H:Hp) (Q:Bool -> Hp -> Prop),Inv X pins σ H s -> t σ H Q →
  wpAny (model X.prog X.w) X.A (forIn ifs true fun c r => if r = true then do let ok ← isTrue c X.env (eval c X.env); pure (ForInStep.yield ok) else pure (ForInStep.yield r)) (TP X pins σ Q) X.xe s
noncomputable def tTrue:TT:=fun _ H Q => Q true H
theorem pif_nil {X:Cx}:PIfs X [] tTrue:=fun _ _ _ H _ I h => wpAny_tests_nil ⟨H,I,h⟩
theorem pif_one {X:Cx} {c:Expr} {t:TT} (h:PT X c t):PIfs X [c] t:=fun pins s σ H Q I hw => wpAny_tests_one (h pins s σ H Q I hw)
theorem compLoop_gen {prog:Program} {w:World} {A:Around} {R:Result -> Shared -> Prop} {s:Shared} {elt target iter:Expr} {ifs:List Expr} {scope:Scope} {pos:Pos} {it acc:Value} {env:Env} (I:Nat -> Shared -> Prop)
  (turn:∀ n s,I n s -> wpAny (model prog w) A (pyNext it) (fun r s₁ => match r with
   | none => R (.ok .next) s₁
   | some v => wpAny (model prog w) A (letOwnedTupleGo target it v) (fun _ s₁' => wpAny (model prog w) A (assign target env v) (fun _ s₂ =>
     wpAny (model prog w) A (forIn ifs true fun c r => if r = true then do let ok ← isTrue c env (eval c env); pure (ForInStep.yield ok) else pure (ForInStep.yield r)) (fun ok s₃ =>
      if ok = true then wpAny (model prog w) A (eval elt env) (fun x s₄ =>
       wpAny (model prog w) A (call (.builtin "list.append") [acc, x]) (fun _ s₅ => ∃ m, m < n∧I m s₅) (fun _ _ => False) s₄) (fun _ _ => False) s₃
      else ∃ m,m < n∧I m s₃) (fun _ _ => False) s₂) (fun _ _ => False) s₁') (fun _ _ => False) s₁) (fun _ _ => False) s)
  (n:Nat) (h:I n s) :
  codeAny (model prog w) A (.compLoop (.ListComp elt [⟨target,iter,ifs,0⟩] scope pos) 0 it acc env) R s:=by
 refine codeAny_loop rfl I (fun n s hI => ?_) n h
 show wpAny _ A ((compTurn (.ListComp elt [⟨target,iter,ifs,0⟩] scope pos) 0 it acc env).onRaise (fun x => do noteFrame x env; theTreesLotGoes x)) _ _ s
 refine wpAny_noted ?_
 rw [compTurn_list]
 refine wpAny_bind (wpAny_standAt (wpAny_bind (wpAny_mono (turn n s hI) (fun r s₁ h₁ => ?_) fun _ _ h' => h'.elim)))
 cases r with
 | none => exact wpAny_pure h₁
 | some v =>
  refine wpAny_bind (wpAny_mono h₁ (fun _ s₁' h₁' => ?_) fun _ _ h' => h'.elim)
  refine wpAny_bind (wpAny_mono h₁' (fun _ s₂ h₂ => wpAny_bind (wpAny_mono h₂ (fun ok s₃ h₃ => ?_) fun _ _ h' => h'.elim)) fun _ _ h' => h'.elim)
  cases ok with
  | false => exact wpAny_pure ⟨rfl,h₃⟩
  | true =>
   exact wpAny_bind (wpAny_bind (wpAny_mono h₃ (fun x s₄ h₄ => wpAny_bind (wpAny_mono h₄ (fun _ s₅ h₅ => wpAny_pure (wpAny_pure ⟨rfl,h₅⟩)) fun _ _ h' => h'.elim)) fun _ _ h' => h'.elim))
noncomputable def tComp (js:List (Option Nat)) (wi:TI) (g:TG) (tc:TT) (te:TE):TE:=fun σ H Q =>
 wi σ H fun J H1 => ∀ D,H1 D = none -> ∃ W:Nat -> Nat -> St -> Hp -> Prop,(∃ m,W 0 m (innerSt js σ) (upd H1 D (.lst []))) ∧
  ∀ i m σ' H',W i m σ' H' -> (J.stop i H'∧Q (.ref D) H') ∨ (J.go i H'∧∀ x H2,J.yld i H' x H2 -> g x σ' H2 fun σ2 H3 => tc σ2 H3 fun b H4 =>
   if b = true then te σ2 H4 fun v H5 => rAppend (.ref D) [v] H5 fun _ H6 => ∃ m',m' < m∧W (i + 1) m' σ2 H6 else ∃ m',m' < m∧W (i + 1) m' σ2 H4)
theorem pe_comp {X:Cx} {elt tg iter:Expr} {ifs:List Expr} {scope:Scope} {pos:Pos} {N:List Str} {js:List (Option Nat)} {wi:TI} {g:TG} {tc:TT} {te:TE} (hcalm:X.calm = true) (S:CompScope X N js scope)
  (hi:PI X tg iter wi) (hg:∀ C s H fp,PG (compCx X N scope C s H fp) tg g) (ht:∀ C s H fp,PIfs (compCx X N scope C s H fp) ifs tc) (he:∀ C s H fp,PE (compCx X N scope C s H fp) elt te)
  (hs:∀ x,foldedSetIterable iter X.env x = pure x:=by intro _; rfl):PE X (.ListComp elt [⟨tg,iter,ifs,0⟩] scope pos) (tComp js wi g tc te):=by
 intro pins s σ H Q I h
 have hc:∀ x ∈ scope.names,x.2 = .free -> ∃ c,X.env.cells.lookup x.1 = some c:=fun x hx e => I.ok.has _ (S.free x hx e)
 rw [eval_ListComp]
 refine wpAny_comprehension_free (use:=none) rfl hs (clos_eq hc) S.kind S.locs (thn (hi pins s σ H _ I h) fun v s1 h1 => thn h1 fun itv s2 h2 => ?_)
 obtain ⟨it,fp,tn,J,H2,e,I2,T,st2,f2,q⟩:=h2
 subst e
 refine wpAny_newObj_type (wpAny_newFunctionEnv S.nocell (by intro y hy; simp at hy) (fun h₁ hns₁ hsb₁ => ?_) S.kind)
 dsimp only at hns₁ hsb₁ ⊢
 generalize hH2:s2.heap.push { cls:=.type "list", dict:=none, data:=.seq ([]:List Value).toArray } = G2 at hns₁ hsb₁ ⊢
 have hC:G2.objs.size = s2.heap.objs.size + 1:=by rw [← hH2,Heap.size_push]
 have hDC:s2.heap.objs.size ≠ G2.objs.size:=by rw [hC]; exact Nat.ne_of_lt (Nat.lt_succ_self _)
 have hC0:s2.heap.objs.size ≤ G2.objs.size:=by rw [hC]; exact Nat.le_succ _
 have below:∀ b,b < s2.heap.objs.size -> b ≠ G2.objs.size:=fun b hb => by rw [hC]; exact Nat.ne_of_lt (Nat.lt_succ_of_lt hb)
 have old:∀ b o,s2.heap.get? b = some o -> h₁.get? b = some o:=fun b o e => hsb₁.extBut b o (below b (Heap.lt_size e)) (Heap.get?_push_of_some _ (hH2 ▸ Heap.get?_push_of_some _ e))
 have hacc:h₁.get? s2.heap.objs.size = some { cls:=.type "list", data:=.seq ([]:List Value).toArray }:=hsb₁.extBut _ _ hDC (Heap.get?_push_of_some _ (hH2 ▸ Heap.get?_push_size _ rfl))
 have hfp:∀ b ∈ fp,b < s2.heap.objs.size:=fun b hb => by obtain ⟨o,e,_⟩:=T.obj 0 _ st2 b hb; exact Heap.lt_size e
 obtain ⟨W,⟨m0,w0⟩,turn⟩:=q s2.heap.objs.size (I2.hok.fresh (Nat.le_refl _))
 have stat:∀ {H':Hp},(∀ b ∈ fp,H' b = none) -> ∀ b ∈ fp,FpOk (compCx X N scope G2.objs.size s2 H2 fp) [] H' b:=fun {H'} hn b hb =>
  ⟨hn b hb,below b (hfp b hb),fun z => by
   rcases List.mem_cons.mp (I2.stkSub b z) with q | q
   ·exact (f2 b hb).2.1 q
   ·exact (f2 b hb).2.2.1 q,.inl hb,fun x c e => (f2 b hb).2.2.2.2.1 x c (clos_sub _ _ (fun _ _ z => by simp at z) e),fun p hp => absurd hp (by simp [compCx])⟩
 have loop:∀ s3:Shared,s3 = { s2 with heap:=h₁,toks:=s2.toks + ([]:List (Str × Value)).length } →
   codeAny (model X.prog X.w) X.A (.compLoop (.ListComp elt [⟨tg,iter,ifs,0⟩] scope pos) 0 (.ref it) (.ref s2.heap.objs.size) (compEnvC scope (clos X.env.cells scope.names []) G2.objs.size X.env))
    (compPost (model X.prog X.w) X.A X.xe none (EP X pins σ Q) (.ref s2.heap.objs.size) G2.objs.size) s3:=by
  rintro s3 rfl
  have I3:Inv (compCx X N scope G2.objs.size s2 H2 fp) [] (innerSt js σ) (upd H2 s2.heap.objs.size (.lst [])) { s2 with heap:=h₁,toks:=s2.toks + ([]:List (Str × Value)).length } :=
   inv_comp S I2 f2 hfp old (Nat.le_refl _) hC0 hDC ⟨_,hacc⟩ hns₁
  refine compLoop_gen (fun n s' => ∃ i σ' H',Inv (compCx X N scope G2.objs.size s2 H2 fp) [] σ' H' s'∧tn i s'.heap∧(∀ b ∈ fp,H' b = none)∧W i n σ' H') ?_ m0
   ⟨0,_,_,I3,T.keep 0 _ _ st2 fun b _ o e => old b o e,fun b hb => by rw [upd_ne (Nat.ne_of_lt (hfp b hb))]; exact (f2 b hb).1,w0⟩
  rintro n s4 ⟨i,σ4,H4,I4,st4,fr4,w4⟩
  rcases turn i n σ4 H4 w4 with ⟨stop,qn⟩ | ⟨go,step⟩
  ·refine thn (T.done (compCx X N scope G2.objs.size s2 H2 fp) rfl rfl rfl hcalm i [] s4 σ4 H4 (fun _ _ => False) I4 (stat fr4) st4 stop) fun r s5 ⟨hr,I5⟩ => ?_
   subst hr
   obtain ⟨m5,n5,_⟩:=I5.loc
   refine ⟨m5,n5,fun h' sb => ?_⟩
   have hos:s5.os = s2.os:=I5.os
   obtain ⟨hh,gg,dd,tt,os5⟩:=s5
   obtain rfl:os5 = s2.os:=hos
   have un:Un (frs X.stack) fp H2 H4 s2.heap h':=by
    have u:=I5.base
    have nC:∀ b o,s2.heap.get? b = some o -> b ≠ G2.objs.size:=fun b o e => below b (Heap.lt_size e)
    exact ⟨fun b o e n hf hx => sb.extBut b o (nC b o e) (u.keep b o e n hf hx),fun b o e n hf hx => by
      obtain ⟨sl,z⟩:=u.slot b o e n hf hx
      exact ⟨sl,sb.extBut b _ (nC b o e) z⟩,u.free,fun b o e hx => by
      obtain ⟨o',z⟩:=u.there b o e hx
      exact ⟨o',sb.extBut b _ (nC b o e) z⟩,u.tups,u.frzs,u.tbls⟩
   have hok:HOk X.prog X.w H4 h':=fun b ob e => (I5.hok b ob e).stay (fun c v hcv z => sb.extBut c v (fun q => by
    rcases hcv with hcv | hcv
    ·rw [← hcv,q] at e
     have:=I5.free
     have this':H4 G2.objs.size = none:=this
     rw [e] at this'; cases this'
    ·rw [q] at hcv
     have this':H4 G2.objs.size = none:=I5.free
     rw [hcv] at this'; cases this') z) (fun _ z => z) fun _ _ z => z
   have IE:=I2.call (h':=h') (g':=gg) (d':=dd) (t':=tt) (ch:=fp) un hok I5.bare fun b hb => ⟨(f2 b hb).2.2.2.1,(f2 b hb).2.1,(f2 b hb).2.2.2.2.1,(f2 b hb).2.2.2.2.2⟩
   exact ⟨.ref s2.heap.objs.size,H4,IE,rfl,qn⟩
  ·refine thn (T.item (compCx X N scope G2.objs.size s2 H2 fp) rfl rfl rfl hcalm i [] s4 σ4 H4 (fun _ _ => False) I4 (stat fr4) st4 go) fun r s5 ⟨u,hr,h5⟩ => ?_
   subst hr
   refine thn h5 fun _ s6 ⟨x,H6,I6,r6,y6,st6,fr6⟩ => ?_
   have I6':=I6.pinned (stat fr6) (T.obj _ _ st6)
   refine thn (hg _ _ _ _ _ s6 σ4 H6 x u _ I6' r6 (step x H6 y6)) fun _ s7 ⟨σ7,H7,I7,q7⟩ => ?_
   refine thn (ht _ _ _ _ _ s7 σ7 H7 _ I7 q7) fun b s8 ⟨H8,I8,q8⟩ => ?_
   have again:∀ {s9:Shared} {H9:Hp},Inv (compCx X N scope G2.objs.size s2 H2 fp) ([] ++ pinsAt fp s6.heap) σ7 H9 s9 -> (∃ m',m' < n∧W (i + 1) m' σ7 H9) -> ∃ m,m < n∧∃ i σ' H',Inv (compCx X N scope G2.objs.size s2 H2 fp) [] σ' H' s9∧tn i s9.heap∧(∀ b ∈ fp,H' b = none)∧W i m σ' H':=fun {s9 H9} I9 ⟨m',hm,w9⟩ => by
    refine ⟨m',hm,i + 1,σ7,H9,I9.unpinned,T.keep _ _ _ st6 fun b hb o e => (I9.pin (b,o) (List.mem_append_right _ (List.mem_append_right _ (mem_pinsAt hb e)))).1,fun b hb => ?_,w9⟩
    obtain ⟨o,e,d⟩:=T.obj _ _ st6 b hb
    exact (I9.pin (b,o) (List.mem_append_right _ (List.mem_append_right _ (mem_pinsAt hb e)))).2.1
   cases b with
   | false =>
    rw [if_neg Bool.false_ne_true] at q8 ⊢
    exact again I8 q8
   | true =>
    rw [if_pos rfl] at q8 ⊢
    refine thn (he _ _ _ _ _ s8 σ7 H8 _ I8 q8) fun xv s9 ⟨xx,H9,I9,r9,q9⟩ => ?_
    refine thn (mt_append _ s9 σ7 H9 (.ref s2.heap.objs.size) [xx] (.ref s2.heap.objs.size) [xv] _ I9 rfl (.cons r9 .nil) q9) fun _ s10 ⟨_,H10,I10,_,q10⟩ => ?_
    exact again I10 q10
 exact codeAny_compStart_list (loop _ rfl) (T.self _ _ _ _ _ (T.keep 0 _ _ st2 fun b _ o e => old b o e) (loop _ rfl))
end L2
set_option Elab.async false
set_option linter.all false
set_option maxRecDepth 100000
namespace L2
open PySem PySem.Spec PyProof.Rows
theorem ObjOk.obj {P:Program} {w:World} {H:Hp} {h:Heap} {a:Addr} {o:HO} (x:ObjOk P w H h a o):∃ ob,h.get? a = some ob:=by
 cases o with
 | lst xs => obtain ⟨_,_,_,_,e⟩:=x; exact ⟨_,e⟩
 | tup xs => obtain ⟨_,_,_,o,e,_⟩:=x; exact ⟨_,e⟩
 | dK kvs => obtain ⟨_,_,_,_,o,_,_,e,_⟩:=x; exact ⟨_,e⟩
 | dT kvs => obtain ⟨_,_,_,_,o,_,_,e,_⟩:=x; exact ⟨_,e⟩
 | set S n => obtain ⟨o,_,_,_,e,_⟩:=x; exact ⟨_,e⟩
 | ins C dx fs => obtain ⟨_,_,_,e,_⟩:=x; exact ⟨_,e⟩
 | own y => exact x
 | xd fs => obtain ⟨_,⟨_,_,_,e,_⟩,_⟩:=x; exact ⟨_,e⟩
 | rng lo hi => obtain ⟨_,_,_,e⟩:=x; exact ⟨_,e⟩
 | frz ob u => obtain ⟨e,_⟩:=x; exact ⟨_,e⟩
 | tbl ps => exact ⟨_,(show h.get? a = some _ from x)⟩
 | met f y => exact ⟨_,(show h.get? a = some _ from x)⟩
 | ext φ => obtain ⟨_,e,_⟩:=x; exact e
noncomputable def CXW (P:Program) (w:World):CXT:=fun outer H s E e s' => ∃ (a:Addr) (cls a0:Value) (H':Hp) (B:Heap),e = .ref a∧s'.os = s.os∧AllBare s'.gens∧Un (frs outer) [] H H' s.heap s'.heap∧HOk P w H' B ∧
 Heap.FlyingW B outer a cls a0 s'.heap∧(∀ b o,s.heap.get? b = some o -> H b = none -> b ∉ frs outer -> B.get? b = some o)∧(∀ b o,s.heap.get? b = some o -> b ∉ frs outer -> ∃ o',B.get? b = some o')∧E cls none H'
theorem passN {P:Program} {w:World} {X:Cx}:Passes (CXW P w) X E0:=fun _ _ _ _ _ _ _ h => by
 obtain ⟨_,_,_,_,_,_,_,_,_,_,_,_,_,hE⟩:=h
 exact hE.elim
theorem mem_frs {env:Env} {L b:Addr} {outer:List Env} (hf:env.frame = some L):b ∈ frs (env :: outer) ↔ b = L ∨ b ∈ frs outer:=by
 unfold frs
 rw [List.filterMap_cons,hf]
 exact List.mem_cons
section
variable {P:Program} {w:World} {K:PySem.W.Frag} {mg:Str -> Option Value} {base:Heap} {N:List Str} {qual:Str} {scope:Scope} {f:Addr} {cd:Value} {A:Around} {outer:List Env} {s:Shared} {H:Hp} {E:XK}
 {pins:List (Addr × Obj)} {σ:St} {H1:Hp} {s1:Shared}
theorem cxw_out (I:Inv (cxOf (CXW P w) P w K mg base N qual scope f cd A outer s H E) pins σ H1 s1) {a:Addr} {cls a0:Value} {H':Hp} {B:Heap} {s2:Shared}
  (hos:s2.os = s1.os) (hb:AllBare s2.gens) (hokB:HOk P w H' B) (hfl:Heap.FlyingW B outer a cls a0 s2.heap)
  (keepB:∀ b o,s1.heap.get? b = some o -> H1 b = none -> b ∉ frs (envOfC qual scope s.heap.objs.size f cd :: outer) -> B.get? b = some o)
  (thereB:∀ b o,s1.heap.get? b = some o -> b ∉ frs (envOfC qual scope s.heap.objs.size f cd :: outer) -> ∃ o',B.get? b = some o')
  (up:∀ b o,s1.heap.get? b = some o -> (∀ vs,o.data ≠ .fields vs) -> b ∈ frs outer -> H1 b = none -> ∃ sl,s2.heap.get? b = some { o with slots:=sl })
  (free1:∀ b o,s1.heap.get? b = some o -> H1 b = none -> H' b = none)
  (tups:∀ b xs,H1 b = some (.tup xs) -> H' b = some (.tup xs)) (frzs:∀ b o u,H1 b = some (.frz o u) -> H' b = some (.frz o u)) (tbls:∀ b ps,H1 b = some (.tbl ps) -> ∃ more,H' b = some (.tbl (ps ++ more)))
  (hE:E cls none H'):CXW P w outer H s E (.ref a) s2:=by
 have u:=I.base
 have notL:∀ b o,s.heap.get? b = some o -> b ∉ frs outer -> b ∉ frs (envOfC qual scope s.heap.objs.size f cd :: outer):=fun b o e nf z => by
  rcases (mem_frs (env:=envOfC qual scope s.heap.objs.size f cd) rfl).mp z with q | q
  ·rw [q] at e; exact absurd (Heap.lt_size e) (Nat.lt_irrefl _)
  ·exact nf q
 have inB:∀ b o,s.heap.get? b = some o -> H b = none -> b ∉ frs outer -> B.get? b = some o:=fun b o e n nf =>
  keepB b o (u.keep b o e n nf (by simp [cxOf])) (u.free b o e n (by simp [cxOf])) (notL b o e nf)
 have thB:∀ b o,s.heap.get? b = some o -> b ∉ frs outer -> ∃ o',B.get? b = some o':=fun b o e nf => by
  obtain ⟨o1,e1⟩:=u.there b o e (by simp [cxOf])
  exact thereB b o1 e1 (notL b o e nf)
 have sl:∀ b o,s.heap.get? b = some o -> H b = none -> b ∈ frs outer -> ∃ sl,s2.heap.get? b = some { o with slots:=sl }:=fun b o e n hb => by
  obtain ⟨sl1,e1⟩:=u.slot b o e n hb (by simp [cxOf])
  obtain ⟨_,o',e',nf⟩:=I.ok.funs.mem hb
  have e'':s.heap.get? b = some o':=e'
  rw [e] at e''; cases e''
  obtain ⟨sl2,e2⟩:=up b _ e1 nf hb (u.free b o e n (by simp [cxOf]))
  exact ⟨sl2,e2⟩
 refine ⟨a,cls,a0,H',B,rfl,hos.trans I.os,hb,⟨fun b o e n nf _ => hfl.1 b o (inB b o e n nf),fun b o e n hb _ => sl b o e n hb,fun b o e n _ => ?_,fun b o e _ => ?_,fun b xs e => tups b xs (u.tups b xs e),fun b o x e => frzs b o x (u.frzs b o x e),fun b ps e => ?_⟩,hokB,hfl,inB,thB,hE⟩
 ·obtain ⟨o1,e1⟩:=u.there b o e (by simp [cxOf])
  exact free1 b o1 e1 (u.free b o e n (by simp [cxOf]))
 ·by_cases hb:b ∈ frs outer
  ·obtain ⟨sl,q⟩:=sl b o e (I.ok.frf b hb) hb
   exact ⟨_,q⟩
  ·obtain ⟨o',q⟩:=thB b o e hb
   exact ⟨o',hfl.1 b o' q⟩
 ·obtain ⟨m1,e1⟩:=u.tbls b ps e
  obtain ⟨m2,e2⟩:=tbls b _ e1
  exact ⟨m1 ++ m2,by rw [e2,Array.append_assoc]⟩
theorem passW:Passes (CXW P w) (cxOf (CXW P w) P w K mg base N qual scope f cd A outer s H E) E:=by
 intro pins σ H1 s1 e s' I hx
 obtain ⟨a,cls,a0,H',B,rfl,hos,hb,un,hokB,hfl,keepB,thereB,hE⟩:=hx
 show wpAny _ _ (leaving _ (.ref a)) _ _ s'
 refine wpAny_leaves_onW (L:=s.heap.objs.size) I.ok.frames rfl hfl fun h'' hfl' hup => ?_
 refine cxw_out I (s2:={ s' with heap:=h'' }) hos hb hokB hfl' keepB thereB (fun b o e nf hb n => ?_) (fun b o e n => un.free b o e n (by simp)) un.tups un.frzs un.tbls hE
 obtain ⟨sl,e1⟩:=un.slot b o e n ((mem_frs (env:=envOfC qual scope s.heap.objs.size f cd) rfl).mpr (.inr hb)) (by simp)
 obtain ⟨sl2,e2⟩:=hup b _ e1 nf
 exact ⟨sl2,e2⟩
theorem madeW (I:Inv (cxOf (CXW P w) P w K mg base N qual scope f cd A outer s H E) pins σ H1 s1) {h':Heap} {a:Addr} {cls:Value} {vs:List Value} (hx:Heap.MadeExcOf s1.heap h' a cls vs) (hE:E cls none H1) :
  (cxOf (CXW P w) P w K mg base N qual scope f cd A outer s H E).xe (.ref a) { s1 with heap:=h' }:=by
 have hin:∀ env ∈ (envOfC qual scope s.heap.objs.size f cd :: outer),∀ b,env.frame = some b -> b ∈ frs (envOfC qual scope s.heap.objs.size f cd :: outer):=fun env he b hb => List.mem_filterMap.mpr ⟨env,he,hb⟩
 have stk:s1.heap.FunFrames base (envOfC qual scope s.heap.objs.size f cd :: outer):=I.stack
 have fr0:∀ b,b ∈ frs (envOfC qual scope s.heap.objs.size f cd :: outer) -> H1 b = none:=I.stkFree
 show wpAny _ _ (leaving _ (.ref a)) _ _ _
 refine wpAny_leaves_madeW (base:=PySem.W.hideAll s1.heap (frs (envOfC qual scope s.heap.objs.size f cd :: outer))) (h:=s1.heap) (L:=s.heap.objs.size) (s:={ s1 with heap:=h' }) I.ok.frames rfl (fun b o q => PySem.W.of_hideAll _ q) (PySem.W.funFrames_hide stk hin) hx fun h'' t x1 x2 x3 x4 => ?_
 have hg:∀ b o,s1.heap.get? b = some o -> b ∉ frs (envOfC qual scope s.heap.objs.size f cd :: outer) -> (PySem.W.hideAll s1.heap (frs (envOfC qual scope s.heap.objs.size f cd :: outer))).get? b = some o:=fun b o e nf => PySem.W.hideAll_get _ e nf
 refine cxw_out I (s2:={ s1 with heap:=h'' }) (H':=H1) rfl I.bare (fun b ob e => (I.hok b ob e).stay (fun c v hcv z => hg c v z fun q => ?_) (fun _ z => z) fun _ _ z => z) x1 (fun b o e _ nf => hg b o e nf) (fun b o e nf => ⟨o,hg b o e nf⟩) (fun b o e nf hb n => ?_) (fun _ _ _ n => n) (fun _ _ e => e) (fun _ _ _ e => e) (fun b ps e => ⟨#[],by rw [e]; simp⟩) hE
 ·have z:=fr0 c q
  rcases hcv with r | r
  ·rw [← r,z] at e; cases e
  ·rw [z] at r; cases r
 ·exact x4 b o (hx.keeps b o e) nf
theorem pown:PassesOwn (model (cxOf (CXW P w) P w K mg base N qual scope f cd A outer s H E).prog (cxOf (CXW P w) P w K mg base N qual scope f cd A outer s H E).w) (cxOf (CXW P w) P w K mg base N qual scope f cd A outer s H E).A
  (cxOf (CXW P w) P w K mg base N qual scope f cd A outer s H E).env (cxOf (CXW P w) P w K mg base N qual scope f cd A outer s H E).xe:=PassesOwn.leaving
end
theorem exc_obj {K:PySem.W.Frag} {h:Heap} {C:Addr} {bmB:List Value} {newId:String} (X:K.In h) (q:PySem.W.excIn K C bmB newId = true) :
  ∃ bm N nm qn bs hdct sn sub ab col dd k0 k1 k2 k3 k5 mN, h.get? C = some (excClassObj nm qn C N bs bm hdct sn sub ab col dd k0 k1 k2 k3 k5 newId)∧h.Ns N mN∧mN "__init__" = none∧OwnTail h bmB bm:=by
 unfold PySem.W.excIn at q
 split at q
 ·rename_i dd cd sl ho
  split at q
  ·rename_i C' bm k0 k1 k2 k3 n k5 hm hs
   simp only [Bool.and_eq_true,beq_iff_eq,Bool.not_eq_true'] at q
   obtain ⟨⟨⟨⟨⟨rfl,rfl⟩,hdel⟩,ht⟩,hok⟩,hni⟩:=q
   obtain ⟨nm,bs,mro,ns,qn,hd,sn,sub,ab,col,del⟩:=cd
   dsimp only at hm hdel hok hni
   subst hm hdel
   have hsl:sl = #[k0,k1,k2,k3,some (.builtin n),k5]:=by
    obtain ⟨l⟩:=sl
    simp only at hs
    rw [hs]
   subst hsl
   exact ⟨bm,ns,nm,qn,bs,hd,sn,sub,ab,col,dd,k0,k1,k2,k3,k5,_,X _ _ ho,.of_isNs (PySem.W.isNs_of_in X hok),PySem.W.nsMap_none_of_in X hok hni,PySem.W.tail_of_in X ht⟩
  ·cases q
 ·cases q
noncomputable def tRaise (E:XK) (C:Addr):TS:=fun _ _ H => E (.ref C) none H
theorem ps_raise {P:Program} {w:World} {K:PySem.W.Frag} {mg:Str -> Option Value} {base:Heap} {N:List Str} {qual:Str} {scope:Scope} {f:Addr} {cd:Value} {A:Around} {outer:List Env} {s:Shared} {H:Hp} {E:XK}
  {x msg:Str} {C:Addr} {B newId initId:String} {bmB:List Value} {np cpos pos p3:Pos} {j:Nat} (FB:ExcBaseFacts B newId initId bmB) (q:PySem.W.excIn K C bmB newId = true)
  (hm:mg x = some (.ref C)) (hg:Gl (cxOf (CXW P w) P w K mg base N qual scope f cd A outer s H E) x) (hd:(x == ("__debug__":Str)) = false:=by decide) :
  PS (cxOf (CXW P w) P w K mg base N qual scope f cd A outer s H E) (.Raise (some (.Call (.Name x np) [.Constant (.str msg) j p3] [] cpos)) none pos) (tRaise E C):=by
 intro pins s1 σ H1 D I h
 obtain ⟨bm,Nn,nm,qn,bs,hdct,sn,sub,ab,col,dd,k0,k1,k2,k3,k5,mN,hC,hN,hni,T⟩:=exc_obj I.ok.mod.kin q
 refine wpAny_Raise_call_subT (C:=C) (nm:=nm) (q:=qn) (N:=Nn) (bs:=bs) (bm:=bm) (hdct:=hdct) (sn:=sn) (sub:=sub) (ab:=ab) (col:=col) (dd:=dd) (k0:=k0) (k1:=k1) (k2:=k2) (k3:=k3) (k5:=k5)
  FB (mN:=mN) (T.hasType FB.hasBase) (I.ok.hd rfl) rfl hni (ld_glob I hg hm ⟨rfl,?_⟩ hd)
 have ha:PA (cxOf (CXW P w) P w K mg base N qual scope f cd A outer s H E) [.Constant (.str msg) j p3] (tCons (tC (.str msg)) tNil):=pa_cons pe_str pa_nil
 have hw:=ha cpos pins s1 σ H1 (fun vs H2 => vs.length = 1∧H2 = H1) I ⟨rfl,rfl⟩
 refine Calls.evalArgs_plain (thn hw fun us s2 ⟨vs,H2,I2,r,hl,e2⟩ => ?_)
 subst e2
 refine ⟨rfl,?_,I2.bk _ _ hC,hN.keeps I2.bk,T.keeps I2.bk,fun h' e hx => madeW I2 hx h⟩
 show us.length ≤ sizeLine
 rw [← r.length,hl]; decide
section
variable {P:Program} {w:World} {K:PySem.W.Frag} {mg:Str -> Option Value} {base:Heap}
theorem Fun.okX {x qual:Str} {st:Stmt} {f:Addr} {fd:FuncData} {N ps:List Str} {k:Nat} {sp:Sp} (F:Fun K x qual st f fd) (S:FnScope N ps (defScope st)) (len:∀ vs H Q E,sp vs H Q E -> vs.length = ps.length)
  (hbody:∀ (cdv:Value) (A:Around) (outer:List Env) (s:Shared) (H:Hp) (vs:List V) (Q:VK) (E:XK),Room k (A.deeper (envOfC qual (defScope st) s.heap.objs.size f cdv)) -> sp vs H Q E →
   ∃ t,PSs (cxOf (CXW P w) P w K mg base N qual (defScope st) f cdv A outer s H E) (defBody st) t∧t { nx:=fun _ H' => Q .non H',rt:=Q } (start N vs) H):FnOk P w K mg base (CXW P w) (k + 1) f fd ps sp:=by
 obtain ⟨oc,od,kV,doc,pm,an,cdv,ct,osl,rfl,lk,hcd⟩:=F.ex
 exact fn_of lk hcd S len fun A outer s H vs Q E hr hsp => hbody cdv A outer s H vs Q E hr hsp
theorem Fun.okN {x qual:Str} {st:Stmt} {f:Addr} {fd:FuncData} {N ps:List Str} {k:Nat} {sp:Sp} (F:Fun K x qual st f fd) (S:FnScope N ps (defScope st)) (len:∀ vs H Q E,sp vs H Q E -> vs.length = ps.length)
  (hbody:∀ (cdv:Value) (A:Around) (outer:List Env) (s:Shared) (H:Hp) (vs:List V) (Q:VK) (E:XK),Room k (A.deeper (envOfC qual (defScope st) s.heap.objs.size f cdv)) -> sp vs H Q E →
   ∃ t,PSs (cxOf (CXW P w) P w K mg base N qual (defScope st) f cdv A outer s H E).nox (defBody st) t∧t { nx:=fun _ H' => Q .non H',rt:=Q } (start N vs) H):FnOk P w K mg base (CXW P w) (k + 1) f fd ps sp :=
 F.okX S len fun cdv A outer s H vs Q E hr hsp => by
  obtain ⟨t,h,q⟩:=hbody cdv A outer s H vs Q E hr hsp
  exact ⟨t,h.nox,q⟩
end
end L2
set_option Elab.async false
set_option linter.all false
set_option maxRecDepth 100000
namespace L2
open PySem PySem.Spec PyProof.Rows PySem.W
structure ExcC (K:Frag) (C:Addr):Prop where
 ga:findIn K (.ref C) "__getattribute__" = some (some (.builtin "BaseException.__getattribute__"))
 gt:findIn K (.ref C) "__getattr__" = some none
 ca:findIn K (.ref C) "__class__" = some (some (.builtin "object.__class__"))
 ob:mroIn K C (.type "object") = some true
 be:mroIn K C (.type "BaseException") = some true
 ty:typeIn K (.ref C) = some (.type "type")
theorem ExcC.cls {K:Frag} {C:Addr} (T:ExcC K C):(clsIn K C).isSome = true:=by
 have h:=T.ob
 unfold mroIn at h
 cases e:clsIn K C with
 | none => rw [e] at h; cases h
 | some cd => rfl
noncomputable def ExcAt (a C:Addr) (h:Heap):Prop:=∃ o vs,h.get? a = some o∧o.cls = .ref C∧o.data = .fields vs
section
variable {prog:Program} {w:World} {A:Around} {E:Value -> Shared -> Prop} {h:Heap} {g:Array GenState} {d:Drawn} {t:Nat} {os:OsState} {a C:Addr} {o:Obj} {K:Frag}
theorem exc_class_get {R:Result -> Shared -> Prop} (X:K.In h) (T:ExcC K C) (hx:h.get? a = some o) (hc:o.cls = .ref C) (hq:R (.ok (.ret (.ref C))) ⟨h,g,d,t,os⟩) :
  codeAny (model prog w) A (.call (.builtin "getset_descriptor.__get__") ⟨[.builtin "object.__class__", .ref a, .ref C], []⟩) R ⟨h, g, d, t, os⟩:=by
 have hT5:(⟨h, g, d, t, os⟩:Shared).TypeIs (.builtin "object.__class__") "getset_descriptor":=F.typeOf_object_class
 have L1:=looks_mroIn (M:=model prog w) X T.ob
 refine codeAny_call_builtin F.slot_gs_get.plain F.entry_gs_get (F.slot_gs_get.check _ _ _ _ _ _ _ _ hT5 (F.args_gs_get _ _ _) ?_)
 repeat (any_goals (first | assumption | (with_reducible refine wpAny_loadPart_at hx ?_; rw [hc]) | (rw [F.owner_object_class]; with_reducible refine L1.at ?_) | wp_step))
 refine ⟨Code.quiet_builtin _ (by decide +kernel),codeAny_builtin F.entry_object_class ?_⟩
 repeat (any_goals (first | assumption | (with_reducible refine wpAny_loadPart_at hx ?_; rw [hc]) | wp_step))
theorem exc_class_entry {tk:Tok} {Q:Fin -> Shared -> Prop} (X:K.In h) (T:ExcC K C) (hx:h.get? a = some o) (hc:o.cls = .ref C) (hq:Q (.done (.ret (.ref C))) ⟨h,g,d,t,os⟩) :
  wpAny (model prog w) A (Builtin.«object.__getattribute__» ⟨[.ref a, .str "__class__" tk], []⟩) Q E ⟨h, g, d, t, os⟩:=by
 have hT5:(⟨h, g, d, t, os⟩:Shared).TypeIs (.builtin "object.__class__") "getset_descriptor":=F.typeOf_object_class
 have f5:=F.typeOf_object_class
 have f6:=F.slot_gs_get.lookup
 have f7:=F.slot_gs_set.lookup
 have L1:=looks_findIn (M:=model prog w) X T.ca
 repeat (any_goals (first | assumption | (with_reducible refine wpAny_loadPart_at hx ?_; rw [hc]) | with_reducible refine L1.at ?_ | wp_step))
 refine exc_class_get X T hx hc ?_
 repeat (any_goals (first | assumption | wp_step))
theorem exc_check_ga {M:Model} {nameV:Value} {Q:Unit -> Shared -> Prop} (X:K.In h) (T:ExcC K C) (hx:h.get? a = some o) (hc:o.cls = .ref C) (hq:Q () ⟨h,g,d,t,os⟩) :
  wpAny M A (checkBuiltinCall "BaseException.__getattribute__" ⟨[.ref a, nameV], []⟩) Q E ⟨h, g, d, t, os⟩:=by
 have hk:builtinKind "BaseException.__getattribute__" = some .slot:=by decide +kernel
 have hsplit:splitId "BaseException.__getattribute__" = some ("BaseException", "__getattribute__"):=by decide +kernel
 have ha:=F.args_bexc_ga (.ref a) nameV
 have L1:=looks_mroIn (M:=M) X T.be
 simp only [checkBuiltinCall,hk,hsplit]
 refine wpAny_bind ?_
 ·unfold isInstance
  repeat (first | (with_reducible refine wpAny_loadPart_at hx ?_; rw [hc]) | with_reducible refine L1.at ?_ | wp_step)
  exact hq
theorem exc_class_by {tk:Tok} {Q:Value -> Shared -> Prop} (X:K.In h) (T:ExcC K C) (hx:h.get? a = some o) (hc:o.cls = .ref C) (hq:Q (.ref C) ⟨h,g,d,t,os⟩) :
  wpAny (model prog w) A (getAttrBy (.ref a) (.str "__class__" tk) false) Q E ⟨h, g, d, t, os⟩:=by
 have FB:=PySem.F.attrBase_ValueError
 have f3:=FB.ga.bind (.ref a)
 have hx0:(false && onTheHeap (Value.builtin "BaseException.__getattribute__")) = false:=rfl
 have hx2:(Value.builtin "BaseException.__getattribute__" == Value.builtin "object.__getattribute__") = false:=by decide +kernel
 have hx1:(onTheHeap (Value.ref C) && Value.builtin "BaseException.__getattribute__" == Value.builtin "object.__getattribute__") = false:=by rw [hx2]; rfl
 have L1:=looks_findIn (M:=model prog w) X T.ga
 have L2:=looks_findIn (M:=model prog w) X T.gt
 repeat (any_goals (first | assumption | (with_reducible refine wpAny_loadPart_at hx ?_; rw [hc]) | with_reducible refine L1.at ?_ | with_reducible refine L2.at ?_ | wp_step))
 refine codeAny_call_builtin FB.ga.plain F.entry_bexc_ga (exc_check_ga X T hx hc (exc_class_entry X T hx hc ?_))
 repeat (any_goals (first | assumption | wp_step))
theorem exc_class_attr {Q:Option Value -> Shared -> Prop} (X:K.In h) (T:ExcC K C) (hx:h.get? a = some o) (hc:o.cls = .ref C) (hq:Q (some (.ref C)) ⟨h,g,d,t + 1,os⟩) :
  wpAny (model prog w) A (getAttr? (.ref a) "__class__") Q E ⟨h, g, d, t, os⟩:=by
 unfold getAttr? getAttrBy?
 repeat (any_goals (first | assumption | with_reducible apply exc_class_by X T hx hc | wp_step))
end
theorem kitx_exc {K:Frag} {a C:Addr} (T:ExcC K C):KitX K (.ref a) (.ref C) (ExcAt a C) where
 ty:=fun M h _ p => by
  obtain ⟨o,vs,h1,h2,_⟩:=p
  exact h2 ▸ (Looks.ld h1).andThen .now
 it:=fun _ _ X _ => by
  obtain ⟨cdD,hcD⟩:=Option.isSome_iff_exists.mp T.cls
  unfold clsIn at hcD
  split at hcD
  ·rename_i c' d' cd' sl' ho
   intro A' Q' E' s' k q
   unfold isType loadHead
   exact wpAny_bind (wpAny_loadPart (k _ _ (X _ _ ho)) (wpAny_pure q))
  ·cases hcD
 ne:=fun h tp dd its n sl X htp => by
  obtain ⟨cdD,hcD⟩:=Option.isSome_iff_exists.mp T.cls
  refine Bool.eq_false_iff.mpr fun q => ?_
  have e:C = tp:=Value.ref.inj (beq_iff_eq.mp q)
  subst e
  unfold clsIn at hcD
  split at hcD
  ·rename_i c' d' cd' sl' ho
   have z:=(X _ _ ho).symm.trans htp
   cases z
  ·cases hcD
 ca:=fun {_ _ _ _ _ s} X p k => by
  obtain ⟨o,vs,h1,h2,_⟩:=p
  obtain ⟨hh,g,d,t,os⟩:=s
  exact exc_class_attr X T h1 h2 k
noncomputable def excO (a C:Addr):HO:=.ext (ExcAt a C)
theorem excO_ok {P:Program} {w:World} {H:Hp} {h:Heap} {a C:Addr} (p:ExcAt a C h):ObjOk P w H h a (excO a C):=by
 refine ⟨p,?_,fun h1 h2 q k => ?_⟩
 ·obtain ⟨o,_,e,_⟩:=p; exact ⟨o,e⟩
 ·obtain ⟨o,vs,e,r⟩:=q; exact ⟨o,vs,k o e,r⟩
inductive TyX (K:Frag) (H:Hp):V -> Value -> Prop where
 | of {x:V} {t:Value} (h:TyOf K H x t):TyX K H x t
 | exc {a C:Addr} (T:ExcC K C) (e:H a = some (excO a C)):TyX K H (.ref a) (.ref C)
theorem isinst_x {X:Cx} {pins:List (Addr × Obj)} {σ:St} {H:Hp} {s:Shared} {A:Around} {E:Value -> Shared -> Prop} {Q:Value -> Shared -> Prop} {c:Value} {b:Bool} {x:V} {u t:Value} (I:Inv X pins σ H s) (rx:RelV x u) (ty:TyX X.K H x t)
  (e:kitOne X.K t c = some b) (h:∀ tk, Q (.bool b) { s with toks:=tk }):wpAny (model X.prog X.w) A (call (.builtin "isinstance") [u, c]) Q E s:=by
 cases ty with
 | of ty => exact isinst_ok I rx ty e h
 | @exc a C T ea =>
  cases (show u = Value.ref a from rx)
  obtain ⟨p,_,_⟩:=(show ObjOk X.prog X.w H s.heap a (excO a C) from I.hok a _ ea)
  exact kia_one (kitx_exc T) I.kIn p e (fun z => nomatch z) h
noncomputable def clsV:V -> Option Value
 | .ref a => some (.ref a)
 | .ty n => some (.type n)
 | _ => none
theorem clsV_rel {x:V} {c u:Value} (h:clsV x = some c) (r:RelV x u):u = c:=by
 cases x with
 | ref a => cases h; exact r
 | ty n => cases h; exact r
 | _ => cases h
noncomputable def rIsi (K:Frag):List V -> Hp -> VK -> Prop:=fun xs H Q => ∃ x t vc c b,xs = [x,vc]∧TyX K H x t∧clsV vc = some c∧kitOne K t c = some b∧Q (.bl b) H
theorem call_isi {X:Cx}:CallR X (.builtin "isinstance") (rIsi X.K):=by
 intro pins s σ H xs us Q I rv h
 obtain ⟨x,t,vc,c,b,rfl,ty,rc,e,q⟩:=h
 obtain ⟨u,v,rfl,r1,r2⟩:=rv.two
 rw [clsV_rel rc r2]
 exact isinst_x I r1 ty e fun tk => ⟨.bl b,H,I.tok _,rfl,q⟩
end L2
set_option Elab.async false
set_option linter.all false
set_option maxRecDepth 100000
namespace L2
open PySem PySem.Spec PyProof.Rows PySem.W
noncomputable def PassesAt (CX:CXT) (X:Cx) (E:XK) (pins:List (Addr × Obj)) (σ:St):Prop:=∀ (H:Hp) (s:Shared) (e:Value) (s':Shared),Inv X pins σ H s -> CX X.stack H s E e s' -> X.xe e s'
noncomputable def PEAt (X:Cx) (pins:List (Addr × Obj)) (σ:St) (e:Expr) (t:TE):Prop:=∀ (s:Shared) (H:Hp) (Q:VK),Inv X pins σ H s -> t σ H Q -> wpAny (model X.prog X.w) X.A (eval e X.env) (EP X pins σ Q) X.xe s
noncomputable def PSsAt (X:Cx) (pins:List (Addr × Obj)) (σ:St) (st:List Stmt) (t:TS):Prop:=∀ (s:Shared) (H:Hp) (D:Ends),Inv X pins σ H s -> t D σ H -> wpAny (model X.prog X.w) X.A (execs st X.env) (SP X pins D) X.xe s
section
variable {X:Cx} {CX:CXT} {k:Nat} {f:Addr} {fd:FuncData} {ps:List Str} {sp:Sp} {dvs:List V} {ds:List Value} {E:XK} {x:Str} {p pos:Pos} {e:Expr} {es:List Expr} {te:TE} {t:TA} {pins:List (Addr × Obj)} {σ:St} {ta tb:TS}
theorem pea_call (F:FnOk X.prog X.w X.K X.mg X.base CX k f fd ps sp) (hr:Room k X.A) (hg:Gl X x) (hm:X.mg x = some (.ref f)) (hk:PySem.W.keepIn X.K (.ref f) = true) (hb:Binds X.K fd ps ds) (hd:Vals dvs ds) (hx:PassesAt CX X E pins σ)
  (ha:PA X (e :: es) t) (hdb:(x == ("__debug__":Str)) = false:=by decide) (he:starEach (e :: es) X.env = (false, eval e X.env) :: starEach es X.env:=by rfl) (hpl:(backTo pos (starEach es X.env)).any (·.1) = false:=by rfl) :
  PEAt X pins σ (.Call (.Name x p) (e :: es) [] pos) (tCall sp dvs E t):=by
 intro s H Q I h
 refine wpAny_Call_Name_kw (ld_glob I hg hm ?_ hdb)
 refine PySem.W.callWith_K (h₀:=X.base) I.ok.mod.kin hk (thn (ha pos pins s σ H _ I h) fun us s1 ⟨vs,H1,I1,r,q⟩ => ⟨I1.kIn,?_⟩) he hpl
 have r2:Vals (vs ++ dvs) (us ++ ds):=r.append hd
 have hl:(us ++ ds).length = ps.length:=by rw [← r2.length]; exact F.len _ _ _ _ q
 refine wpAny_call (codeAny_mono (F.run X.A X.stack s1 H1 ⟨us,[]⟩ (us ++ ds) (vs ++ dvs) Q E hr I1.env0 (hb s1 us I1.kIn hl) r2 q) fun r s' hq => ?_)
 cases r with
 | error e => exact hx H1 s1 e s' I1 hq
 | ok fl =>
  cases fl with
  | ret u => exact I1.after hq
  | next => exact False.elim hq
  | brk => exact False.elim hq
  | cont => exact False.elim hq
theorem psa_set {i:Nat} {y:Str} {pos':Pos} (hN:X.N.Nodup) (hi:X.N[i]? = some y) (hy:Loc X.env.scope y) (he:PEAt X pins σ e te) (hs:swapsWith e (some (.Name y pos')) pos.line X.env = pure false:=by rfl) (hf:X.fn y = true ∨ X.env.scope.names.lookup y = some .local:=by first | exact .inl rfl | exact .inr rfl | assumption) :
  PSsAt X pins σ [.Assign [.Name y pos'] e pos] (tAsg te (gName i)):=by
 intro s H D I h
 refine wpAny_execs_cons (wpAny_Assign_Name (thn (he s H _ I h) fun v s1 ⟨z,H1,I1,r1,q1⟩ => ?_) hs)
 exact store_ok I1 hN hi hy r1 (fun s2 I2 => wpAny_execs_nil ⟨_,H1,I2,q1⟩) hf
end
theorem HOk.add {P:Program} {w:World} {H:Hp} {h:Heap} {a:Addr} {o:HO} (x:HOk P w H h) (hn:H a = none) (new:ObjOk P w (upd H a o) h a o):HOk P w (upd H a o) h:=fun b u e => by
 by_cases hb:b = a
 ·subst hb; rw [upd_same] at e; cases e; exact new
 ·rw [upd_ne hb] at e
  exact (x b u e).stay (fun c v _ q => q) (fun c q => by rw [upd_ne (ne_of_none q hn)]; exact q) fun c xs q => by rw [upd_ne (ne_of_none q hn)]; exact q
noncomputable abbrev hdCx (X:Cx) (a:Addr):Cx:={ X with A:=X.A.mark (some (.ref a)),calm:=false,xe:=fun _ _ => False }
theorem Inv.hd {X:Cx} {pins:List (Addr × Obj)} {σ:St} {H:Hp} {s:Shared} {a:Addr} (I:Inv X pins σ H s):Inv (hdCx X a) pins σ H s :=
 ⟨⟨I.ok.mod,I.ok.kind,I.ok.glob,I.ok.blt,I.ok.above,I.ok.inj,I.ok.has,I.ok.cab,fun z => Bool.noConfusion z,I.ok.frames,I.ok.stk,I.ok.exf,I.ok.bs,I.ok.bsz,I.ok.noex,I.ok.exfs,I.ok.funs,I.ok.frf⟩,I.os,I.bare,I.base,I.loc,I.cell,I.free,I.freeC,I.pin,I.hok,I.len⟩
theorem Inv.unhd {X:Cx} {pins:List (Addr × Obj)} {σ:St} {H:Hp} {s:Shared} {a:Addr} (hd:X.calm = true -> X.A.handled = none) (I:Inv (hdCx X a) pins σ H s):Inv X pins σ H s :=
 ⟨⟨I.ok.mod,I.ok.kind,I.ok.glob,I.ok.blt,I.ok.above,I.ok.inj,I.ok.has,I.ok.cab,hd,I.ok.frames,I.ok.stk,I.ok.exf,I.ok.bs,I.ok.bsz,I.ok.noex,I.ok.exfs,I.ok.funs,I.ok.frf⟩,I.os,I.bare,I.base,I.loc,I.cell,I.free,I.freeC,I.pin,I.hok,I.len⟩
theorem Inv.gone {X:Cx} {pins:List (Addr × Obj)} {σ:St} {H:Hp} {s:Shared} {n:Str} {i:Nat} {h':Heap} {v:Option Value} {m:Str -> Option Value} {t':Nat} (I:Inv X pins σ H s) (hN:X.N.Nodup) (hi:X.N[i]? = some n)
  (hl:∀ (j:Nat) (x:Str) (v:V),X.N[j]? = some x -> σ[j]? = some (some v) -> Vis X.env.scope x -> ∃ u,RelV v u∧Look X.env s.heap m x u)
  (hn:h'.Ns X.env.locals (fun x => if x = n then v else m x)) (hs:Heap.SameBut X.env.locals s.heap h'):Inv X pins (σ.set i none) H { s with heap:=h',toks:=t' }:=by
 have cne:=I.cne
 have hiσ:i < σ.length:=by rw [I.len]; exact (List.getElem?_eq_some_iff.mp hi).1
 obtain ⟨m0,⟨oL,es,ep,hoL,_⟩,_⟩:=I.loc
 have tracked:HOk X.prog X.w H h':=fun b ob e => by
  refine (I.hok b ob e).stay (fun c w' hc q => (hs.2 c ?_).trans q) (fun _ q => q) fun _ _ q => q
  rintro rfl
  have fr:=I.free
  rcases hc with rfl | hc
  ·rw [fr] at e; cases e
  ·rw [fr] at hc; cases hc
 refine ⟨I.ok,I.os,I.bare,⟨fun b o e n hb hx => ?_,fun b o e n hb hx => ?_,I.base.free,fun b o e hx => ?_,I.base.tups,I.base.frzs,I.base.tbls⟩,⟨_,hn,fun j y v' e1 e2 e3 => ?_⟩,fun y c e => ?_,I.free,I.freeC,fun p hp => ?_,tracked,by simpa using I.len⟩
 ·exact (hs.2 b (Nat.ne_of_lt (Nat.lt_of_lt_of_le (Heap.lt_size e) I.ok.above))).trans (I.base.keep b o e n hb hx)
 ·obtain ⟨sl,e1⟩:=I.base.slot b o e n hb hx
  exact ⟨sl,(hs.2 b (Nat.ne_of_lt (Nat.lt_of_lt_of_le (Heap.lt_size e) I.ok.above))).trans e1⟩
 ·obtain ⟨o',e1⟩:=I.base.there b o e hx
  exact ⟨o',(hs.2 b (Nat.ne_of_lt (Nat.lt_of_lt_of_le (Heap.lt_size e) I.ok.above))).trans e1⟩
 ·by_cases hj:j = i
  ·subst hj
   rw [List.getElem?_set_self hiσ] at e2
   cases e2
  ·rw [List.getElem?_set_ne (Ne.symm hj)] at e2
   obtain ⟨u',r',q⟩:=hl j y v' e1 e2 e3
   refine ⟨u',r',?_⟩
   rcases q with ⟨k,e⟩ | ⟨k,c,e,z⟩
   ·refine .inl ⟨k,?_⟩
    have:y ≠ n:=fun e => hj (nodup_ix hN e1 (e ▸ hi))
    simp [this,e]
   ·exact .inr ⟨k,c,e,z.sameBut hs (cne y c e)⟩
 ·obtain ⟨w',z⟩:=I.cell y c e
  exact ⟨w',z.sameBut hs (cne y c e)⟩
 ·obtain ⟨e,n,ne,nf,d⟩:=I.pin p hp
  exact ⟨(hs.2 p.1 ne).trans e,n,ne,nf,d⟩
theorem exc_isType {M:Model} {h:Heap} {Cp:Addr} {K:Frag} (X:K.In h) (Tp:ExcC K Cp):Looks M h (isType (.ref Cp)) true:=by
 obtain ⟨cdD,hcD⟩:=Option.isSome_iff_exists.mp Tp.cls
 unfold clsIn at hcD
 split at hcD
 ·rename_i c' d' cd' sl' ho
  intro A' Q' E' s' k q
  unfold isType loadHead
  exact wpAny_bind (wpAny_loadPart (k _ _ (X _ _ ho)) (wpAny_pure q))
 ·cases hcD
theorem exc_matches {M:Model} {A:Around} {E:Value -> Shared -> Prop} {h:Heap} {g:Array GenState} {d:Drawn} {t:Nat} {os:OsState} {a C Cp:Addr} {o:Obj} {K:Frag} {b:Bool} {Q:Bool -> Shared -> Prop} (X:K.In h) (Tp:ExcC K Cp) (hm:mroIn K C (.ref Cp) = some b)
  (hx:h.get? a = some o) (hc:o.cls = .ref C) (hq:Q b ⟨h,g,d,t,os⟩):wpAny M A (excMatches (.ref a) (.ref Cp)) Q E ⟨h,g,d,t,os⟩:=by
 have L1:=looks_typeIn (M:=M) X Tp.ty
 have L3:=looks_mroIn (M:=M) X Tp.be
 have L4:=looks_mroIn (M:=M) X hm
 have L5:Looks M h (isType (.ref Cp)) true:=exc_isType X Tp
 have f:=tc_notTuple
 unfold excMatches
 repeat (first | (with_reducible refine wpAny_loadPart_at hx ?_; rw [hc]) | with_reducible refine L1.at ?_ | with_reducible refine L3.at ?_ | with_reducible refine L4.at ?_ | with_reducible refine L5.at ?_ | wp_step)
 cases b <;> (wp_walk; exact hq)
noncomputable def tTry (K:Frag) (Cp:Addr) (i:Nat) (tb:XK -> TS) (th:TS):TS:=fun D σ H =>
 tb (fun cls _ H' => ∃ C,cls = .ref C∧ExcC K C∧mroIn K C (.ref Cp) = some true∧∀ a,H' a = none -> th { nx:=fun σ2 H2 => D.nx (σ2.set i none) H2,rt:=fun _ _ => False } (σ.set i (some (.ref a))) (upd H' a (excO a C))) D σ H
theorem ps_try {X:Cx} {body suite:List Stmt} {b₀:Stmt} {x n:Str} {np hpos pos:Pos} {Cp:Addr} {i:Nat} {tb:XK -> TS} {th:TS}
  (hstk:X.stack = X.env :: X.outer) (hfr:X.env.frame = some X.env.locals) (hN:X.N.Nodup) (hi:X.N[i]? = some n) (hl:X.env.kindOf n = some .local) (hg:Gl X x) (hm:X.mg x = some (.ref Cp)) (Tp:ExcC X.K Cp)
  (hb:∀ (pins:List (Addr × Obj)) (σ:St) (xe':Value -> Shared -> Prop) (E':XK),PassesAt (CXW X.prog X.w) (X.wish xe') E' pins σ -> PSsAt (X.wish xe') pins σ body (tb E'))
  (hh:∀ a, PSs (hdCx X a) (b₀ :: suite) th) (hd:(x == ("__debug__":Str)) = false:=by decide) :
  PS X (.Try body [.ExceptHandler (some (.Name x np)) (some n) (b₀ :: suite) hpos] [] [] pos) (tTry X.K Cp i tb th):=by
 intro pins s σ H D I h
 refine wpAny_Try_except (wpAny_mono (hb pins σ (fun e s₁ => wpAny (model X.prog X.w) X.A (noteFrame e X.env) (fun _ s₂ => wpAny (model X.prog X.w) X.A (setFlight e none) (fun _ s₃ =>
  wpAny (model X.prog X.w) X.A (handleBy e X.env [.ExceptHandler (some (.Name x np)) (some n) (b₀ :: suite) hpos]) (SP X pins D) X.xe s₃) X.xe s₂) X.xe s₁) _ ?pass s H D (I.wish _) h) (fun f s1 q => ?_) (fun e s1 q => q))
 case pass =>
  intro H1 s1 e s' I1 hx
  obtain ⟨a,cls,a0,H',B,rfl,hos,hbare,un,hokB,hfl,keepB,thereB,C,rfl,T,hmC,hth⟩:=hx
  have J:Inv X pins σ H1 s1:=I1.unwish
  have hfl0:Heap.FlyingW B (X.env :: X.outer) a (.ref C) a0 s'.heap:=by rw [← hstk]; exact hfl
  have hfrm:X.A.frames = some (X.env :: X.outer):=by rw [← hstk]; exact J.ok.frames
  have nBa:B.get? a = none:=hfl.2.1
  have nHa:H' a = none:=by
   cases q:H' a with
   | none => rfl
   | some u =>
    obtain ⟨ob,eb⟩:=(hokB a u q).obj
    rw [nBa] at eb; cases eb
  have frame_ne:∀ b,b ∈ frs X.stack -> b ≠ a:=fun b hb z => by
   obtain ⟨_,o,ho,nf⟩:=hfl.2.2.1.mem hb
   obtain ⟨oe,vs,_,_,_,he,_,hd',_⟩:=hfl.2.2.2
   rw [z,he] at ho; cases ho
   exact nf vs hd'
  have old_ne:∀ b o,s1.heap.get? b = some o -> b ≠ a:=fun b o e z => by
   by_cases hb:b ∈ frs X.stack
   ·exact frame_ne b hb z
   ·obtain ⟨o',e'⟩:=thereB b o e hb
    rw [z,nBa] at e'; cases e'
  -- the heap at any later station
  have station:∀ h5:Heap,Heap.FlyingW B (X.env :: X.outer) a (.ref C) a0 h5 -> s'.heap.UpToSlots h5 -> ∀ t5,Inv X pins σ (upd H' a (excO a C)) { s' with heap:=h5,toks:=t5 }:=fun h5 f5 up5 t5 => by
   have sl:∀ b o,s1.heap.get? b = some o -> H1 b = none -> b ∈ frs X.stack -> ∃ sl,h5.get? b = some { o with slots:=sl }:=fun b o e n hb => by
    obtain ⟨sl1,e1⟩:=un.slot b o e n hb (by simp)
    obtain ⟨_,o',e',nf⟩:=J.stack.mem hb
    rw [e] at e'; cases e'
    obtain ⟨sl2,e2⟩:=up5 b _ e1 nf
    exact ⟨sl2,e2⟩
   have un5:Un (frs X.stack) [] H1 (upd H' a (excO a C)) s1.heap h5:=⟨fun b o e n nf _ => f5.1 b o (keepB b o e n nf),fun b o e n hb _ => sl b o e n hb,fun b o e n _ => by rw [upd_ne (old_ne b o e)]; exact un.free b o e n (by simp),fun b o e _ => by
     by_cases hb:b ∈ frs X.stack
     ·obtain ⟨sl,q⟩:=sl b o e (J.stkFree b hb) hb
      exact ⟨_,q⟩
     ·obtain ⟨o',q⟩:=thereB b o e hb
      exact ⟨o',f5.1 b o' q⟩,fun b xs e => by
     have q:=un.tups b xs e
     rw [upd_ne (ne_of_none q nHa)]; exact q,fun b o x e => by
     have q:=un.frzs b o x e
     rw [upd_ne (ne_of_none q nHa)]; exact q,fun b ps e => by
     obtain ⟨m,q⟩:=un.tbls b ps e
     exact ⟨m,by rw [upd_ne (ne_of_none q nHa)]; exact q⟩⟩
   have at5:ExcAt a C h5:=by
    obtain ⟨oe,vs,_,_,_,he,hc,hd',_⟩:=f5.2.2.2
    exact ⟨oe,vs,he,hc.1,hd'⟩
   have hok5:HOk X.prog X.w (upd H' a (excO a C)) h5:=HOk.add (hokB.kept f5.1) nHa (excO_ok at5)
   obtain ⟨hh',gg,dd,tt,os'⟩:=s'
   obtain rfl:os' = s1.os:=hos
   have IE:=J.call (h':=h5) (g':=gg) (d':=dd) (t':=t5) (ch:=[]) un5 hok5 hbare (fun b z => absurd z (by simp))
   exact IE
  refine wpAny_looks_onW hfrm hfr hfl0 fun h4 held4 up4 => ?_
  refine wpAny_landsW held4 fun h5 f5 up5 => ?_
  have up5':=up4.trans up5
  have I5:=(station h5 f5 up5' s'.toks).hd (a:=a)
  have at5:ExcAt a C h5:=by
   obtain ⟨oe,vs,_,_,_,he,hc,hd',_⟩:=f5.2.2.2
   exact ⟨oe,vs,he,hc.1,hd'⟩
  refine wpAny_handleBy_cons (codeAny_handlers_test ?_) (by intro q; cases q)
  refine ld_glob (X:=hdCx X a) I5 hg hm ?_ hd
  obtain ⟨oe,vs,he,hc,_⟩:=at5
  refine exc_matches I5.kIn Tp hmC he hc ?_
  refine codeAny_handlers_suite_as ?_
  refine lands_againW f5 fun h6 f6 up6 => ?_
  have I6:=(station h6 f6 (up5'.trans up6) s'.toks).hd (a:=a)
  refine store_ok (X:=hdCx X a) I6 hN hi (.inl hl) (v:=.ref a) rfl (fun s7 I7 => ?_) (.inr hl)
  refine wpAny_mono (hh a pins s7 _ _ { nx:=fun σ2 H2 => D.nx (σ2.set i none) H2,rt:=fun _ _ => False } I7 (hth a nHa)) (fun f s8 q8 => ?_) fun _ _ z => z.elim
  cases f with
  | brk => obtain ⟨_,_,_,z⟩:=q8; exact z.elim
  | cont => obtain ⟨_,_,_,z⟩:=q8; exact z.elim
  | ret v => obtain ⟨_,_,_,_,_,z⟩:=q8; exact z.elim
  | next =>
   obtain ⟨σ8,H8,I8,q8⟩:=q8
   have J8:Inv X pins σ8 H8 s8:=I8.unhd J.ok.hd
   obtain ⟨m8,n8,l8⟩:=J8.loc
   refine wpAny_nameGoes_keeps hl n8 (by rw [J8.ok.kind]; rfl) fun h9 v n9 sb9 => ?_
   exact ⟨σ8.set i none,H8,J8.gone hN hi l8 n9 sb9,q8⟩
 ·have q':=q.unwish
  cases f with
  | next => exact wpAny_execs_nil q'
  | ret v => exact q'
  | brk => exact q'
  | cont => exact q'
end L2
set_option Elab.async false
set_option linter.all false
set_option maxRecDepth 100000
namespace L2
open PySem PySem.Spec PyProof.Rows PySem.W
inductive DV where
 | non | bl (b:Bool) | int (i:Int) | str (x:Str) | lst (xs:List DV) | tup (xs:List DV)
mutual
noncomputable def eqD:DV -> DV -> Bool
 | .non,.non => true
 | .bl a,.bl b => a == b
 | .bl a,.int b => (if a then 1 else 0) == b
 | .int a,.bl b => a == (if b then 1 else 0)
 | .int a,.int b => a == b
 | .str a,.str b => a == b
 | .lst a,.lst b => eqDs a b
 | .tup a,.tup b => eqDs a b
 | _,_ => false
noncomputable def eqDs:List DV -> List DV -> Bool
 | [],[] => true
 | a :: r,b :: t => eqD a b && eqDs r t
 | _,_ => false
end
mutual
noncomputable def ht:DV -> Nat
 | .lst xs => hts xs + 1
 | .tup xs => hts xs + 1
 | _ => 0
noncomputable def hts:List DV -> Nat
 | [] => 0
 | a :: r => max (ht a) (hts r)
end
theorem ht_lst (ds:List DV):ht (.lst ds) = hts ds + 1:=by unfold ht; rfl
theorem ht_tup (ds:List DV):ht (.tup ds) = hts ds + 1:=by unfold ht; rfl
mutual
inductive Deep (K:Frag) (H:Hp):V -> DV -> Prop where
 | non:Deep K H .non .non
 | bl (b:Bool):Deep K H (.bl b) (.bl b)
 | int (i:Int):Deep K H (.int i) (.int i)
 | str (x:Str):Deep K H (.str x) (.str x)
 | lst {a:Addr} {xs:List V} {ds:List DV} (h:SqL K H a xs) (t:Deeps K H xs ds):Deep K H (.ref a) (.lst ds)
 | tup {a:Addr} {xs:List V} {ds:List DV} (h:SqT K H a xs) (t:Deeps K H xs ds):Deep K H (.ref a) (.tup ds)
inductive Deeps (K:Frag) (H:Hp):List V -> List DV -> Prop where
 | nil:Deeps K H [] []
 | cons {x:V} {d:DV} {xs:List V} {ds:List DV} (h:Deep K H x d) (t:Deeps K H xs ds):Deeps K H (x :: xs) (d :: ds)
end
theorem Deeps.length {K:Frag} {H:Hp}:∀ {xs:List V} {ds:List DV},Deeps K H xs ds -> xs.length = ds.length
 | _,_,.nil => rfl
 | _,_,.cons _ t => by rw [List.length_cons,List.length_cons,Deeps.length t]
theorem Deeps.get {K:Frag} {H:Hp}:∀ {xs:List V} {ds:List DV} {i:Nat} {d:DV},Deeps K H xs ds -> ds[i]? = some d -> ∃ x,xs[i]? = some x∧Deep K H x d
 | _,_,_,_,.nil,e => by simp at e
 | _,_,0,_,.cons h _,e => by simp at e; subst e; exact ⟨_,rfl,h⟩
 | _,_,i + 1,d,.cons _ t,e => by
  obtain ⟨x,h1,h2⟩:=Deeps.get (i:=i) (d:=d) t (by simpa using e)
  exact ⟨x,by simpa using h1,h2⟩
theorem Deeps.ints {K:Frag} {H:Hp}:∀ ns:List Int,Deeps K H (ns.map V.int) (ns.map DV.int)
 | [] => .nil
 | n :: r => .cons (.int n) (Deeps.ints r)
theorem eqDs_len:∀ {a b:List DV},eqDs a b = true -> a.length = b.length
 | [],[],_ => rfl
 | a :: r,b :: t,h => by
  unfold eqDs at h
  rw [Bool.and_eq_true] at h
  rw [List.length_cons,List.length_cons,eqDs_len h.2]
 | [],_ :: _,h => by unfold eqDs at h; cases h
 | _ :: _,[],h => by unfold eqDs at h; cases h
noncomputable def eAt (ds es:List DV) (j:Nat):Bool:=match ds[j]?,es[j]? with
 | some d,some e => eqD d e
 | _,_ => true
theorem all_eAt:∀ (ds es:List DV),ds.length = es.length -> (List.range ds.length).all (eAt ds es) = eqDs ds es
 | [],[],_ => by unfold eqDs; rfl
 | d :: r,e :: t,h => by
  have ih:=all_eAt r t (by simpa using h)
  rw [List.length_cons,List.range_succ_eq_map,List.all_cons,List.all_map]
  unfold eqDs
  rw [← ih]
  congr 1
 | [],_ :: _,h => by cases h
 | _ :: _,[],h => by cases h
theorem all_eAt_min:∀ (ds es:List DV),((List.range (min ds.length es.length)).all (eAt ds es) && ds.length == es.length) = eqDs ds es:=fun ds es => by
 by_cases h:ds.length = es.length
 ·rw [h,Nat.min_self,← h,all_eAt ds es h]; simp
 ·have h1:(ds.length == es.length) = false:=by simpa using h
  rw [h1,Bool.and_false]
  cases q:eqDs ds es with
  | false => rfl
  | true => exact absurd (eqDs_len q) h
theorem hts_get:∀ {ds:List DV} {i:Nat} {d:DV},ds[i]? = some d -> ht d ≤ hts ds
 | [],_,_,e => by simp at e
 | a :: r,0,d,e => by simp at e; subst e; unfold hts; exact Nat.le_max_left _ _
 | a :: r,i + 1,d,e => by
  have:=hts_get (ds:=r) (i:=i) (d:=d) (by simpa using e)
  unfold hts; exact Nat.le_trans this (Nat.le_max_right _ _)
section
variable {X:Cx} {pins:List (Addr × Obj)} {σ:St} {H:Hp} {s:Shared}
theorem lt_ne {a:Addr} {xs ys:List V} (I:Inv X pins σ H s) (h1:SqL X.K H a xs) (h2:SqT X.K H a ys):False:=by
 obtain ⟨its,_,p,_⟩:=I.list h1
 obtain ⟨its2,_,q,_⟩:=I.tuple h2
 exact SeqAt.ne_of_list_tuple p.isList (show s.heap.IsTuple a its2.toArray from q) rfl
mutual
theorem Deep.inj (I:Inv X pins σ H s):∀ {d:DV} {x:V} {e:DV},Deep X.K H x d -> Deep X.K H x e -> d = e
 | .non,_,_,.non,h => by cases h; rfl
 | .bl b,_,_,.bl _,h => by cases h; rfl
 | .int b,_,_,.int _,h => by cases h; rfl
 | .str b,_,_,.str _,h => by cases h; rfl
 | .lst ds,_,_,.lst h t,h' => by
  cases h' with
  | lst h2 t2 =>
   have e:=I.list_inj h h2
   subst e
   rw [Deeps.inj I t t2]
  | tup h2 t2 => exact (lt_ne I h h2).elim
 | .tup ds,_,_,.tup h t,h' => by
  cases h' with
  | tup h2 t2 =>
   have e:=I.tuple_inj h h2
   subst e
   rw [Deeps.inj I t t2]
  | lst h2 t2 => exact (lt_ne I h2 h).elim
theorem Deeps.inj (I:Inv X pins σ H s):∀ {ds:List DV} {xs:List V} {es:List DV},Deeps X.K H xs ds -> Deeps X.K H xs es -> ds = es
 | [],_,_,.nil,h => by cases h; rfl
 | d :: ds,_,_,.cons h t,h' => by
  cases h' with
  | cons h2 t2 => rw [Deep.inj I h h2,Deeps.inj I t t2]
end
mutual
theorem eqD_refl:∀ d:DV,eqD d d = true
 | .non => by unfold eqD; rfl
 | .bl b => by unfold eqD; simp
 | .int b => by unfold eqD; simp
 | .str b => by unfold eqD; simp
 | .lst ds => by unfold eqD; exact eqDs_refl ds
 | .tup ds => by unfold eqD; exact eqDs_refl ds
theorem eqDs_refl:∀ ds:List DV,eqDs ds ds = true
 | [] => by unfold eqDs; rfl
 | d :: r => by unfold eqDs; rw [eqD_refl d,eqDs_refl r]; rfl
end
theorem items_eq {A:Around} {xs ys:List V} {us vs:List Value} {ds es:List DV} (rx:Vals xs us) (ry:Vals ys vs) (t1:Deeps X.K H xs ds) (t2:Deeps X.K H ys es)
  (ih:∀ d ∈ ds,∀ (e:DV) (x y:V) (u v:Value),Deep X.K H x d -> Deep X.K H y e -> RelV x u -> RelV y v -> SeqAt.EqAt A s u v (eqD d e)) (j:Nat) (h1:j < us.toArray.size) (h2:j < vs.toArray.size) :
  SeqAt.EqAt A s us.toArray[j] vs.toArray[j] (eAt ds es j):=by
 have l1:=rx.length
 have l2:=ry.length
 have m1:=t1.length
 have m2:=t2.length
 simp only [List.size_toArray] at h1 h2
 have g1:ds[j]? = some ds[j]:=List.getElem?_eq_getElem (by trivial)
 have g2:es[j]? = some es[j]:=List.getElem?_eq_getElem (by trivial)
 obtain ⟨x,ex,dx⟩:=t1.get g1
 obtain ⟨y,ey,dy⟩:=t2.get g2
 obtain ⟨u,eu,ru⟩:=rx.get ex
 obtain ⟨v,ev,rv⟩:=ry.get ey
 have e1:us.toArray[j] = u:=by
  rw [List.getElem_toArray]
  exact Option.some.inj ((List.getElem?_eq_getElem h1).symm.trans eu)
 have e2:vs.toArray[j] = v:=by
  rw [List.getElem_toArray]
  exact Option.some.inj ((List.getElem?_eq_getElem h2).symm.trans ev)
 have e3:eAt ds es j = eqD ds[j] es[j]:=by unfold eAt; rw [g1,g2]
 rw [e1,e2,e3]
 exact ih _ (List.getElem_mem _) _ x y u v dx dy ru rv
theorem rc_deep (I:Inv X pins σ H s) {A:Around} (d e:DV) (x y:V) (u v:Value) (hx:Deep X.K H x d) (hy:Deep X.K H y e) (rx:RelV x u) (ry:RelV y v) (hu:A.units < cLine)
  (ih:∀ (d':DV),ht d' < ht d -> ∀ (e:DV) (x y:V) (u v:Value),Deep X.K H x d' -> Deep X.K H y e -> RelV x u -> RelV y v -> SeqAt.EqAt A.in1 s u v (eqD d' e)):SeqAt.RcAt A s u v (eqD d e):=by
 have hlt:∀ {ds:List DV} {d':DV},d' ∈ ds -> ht d' < hts ds + 1:=fun {ds d'} hm => by
  obtain ⟨i,hi,e⟩:=List.getElem_of_mem hm
  exact Nat.lt_succ_of_le (hts_get (i:=i) (by rw [List.getElem?_eq_getElem hi,e]))
 cases hx with
 | non =>
  cases (show u = Value.none from rx)
  cases hy with
  | non => cases (show v = Value.none from ry); unfold eqD; exact SeqAt.RcAt.none_none
  | bl b => cases (show v = Value.bool b from ry); unfold eqD; exact SeqAt.RcAt.none_bool b
  | int b => obtain ⟨t,rfl⟩:=ry; unfold eqD; exact SeqAt.RcAt.none_int b t
  | str b => obtain ⟨t,rfl⟩:=ry; unfold eqD; exact SeqAt.RcAt.none_str b t
  | lst h t => cases ry; obtain ⟨its,r,p,_⟩:=I.list h; unfold eqD; exact SeqAt.RcAt.none_list p.isList hu
  | tup h t => cases ry; obtain ⟨its,r,p,_⟩:=I.tuple h; unfold eqD; exact SeqAt.RcAt.none_tuple (show s.heap.IsTuple _ its.toArray from p) hu
 | bl a =>
  cases (show u = Value.bool a from rx)
  cases hy with
  | non => cases (show v = Value.none from ry); unfold eqD; exact SeqAt.RcAt.bool_none a
  | bl b => cases (show v = Value.bool b from ry); unfold eqD; exact SeqAt.RcAt.bool_bool a b
  | int b => obtain ⟨t,rfl⟩:=ry; unfold eqD; exact SeqAt.RcAt.bool_int a b t
  | str b => obtain ⟨t,rfl⟩:=ry; unfold eqD; exact SeqAt.RcAt.bool_str a b t
  | lst h t => cases ry; obtain ⟨its,r,p,_⟩:=I.list h; unfold eqD; exact SeqAt.RcAt.bool_list a p.isList hu
  | tup h t => cases ry; obtain ⟨its,r,p,_⟩:=I.tuple h; unfold eqD; exact SeqAt.RcAt.bool_tuple a (show s.heap.IsTuple _ its.toArray from p) hu
 | int a =>
  obtain ⟨t',rfl⟩:=rx
  cases hy with
  | non => cases (show v = Value.none from ry); unfold eqD; exact SeqAt.RcAt.int_none a t'
  | bl b => cases (show v = Value.bool b from ry); unfold eqD; exact SeqAt.RcAt.int_bool a t' b
  | int b => obtain ⟨t,rfl⟩:=ry; unfold eqD; exact SeqAt.RcAt.int_int a t' b t
  | str b => obtain ⟨t,rfl⟩:=ry; unfold eqD; exact SeqAt.RcAt.int_str a t' b t
  | lst h t => cases ry; obtain ⟨its,r,p,_⟩:=I.list h; unfold eqD; exact SeqAt.RcAt.int_list a t' p.isList hu
  | tup h t => cases ry; obtain ⟨its,r,p,_⟩:=I.tuple h; unfold eqD; exact SeqAt.RcAt.int_tuple a t' (show s.heap.IsTuple _ its.toArray from p) hu
 | str a =>
  obtain ⟨t',rfl⟩:=rx
  cases hy with
  | non => cases (show v = Value.none from ry); unfold eqD; exact SeqAt.RcAt.str_none a t'
  | bl b => cases (show v = Value.bool b from ry); unfold eqD; exact SeqAt.RcAt.str_bool a t' b
  | int b => obtain ⟨t,rfl⟩:=ry; unfold eqD; exact SeqAt.RcAt.str_int a t' b t
  | str b => obtain ⟨t,rfl⟩:=ry; unfold eqD; exact SeqAt.RcAt.str_str a t' b t
  | lst h t => cases ry; obtain ⟨its,r,p,_⟩:=I.list h; unfold eqD; exact SeqAt.RcAt.str_list a t' p.isList hu
  | tup h t => cases ry; obtain ⟨its,r,p,_⟩:=I.tuple h; unfold eqD; exact SeqAt.RcAt.str_tuple a t' (show s.heap.IsTuple _ its.toArray from p) hu
 | @lst a xs ds h t1 =>
  cases rx
  obtain ⟨its,r,p,_⟩:=I.list h
  cases hy with
  | non => cases (show v = Value.none from ry); unfold eqD; exact SeqAt.RcAt.list_none p.isList hu
  | bl b => cases (show v = Value.bool b from ry); unfold eqD; exact SeqAt.RcAt.list_bool b p.isList hu
  | int b => obtain ⟨t,rfl⟩:=ry; unfold eqD; exact SeqAt.RcAt.list_int b t p.isList hu
  | str b => obtain ⟨t,rfl⟩:=ry; unfold eqD; exact SeqAt.RcAt.list_str b t p.isList hu
  | @lst b ys es h2 t2 =>
   cases ry
   obtain ⟨its2,r2,p2,_⟩:=I.list h2
   have l1:=r.length
   have l2:=r2.length
   have m1:=t1.length
   have m2:=t2.length
   have it:=items_eq (A:=A.in1) r r2 t1 t2 fun d' hd' e x y u v a b c d => ih d' (by rw [ht_lst]; exact hlt hd') e x y u v a b c d
   unfold eqD
   by_cases hl:ds.length = es.length
   ·have q:=SeqAt.RcAt.lists (e:=eAt ds es) p.isList p2.isList (by simp only [List.size_toArray]; trivial) hu it
    rw [← all_eAt ds es hl]
    have e1:its.toArray.size = ds.length:=by simp only [List.size_toArray]; trivial
    rw [e1] at q
    exact q
   ·have q:=SeqAt.RcAt.lists_lengths (A:=A) p.isList p2.isList (by simp only [List.size_toArray,bne_iff_ne]; trivial) hu
    cases z:eqDs ds es with
    | false => exact q
    | true => exact absurd (eqDs_len z) hl
  | @tup b ys es h2 t2 =>
   cases ry
   obtain ⟨its2,r2,p2,_⟩:=I.tuple h2
   unfold eqD
   exact SeqAt.RcAt.list_tuple p.isList (show s.heap.IsTuple b its2.toArray from p2) hu
 | @tup a xs ds h t1 =>
  cases rx
  obtain ⟨its,r,p,_⟩:=I.tuple h
  have p':s.heap.IsTuple a its.toArray:=p
  cases hy with
  | non => cases (show v = Value.none from ry); unfold eqD; exact SeqAt.RcAt.tuple_none p' hu
  | bl b => cases (show v = Value.bool b from ry); unfold eqD; exact SeqAt.RcAt.tuple_bool b p' hu
  | int b => obtain ⟨t,rfl⟩:=ry; unfold eqD; exact SeqAt.RcAt.tuple_int b t p' hu
  | str b => obtain ⟨t,rfl⟩:=ry; unfold eqD; exact SeqAt.RcAt.tuple_str b t p' hu
  | @lst b ys es h2 t2 =>
   cases ry
   obtain ⟨its2,r2,p2,_⟩:=I.list h2
   unfold eqD
   exact SeqAt.RcAt.tuple_list p' p2.isList hu
  | @tup b ys es h2 t2 =>
   cases ry
   obtain ⟨its2,r2,p2,_⟩:=I.tuple h2
   have p2':s.heap.IsTuple b its2.toArray:=p2
   have l1:=r.length
   have l2:=r2.length
   have m1:=t1.length
   have m2:=t2.length
   have it:=items_eq (A:=A.in1) r r2 t1 t2 fun d' hd' e x y u v a b c d => ih d' (by rw [ht_tup]; exact hlt hd') e x y u v a b c d
   unfold eqD
   have q:=SeqAt.RcAt.tuples (e:=eAt ds es) p' p2' hu it
   have e1:its.toArray.size = ds.length:=by simp only [List.size_toArray]; trivial
   have e2:its2.toArray.size = es.length:=by simp only [List.size_toArray]; trivial
   rw [e1,e2,all_eAt_min] at q
   exact q
theorem eq_deep (I:Inv X pins σ H s):∀ (n:Nat) {A:Around} (d:DV),ht d ≤ n -> A.units + n < cLine -> ∀ (e:DV) (x y:V) (u v:Value),Deep X.K H x d -> Deep X.K H y e -> RelV x u -> RelV y v -> SeqAt.EqAt A s u v (eqD d e):=by
 intro n
 induction n with
 | zero =>
  intro A d hd hu e x y u v hx hy rx ry
  have rc:=rc_deep I (A:=A) d e x y u v hx hy rx ry (by trivial) (fun d' h => absurd h (by trivial))
  exact eq_of_rc I hx hy rx ry rc
 | succ n ihn =>
  intro A d hd hu e x y u v hx hy rx ry
  have rc:=rc_deep I (A:=A) d e x y u v hx hy rx ry (by trivial) (fun d' h => ihn (A:=A.in1) d' (by trivial) (by rw [Around.in1_units]; trivial))
  exact eq_of_rc I hx hy rx ry rc
where
 eq_of_rc (I:Inv X pins σ H s) {A:Around} {d e:DV} {x y:V} {u v:Value} (hx:Deep X.K H x d) (hy:Deep X.K H y e) (rx:RelV x u) (ry:RelV y v) (rc:SeqAt.RcAt A s u v (eqD d e)):SeqAt.EqAt A s u v (eqD d e):=by
  intro prog w E Q hq
  unfold eqBool
  refine wpAny_holding ?_
  refine wpAny_ite_split (fun hab => ?_) (fun hab => ?_)
  ·have e1:x = y:=by
    have e0:=eq_of_beq hab
    rw [e0] at rx
    exact rx.inj ry
   subst e1
   have e2:=Deep.inj I hx hy
   subst e2
   rw [eqD_refl] at hq
   exact wpAny_bind (wpAny_rule (wpAny_pure hq))
  ·cases hx <;> cases hy <;> first
    | (cases rx; cases ry; exact wpAny_bind (rc prog w E _ (wpAny_truthy_bool hq)))
    | (obtain ⟨t,rfl⟩:=rx; cases ry; exact wpAny_bind (rc prog w E _ (wpAny_truthy_bool hq)))
    | (cases rx; obtain ⟨t,rfl⟩:=ry; exact wpAny_bind (rc prog w E _ (wpAny_truthy_bool hq)))
    | (obtain ⟨t,rfl⟩:=rx; obtain ⟨t',rfl⟩:=ry; exact wpAny_bind (rc prog w E _ (wpAny_truthy_bool hq)))
theorem rcne_deep (I:Inv X pins σ H s) {A:Around} (d e:DV) (x y:V) (u v:Value) (hx:Deep X.K H x d) (hy:Deep X.K H y e) (rx:RelV x u) (ry:RelV y v) (hu:A.units < cLine)
  (ih:∀ (d':DV),ht d' < ht d -> ∀ (e:DV) (x y:V) (u v:Value),Deep X.K H x d' -> Deep X.K H y e -> RelV x u -> RelV y v -> SeqAt.EqAt A.in1 s u v (eqD d' e)):SeqAt.RcNeAt A s u v (!eqD d e):=by
 have hlt:∀ {ds:List DV} {d':DV},d' ∈ ds -> ht d' < hts ds + 1:=fun {ds d'} hm => by
  obtain ⟨i,hi,e⟩:=List.getElem_of_mem hm
  exact Nat.lt_succ_of_le (hts_get (i:=i) (by rw [List.getElem?_eq_getElem hi,e]))
 cases hx with
 | non =>
  cases (show u = Value.none from rx)
  cases hy with
  | non => cases (show v = Value.none from ry); unfold eqD; exact SeqAt.RcNeAt.none_none
  | bl b => cases (show v = Value.bool b from ry); unfold eqD; exact SeqAt.RcNeAt.none_bool b
  | int b => obtain ⟨t,rfl⟩:=ry; unfold eqD; exact SeqAt.RcNeAt.none_int b t
  | str b => obtain ⟨t,rfl⟩:=ry; unfold eqD; exact SeqAt.RcNeAt.none_str b t
  | lst h t => cases ry; obtain ⟨its,r,p,_⟩:=I.list h; unfold eqD; exact SeqAt.RcNeAt.none_list p.isList hu
  | tup h t => cases ry; obtain ⟨its,r,p,_⟩:=I.tuple h; unfold eqD; exact SeqAt.RcNeAt.none_tuple (show s.heap.IsTuple _ its.toArray from p) hu
 | bl a =>
  cases (show u = Value.bool a from rx)
  cases hy with
  | non => cases (show v = Value.none from ry); unfold eqD; exact SeqAt.RcNeAt.bool_none a
  | bl b => cases (show v = Value.bool b from ry); unfold eqD; exact SeqAt.RcNeAt.bool_bool a b
  | int b => obtain ⟨t,rfl⟩:=ry; unfold eqD; exact SeqAt.RcNeAt.bool_int a b t
  | str b => obtain ⟨t,rfl⟩:=ry; unfold eqD; exact SeqAt.RcNeAt.bool_str a b t
  | lst h t => cases ry; obtain ⟨its,r,p,_⟩:=I.list h; unfold eqD; exact SeqAt.RcNeAt.bool_list a p.isList hu
  | tup h t => cases ry; obtain ⟨its,r,p,_⟩:=I.tuple h; unfold eqD; exact SeqAt.RcNeAt.bool_tuple a (show s.heap.IsTuple _ its.toArray from p) hu
 | int a =>
  obtain ⟨t',rfl⟩:=rx
  cases hy with
  | non => cases (show v = Value.none from ry); unfold eqD; exact SeqAt.RcNeAt.int_none a t'
  | bl b => cases (show v = Value.bool b from ry); unfold eqD; exact SeqAt.RcNeAt.int_bool a t' b
  | int b => obtain ⟨t,rfl⟩:=ry; unfold eqD; exact SeqAt.RcNeAt.int_int a t' b t
  | str b => obtain ⟨t,rfl⟩:=ry; unfold eqD; exact SeqAt.RcNeAt.int_str a t' b t
  | lst h t => cases ry; obtain ⟨its,r,p,_⟩:=I.list h; unfold eqD; exact SeqAt.RcNeAt.int_list a t' p.isList hu
  | tup h t => cases ry; obtain ⟨its,r,p,_⟩:=I.tuple h; unfold eqD; exact SeqAt.RcNeAt.int_tuple a t' (show s.heap.IsTuple _ its.toArray from p) hu
 | str a =>
  obtain ⟨t',rfl⟩:=rx
  cases hy with
  | non => cases (show v = Value.none from ry); unfold eqD; exact SeqAt.RcNeAt.str_none a t'
  | bl b => cases (show v = Value.bool b from ry); unfold eqD; exact SeqAt.RcNeAt.str_bool a t' b
  | int b => obtain ⟨t,rfl⟩:=ry; unfold eqD; exact SeqAt.RcNeAt.str_int a t' b t
  | str b => obtain ⟨t,rfl⟩:=ry; unfold eqD; exact SeqAt.RcNeAt.str_str a t' b t
  | lst h t => cases ry; obtain ⟨its,r,p,_⟩:=I.list h; unfold eqD; exact SeqAt.RcNeAt.str_list a t' p.isList hu
  | tup h t => cases ry; obtain ⟨its,r,p,_⟩:=I.tuple h; unfold eqD; exact SeqAt.RcNeAt.str_tuple a t' (show s.heap.IsTuple _ its.toArray from p) hu
 | @lst a xs ds h t1 =>
  cases rx
  obtain ⟨its,r,p,_⟩:=I.list h
  cases hy with
  | non => cases (show v = Value.none from ry); unfold eqD; exact SeqAt.RcNeAt.list_none p.isList hu
  | bl b => cases (show v = Value.bool b from ry); unfold eqD; exact SeqAt.RcNeAt.list_bool b p.isList hu
  | int b => obtain ⟨t,rfl⟩:=ry; unfold eqD; exact SeqAt.RcNeAt.list_int b t p.isList hu
  | str b => obtain ⟨t,rfl⟩:=ry; unfold eqD; exact SeqAt.RcNeAt.list_str b t p.isList hu
  | @lst b ys es h2 t2 =>
   cases ry
   obtain ⟨its2,r2,p2,_⟩:=I.list h2
   have l1:=r.length
   have l2:=r2.length
   have m1:=t1.length
   have m2:=t2.length
   have it:=items_eq (A:=A.in1) r r2 t1 t2 fun d' hd' e x y u v a b c d => ih d' (by rw [ht_lst]; exact hlt hd') e x y u v a b c d
   unfold eqD
   by_cases hl:ds.length = es.length
   ·have q:=SeqAt.RcNeAt.lists (e:=eAt ds es) p.isList p2.isList (by simp only [List.size_toArray]; trivial) hu it
    rw [← all_eAt ds es hl]
    have e1:its.toArray.size = ds.length:=by simp only [List.size_toArray]; trivial
    rw [e1] at q
    exact q
   ·have q:=SeqAt.RcNeAt.lists_lengths (A:=A) p.isList p2.isList (by simp only [List.size_toArray,bne_iff_ne]; trivial) hu
    cases z:eqDs ds es with
    | false => exact q
    | true => exact absurd (eqDs_len z) hl
  | @tup b ys es h2 t2 =>
   cases ry
   obtain ⟨its2,r2,p2,_⟩:=I.tuple h2
   unfold eqD
   exact SeqAt.RcNeAt.list_tuple p.isList (show s.heap.IsTuple b its2.toArray from p2) hu
 | @tup a xs ds h t1 =>
  cases rx
  obtain ⟨its,r,p,_⟩:=I.tuple h
  have p':s.heap.IsTuple a its.toArray:=p
  cases hy with
  | non => cases (show v = Value.none from ry); unfold eqD; exact SeqAt.RcNeAt.tuple_none p' hu
  | bl b => cases (show v = Value.bool b from ry); unfold eqD; exact SeqAt.RcNeAt.tuple_bool b p' hu
  | int b => obtain ⟨t,rfl⟩:=ry; unfold eqD; exact SeqAt.RcNeAt.tuple_int b t p' hu
  | str b => obtain ⟨t,rfl⟩:=ry; unfold eqD; exact SeqAt.RcNeAt.tuple_str b t p' hu
  | @lst b ys es h2 t2 =>
   cases ry
   obtain ⟨its2,r2,p2,_⟩:=I.list h2
   unfold eqD
   exact SeqAt.RcNeAt.tuple_list p' p2.isList hu
  | @tup b ys es h2 t2 =>
   cases ry
   obtain ⟨its2,r2,p2,_⟩:=I.tuple h2
   have p2':s.heap.IsTuple b its2.toArray:=p2
   have l1:=r.length
   have l2:=r2.length
   have m1:=t1.length
   have m2:=t2.length
   have it:=items_eq (A:=A.in1) r r2 t1 t2 fun d' hd' e x y u v a b c d => ih d' (by rw [ht_tup]; exact hlt hd') e x y u v a b c d
   unfold eqD
   have q:=SeqAt.RcNeAt.tuples (e:=eAt ds es) p' p2' hu it
   have e1:its.toArray.size = ds.length:=by simp only [List.size_toArray]; trivial
   have e2:its2.toArray.size = es.length:=by simp only [List.size_toArray]; trivial
   rw [e1,e2,all_eAt_min] at q
   exact q
end
noncomputable def rEqD (K:Frag):R2:=fun x y H Q => ∃ d e,Deep K H x d∧Deep K H y e∧ht d ≤ 60∧Q (.bl (eqD d e)) H
theorem op_eqD {X:Cx} (hu:X.A.units + 64 < cLine):OpR X (compareOp .Eq) (rEqD X.K):=by
 intro pins s σ H x y v u Q I rx ry h
 obtain ⟨d,e,hx,hy,hh,q⟩:=h
 have rc:=rc_deep I (A:=X.A) d e x y v u hx hy rx ry (by trivial) (fun d' h => eq_deep I 60 d' (by trivial) (by rw [Around.in1_units]; trivial))
 exact rc X.prog X.w X.xe _ ⟨.bl _,H,I,rfl,q⟩
noncomputable def rNeD (K:Frag):R2:=fun x y H Q => ∃ d e,Deep K H x d∧Deep K H y e∧ht d ≤ 60∧Q (.bl (!eqD d e)) H
theorem op_neD {X:Cx} (hu:X.A.units + 64 < cLine):OpR X (compareOp .NotEq) (rNeD X.K):=by
 intro pins s σ H x y v u Q I rx ry h
 obtain ⟨d,e,hx,hy,hh,q⟩:=h
 have rc:=rcne_deep I (A:=X.A) d e x y v u hx hy rx ry (by trivial) (fun d' h => eq_deep I 60 d' (by trivial) (by rw [Around.in1_units]; trivial))
 exact rc X.prog X.w X.xe _ ⟨.bl _,H,I,rfl,q⟩
end L2
set_option Elab.async false
set_option linter.all false
set_option maxRecDepth 100000
namespace L2
open PySem PySem.Spec PyProof.Rows PySem.W
noncomputable def compOk (osc:Scope) (XN N:List Str) (js:List (Option Nat)) (scope:Scope):Bool :=
 scope.names.all (fun y => !(y.2 == NameKind.cell)) && scope.names.all (fun y => !(y.2 == NameKind.local) || scope.names.lookup y.1 == some .local) &&
 scope.names.all (fun y => !(y.2 == NameKind.free) || osc.names.lookup y.1 == some .cell || osc.names.lookup y.1 == some .free) && js.length == N.length &&
 (js.zip N).all (fun p => match p.1 with | none => true | some j => XN[j]? == some p.2 && scope.names.lookup p.2 == some .free)
theorem comp_scope {X:Cx} {N:List Str} {js:List (Option Nat)} {scope:Scope} {osc:Scope} {XN:List Str} (hk:scope.kind = .function) (e1:X.env.scope = osc) (e2:X.N = XN) (h:compOk osc XN N js scope = true):CompScope X N js scope:=by
 unfold compOk at h
 simp only [Bool.and_eq_true,List.all_eq_true,Bool.or_eq_true,Bool.not_eq_true',beq_iff_eq] at h
 obtain ⟨⟨⟨⟨h1,h2⟩,h3⟩,h4⟩,h5⟩:=h
 refine ⟨hk,fun y hy z => ?_,fun y hy z => ?_,fun y hy z => ?_,h4,fun i j x ej ex => ?_⟩
 ·have:=h1 y hy
  rw [z] at this; cases this
 ·rcases h2 y hy with q | q
  ·rw [z] at q; cases q
  ·exact q
 ·show X.env.scope.names.lookup y.1 = _ ∨ X.env.scope.names.lookup y.1 = _
  rw [e1]
  rcases h3 y hy with (q | q) | q
  ·rw [z] at q; cases q
  ·exact .inl q
  ·exact .inr q
 ·have hm:(some j,x) ∈ js.zip N:=by
   refine List.mem_iff_getElem?.mpr ⟨i,?_⟩
   rw [List.getElem?_zip_eq_some]
   exact ⟨ej,ex⟩
  have q:=h5 _ hm
  simp only [Bool.and_eq_true,beq_iff_eq] at q
  rw [e2]
  exact q
noncomputable def CW (n:Nat) (Pv:Nat -> St -> Hp -> Prop) (i m:Nat) (σ:St) (H:Hp):Prop:=m = n - i∧i ≤ n∧Pv i σ H
theorem CW.next {n:Nat} {Pv:Nat -> St -> Hp -> Prop} {i:Nat} {σ:St} {H:Hp} (hi:i < n) (h:Pv (i + 1) σ H):∃ m',m' < n - i∧CW n Pv (i + 1) m' σ H:=⟨n - (i + 1),by trivial,rfl,hi,h⟩
theorem comp_rng {lo:Int} {n:Nat} {D:Addr} {σ0:St} {H1:Hp} {Q:VK} {g:TG} {tc:TT} {te:TE} (Pv:Nat -> St -> Hp -> Prop) (h0:Pv 0 σ0 (upd H1 D (.lst [])))
  (hs:∀ i σ' H',i < n -> Pv i σ' H' -> g (.int (lo + i)) σ' H' fun σ2 H3 => tc σ2 H3 fun b H4 => if b = true then te σ2 H4 fun v H5 => rAppend (.ref D) [v] H5 fun _ H6 => ∃ m',m' < n - i∧CW n Pv (i + 1) m' σ2 H6 else ∃ m',m' < n - i∧CW n Pv (i + 1) m' σ2 H4)
  (hd:∀ σ' H',Pv n σ' H' -> Q (.ref D) H') :
  ∃ W:Nat -> Nat -> St -> Hp -> Prop,(∃ m,W 0 m σ0 (upd H1 D (.lst [])))∧∀ i m σ' H',W i m σ' H' -> ((Itr lo n).stop i H'∧Q (.ref D) H') ∨ ((Itr lo n).go i H'∧∀ x H2,(Itr lo n).yld i H' x H2 -> g x σ' H2 fun σ2 H3 => tc σ2 H3 fun b H4 =>
   if b = true then te σ2 H4 fun v H5 => rAppend (.ref D) [v] H5 fun _ H6 => ∃ m',m' < m∧W (i + 1) m' σ2 H6 else ∃ m',m' < m∧W (i + 1) m' σ2 H4):=by
 refine ⟨CW n Pv,⟨n,rfl,Nat.zero_le _,h0⟩,?_⟩
 rintro i m σ' H' ⟨rfl,hi,p⟩
 by_cases hlt:i < n
 ·refine .inr ⟨hlt,fun x H2 y => ?_⟩
  obtain ⟨e,y⟩:=y
  subst e y
  exact hs i σ' _ hlt p
 ·have e:i = n:=by trivial
  subst e
  exact .inl ⟨Nat.le_refl _,hd σ' H' p⟩
theorem comp_lst {K:Frag} {a:Addr} {xs:List V} {D:Addr} {σ0:St} {H1:Hp} {Q:VK} {g:TG} {tc:TT} {te:TE} (Pv:Nat -> St -> Hp -> Prop) (h0:Pv 0 σ0 (upd H1 D (.lst []))) (hl:∀ i σ H,i ≤ xs.length -> Pv i σ H -> SqL K H a xs)
  (hs:∀ i x σ' H',xs[i]? = some x -> Pv i σ' H' -> g x σ' H' fun σ2 H3 => tc σ2 H3 fun b H4 => if b = true then te σ2 H4 fun v H5 => rAppend (.ref D) [v] H5 fun _ H6 => ∃ m',m' < xs.length - i∧CW xs.length Pv (i + 1) m' σ2 H6 else ∃ m',m' < xs.length - i∧CW xs.length Pv (i + 1) m' σ2 H4)
  (hd:∀ σ' H',Pv xs.length σ' H' -> Q (.ref D) H') :
  ∃ W:Nat -> Nat -> St -> Hp -> Prop,(∃ m,W 0 m σ0 (upd H1 D (.lst [])))∧∀ i m σ' H',W i m σ' H' -> ((Itl K a).stop i H'∧Q (.ref D) H') ∨ ((Itl K a).go i H'∧∀ x H2,(Itl K a).yld i H' x H2 -> g x σ' H2 fun σ2 H3 => tc σ2 H3 fun b H4 =>
   if b = true then te σ2 H4 fun v H5 => rAppend (.ref D) [v] H5 fun _ H6 => ∃ m',m' < m∧W (i + 1) m' σ2 H6 else ∃ m',m' < m∧W (i + 1) m' σ2 H4):=by
 refine ⟨CW xs.length Pv,⟨xs.length,rfl,Nat.zero_le _,h0⟩,?_⟩
 rintro i m σ' H' ⟨rfl,hi,p⟩
 have q:=hl i σ' H' hi p
 by_cases hlt:i < xs.length
 ·refine .inr ⟨⟨xs,xs[i],q,by simp [hlt]⟩,fun x H2 y => ?_⟩
  obtain ⟨e,y⟩:=y
  subst e
  exact hs i x σ' _ (y xs q) p
 ·have e:i = xs.length:=by trivial
  subst e
  exact .inl ⟨⟨xs,q,Nat.le_refl _⟩,hd σ' H' p⟩
noncomputable def rBitLen:V -> List V -> Hp -> VK -> Prop:=fun x vs H Q => ∃ n,x = .int n∧vs = []∧Q (.int (Builtin.Int.intBits n)) H
theorem mt_bitlen {X:Cx}:MtR X "int.bit_length" rBitLen:=by
 intro pins s σ H x xs v us Q I rx rv h
 obtain ⟨n,rfl,rfl,q⟩:=h
 obtain ⟨t,rfl⟩:=rx
 cases rv.zero
 exact call_int_bit_length ⟨.int _,H,I.tok _,⟨_,rfl⟩,q⟩
theorem eqDs_ints:∀ (a b:List Int),eqDs (a.map DV.int) (b.map DV.int) = decide (a = b)
 | [],[] => by unfold eqDs; rfl
 | [],_ :: _ => by simp [eqDs]
 | _ :: _,[] => by simp [eqDs]
 | x :: r,y :: t => by
  rw [List.map_cons,List.map_cons]
  unfold eqDs eqD
  rw [eqDs_ints r t]
  by_cases h:x = y <;> by_cases h2:r = t <;> simp [h,h2]
theorem hts_ints:∀ a:List Int,hts (a.map DV.int) = 0
 | [] => by unfold hts; rfl
 | x :: r => by rw [List.map_cons]; unfold hts ht; rw [hts_ints r]; rfl
noncomputable def rNeI (K:Frag):R2:=fun x y H Q => ∃ (a b:Addr) (ns ms:List Int),x = .ref a∧y = .ref b∧SqL K H a (ns.map V.int)∧SqL K H b (ms.map V.int)∧Q (.bl (!decide (ns = ms))) H
theorem op_neL {X:Cx} (hu:X.A.units + 64 < cLine):OpR X (compareOp .NotEq) (rNeI X.K):=by
 intro pins s σ H x y v u Q I rx ry h
 obtain ⟨a,b,ns,ms,rfl,rfl,h1,h2,q⟩:=h
 refine op_neD hu pins s σ H _ _ v u Q I rx ry ⟨_,_,.lst h1 (Deeps.ints ns),.lst h2 (Deeps.ints ms),?_,?_⟩
 ·unfold ht; rw [hts_ints]; decide
 ·unfold eqD; rw [eqDs_ints]; exact q
theorem units_of {A:Around} {k:Nat} (hr:Room k A):A.units + 64 < cLine:=by have:=hr.un; trivial
noncomputable def rIndex (K:Frag):V -> List V -> Hp -> VK -> Prop:=fun x vs H Q => ∃ (p:Addr) (pre:List Int) (k:Int) (post:List Int),x = .ref p∧vs = [.int k]∧SqL K H p ((pre ++ k :: post).map V.int)∧k ∉ pre∧Q (.int (pre.length:Nat)) H
theorem mt_index {X:Cx}:MtR X "list.index" (rIndex X.K):=by
 intro pins s σ H x vs v us Q I rx rv h
 obtain ⟨p,pre,k,post,rfl,rfl,hs,hn,q⟩:=h
 cases rx
 obtain ⟨u,rfl,ru⟩:=rv.one
 obtain ⟨t,rfl⟩:=ru
 obtain ⟨its,r,pl,hz⟩:=I.list hs
 obtain ⟨⟨oc,od,dt,sl⟩,n,e,hc,hdn,hdt⟩:=id pl
 dsimp only at hc hdn hdt
 subst hc hdn hdt
 have hl:=r.length
 rw [List.length_map,List.length_append,List.length_cons] at hl hz
 have fl:((pre ++ k :: post).map V.int).all flatV = true:=by
  rw [List.all_eq_true]
  intro y hy
  obtain ⟨z,_,rfl⟩:=List.mem_map.mp hy
  rfl
 have at':∀ (j:Nat) (z:Int),(pre ++ k :: post)[j]? = some z -> ∀ (h:j < its.toArray.size),eqU (.int k) its.toArray[j] = (z == k):=fun j z ez h => by
  obtain ⟨u,eu,ru⟩:=r.get (i:=j) (x:=.int z) (by rw [List.getElem?_map,ez]; rfl)
  have e1:its.toArray[j] = u:=by
   rw [List.getElem_toArray]
   exact Option.some.inj ((List.getElem?_eq_getElem (by simpa using h)).symm.trans eu)
  rw [e1,eqU_of ru rfl]; rfl
 refine call_meets F.slot_list_index ⟨_,e,rfl⟩ F.entry_list_index (F.args_list_index_2 _ _) (SeqAt.list_indexAt p its.toArray n none sl (.int k t) (eqU (.int k)) pre.length (by rw [List.size_toArray]; trivial) ?_ ?_ ?_) ⟨e,fun y hy => mem_eqAt (x:=.int k) ⟨t,rfl⟩ rfl r fl y (by simpa using hy),?_⟩
 ·have h24:sizeLine = 16777216:=by decide
  trivial
 ·rw [at' pre.length k (by rw [List.getElem?_append_right (Nat.le_refl _)]; simp)]
  simp
 ·intro m hm hlt
  have hp:m < pre.length:=hlt
  rw [at' m pre[m] (by rw [List.getElem?_append_left hp,List.getElem?_eq_getElem hp])]
  have:pre[m] ≠ k:=fun z => hn (z ▸ List.getElem_mem hp)
  simpa using this
 ·exact ⟨.int _,H,I.tok _,⟨_,rfl⟩,q⟩
theorem nameT {j:Nat} {v:V} {σ:St} {H:Hp} {A B:St -> Hp -> Prop} (h:A (σ.set j (some v)) H):gName j v σ H (fun σ2 H3 => tTrue σ2 H3 (fun b H4 => if b = true then A σ2 H4 else B σ2 H4)):=by
 show if true = true then A (σ.set j (some v)) H else B (σ.set j (some v)) H
 exact iteT h
end L2
namespace PH
noncomputable def worth (bs:List Int):Int:=bs.foldl (fun a b => a + a + b) 0
noncomputable def horner (bs:List Int):Int:=bs.foldl (fun a b => 2 * a + b) 0
noncomputable def isBits (bs:List Int):Prop:=∀ b ∈ bs,b = 0 ∨ b = 1
noncomputable def wl:List Int -> Int
 | [] => 0
 | b :: r => b + 2 * wl r
noncomputable def rlow (n:Int):Nat -> List Int
 | 0 => []
 | k + 1 => (n % 2) :: rlow (n / 2) k
noncomputable def lowb (n:Int) (k:Nat):List Int:=(rlow n k).reverse
theorem foldl_worth (bs:List Int):∀ a,bs.foldl (fun a b => a + a + b) a = bs.foldl (fun a b => 2 * a + b) a:=by
 induction bs with
 | nil => intro a; rfl
 | cons b r ih => intro a; simp only [List.foldl_cons]; rw [show a + a + b = 2 * a + b by trivial]; exact ih _
theorem worth_eq (bs:List Int):horner bs = worth bs:=(foldl_worth bs 0).symm
theorem worth_snoc (bs:List Int) (b:Int):worth (bs ++ [b]) = worth bs + worth bs + b:=by unfold worth; rw [List.foldl_append]; rfl
theorem horner_snoc (bs:List Int) (b:Int):horner (bs ++ [b]) = 2 * horner bs + b:=by unfold horner; rw [List.foldl_append]; rfl
theorem wl_cons (b:Int) (r:List Int):wl (b :: r) = b + 2 * wl r:=rfl
theorem worth_rev:∀ rs:List Int,worth rs.reverse = wl rs
 | [] => rfl
 | b :: r => by rw [List.reverse_cons,worth_snoc,worth_rev r,wl_cons]; trivial
theorem worth_wl (bs:List Int):worth bs = wl bs.reverse:=by rw [← worth_rev,List.reverse_reverse]
theorem isBits_rev {bs:List Int} (h:isBits bs):isBits bs.reverse:=fun b hb => h b (List.mem_reverse.mp hb)
theorem rlow_length (n:Int) (k:Nat):(rlow n k).length = k:=by
 induction k generalizing n with
 | zero => rfl
 | succ k ih => unfold rlow; rw [List.length_cons,ih]
theorem lowb_length (n:Int) (k:Nat):(lowb n k).length = k:=by unfold lowb; rw [List.length_reverse,rlow_length]
theorem rlow_bits (n:Int) (k:Nat):isBits (rlow n k):=by
 induction k generalizing n with
 | zero => intro b hb; cases hb
 | succ k ih =>
  intro b hb
  unfold rlow at hb
  rcases List.mem_cons.mp hb with e | hb
  ·trivial
  ·exact ih _ b hb
theorem lowb_bits (n:Int) (k:Nat):isBits (lowb n k):=isBits_rev (rlow_bits n k)
theorem rlow_snoc (n:Int) (k:Nat):rlow n (k + 1) = rlow n k ++ [(n / 2 ^ k) % 2]:=by
 induction k generalizing n with
 | zero => unfold rlow rlow; simp
 | succ k ih =>
  rw [show rlow n (k + 1 + 1) = (n % 2) :: rlow (n / 2) (k + 1) from rfl,ih]
  rw [show rlow n (k + 1) = (n % 2) :: rlow (n / 2) k from rfl,List.cons_append]
  congr 3
  rw [Int.pow_succ,Int.mul_comm,← Int.ediv_ediv_of_nonneg (by decide)]
theorem div_pow_succ (n:Int) (k:Nat):n / 2 ^ k / 2 = n / 2 ^ (k + 1):=by
 rw [Int.ediv_ediv_of_nonneg (Int.le_of_lt (Int.pow_pos (by decide))),Int.pow_succ]
theorem rlow_zero (k:Nat):rlow 0 k = List.replicate k 0:=by
 induction k with
 | zero => rfl
 | succ k ih => unfold rlow; rw [List.replicate_succ]; simp [ih]
theorem rlow_wl:∀ (rs:List Int),isBits rs -> ∀ m,rlow (wl rs) (rs.length + m) = rs ++ List.replicate m 0
 | [],_,m => by rw [List.length_nil,Nat.zero_add]; unfold wl; rw [rlow_zero]; rfl
 | b :: r,h,m => by
  have hb:=h b List.mem_cons_self
  have ih:=rlow_wl r (fun c hc => h c (List.mem_cons_of_mem _ hc)) m
  rw [show (b :: r).length + m = (r.length + m) + 1 by rw [List.length_cons]; trivial]
  unfold rlow
  have e1:wl (b :: r) % 2 = b:=by rw [wl_cons]; trivial
  have e2:wl (b :: r) / 2 = wl r:=by rw [wl_cons]; trivial
  rw [e1,e2,ih]; rfl
theorem lowb_worth {bs:List Int} (h:isBits bs) (m:Nat):lowb (worth bs) (bs.length + m) = List.replicate m 0 ++ bs:=by
 unfold lowb
 rw [worth_wl,show bs.length = bs.reverse.length by rw [List.length_reverse],rlow_wl _ (isBits_rev h),List.reverse_append,List.reverse_reverse,List.reverse_replicate]
theorem wl_bound:∀ (rs:List Int),isBits rs -> 0 ≤ wl rs∧wl rs < 2 ^ rs.length
 | [],_ => by unfold wl; simp
 | b :: r,h => by
  have hb:=h b List.mem_cons_self
  have ih:=wl_bound r fun c hc => h c (List.mem_cons_of_mem _ hc)
  rw [List.length_cons,Int.pow_succ,wl_cons]
  trivial
theorem worth_bound {bs:List Int} (h:isBits bs):0 ≤ worth bs∧worth bs < 2 ^ bs.length:=by
 have:=wl_bound _ (isBits_rev h)
 rw [List.length_reverse,← worth_wl] at this
 exact this
theorem foldl_shift (bs:List Int):∀ a,bs.foldl (fun a b => a + a + b) a = a * 2 ^ bs.length + worth bs:=by
 induction bs with
 | nil => intro a; unfold worth; simp
 | cons b r ih =>
  intro a
  rw [List.foldl_cons,ih]
  show _ = a * 2 ^ (r.length + 1) + (r.foldl _ (0 + 0 + b))
  rw [ih (0 + 0 + b),Int.pow_succ,Int.add_mul,Int.add_mul]
  rw [show a * (2 ^ r.length * 2) = a * 2 ^ r.length * 2 by rw [Int.mul_assoc]]
  generalize a * 2 ^ r.length = z
  have:(0 + 0 + b) * 2 ^ r.length = b * 2 ^ r.length:=by rw [show (0:Int) + 0 + b = b by trivial]
  rw [this]
  trivial
theorem worth_zeros (z:Nat) (bs:List Int):worth (List.replicate z 0 ++ bs) = worth bs:=by
 unfold worth
 rw [List.foldl_append]
 congr 1
 induction z with
 | zero => rfl
 | succ z ih => rw [List.replicate_succ,List.foldl_cons]; exact ih
theorem worth_one (t:List Int) (h:isBits t):2 ^ t.length ≤ worth (1 :: t)∧worth (1 :: t) < 2 ^ (t.length + 1):=by
 have e:worth (1 :: t) = 1 * 2 ^ t.length + worth t:=by
  show t.foldl _ (0 + 0 + 1) = _
  rw [foldl_shift]; rfl
 have:=worth_bound h
 rw [Int.pow_succ]
 trivial
theorem bits_split:∀ (bs:List Int),isBits bs -> (bs = List.replicate bs.length 0) ∨ ∃ z t,bs = List.replicate z 0 ++ 1 :: t∧isBits t
 | [],_ => .inl rfl
 | b :: r,h => by
  have hr:isBits r:=fun c hc => h c (List.mem_cons_of_mem _ hc)
  rcases h b List.mem_cons_self with e | e
  ·rcases bits_split r hr with q | ⟨z,t,q,ht⟩
   ·left; rw [e,List.length_cons,List.replicate_succ,← q]
   ·right; exact ⟨z + 1,t,by rw [List.replicate_succ,List.cons_append,← q,e],ht⟩
  ·right; exact ⟨0,r,by rw [e]; rfl,hr⟩
noncomputable def blen (n:Int):Nat:=if n == 0 then 0 else n.natAbs.log2 + 1
theorem blen_le {n:Int} {m:Nat}:blen n ≤ m ↔ n.natAbs < 2 ^ m:=by
 unfold blen
 by_cases h0:n = 0
 ·subst h0
  simp [Nat.pow_pos]
 ·have h1:(n == 0) = false:=by simpa using h0
  rw [h1]
  simp only [Bool.false_eq_true,if_false]
  have hn:n.natAbs ≠ 0:=by trivial
  rw [Nat.add_one_le_iff]
  exact Nat.log2_lt hn
theorem blen_one {t:List Int} (h:isBits t):blen (worth (1 :: t)) = t.length + 1:=by
 have b:=worth_one t h
 have p0:(0:Int) < 2 ^ t.length:=Int.pow_pos (by decide)
 have e:((worth (1 :: t)).natAbs:Int) = worth (1 :: t):=Int.natAbs_of_nonneg (by trivial)
 have c1:(((2:Nat) ^ t.length:Nat):Int) = (2:Int) ^ t.length:=by norm_cast
 have c2:(((2:Nat) ^ (t.length + 1):Nat):Int) = (2:Int) ^ (t.length + 1):=by norm_cast
 have h1:blen (worth (1 :: t)) ≤ t.length + 1:=blen_le.mpr (by trivial)
 have h2:¬ blen (worth (1 :: t)) ≤ t.length:=fun z => by have:=blen_le.mp z; trivial
 trivial
theorem blen_pos {n:Int} (h:1 ≤ n):1 ≤ blen n:=by
 have:¬ blen n ≤ 0:=fun z => by have:=blen_le.mp z; trivial
 trivial
theorem lt_blen {n:Int} (h:0 ≤ n):n < 2 ^ blen n:=by
 have:=(blen_le (n:=n) (m:=blen n)).mp (Nat.le_refl _)
 have e:(n.natAbs:Int) = n:=Int.natAbs_of_nonneg h
 have c1:(((2:Nat) ^ blen n:Nat):Int) = (2:Int) ^ blen n:=by norm_cast
 trivial
noncomputable def endb (n:Int):List Int:=List.replicate (blen n - 1) 0 ++ lowb n (blen n)
theorem endb_one {t:List Int} (h:isBits t):endb (worth (1 :: t)) = List.replicate t.length 0 ++ (1 :: t):=by
 unfold endb
 have hb:isBits (1 :: t):=fun c hc => by
  rcases List.mem_cons.mp hc with r | r
  ·exact .inr r
  ·exact h c r
 have l:=lowb_worth hb 0
 rw [Nat.add_zero,List.length_cons] at l
 rw [blen_one h,l]
 rfl
theorem endb_bits (n:Int):isBits (endb n):=fun b hb => by
 rcases List.mem_append.mp hb with h | h
 ·exact .inl (List.eq_of_mem_replicate h)
 ·exact lowb_bits n _ b h
end PH
set_option Elab.async false
set_option linter.all false
set_option maxRecDepth 100000
set_option maxHeartbeats 4000000
namespace PH
open PySem L2 PySem.W
theorem same_new {H:Hp} {p:Addr} (h:H p = none) (o:HO):Same H (upd H p o):=fun b u q => by rw [upd_ne (ne_of_none q h)]; exact q
noncomputable def deckO (a b c:Int):HO:=.lst [.int a,.int b,.int c]
noncomputable def lsI (ns:List Int):HO:=.lst (ns.map V.int)
noncomputable def spWorth (K:PySem.W.Frag):Sp:=fun vs H Q _ => ∃ (a:Addr) (bs:List Int),vs = [.ref a]∧SqL K H a (bs.map V.int)∧Q (.int (worth bs)) H
theorem int_at {ns:List Int} {i:Nat} {y:V} (h:(ns.map V.int)[i]? = some y):∃ z,y = V.int z∧ns[i]? = some z:=by
 rw [List.getElem?_map] at h
 cases e:ns[i]? with
 | none => rw [e] at h; cases h
 | some z => rw [e] at h; exact ⟨z,(Option.some.inj h).symm,rfl⟩
theorem take_at {α:Type} {ns:List α} {i:Nat} {z:α} (h:ns[i]? = some z):ns.take (i + 1) = ns.take i ++ [z]:=by rw [List.take_add_one,h]; rfl
theorem cut_to {α:Type} {f:Int -> V} (ns:List Int) (k:Nat):cutV (ns.map f) none (some (k:Int)) = (ns.take k).map f:=by
 unfold cutV
 rw [HT.sIx_none,HT.sIx_nat,List.drop_zero,Nat.sub_zero,List.length_map,← List.map_take]
 congr 1
 rcases Nat.le_total k ns.length with h | h
 ·rw [Nat.min_eq_left h]
 ·rw [Nat.min_eq_right h,List.take_of_length_le (Nat.le_refl _),List.take_of_length_le h]
abbrev bmV:List Value:=[.type "ValueError", .type "Exception", .type "BaseException", .type "object"]
structure Ex (K:Frag) (mg:Str -> Option Value) (x:Str) (C:Addr):Prop where
 mg:mg x = some (.ref C)
 ex:excIn K C bmV "ValueError.__new__" = true
 cl:ExcC K C
theorem bits_over {n:Int} {k:Nat} (h0:0 ≤ n):decide (((k:Nat):Int) < ((Builtin.Int.intBits n:Nat):Int)) = decide (2 ^ k ≤ n):=by
 have h:=intBits_le_iff (m:=k) (x:=n)
 have e:((n.natAbs:Nat):Int) = n:=Int.natAbs_of_nonneg h0
 have e2:(((2 ^ k:Nat)):Int) = (2:Int) ^ k:=by norm_cast
 apply decide_eq_decide.mpr
 constructor
 ·intro q
  have:¬ n.natAbs < 2 ^ k:=fun z => by have:=h.mpr z; trivial
  trivial
 ·intro q
  have:¬ Builtin.Int.intBits n ≤ k:=fun z => by have:=h.mp z; trivial
  trivial
theorem kit_refl (K:Frag) (t:Value):kitOne K t t = some true:=by unfold kitOne; rw [if_pos (beq_self_eq_true t)]
theorem kit_ib (K:Frag):kitOne K (.type "int") (.type "bool") = some false:=by rfl
theorem boot_isi:bootBuiltins "isinstance" = some (.builtin "isinstance"):=by decide +kernel
theorem boot_list':bootBuiltins "list" = some (.type "list"):=by decide +kernel
theorem boot_int':bootBuiltins "int" = some (.type "int"):=by decide +kernel
theorem boot_bool':bootBuiltins "bool" = some (.type "bool"):=by decide +kernel
theorem boot_VE:bootBuiltins "ValueError" = some (.type "ValueError"):=by decide +kernel
theorem boot_max':bootBuiltins "max" = some (.builtin "max"):=by decide +kernel
structure Bl (mg:Str -> Option Value):Prop where
 isi:mg "isinstance" = none
 list:mg "list" = none
 int:mg "int" = none
 bool:mg "bool" = none
 len:mg "len" = none
 range:mg "range" = none
 max:mg "max" = none
 ve:mg "ValueError" = none
theorem cut_from (ns:List Int) (k:Nat):cutV (ns.map V.int) (some (k:Int)) none = (ns.drop k).map V.int:=by
 unfold cutV
 rw [HT.sIx_none,HT.sIx_nat,List.length_map]
 rcases Nat.le_total k ns.length with h | h
 ·rw [Nat.min_eq_left h,← List.map_drop,List.take_of_length_le (by rw [List.length_map,List.length_drop]; exact Nat.le_refl _)]
 ·rw [Nat.min_eq_right h,Nat.sub_self,List.take_zero,List.drop_of_length_le h]; rfl
theorem rep_ints (m:Nat) (x:Int):(List.replicate m [V.int x]).flatten = (List.replicate m x).map V.int:=by
 induction m with
 | zero => rfl
 | succ m ih => rw [List.replicate_succ,List.replicate_succ,List.flatten_cons,List.map_cons,ih]; rfl
noncomputable def spLaw (K:PySem.W.Frag):Sp:=fun vs H Q _ => ∃ (a:Addr) (ns:List Int),vs = [.ref a]∧SqL K H a (ns.map V.int)∧ns.length ≤ 63∧∀ H',Q (.bl true) H'
theorem fits {n:Nat} (h:n ≤ 1000000):n ≤ sizeLine:=by
 have:sizeLine = 16777216:=by decide
 trivial
theorem fits_lt {n:Nat} (h:n ≤ 1000000):n < sizeLine:=by
 have:sizeLine = 16777216:=by decide
 trivial
end PH
namespace PH
noncomputable def firstOne:List Int -> Option Nat
 | [] => none
 | b :: r => if b = 1 then some 0 else (firstOne r).map (· + 1)
noncomputable def readE (bs:List Int) (at_:Int):Option (Int × Nat) :=
 if at_ < 0 then none else
 match firstOne (bs.drop at_.toNat) with
 | none => none
 | some d => if bs.length < at_.toNat + d + d + 1 then none else some (worth ((bs.drop (at_.toNat + d)).take (d + 1)),at_.toNat + d + d + 1)
theorem firstOne_lt:∀ {bs:List Int} {d:Nat},firstOne bs = some d -> d < bs.length
 | [],_,h => by cases h
 | b :: r,d,h => by
  unfold firstOne at h
  split at h
  ·cases h; exact Nat.succ_pos _
  ·cases e:firstOne r with
   | none => rw [e] at h; cases h
   | some k =>
    rw [e] at h
    have:k + 1 = d:=Option.some.inj h
    have:=firstOne_lt e
    rw [List.length_cons]; trivial
theorem firstOne_step {bs:List Int} {k:Nat} {z:Int} (h:bs[k]? = some z):firstOne (bs.drop k) = if z = 1 then some 0 else (firstOne (bs.drop (k + 1))).map (· + 1):=by
 obtain ⟨hk,e⟩:=List.getElem?_eq_some_iff.mp h
 rw [List.drop_eq_getElem_cons hk,e]; rfl
theorem firstOne_end {bs:List Int} {k:Nat} (h:bs.length ≤ k):firstOne (bs.drop k) = none:=by rw [List.drop_of_length_le h]; rfl
end PH
set_option Elab.async false
set_option linter.all false
set_option maxRecDepth 100000
namespace L2
open PySem PySem.Spec PyProof.Rows PySem.W
noncomputable def Itrs (lo c:Int) (n:Nat):It:=⟨fun i _ => i < n,fun i H x H' => H' = H∧x = .int (lo + i * c),fun i _ => n ≤ i⟩
theorem turn_rangeS {P:Program} {w:World} {K:PySem.W.Frag} {tg:Expr} (it:Addr) (lo c:Int) (n:Nat):Turn P w K tg (Itrs lo c n) [it] it (fun i h => IsRangeIter h it (lo + (i:Nat) * c) ((n:Int) - (i:Nat)) c) where
 mem:=by simp
 obj:=fun i h st b hb => by
  have e:b = it:=by simpa using hb
  subst e
  exact ⟨_,st,fun v z => by
   have z':Data.fields _ = Data.cell v:=z
   cases z'⟩
 keep:=fun i h h' st k => k it (by simp) _ st
 item:=by
  intro X hP hw hK hc i pins s σ H E I hf st hg
  subst hP hw hK
  obtain ⟨f0,f1,f2,f3,f4,f5⟩:=hf it (by simp)
  have W:=Walks.range (prog:=X.prog) (w:=X.w) (I.ok.hd hc) it lo c n
  refine W.item i s _ _ hg st fun v h' tk hv st' kk => ?_
  obtain ⟨t,rfl⟩:=hv
  have I1:Inv X pins σ H { s with heap:=h',toks:=tk }:=I.turned (fun b o hb e => kk b o (by simpa using hb) e) f0 f1 f3 f4 f5
  exact ⟨_, rfl, go_of (s:={ s with heap:=h', toks:=tk }) (n:="range_iterator") st' rfl rfl (by decide) ⟨.int (lo + i * c), H, I1, ⟨t, rfl⟩, ⟨rfl, rfl⟩, st', fun b hb => (hf b hb).1⟩⟩
 done:=by
  intro X hP hw hK hc i pins s σ H E I hf st hg
  subst hP hw hK
  obtain ⟨f0,f1,f2,f3,f4,f5⟩:=hf it (by simp)
  exact wpAny_pyNext_range_end (I.ok.hd hc) st (by have:n ≤ i:=hg; trivial) fun h' eb => ⟨rfl,I.turned (t':=s.toks) (fun b o hb e => eb b o hb e) f0 f1 f3 f4 f5⟩
 self:=fun _ _ _ _ _ st h => wpAny_pyIter_rangeiter st h
theorem rangeSize_nn (a b c:Int):0 ≤ Builtin.Range.rangeSize a b c:=by
 unfold Builtin.Range.rangeSize
 split
 ·split
  ·have:=Int.ediv_nonneg (a:=b - a - 1) (b:=c) (by trivial) (by trivial)
   trivial
  ·trivial
 ·split
  ·by_cases hc:c = 0
   ·subst hc; simp
   ·have:=Int.ediv_nonneg (a:=a - b - 1) (b:=-c) (by trivial) (by trivial)
    trivial
  ·trivial
section
variable {X:Cx} {tg:Expr}
theorem range_itS {pins:List (Addr × Obj)} {σ:St} {H:Hp} {s:Shared} {R:It -> Hp -> Prop} {E:Value -> Shared -> Prop} {lo hi c:Int} {t u v:Tok} {tk:Nat} (I:Inv X pins σ H s) (h1:Builtin.Range.small lo hi c = true)
  (q:R (Itrs lo c (Builtin.Range.rangeSize lo hi c).toNat) H):wpAny (model X.prog X.w) X.A (pyIter (.ref s.heap.objs.size)) (PIE X pins σ tg R) E { s with heap:=s.heap.push { cls:=.type "range", data:=.fields #[.int lo t, .int hi u, .int c v] }, toks:=tk }:=by
 refine wpAny_pyIter_range (IsRange.new ..) h1 ?_
 have I1:Inv X pins σ H { s with heap:=s.heap.push { cls:=.type "range", data:=.fields #[.int lo t, .int hi u, .int c v] }, toks:=tk }:=I.kept fun b o e => Heap.get?_push_of_some _ e
 refine ⟨(s.heap.push { cls:=.type "range", data:=.fields #[.int lo t, .int hi u, .int c v] }).objs.size, [(s.heap.push { cls:=.type "range", data:=.fields #[.int lo t, .int hi u, .int c v] }).objs.size], _, _, H, rfl,
  I1.kept (t':=tk) fun b o e => Heap.get?_push_of_some _ e,turn_rangeS _ lo c (Builtin.Range.rangeSize lo hi c).toNat,?_,fun b hb => ?_,q⟩
 ·have e1:lo + ((0:Nat):Int) * c = lo:=by simp
  have e2:(((Builtin.Range.rangeSize lo hi c).toNat:Nat):Int) - ((0:Nat):Int) = Builtin.Range.rangeSize lo hi c:=by have:=rangeSize_nn lo hi c; trivial
  show IsRangeIter _ _ (lo + ((0:Nat):Int) * c) ((((Builtin.Range.rangeSize lo hi c).toNat:Nat):Int) - ((0:Nat):Int)) c
  rw [e1,e2]
  exact Heap.get?_push_size _ rfl
 ·have e:b = (s.heap.push { cls:=.type "range", data:=.fields #[.int lo t, .int hi u, .int c v] }).objs.size:=by simpa using hb
  subst e
  exact I1.fpOk (Nat.le_refl _) (I1.hok.fresh (Nat.le_refl _))
noncomputable def iRng3 (ta:TA):TI:=fun σ H R => ta σ H fun vs H1 => ∃ i j c:Int,vs = [.int i,.int j,.int c]∧(c ≠ 0∧c.natAbs < 1073741824)∧Builtin.Range.small i j c = true∧R (Itrs i c (Builtin.Range.rangeSize i j c).toNat) H1
theorem pi_range3 {a b d:Expr} {ta:TA} {p pos:Pos} (hg:Gl X "range") (hm:X.mg "range" = none) (ha:PA X [a, b, d] ta) (hs:starEach [a, b, d] X.env = (false, eval a X.env) :: starEach [b, d] X.env:=by rfl) (hpl:(backTo pos (starEach [b, d] X.env)).any (·.1) = false:=by rfl) :
  PI X tg (.Call (.Name "range" p) [a, b, d] [] pos) (iRng3 ta):=by
 intro pins s σ H R I h
 refine Call_ (ld_blt I hg hm boot_range (PyProof.Rows.callWith_type1 (thn (ha pos pins s σ H _ I h) fun us s1 ⟨vs,H1,I1,r1,q1⟩ => ?_) hs hpl))
 obtain ⟨i,j,c,e,⟨c0,c1⟩,sm,q⟩:=q1
 subst e
 cases r1 with
 | cons r rr =>
  cases rr with
  | cons r' rr =>
   cases rr with
   | cons r'' rr =>
    cases rr
    obtain ⟨t,rfl⟩:=r
    obtain ⟨t',rfl⟩:=r'
    obtain ⟨t'',rfl⟩:=r''
    exact call_range_3 c0 (range_itS (tk:=s1.toks) I1 sm q) (.inl (PyProof.noPylong_small c1))
end
theorem small_step {a b:Int} {c:Int} (ha:-(2 ^ 61) ≤ a) (ha':a < 2 ^ 61) (hb:-(2 ^ 61) ≤ b) (hb':b < 2 ^ 61) (hc:1 ≤ c) (hc':c < 2 ^ 60):Builtin.Range.small a b c = true:=by
 have h0:=rangeSize_nn a b c
 have h1:Builtin.Range.rangeSize a b c ≤ 2 ^ 62:=by
  unfold Builtin.Range.rangeSize
  rw [if_pos (by trivial)]
  split
  ·have:(b - a - 1) / c ≤ b - a - 1:=Int.ediv_le_self _ (by trivial)
   trivial
  ·decide
 unfold Builtin.Range.small
 simp only [Builtin.Range.rangeFitsLong,Bool.and_eq_true,Bool.or_eq_true,decide_eq_true_eq,beq_iff_eq]
 rw [if_pos (show c > 0 by trivial)]
 simp only [Bool.and_eq_true,decide_eq_true_eq]
 trivial
theorem comp_rngQ {lo:Int} {n:Nat} {D:Addr} {σ0:St} {H1:Hp} {Qd:Hp -> Prop} {g:TG} {tc:TT} {te:TE} (Pv:Nat -> St -> Hp -> Prop) (h0:Pv 0 σ0 (upd H1 D (.lst [])))
  (hs:∀ i σ' H',i < n -> Pv i σ' H' -> g (.int (lo + i)) σ' H' fun σ2 H3 => tc σ2 H3 fun b H4 => if b = true then te σ2 H4 fun v H5 => rAppend (.ref D) [v] H5 fun _ H6 => ∃ m',m' < n - i∧CW n Pv (i + 1) m' σ2 H6 else ∃ m',m' < n - i∧CW n Pv (i + 1) m' σ2 H4)
  (hd:∀ σ' H',Pv n σ' H' -> Qd H') :
  ∃ W:Nat -> Nat -> St -> Hp -> Prop,(∃ m,W 0 m σ0 (upd H1 D (.lst [])))∧∀ i m σ' H',W i m σ' H' -> ((Itr lo n).stop i H'∧Qd H') ∨ ((Itr lo n).go i H'∧∀ x H2,(Itr lo n).yld i H' x H2 -> g x σ' H2 fun σ2 H3 => tc σ2 H3 fun b H4 =>
   if b = true then te σ2 H4 fun v H5 => rAppend (.ref D) [v] H5 fun _ H6 => ∃ m',m' < m∧W (i + 1) m' σ2 H6 else ∃ m',m' < m∧W (i + 1) m' σ2 H4) :=
 comp_rng (Q:=fun _ H => Qd H) Pv h0 hs hd
theorem comp_lstQ {K:Frag} {a:Addr} {xs:List V} {D:Addr} {σ0:St} {H1:Hp} {Qd:Hp -> Prop} {g:TG} {tc:TT} {te:TE} (Pv:Nat -> St -> Hp -> Prop) (h0:Pv 0 σ0 (upd H1 D (.lst []))) (hl:∀ i σ H,i ≤ xs.length -> Pv i σ H -> SqL K H a xs)
  (hs:∀ i x σ' H',xs[i]? = some x -> Pv i σ' H' -> g x σ' H' fun σ2 H3 => tc σ2 H3 fun b H4 => if b = true then te σ2 H4 fun v H5 => rAppend (.ref D) [v] H5 fun _ H6 => ∃ m',m' < xs.length - i∧CW xs.length Pv (i + 1) m' σ2 H6 else ∃ m',m' < xs.length - i∧CW xs.length Pv (i + 1) m' σ2 H4)
  (hd:∀ σ' H',Pv xs.length σ' H' -> Qd H') :
  ∃ W:Nat -> Nat -> St -> Hp -> Prop,(∃ m,W 0 m σ0 (upd H1 D (.lst [])))∧∀ i m σ' H',W i m σ' H' -> ((Itl K a).stop i H'∧Qd H') ∨ ((Itl K a).go i H'∧∀ x H2,(Itl K a).yld i H' x H2 -> g x σ' H2 fun σ2 H3 => tc σ2 H3 fun b H4 =>
   if b = true then te σ2 H4 fun v H5 => rAppend (.ref D) [v] H5 fun _ H6 => ∃ m',m' < m∧W (i + 1) m' σ2 H6 else ∃ m',m' < m∧W (i + 1) m' σ2 H4) :=
 comp_lst (Q:=fun _ H => Qd H) Pv h0 hl hs hd
end L2
set_option Elab.async false
set_option linter.all false
set_option maxRecDepth 100000
set_option maxHeartbeats 4000000
namespace PH
open PySem L2 PySem.W
theorem boot_tuple':bootBuiltins "tuple" = some (.type "tuple"):=by decide +kernel
noncomputable def spFirst (K:Frag) (cB:Addr):Sp:=fun vs H Q E => ∃ (a:Addr) (bs:List Int) (i:Int),vs = [.ref a,.int i]∧SqL K H a (bs.map V.int)∧bs.length ≤ 100000∧i ≤ 1000000 ∧
 ((i < 0∧E (.ref cB) none H) ∨ (0 ≤ i∧match firstOne (bs.drop i.toNat) with | none => E (.ref cB) none H | some d => Q (.int ((i.toNat + d:Nat):Int)) H))
noncomputable def spRead (K:Frag) (cB:Addr):Sp:=fun vs H Q E => ∃ (a:Addr) (bs:List Int) (i:Int),vs = [.ref a,.int i]∧SqL K H a (bs.map V.int)∧bs.length ≤ 100000∧i ≤ 1000000 ∧
 (match readE bs i with | none => E (.ref cB) none H | some (n,b) => ∀ (t:Addr) (H':Hp),Same H H' -> H t = none -> H' t = some (.tup [.int n,.int b]) -> Q (.ref t) H')
structure ExR (K:Frag) (cP cN c1 c2 c3 c4 c5 c6:Addr):Prop where
 m:mroIn K cN (.ref cP) = some true
 v:kitOne K (.ref cN) (.type "ValueError") = some true
 o:kitAny K (.ref cN) [.ref c1,.ref c2,.ref c3,.ref c4,.ref c5,.ref c6] = some false
theorem cut_two (ns:List Int) (i j:Nat):cutV (ns.map V.int) (some (i:Int)) (some (j:Int)) = ((ns.drop i).take (j - i)).map V.int:=by
 unfold cutV
 rw [HT.sIx_nat,HT.sIx_nat,List.length_map,← List.map_drop,← List.map_take]
 congr 1
 rcases Nat.le_total i ns.length with h | h
 ·rw [Nat.min_eq_left h]
  rcases Nat.le_total j ns.length with h2 | h2
  ·rw [Nat.min_eq_left h2]
  ·rw [Nat.min_eq_right h2,List.take_of_length_le (by rw [List.length_drop]; exact Nat.le_refl _),List.take_of_length_le (by rw [List.length_drop]; trivial)]
 ·rw [Nat.min_eq_right h,List.drop_of_length_le (Nat.le_refl _),List.drop_of_length_le h,List.take_nil,List.take_nil]
end PH
namespace PH
theorem wl_rlow (n:Int) (k:Nat):wl (rlow n k) = n % 2 ^ k:=by
 induction k generalizing n with
 | zero => unfold rlow wl; simp [Int.emod_one]
 | succ k ih =>
  unfold rlow
  rw [wl_cons,ih,Int.pow_succ]
  have p:(0:Int) < 2 ^ k:=Int.pow_pos (by decide)
  generalize (2:Int) ^ k = m at *
  have h1:=Int.mul_ediv_add_emod (n / 2) m
  have h2:=Int.mul_ediv_add_emod n (m * 2)
  have h3:n / 2 / m = n / (2 * m):=Int.ediv_ediv_of_nonneg (by decide)
  rw [h3,Int.mul_comm 2 m] at h1
  generalize n / (m * 2) = z at *
  have h4:m * 2 * z = 2 * (m * z):=by rw [Int.mul_comm m 2,Int.mul_assoc]
  rw [h4] at h2
  generalize m * z = y at *
  trivial
theorem worth_lowb {n:Int} {k:Nat} (h0:0 ≤ n) (h1:n < 2 ^ k):worth (lowb n k) = n:=by
 unfold lowb
 rw [worth_rev,wl_rlow,Int.emod_eq_of_lt h0 h1]
theorem endb_form {n:Int} (h:1 ≤ n):∃ t,isBits t∧n = worth (1 :: t)∧endb n = List.replicate t.length 0 ++ 1 :: t∧blen n = t.length + 1:=by
 have e:=worth_lowb (n:=n) (by trivial) (lt_blen (by trivial))
 rcases bits_split _ (lowb_bits n (blen n)) with q | ⟨z,t,q,ht⟩
 ·rw [q] at e
  have:=worth_zeros (lowb n (blen n)).length []
  rw [List.append_nil] at this
  rw [this] at e
  have:worth [] = 0:=rfl
  trivial
 ·have e2:n = worth (1 :: t):=by rw [← e,q,worth_zeros]
  refine ⟨t,ht,e2,?_,?_⟩
  ·rw [e2]; exact endb_one ht
  ·rw [e2]; exact blen_one ht
theorem firstOne_zeros (d:Nat) (r:List Int):firstOne (List.replicate d 0 ++ 1 :: r) = some d:=by
 induction d with
 | zero => rfl
 | succ d ih => rw [List.replicate_succ,List.cons_append]; unfold firstOne; rw [if_neg (by decide),ih]; rfl
theorem drop_pre {α:Type} (pre r:List α):(pre ++ r).drop pre.length = r:=by simp
theorem readE_at (pre r:List Int):readE (pre ++ r) (pre.length:Nat) = match firstOne r with
 | none => none
 | some d => if r.length < d + d + 1 then none else some (worth ((r.drop d).take (d + 1)),pre.length + d + d + 1):=by
 unfold readE
 rw [if_neg (by trivial),Int.toNat_natCast,drop_pre]
 cases firstOne r with
 | none => rfl
 | some d =>
  have e:(pre ++ r).drop (pre.length + d) = r.drop d:=by rw [← List.drop_drop,drop_pre]
  dsimp only
  rw [e,List.length_append]
  by_cases h:r.length < d + d + 1
  ·rw [if_pos h,if_pos (by trivial)]
  ·rw [if_neg h,if_neg (by trivial)]
theorem readE_endb {n:Int} (h:1 ≤ n) (pre post:List Int):readE (pre ++ (endb n ++ post)) (pre.length:Nat) = some (n,pre.length + (endb n).length):=by
 obtain ⟨t,ht,e,f,_⟩:=endb_form h
 rw [readE_at,f,List.append_assoc,List.cons_append,firstOne_zeros]
 dsimp only
 rw [if_neg (by simp only [List.length_append,List.length_replicate,List.length_cons]; trivial)]
 have d1:(List.replicate t.length (0:Int) ++ 1 :: (t ++ post)).drop t.length = 1 :: (t ++ post):=by
  have:=drop_pre (List.replicate t.length (0:Int)) (1 :: (t ++ post))
  rw [List.length_replicate] at this
  exact this
 rw [d1,List.take_succ_cons,List.take_append_of_le_length (Nat.le_refl _),List.take_length,← e]
 congr 2
 simp only [List.length_append,List.length_replicate,List.length_cons]
 trivial
theorem readE_le {bs:List Int} {i:Int} {n:Int} {b:Nat} (h:readE bs i = some (n,b)):0 ≤ i∧i < b∧b ≤ bs.length:=by
 unfold readE at h
 split at h
 ·cases h
 ·cases e:firstOne (bs.drop i.toNat) with
  | none => rw [e] at h; cases h
  | some d =>
   rw [e] at h
   dsimp only at h
   split at h
   ·cases h
   ·have:=(Prod.mk.inj (Option.some.inj h)).2
    trivial
theorem readE_neg {bs:List Int} {i:Int} (h:i < 0):readE bs i = none:=by unfold readE; rw [if_pos h]
theorem readE_far {bs:List Int} {i:Int} (h:(bs.length:Int) ≤ i):readE bs i = none:=by
 unfold readE
 rw [if_neg (by trivial),firstOne_end (by trivial)]
noncomputable def readN:Nat -> List Int -> Nat -> Option (List Int × Nat)
 | 0,_,b => some ([],b)
 | m + 1,bs,b => match readE bs b with
  | none => none
  | some (n,b') => (readN m bs b').map fun r => ((n - 1) :: r.1,r.2)
noncomputable def readRow (bs:List Int) (i:Int):Option (List Int × Nat):=match readE bs i with
 | none => none
 | some (m,b) => readN (m - 1).toNat bs b
noncomputable def flatb (ns:List Int):List Int:=(ns.map fun n => endb (n + 1)).flatten
noncomputable def rowb (ns:List Int):List Int:=endb ((ns.length:Int) + 1) ++ flatb ns
theorem flatb_cons (n:Int) (r:List Int):flatb (n :: r) = endb (n + 1) ++ flatb r:=rfl
theorem flatb_append (a b:List Int):flatb (a ++ b) = flatb a ++ flatb b:=by unfold flatb; rw [List.map_append,List.flatten_append]
theorem readN_flat:∀ (ns pre post:List Int),(∀ n ∈ ns,0 ≤ n) -> readN ns.length (pre ++ (flatb ns ++ post)) pre.length = some (ns,pre.length + (flatb ns).length)
 | [],pre,post,_ => rfl
 | n :: r,pre,post,h => by
  have hn:=h n List.mem_cons_self
  have ih:=readN_flat r (pre ++ endb (n + 1)) post fun m hm => h m (List.mem_cons_of_mem _ hm)
  rw [List.length_cons]
  unfold readN
  rw [flatb_cons,List.append_assoc,readE_endb (by trivial)]
  dsimp only
  rw [List.length_append,List.append_assoc] at ih
  rw [ih]
  show some ((n + 1 - 1) :: r,_) = _
  rw [show n + 1 - 1 = n by trivial,List.length_append,Nat.add_assoc]
theorem readRow_row {ns:List Int} (h:∀ n ∈ ns,0 ≤ n) (pre post:List Int):readRow (pre ++ (rowb ns ++ post)) (pre.length:Nat) = some (ns,pre.length + (rowb ns).length):=by
 unfold readRow rowb
 rw [List.append_assoc,readE_endb (by trivial)]
 dsimp only
 have:=readN_flat ns (pre ++ endb ((ns.length:Int) + 1)) post h
 rw [List.length_append,List.append_assoc] at this
 rw [show ((ns.length:Int) + 1 - 1).toNat = ns.length by trivial,this,List.length_append,Nat.add_assoc]
theorem readRow_none {bs:List Int} {i:Int} (h:readE bs i = none):readRow bs i = none:=by unfold readRow; rw [h]
theorem rowb_pos (ns:List Int):0 < (rowb ns).length:=by
 unfold rowb
 obtain ⟨t,_,_,f,_⟩:=endb_form (n:=(ns.length:Int) + 1) (by trivial)
 rw [f]; simp only [List.length_append,List.length_cons]; trivial
theorem readN_step {m:Nat} {bs:List Int} {b:Nat} {n:Int} {b':Nat} (h:readE bs b = some (n,b')):readN (m + 1) bs b = (readN m bs b').map fun r => ((n - 1) :: r.1,r.2):=by
 rw [readN,h]
theorem readN_stop {m:Nat} {bs:List Int} {b:Nat} (h:readE bs b = none):readN (m + 1) bs b = none:=by
 rw [readN,h]
theorem endb_length (n:Int):(endb n).length = blen n - 1 + blen n:=by unfold endb; rw [List.length_append,List.length_replicate,lowb_length]
end PH
set_option Elab.async false
set_option linter.all false
namespace L2
open PySem PySem.Spec PyProof.Rows
section
variable {X:Cx}
end
end L2
set_option Elab.async false
set_option linter.all false
set_option maxRecDepth 100000
set_option maxHeartbeats 4000000
namespace PH
open PySem L2 PySem.W
theorem boot_min':bootBuiltins "min" = some (.builtin "min"):=by decide +kernel
structure Bls (mg:Str -> Option Value):Prop where
 isi:mg "isinstance" = none
 list:mg "list" = none
 int:mg "int" = none
 bool:mg "bool" = none
 len:mg "len" = none
 range:mg "range" = none
 max:mg "max" = none
 ve:mg "ValueError" = none
 tuple:mg "tuple" = none
 min:mg "min" = none
 sorted:mg "sorted" = none
 all:mg "all" = none
 dict:mg "dict" = none
theorem Bls.bl {mg:Str -> Option Value} (B:Bls mg):Bl mg:=⟨B.isi,B.list,B.int,B.bool,B.len,B.range,B.max,B.ve⟩
noncomputable def spEnd (cN:Addr):Sp:=fun vs H Q E => ∃ n:Int,vs = [.int n]∧((n < 1∧E (.ref cN) none H) ∨ (1 ≤ n∧blen n ≤ 900∧∀ (p:Addr) (H':Hp),Same H H' -> H p = none -> H' p = some (lsI (endb n)) -> Q (.ref p) H'))
theorem blen_small {n:Int} (h0:0 ≤ n) (h:n < 1048576):blen n ≤ 900 :=
 blen_le.mpr (Nat.lt_of_lt_of_le (m:=2 ^ 20) (by
   have:(2:Nat) ^ 20 = 1048576:=by decide
   trivial) (Nat.pow_le_pow_right (by decide) (by decide)))
theorem same_upd {H H':Hp} (s:Same H H') {q:Addr} (u:HO) (hq:H q = none):Same H (upd H' q u):=fun b w e => by
 rw [upd_ne (ne_of_none e hq)]; exact s b w e
theorem lsI_app (a b:List Int):(.lst (a.map V.int ++ b.map V.int):HO) = lsI (a ++ b):=by unfold lsI; rw [List.map_append]
theorem lsI_app1 (a:List Int) (z:Int):(.lst (a.map V.int ++ [V.int z]):HO) = lsI (a ++ [z]):=by unfold lsI; rw [List.map_append]; rfl
theorem len_lsI (a:List Int):(a.map V.int).length = a.length:=List.length_map _
noncomputable def spRdRow (K:Frag) (cB:Addr):Sp:=fun vs H Q E => ∃ (a:Addr) (bs:List Int) (i:Int),vs = [.ref a,.int i]∧SqL K H a (bs.map V.int)∧bs.length ≤ 100000∧i ≤ 1000000 ∧
 (match readRow bs i with | none => ∀ H',Same H H' -> E (.ref cB) none H' | some (ns,b) => ∀ (l t:Addr) (H':Hp),Same H H' -> H l = none -> H t = none -> l ≠ t -> H' l = some (lsI ns) -> H' t = some (.tup [.ref l,.int b]) -> Q (.ref t) H')
theorem flatb_take {ns:List Int} {i:Nat} {z:Int} (h:ns[i]? = some z):flatb (ns.take (i + 1)) = flatb (ns.take i) ++ endb (z + 1):=by
 rw [take_at h,flatb_append]
 congr 1
 unfold flatb
 simp
end PH
set_option Elab.async false
set_option linter.all false
set_option maxRecDepth 100000
set_option maxHeartbeats 4000000
namespace PH
open PySem L2 PySem.W
structure Dks (ps:List Addr) (D:Addr) (H:Hp):Prop where
 at_:H D = some (.lst (ps.map V.ref))
 each:∀ p ∈ ps,p ≠ D∧∃ a b c,H p = some (deckO a b c)
theorem Dks.bits {ps:List Addr} {D p:Addr} {H H':Hp} {a b c:Int} (h:Dks ps D H) (hp:p ∈ ps) (h1:H' p = some (deckO a b c)) (kp:∀ q o,q ≠ p -> H q = some o -> H' q = some o):Dks ps D H':=⟨kp _ _ (h.each p hp).1.symm h.at_,fun q hq => by
 obtain ⟨e,a',b',c',z⟩:=h.each q hq
 by_cases hqp:q = p
 ·subst hqp; exact ⟨e,a,b,c,h1⟩
 ·exact ⟨e,a',b',c',kp _ _ hqp z⟩⟩
theorem ht_pair (ns:List Int) (b:Int):ht (.tup [.lst (ns.map DV.int),.int b]) ≤ 60:=by
 rw [ht_tup]
 unfold hts
 rw [ht_lst,hts_ints]
 unfold hts
 unfold ht
 unfold hts
 decide
end PH
set_option Elab.async false
set_option linter.all false
set_option maxRecDepth 100000
namespace L2
open PySem PySem.Spec PyProof.Rows PySem.W
end L2
set_option Elab.async false
set_option linter.all false
set_option maxRecDepth 100000
namespace L2
open PySem PySem.Spec PyProof.Rows
section
variable {κ:Type} [DecidableEq κ]
noncomputable def valV (kvs:List (κ × V)) (k:κ):Option V:=(kvs.find? fun kv => decide (kv.1 = k)).map (·.2)
noncomputable def putK (kvs:List (κ × V)) (k:κ) (v:V):List (κ × V) :=
 if (kvs.any fun kv => decide (kv.1 = k)) = true then kvs.map (fun kv => if kv.1 = k then (kv.1,v) else kv) else kvs ++ [(k,v)]
theorem valV_pos {p:κ × V} {r:List (κ × V)} {k:κ} (e:p.1 = k):valV (p :: r) k = some p.2:=by simp [valV,List.find?_cons,e]
theorem valV_neg {p:κ × V} {r:List (κ × V)} {k:κ} (e:¬ p.1 = k):valV (p :: r) k = valV r k:=by simp [valV,List.find?_cons,e]
theorem valV_any (k:κ):∀ kvs:List (κ × V),(kvs.any fun kv => decide (kv.1 = k)) = (valV kvs k).isSome
 | [] => rfl
 | p :: r => by
  rw [List.any_cons]
  by_cases e:p.1 = k
  ·simp only [valV_pos e,decide_eq_true e,Bool.true_or,Option.isSome_some]
  ·rw [valV_neg e,decide_eq_false e,Bool.false_or]; exact valV_any k r
theorem length_putK (kvs:List (κ × V)) (k:κ) (v:V):(putK kvs k v).length ≤ kvs.length + 1:=by
 unfold putK
 split
 ·rw [List.length_map]; trivial
 ·rw [List.length_append,List.length_cons,List.length_nil]; trivial
theorem RelO.isSome_eq {o:Option V} {u:Option Value} (r:RelO o u):o.isSome = u.isSome:=by
 cases o with
 | none => cases u with
  | none => rfl
  | some _ => exact (show False from r).elim
 | some _ => cases u with
  | none => exact (show False from r).elim
  | some _ => rfl
theorem RelO.getD {o:Option V} {u:Option Value} {d:V} {d':Value} (r:RelO o u) (rd:RelV d d'):RelV (o.getD d) (u.getD d'):=by
 cases o with
 | none => cases u with
  | none => exact rd
  | some _ => exact (show False from r).elim
 | some _ => cases u with
  | none => exact (show False from r).elim
  | some _ => exact r
theorem KV.val {kvs:List (κ × V)} {vs:List (κ × Value)} (r:KV kvs vs) (k:κ):RelO (valV kvs k) (valueAt vs k):=by
 unfold KV at r
 induction r with
 | nil => exact True.intro
 | @cons p q ps qs h t ih =>
  obtain ⟨h1,h2⟩:=h
  by_cases e:p.1 = k
  ·have e':q.1 = k:=h1.symm.trans e
   have b:valueAt (q :: qs) k = some q.2:=by simp [valueAt,List.find?_cons,e']
   rw [valV_pos e,b]; exact h2
  ·have e':¬ q.1 = k:=fun z => e (h1.trans z)
   have b:valueAt (q :: qs) k = valueAt qs k:=by simp [valueAt,List.find?_cons,e']
   rw [valV_neg e,b]; exact ih
theorem KV.any {kvs:List (κ × V)} {vs:List (κ × Value)} (r:KV kvs vs) (k:κ):(kvs.any fun kv => decide (kv.1 = k)) = vs.any fun kv => decide (kv.1 = k):=by
 unfold KV at r
 induction r with
 | nil => rfl
 | cons h t ih => rw [List.any_cons,List.any_cons,ih,h.1]
theorem KV.repl {kvs:List (κ × V)} {vs:List (κ × Value)} (r:KV kvs vs) (k:κ) {y:V} {u:Value} (ry:RelV y u) :
  KV (kvs.map fun kv => if kv.1 = k then (kv.1,y) else kv) (vs.map fun kv => if kv.1 = k then (kv.1,u) else kv):=by
 unfold KV at r ⊢
 induction r with
 | nil => exact .nil
 | @cons p q ps qs h t ih =>
  rw [List.map_cons,List.map_cons]
  refine .cons ?_ ih
  obtain ⟨h1,h2⟩:=h
  by_cases e:p.1 = k
  ·rw [if_pos e,if_pos (h1.symm.trans e)]; exact ⟨h1,ry⟩
  ·rw [if_neg e,if_neg (fun z => e (h1.trans z))]; exact ⟨h1,h2⟩
theorem KV.put {kvs:List (κ × V)} {vs:List (κ × Value)} (r:KV kvs vs) (k:κ) {y:V} {u:Value} (ry:RelV y u):KV (putK kvs k y) (stored vs k u):=by
 unfold putK stored
 rw [r.any k]
 by_cases e:(vs.any fun kv => decide (kv.1 = k)) = true
 ·rw [if_pos e,if_pos e]; exact r.repl k ry
 ·rw [if_neg e,if_neg e]; exact Paired.snoc r ⟨rfl,ry⟩
theorem KV.keys {kvs:List (κ × V)} {vs:List (κ × Value)} (r:KV kvs vs):kvs.map (·.1) = vs.map (·.1):=by
 unfold KV at r
 induction r with
 | nil => rfl
 | cons h t ih => rw [List.map_cons,List.map_cons,ih,h.1]
theorem KV.length {kvs:List (κ × V)} {vs:List (κ × Value)} (r:KV kvs vs):kvs.length = vs.length:=Paired.length r
end
theorem kV_is {P:Program} {w:World} {k:Key} {u:Value} (r:RelV (kV k) u):(mixKind P w).is k u = true:=by
 cases k with
 | inl i => obtain ⟨t,e⟩:=(show ∃ t,u = Value.int i t from r); subst e; exact mixKind_int P w i t
 | inr x => obtain ⟨t,e⟩:=(show ∃ t,u = Value.str x t from r); subst e; exact mixKind_str P w x t
theorem items_are {P:Program} {w:World}:∀ {ks:List Key} {us:List Value},Vals (ks.map kV) us -> ItemsAre (mixKind P w) ks us
 | [],_,r => by rw [List.map_nil] at r; cases r; exact .nil
 | k :: ks,_,r => by
  rw [List.map_cons] at r
  cases r with
  | cons h t => exact .cons (kV_is h) (items_are t)
noncomputable abbrev KT (H:Hp):List (List Key × V) -> List (List Key × Addr × Value) -> Prop:=Paired fun p q => p.1 = q.1∧H q.2.1 = some (.tup (p.1.map kV))∧RelV p.2 q.2.2
theorem KT.val {H:Hp} {kvs:List (List Key × V)} {xs:List (List Key × Addr × Value)} (r:KT H kvs xs) (k:List Key):RelO (valV kvs k) ((atKey xs k).map (·.2)):=by
 induction r with
 | nil => exact True.intro
 | @cons p q ps qs h t ih =>
  obtain ⟨h1,_,h2⟩:=h
  by_cases e:p.1 = k
  ·have e':q.1 = k:=h1.symm.trans e
   have b:atKey (q :: qs) k = some q.2:=by simp [atKey,List.find?_cons,e']
   rw [valV_pos e,b]; exact h2
  ·have e':¬ q.1 = k:=fun z => e (h1.trans z)
   have b:atKey (q :: qs) k = atKey qs k:=by simp [atKey,List.find?_cons,e']
   rw [valV_neg e,b]; exact ih
theorem KT.repl {H:Hp} {kvs:List (List Key × V)} {xs:List (List Key × Addr × Value)} (r:KT H kvs xs) (k:List Key) {y:V} {u:Value} (ry:RelV y u) :
  KT H (kvs.map fun kv => if kv.1 = k then (kv.1,y) else kv) (xs.map (putAt k u)):=by
 induction r with
 | nil => exact .nil
 | @cons p q ps qs h t ih =>
  rw [List.map_cons,List.map_cons]
  refine .cons ?_ ih
  obtain ⟨h1,h2,h3⟩:=h
  unfold putAt
  by_cases e:p.1 = k
  ·rw [if_pos e,if_pos (h1.symm.trans e)]; exact ⟨h1,h2,ry⟩
  ·rw [if_neg e,if_neg (fun z => e (h1.trans z))]; exact ⟨h1,h2,h3⟩
theorem KT.put {H:Hp} {kvs:List (List Key × V)} {xs:List (List Key × Addr × Value)} (r:KT H kvs xs) (k:List Key) {b:Addr} {y:V} {u:Value} (hb:H b = some (.tup (k.map kV))) (ry:RelV y u) :
  KT H (putK kvs k y) (storedH xs k b u):=by
 have e:(kvs.any fun kv => decide (kv.1 = k)) = (atKey xs k).isSome:=by
  rw [valV_any,(r.val k).isSome_eq,Option.isSome_map]
 unfold putK storedH
 rw [e]
 by_cases q:(atKey xs k).isSome = true
 ·rw [if_pos q,if_pos q]; exact r.repl k ry
 ·rw [if_neg q,if_neg q]; exact Paired.snoc r ⟨rfl,hb,ry⟩
theorem KT.keeps {H H':Hp} {kvs:List (List Key × V)} {xs:List (List Key × Addr × Value)} (r:KT H kvs xs) (ht:∀ b ys,H b = some (.tup ys) -> H' b = some (.tup ys)):KT H' kvs xs :=
 Paired.mapP r fun _ _ z => ⟨z.1,ht _ _ z.2.1,z.2.2⟩
section
variable {P:Program} {w:World} {H:Hp} {h:Heap} {a:Addr}
theorem rd_of {u:HO} (ok:HOk P w H h) (e:Rd H a u):ObjOk P w H h a u:=e.ok ok
theorem dk_rd {kvs:List (Key × V)} (ok:HOk P w H h) (e:Rd H a (.dK kvs)):kvs.length ≤ sizeLine∧(a == sysModules) = false∧∃ vs,KV kvs vs∧h.DictOf (mixKind P w) a vs :=
 show ObjOk P w H h a (.dK kvs) from rd_of ok e
theorem dk_of {kvs:List (Key × V)} (ok:HOk P w H h) (e:H a = some (.dK kvs)):kvs.length ≤ sizeLine∧(a == sysModules) = false∧∃ vs,KV kvs vs∧h.DictOf (mixKind P w) a vs:=dk_rd ok (.inl e)
theorem key_of {ks:List Key} (ok:HOk P w H h) (e:H a = some (.tup (ks.map kV))):(tupleKind (mixKind P w)).is h ks a:=by
 obtain ⟨_,its,r,o,h1,h2,n,h3⟩:=(show ObjOk P w H h a (.tup (ks.map kV)) from ok a _ e)
 exact ⟨o,its.toArray,n,h1,h2,h3,by simpa using items_are r⟩
theorem dt_rd {kvs:List (List Key × V)} (ok:HOk P w H h) (e:Rd H a (.dT kvs)):kvs.length ≤ sizeLine∧(a == sysModules) = false ∧
  ∃ xs,KT H kvs xs∧h.DictOfH (tupleKind (mixKind P w)) a xs:=by
 obtain ⟨z,y,xs,r,o,es,ep,h1,h2,h3,h4,h5⟩:=(show ObjOk P w H h a (.dT kvs) from rd_of ok e)
 refine ⟨z,y,xs,r,o,es,ep,h1,h2,h3,h4,fun x hx => ?_,h5⟩
 have all:∀ {l:List (List Key × V)} {m:List (List Key × Addr × Value)},KT H l m -> ∀ x ∈ m,(tupleKind (mixKind P w)).is h x.1 x.2.1:=by
  intro l m q
  induction q with
  | nil => intro x hx; exact nomatch hx
  | @cons p q ps qs hq t ih =>
   intro x hx
   rcases List.mem_cons.mp hx with e | hx
   ·subst e
    exact key_of ok (by rw [← hq.1]; exact hq.2.1)
   ·exact ih x hx
 exact all r x hx
theorem dt_of {kvs:List (List Key × V)} (ok:HOk P w H h) (e:H a = some (.dT kvs)):kvs.length ≤ sizeLine∧(a == sysModules) = false ∧
  ∃ xs,KT H kvs xs∧h.DictOfH (tupleKind (mixKind P w)) a xs:=dt_rd ok (.inl e)
end
noncomputable def DGet (H:Hp) (a:Addr) (y:V) (r:Option V):Prop :=
 (∃ kvs k,Rd H a (.dK kvs)∧y = kV k∧r = valV kvs k) ∨ ∃ kvs k b,Rd H a (.dT kvs)∧y = .ref b∧H b = some (.tup (k.map kV))∧r = valV kvs k
noncomputable def DPut (H:Hp) (a:Addr) (y v:V) (H':Hp):Prop :=
 (∃ kvs k,H a = some (.dK kvs)∧y = kV k∧kvs.length < sizeLine∧H' = upd H a (.dK (putK kvs k v))) ∨
 ∃ kvs k b,H a = some (.dT kvs)∧y = .ref b∧H b = some (.tup (k.map kV))∧kvs.length < sizeLine∧H' = upd H a (.dT (putK kvs k v))
theorem DGet.k {H:Hp} {a:Addr} {kvs:List (Key × V)} {k:Key} (e:H a = some (.dK kvs)):DGet H a (kV k) (valV kvs k):=.inl ⟨kvs,k,.inl e,rfl,rfl⟩
theorem DGet.t {H:Hp} {a b:Addr} {kvs:List (List Key × V)} {k:List Key} (e:H a = some (.dT kvs)) (eb:H b = some (.tup (k.map kV))):DGet H a (.ref b) (valV kvs k):=.inr ⟨kvs,k,b,.inl e,rfl,eb,rfl⟩
theorem DPut.k {H:Hp} {a:Addr} {kvs:List (Key × V)} {k:Key} {v:V} (e:H a = some (.dK kvs)) (hl:kvs.length < sizeLine):DPut H a (kV k) v (upd H a (.dK (putK kvs k v))):=.inl ⟨kvs,k,e,rfl,hl,rfl⟩
theorem DPut.t {H:Hp} {a b:Addr} {kvs:List (List Key × V)} {k:List Key} {v:V} (e:H a = some (.dT kvs)) (eb:H b = some (.tup (k.map kV))) (hl:kvs.length < sizeLine) :
  DPut H a (.ref b) v (upd H a (.dT (putK kvs k v))):=.inr ⟨kvs,k,b,e,rfl,eb,hl,rfl⟩
section
variable {X:Cx} {pins:List (Addr × Obj)} {σ:St} {H:Hp} {s:Shared} {a:Addr} {y v:V} {u r:Value} {o:Option V} {A:Around} {E:Value -> Shared -> Prop}
theorem Inv.big (I:Inv X pins σ H s):sysModules < s.heap.objs.size:=by
 have h:mainGlobals < s.heap.objs.size:=(I.mod.glob.keeps I.bk).lt
 exact Nat.lt_trans (by decide) h
theorem d_getItem {Q:Value -> Shared -> Prop} (hu:A.units + 1 < cLine) (I:Inv X pins σ H s) (g:DGet H a y (some v)) (ry:RelV y u) (h:∀ w' s',Inv X pins σ H s' -> RelV v w' -> Q w' s') :
  wpAny (model X.prog X.w) A (getItem (.ref a) u) Q E s:=by
 rcases g with ⟨kvs,k,e,ey,l⟩ | ⟨kvs,k,b,e,ey,eb,l⟩
 ·subst ey
  obtain ⟨z,hd,vs,rel,dd⟩:=dk_rd I.hok e
  obtain ⟨w',hw,rw'⟩:=RelO.some_of (v:=v) (o:=valueAt vs k) (by rw [l]; exact rel.val k)
  exact wpAny_getItem_of (kV_is ry) dd.mapOf hw (h w' _ (I.tok _) rw')
 ·subst ey
  cases (show u = Value.ref b from ry)
  obtain ⟨z,hd,xs,rel,dd⟩:=dt_rd I.hok e
  obtain ⟨w',hw,rw'⟩:=RelO.some_of (v:=v) (o:=(atKey xs k).map (·.2)) (by rw [l]; exact rel.val k)
  obtain ⟨p,hp,hp2⟩:=Option.map_eq_some_iff.mp hw
  refine wpAny_getItem_heap (tupleKind_room_in1 hu) (key_of I.hok eb) dd hp ?_
  rw [hp2]
  exact h w' _ (I.tok _) rw'
theorem d_write {h':Heap} {t':Nat} {ob:HO} (I:Inv X pins σ H s) (mu:Mut (H a)) (hs:Heap.SameBut a s.heap h') (he:∃ q,h'.get? a = some q) (new:ObjOk X.prog X.w (upd H a ob) h' a ob) :
  Inv X pins σ (upd H a ob) { s with heap:=h',toks:=t' } :=
 I.write (x:=a) (e:=a) mu (.inl rfl) (fun b q hb z => (hs.2 b hb).trans z) he new
theorem dk_new {P:Program} {w:World} {H':Hp} {h':Heap} {kvs:List (Key × V)} {vs:List (Key × Value)} (z:kvs.length ≤ sizeLine) (hd:(a == sysModules) = false) (rel:KV kvs vs) (dd:h'.DictOf (mixKind P w) a vs) :
  ObjOk P w H' h' a (.dK kvs):=⟨z,hd,vs,rel,dd⟩
theorem d_setItem {H':Hp} {Q:Unit -> Shared -> Prop} (hu:A.units + 1 < cLine) (I:Inv X pins σ H s) (g:DPut H a y v H') (ry:RelV y u) (rv:RelV v r) (h:∀ s',Inv X pins σ H' s' -> Q () s') :
  wpAny (model X.prog X.w) A (setItem (.ref a) u r) Q E s:=by
 rcases g with ⟨kvs,k,e,ey,l,eH⟩ | ⟨kvs,k,b,e,ey,eb,l,eH⟩
 ·subst ey eH
  obtain ⟨z,hd,vs,rel,dd⟩:=dk_of I.hok e
  have hz:vs.length ≤ sizeLine:=by rw [← rel.length]; exact z
  have hl:(putK kvs k v).length ≤ sizeLine:=by have:=length_putK kvs k v; trivial
  refine wpAny_setItem_pairs (hsz:=hz) (kV_is ry) dd fun h' dd' hs => h _ ?_
  have he:∃ q,h'.get? a = some q:=let ⟨q,_,_,hq,_⟩:=dd'; ⟨q,hq⟩
  exact d_write I (by rw [e]; exact True.intro) hs he (dk_new hl hd (rel.put k rv) dd')
 ·subst ey eH
  cases (show u = Value.ref b from ry)
  obtain ⟨z,hd,xs,rel,dd⟩:=dt_of I.hok e
  have hz:xs.length ≤ sizeLine:=by rw [← Paired.length rel]; exact z
  have hl:(putK kvs k v).length ≤ sizeLine:=by have:=length_putK kvs k v; trivial
  refine wpAny_setItem_heap (hsz:=hz) (tupleKind_room_in1 hu) (key_of I.hok eb) dd fun h' dd' hs => h _ ?_
  obtain ⟨q,es,ep,hq,h2,h3,h4,_,h5⟩:=dd'
  refine d_write I (by rw [e]; exact True.intro) hs ⟨q,hq⟩ ⟨hl,hd,_,(rel.put k eb rv).keeps fun c ys ec => ?_,q,es,ep,hq,h2,h3,h4,h5⟩
  rw [upd_ne (ne_of ec e (fun z => nomatch z))]
  exact ec
end
section
variable {X:Cx} {pins:List (Addr × Obj)} {σ:St} {H:Hp} {s:Shared} {a:Addr} {kvs:List (Key × V)} {k:Key} {u:Value} {A:Around} {E:Value -> Shared -> Prop}
end
noncomputable def NoSl (i:Expr):Prop:=∀ ov iv,subscripted i false ov iv = operate [ov,iv] (getItem ov iv)
theorem subD_of {prog:Program} {w:World} {A:Around} {E:Value -> Shared -> Prop} {s:Shared} {env:Env} {value slice:Expr} {pos:Pos} {T id:String} {Q:Value -> Shared -> Prop}
  (hl:typeLookup (.type T) "__getitem__" = pure (some (.builtin id))) (hs:NoSl slice)
  (h:wpAny (model prog w) A (eval value env) (fun o s₁ => wpAny (model prog w) A (eval slice env) (fun i s₂ => s₂.TypeIs o T∧wpAny (model prog w) A (getItem o i) Q E s₂) E s₁) E s) :
  wpAny (model prog w) A (eval (.Subscript value slice pos) env) Q E s:=by
 refine Subscript_ (wpAny_mono h (fun o s₁ h₁ => wpAny_mono h₁ (fun i s₂ h₂ => ?_) fun _ _ x => x) fun _ _ x => x)
 obtain ⟨hT,h₂⟩:=h₂
 unfold subscriptTail
 refine wpAny_bind ?_
 rw [getitemInPython_of_ne hT.not_modules]
 refine wpAny_bind (wpAny_specialOf hT hl ?_)
 have fin:wpAny (model prog w) A (subscripted slice false o i) (fun r s₃ => wpAny (model prog w) A (letTemporaryGo value o r >>= fun _ => pure r) Q E s₃) E s₂:=by
  rw [hs o i]
  exact wpAny_operating (wpAny_mono h₂ (fun r s₃ h₃ => wpAny_bind (wpAny_letTemporaryGo (wpAny_pure h₃))) fun _ _ x => x)
 first
  | exact wpAny_pure (wpAny_bind fin)
  | exact wpAny_bind (wpAny_pure (wpAny_bind fin))
  | exact wpAny_bind fin
theorem dict_typeIs {X:Cx} {pins:List (Addr × Obj)} {σ:St} {H:Hp} {s:Shared} {a:Addr} {y:V} {o:Option V} (I:Inv X pins σ H s) (g:DGet H a y o):s.TypeIs (.ref a) "dict":=by
 rcases g with ⟨kvs,k,e,_,_⟩ | ⟨kvs,k,b,e,_,_,_⟩
 ·obtain ⟨_,_,vs,_,dd⟩:=dk_rd I.hok e
  exact dd.typeIs
 ·obtain ⟨_,_,xs,_,dd⟩:=dt_rd I.hok e
  exact dd.typeIs
noncomputable def tDGet (td ty:TE):TE:=fun σ H Q => td σ H fun x H1 => ty σ H1 fun y H2 => ∃ a v,x = .ref a∧DGet H2 a y (some v)∧Q v H2
noncomputable def sDPut (td ty tv:TE):TS:=fun D σ H => tv σ H fun v H1 => td σ H1 fun x H2 => ty σ H2 fun y H3 => ∃ a H4,x = .ref a∧DPut H3 a y v H4∧D.nx σ H4
section
variable {X:Cx} {o i e value:Expr} {pos pos' tpos:Pos} {td ty tv:TE}
theorem pe_dget (hu:X.A.units + 1 < cLine) (ho:PE X o td) (hi:PE X i ty) (hs:NoSl i):PE X (.Subscript o i pos) (tDGet td ty):=by
 intro pins s σ H Q I h
 refine subD_of PySem.F.slot_dict_getitem.lookup hs (thn (ho pins s σ H _ I h) fun u s1 ⟨x,H1,I1,rx,q1⟩ => thn (hi pins s1 σ H1 _ I1 q1) fun iv s2 ⟨y,H2,I2,ry,a,v,ex,g,q2⟩ => ?_)
 subst ex
 obtain rfl:u = Value.ref a:=rx
 exact ⟨dict_typeIs I2 g,d_getItem hu I2 g ry fun w' s3 I3 rw' => ⟨v,H2,I3,rw',q2⟩⟩
theorem ps_dput (hu:X.A.units + 1 < cLine) (ho:PE X o td) (hi:PE X i ty) (hv:PE X value tv) (hs:swapsWith value (some (.Subscript o i pos')) pos.line X.env = pure false) :
  PS X (.Assign [.Subscript o i pos'] value pos) (sDPut td ty tv):=by
 intro pins s σ H D I h
 refine wpAny_Assign_Subscript (thn (hv pins s σ H _ I h) fun r s1 ⟨v,H1,I1,rv,q1⟩ => thn (ho pins s1 σ H1 _ I1 q1) fun u s2 ⟨x,H2,I2,rx,q2⟩ => thn (hi pins s2 σ H2 _ I2 q2) fun iv s3 ⟨y,H3,I3,ry,a,H4,ex,g,q3⟩ => ?_) hs
 subst ex
 obtain rfl:u = Value.ref a:=rx
 exact d_setItem hu I3 g ry rv fun s4 I4 => ⟨σ,H4,I4,q3⟩
end
theorem dk_empty {P:Program} {w:World} {H:Hp} (h:Heap) (hb:sysModules < h.objs.size):ObjOk P w H (h.push { cls:=.type "dict", data:=.dict #[] }) h.objs.size (.dK []) :=
 ⟨Nat.zero_le _,beq_eq_false_iff_ne.mpr (Ne.symm (Nat.ne_of_lt hb)),[],.nil,Heap.DictOf.new h⟩
noncomputable def tDNewK:TE:=fun _ H Q => ∀ p,H p = none -> Q (.ref p) (upd H p (.dK []))
section
variable {X:Cx} {pos:Pos}
theorem pe_dnewK:PE X (.Dict [] [] pos) tDNewK:=fun pins s σ H Q I h =>
 wpAny_Dict_empty ⟨.ref s.heap.objs.size,_,I.laid (a:=s.heap.objs.size) (o:=.dK []) (t':=s.toks) (fun _ _ q => Heap.get?_push_of_some _ q) (Nat.le_refl _) (dk_empty s.heap I.big),rfl,h _ (I.hok.fresh (Nat.le_refl _))⟩
end
structure M1 (X:Cx) (o:Expr) (m:Str) (apos:Pos) (e:Expr) (cpos:Pos):Prop where
 base:attributeBase o m X.env (eval o X.env) = eval o X.env
 few:((backTo cpos (starEach [e] X.env)).all (fun x => !x.1) && (backToKw cpos (keywordEach [] X.env)).all (fun x => x.1.isSome)
  && decide (([e]:List Expr).length + ([]:List Keyword).length + (if ([]:List Keyword).isEmpty then 0 else 1) < 30)) = true
 line:(apos.endLine == cpos.line) = true
 trees:backTo cpos (starEach [e] X.env) = [(false,eval e X.env)]
structure M2 (X:Cx) (o:Expr) (m:Str) (apos:Pos) (e f:Expr) (cpos:Pos):Prop where
 base:attributeBase o m X.env (eval o X.env) = eval o X.env
 few:((backTo cpos (starEach [e,f] X.env)).all (fun x => !x.1) && (backToKw cpos (keywordEach [] X.env)).all (fun x => x.1.isSome)
  && decide (([e,f]:List Expr).length + ([]:List Keyword).length + (if ([]:List Keyword).isEmpty then 0 else 1) < 30)) = true
 line:(apos.endLine == cpos.line) = true
 trees:backTo cpos (starEach [e,f] X.env) = [(false,eval e X.env),(false,eval f X.env)]
noncomputable def IsD (H:Hp) (a:Addr):Prop:=(∃ kvs,Rd H a (.dK kvs)) ∨ ∃ kvs,Rd H a (.dT kvs)
theorem isD_at {X:Cx} {pins:List (Addr × Obj)} {σ:St} {H:Hp} {s:Shared} {a:Addr} (I:Inv X pins σ H s) (d:IsD H a) :
  s.TypeIs (.ref a) "dict"∧(∀ b, Value.ref a = .ref b -> ∃ ob, s.heap.get? b = some ob∧ob.dict = none)∧(a == sysModules) = false:=by
 rcases d with ⟨kvs,e⟩ | ⟨kvs,e⟩
 ·obtain ⟨_,hd,vs,_,dd⟩:=dk_rd I.hok e
  refine ⟨dd.typeIs,fun b q => ?_,hd⟩
  cases q
  obtain ⟨ob,_,_,h1,h2,_⟩:=dd
  exact ⟨ob,h1,h2.2.1⟩
 ·obtain ⟨_,hd,xs,_,dd⟩:=dt_rd I.hok e
  refine ⟨dd.typeIs,fun b q => ?_,hd⟩
  cases q
  obtain ⟨ob,_,_,h1,h2,_⟩:=dd
  exact ⟨ob,h1,h2.2.1⟩
section
variable {X:Cx} {pins:List (Addr × Obj)} {σ:St} {H:Hp} {s:Shared} {a:Addr} {y d:V} {u r:Value} {o:Option V} {A:Around} {E:Value -> Shared -> Prop}
theorem d_get2 {Q:Value -> Shared -> Prop} (hu:A.units + 1 < cLine) (I:Inv X pins σ H s) (g:DGet H a y o) (ry:RelV y u) (rd:RelV d r) (h:∀ w' s',Inv X pins σ H s' -> RelV (o.getD d) w' -> Q w' s') :
  wpAny (model X.prog X.w) A (call (.builtin "dict.get") [.ref a, u, r]) Q E s:=by
 rcases g with ⟨kvs,k,e,ey,l⟩ | ⟨kvs,k,b,e,ey,eb,l⟩
 ·subst ey
  obtain ⟨z,hd,vs,rel,dd⟩:=dk_rd I.hok e
  refine call_meetsIn PySem.F.slot_dict_get dd.typeIs PySem.F.entry_dict_get (PySem.F.args_dict_get_3 _ _ _) (meets_dict_get_default (mixKind X.prog X.w) a (kV_is ry) hd r) ⟨_,dd.mapOf,h _ _ (I.tok _) ?_⟩
  rw [l]
  exact (rel.val k).getD rd
 ·subst ey
  cases (show u = Value.ref b from ry)
  obtain ⟨z,hd,xs,rel,dd⟩:=dt_rd I.hok e
  refine call_meetsIn PySem.F.slot_dict_get dd.typeIs PySem.F.entry_dict_get (PySem.F.args_dict_get_3 _ _ _) (meetsH_dict_get_default (tupleKind (mixKind X.prog X.w)) a b hd r) ⟨tupleKind_room_in1 hu,k,xs,key_of I.hok eb,dd,h _ _ (I.tok _) ?_⟩
  rw [l]
  exact (rel.val k).getD rd
end
noncomputable def tDGet2 (td ty tx:TE):TE:=fun σ H Q => td σ H fun x H1 => ∃ a,x = .ref a∧IsD H1 a∧ty σ H1 fun y H2 => tx σ H2 fun z H3 => ∃ o,DGet H3 a y o∧Q (o.getD z) H3
section
variable {X:Cx} {o e f:Expr} {apos cpos:Pos} {td ty tx:TE}
theorem pe_dget2 (hu:X.A.units + 1 < cLine) (ho:PE X o td) (he:PE X e ty) (hf:PE X f tx) (m:M2 X o "get" apos e f cpos):PE X (.Call (.Attribute o "get" apos) [e, f] [] cpos) (tDGet2 td ty tx):=by
 intro pins s σ H Q I h
 refine wpAny_Call_method m.base m.few m.line PySem.F.plainAttrs_dict PySem.F.slot_dict_get PySem.F.type_dict_get (thn (ho pins s σ H _ I h) fun u s1 ⟨x,H1,I1,rx,a,ex,d,q1⟩ => ?_)
 subst ex
 obtain rfl:u = Value.ref a:=rx
 obtain ⟨t1,t2,_⟩:=isD_at I1 d
 refine ⟨t1,t2,?_⟩
 rw [m.trees]
 refine Calls.callWith_builtin rfl (Calls.evalArgs_plain (Calls.spliced_cons (thn (he pins s1 σ H1 _ I1 q1) fun iv s2 ⟨y,H2,I2,ry,q2⟩ =>
  Calls.spliced_cons (thn (hf pins s2 σ H2 _ I2 q2) fun fv s3 ⟨z,H3,I3,rz,ov,g,q3⟩ => Calls.spliced_nil ?_))))
 exact d_get2 hu I3 g ry rz fun w' s4 I4 rw' => ⟨_,H3,I4,rw',q3⟩
end
section
variable {X:Cx} {pins:List (Addr × Obj)} {σ:St} {H:Hp} {s:Shared} {a:Addr} {kvs:List (Key × V)} {A:Around} {E:Value -> Shared -> Prop}
end
section
variable {X:Cx} {pins:List (Addr × Obj)} {σ:St} {H:Hp} {s:Shared} {a:Addr} {y:V} {u:Value} {A:Around} {E:Value -> Shared -> Prop}
end
end L2
namespace L2
open PySem PySem.Spec PyProof.Rows
section
variable {X:Cx}
end
section
variable {κ:Type} [DecidableEq κ]
theorem nd_snoc:∀ {l:List κ} {k:κ},l.Nodup -> ¬ k ∈ l -> (l ++ [k]).Nodup
 | [],k,_,_ => by simp
 | a :: r,k,h,hk => by
  obtain ⟨h1,h2⟩:=List.nodup_cons.mp h
  show (a :: (r ++ [k])).Nodup
  refine List.nodup_cons.mpr ⟨fun m => ?_,nd_snoc h2 fun m => hk (List.mem_cons.mpr (Or.inr m))⟩
  rcases List.mem_append.mp m with q | q
  ·exact h1 q
  ·exact hk (List.mem_cons.mpr (Or.inl (List.mem_singleton.mp q).symm))
end
end L2
set_option linter.all false
namespace TS
open PySem PyProof.Rows
noncomputable def gallop':Bool -> Keyed -> Array Keyed -> Nat -> Nat -> Nat -> StateT SortSt Sem (Option Nat):=sortPriv% PySem.Builtin.gallop
noncomputable def mergeLo':Array Keyed -> Array Keyed -> StateT SortSt Sem (Array Keyed):=sortPriv% PySem.Builtin.mergeLo
noncomputable def mergeHi':Array Keyed -> Array Keyed -> StateT SortSt Sem (Array Keyed):=sortPriv% PySem.Builtin.mergeHi
noncomputable def mergeAt':Nat -> StateT SortSt Sem Bool:=sortPriv% PySem.Builtin.mergeAt
section
variable {prog:Program} {w:World} {A:Around} {E:Value -> Shared -> Prop} {s:Shared}
structure Cmp (prog:Program) (w:World) (A:Around) (s:Shared) (kd:SortKind) (O:KeyOrd) (ky:Keyed -> O.α) (S:Keyed -> Prop):Prop where
 lt:∀ p q,S p -> S q -> ∀ {E:Value -> Shared -> Prop} {Q:Bool -> Shared -> Prop},Q (O.blt (ky p) (ky q)) s -> wpAny (model prog w) A (keyLt' kd p.1 q.1) Q E s
variable {kd:SortKind} {O:KeyOrd} {ky:Keyed -> O.α} {S:Keyed -> Prop}
theorem wpS_lt (C:Cmp prog w A s kd O ky S) {st:SortSt} {p q:Keyed} {Q:Option Bool -> SortSt -> Prop} (hk:kindOf st = kd) (hp:S p) (hq:S q) (h:Q (some (O.blt (ky p) (ky q))) st):wpS (model prog w) A E s (lt' p q) Q st:=by
 rw [lt'_eq]
 refine wpS_bind (wpS_get ?_)
 rw [hk]
 refine wpS_bind (wpS_lift (wpAny_attempt (C.lt p q hp hq ⟨rfl,?_⟩)))
 exact wpS_pure h
theorem wpS_elem {arr:Array Keyed} {i:Nat} {p:Keyed} {Q:Keyed -> SortSt -> Prop} {st:SortSt} (h:arr[i]? = some p) (hq:Q p st):wpS (model prog w) A E s (elem' arr i) Q st:=by
 rw [elem'_eq,h]
 exact wpS_pure hq
noncomputable def bey (O:KeyOrd) (ky:Keyed -> O.α) (left:Bool) (key p:Keyed):Bool:=if left then O.blt (ky p) (ky key) else !O.blt (ky key) (ky p)
theorem wpS_bey (C:Cmp prog w A s kd O ky S) {st:SortSt} {left:Bool} {key p:Keyed} {arr:Array Keyed} {i:Nat} {Q:Option Bool -> SortSt -> Prop} (hk:kindOf st = kd) (hs:S key) (hp:arr[i]? = some p) (hsp:S p) (h:Q (some (bey O ky left key p)) st) :
  wpS (model prog w) A E s (do
   let x ← elem' arr i
   if left = true then lt' x key else do
    let r ← lt' key x
    pure (Option.map (fun x => !x) r)) Q st:=by
 refine wpS_bind (wpS_elem hp ?_)
 unfold bey at h
 cases left with
 | true =>
  rw [if_pos rfl] at h ⊢
  exact wpS_lt C hk hsp hs h
 | false =>
  rw [if_neg Bool.false_ne_true] at h ⊢
  exact wpS_bind (wpS_lt C hk hs hsp (wpS_pure h))
theorem wpS_gallop (C:Cmp prog w A s kd O ky S) {st:SortSt} {left:Bool} {key:Keyed} {arr:Array Keyed} {base n hint:Nat} {Q:Option Nat -> SortSt -> Prop} (hk:kindOf st = kd) (hs:S key) {el:Nat -> Keyed} (hel:∀ i,i < n -> arr[base + i]? = some (el i)∧S (el i))
  (anti:∀ i j,i ≤ j -> j < n -> bey O ky left key (el j) = true -> bey O ky left key (el i) = true) (hh:hint < n)
  (h:∀ k,k ≤ n -> (∀ i,i < k -> bey O ky left key (el i) = true) -> (∀ i,k ≤ i -> i < n -> bey O ky left key (el i) = false) -> Q (some k) st) :
  wpS (model prog w) A E s (gallop' left key arr base n hint) Q st:=by
 have anti':∀ i j,i ≤ j -> j < n -> bey O ky left key (el i) = false -> bey O ky left key (el j) = false:=fun i j h1 h2 h3 => by
  cases e:bey O ky left key (el j) with
  | false => rfl
  | true => rw [anti i j h1 h2 e] at h3; cases h3
 have ask:∀ (i:Nat) {Q:Option Bool -> SortSt -> Prop},i < n -> Q (some (bey O ky left key (el i))) st -> wpS (model prog w) A E s (do
   let x ← elem' arr (base + i)
   if left = true then lt' x key else do
    let r ← lt' key x
    pure (Option.map (fun x => !x) r)) Q st:=fun i Q hi hq => wpS_bey C hk hs (hel i hi).1 (hel i hi).2 hq
 unfold gallop'
 refine wpS_bind (ask hint hh ?_)
 -- the last search
 have fin:∀ lo hi,lo ≤ hi -> hi ≤ n -> (∀ i,i < lo -> bey O ky left key (el i) = true) -> (∀ i,hi ≤ i -> i < n -> bey O ky left key (el i) = false) -> ∀ {f:Nat -> Option (Option Nat) × Nat × Nat -> StateT SortSt Sem (ForInStep (Option (Option Nat) × Nat × Nat))},
   (∀ (x:Nat) lo hi,lo ≤ hi -> hi ≤ n -> ∀ {R:ForInStep (Option (Option Nat) × Nat × Nat) -> SortSt -> Prop},(lo ≥ hi -> R (.done (none,lo,hi)) st) -> (∀ m,lo ≤ m -> m < hi -> bey O ky left key (el m) = true -> R (.yield (none,m + 1,hi)) st) -> (∀ m,lo ≤ m -> m < hi -> bey O ky left key (el m) = false -> R (.yield (none,lo,m)) st) -> wpS (model prog w) A E s (f x (none,lo,hi)) R st) →
   ∀ {g:Option (Option Nat) × Nat × Nat -> StateT SortSt Sem (Option Nat)},(∀ lo hi,g (none,lo,hi) = pure (some hi)) -> wpS (model prog w) A E s (forIn [:n] (none,lo,hi) f >>= g) Q st:=by
  intro lo hi h1 h2 h3 h4 f hf g hg
  refine wpS_bind (wpS_mono (wpS_forRange (I:=fun x c st' => st' = st∧∃ lo hi,c = (none,lo,hi)∧lo ≤ hi∧hi ≤ n∧hi - lo ≤ n - x∧(∀ i,i < lo -> bey O ky left key (el i) = true)∧(∀ i,hi ≤ i -> i < n -> bey O ky left key (el i) = false))
   (Q:=fun c st' => st' = st∧∃ hi,c = (none,hi,hi)∧hi ≤ n∧(∀ i,i < hi -> bey O ky left key (el i) = true)∧(∀ i,hi ≤ i -> i < n -> bey O ky left key (el i) = false)) ?step ?fin ⟨rfl,lo,hi,rfl,h1,h2,by trivial,h3,h4⟩) ?post)
  case fin =>
   rintro c st' ⟨rfl,lo,hi,rfl,a1,a2,a3,a4,a5⟩
   have:lo = hi:=by trivial
   subst this
   exact ⟨rfl,lo,rfl,a2,a4,a5⟩
  case post =>
   rintro c st' ⟨rfl,hi,rfl,a2,a4,a5⟩
   rw [hg]
   exact wpS_pure (h hi a2 a4 a5)
  case step =>
   rintro x c st' _ hx ⟨rfl,lo,hi,rfl,a1,a2,a3,a4,a5⟩
   refine hf x lo hi a1 a2 (fun q => ?_) (fun m m1 m2 mb => ?_) (fun m m1 m2 mb => ?_)
   ·have:lo = hi:=by trivial
    subst this
    exact ⟨rfl,lo,rfl,a2,a4,a5⟩
   ·exact ⟨rfl,m + 1,hi,rfl,by trivial,a2,by trivial,fun i hi' => anti i m (by trivial) (by trivial) mb,a5⟩
   ·exact ⟨rfl,lo,m,rfl,m1,by trivial,by trivial,a4,fun i i1 i2 => anti' m i i1 i2 mb⟩
 have body:∀ (x:Nat) lo hi,lo ≤ hi -> hi ≤ n -> ∀ {R:ForInStep (Option (Option Nat) × Nat × Nat) -> SortSt -> Prop},(lo ≥ hi -> R (.done (none,lo,hi)) st) -> (∀ m,lo ≤ m -> m < hi -> bey O ky left key (el m) = true -> R (.yield (none,m + 1,hi)) st) -> (∀ m,lo ≤ m -> m < hi -> bey O ky left key (el m) = false -> R (.yield (none,lo,m)) st) →
   wpS (model prog w) A E s (if lo ≥ hi then pure (ForInStep.done ((none:Option (Option Nat)),lo,hi)) else do
    let r ← (do
     let x ← elem' arr (base + (lo + (hi - lo) / 2))
     if left = true then lt' x key else do
      let r ← lt' key x
      pure (Option.map (fun x => !x) r))
    match r with
     | some more => if more = true then pure (ForInStep.yield (none,lo + (hi - lo) / 2 + 1,hi)) else pure (ForInStep.yield (none,lo,lo + (hi - lo) / 2))
     | x => pure (ForInStep.done (some none,lo,hi))) R st:=by
  intro x lo hi h1 h2 R r1 r2 r3
  by_cases hge:lo ≥ hi
  ·rw [if_pos hge]; exact wpS_pure (r1 hge)
  ·rw [if_neg hge]
   refine wpS_bind (ask _ (by trivial) ?_)
   dsimp only
   cases e:bey O ky left key (el (lo + (hi - lo) / 2)) with
   | true => rw [if_pos rfl]; exact wpS_pure (r2 _ (by trivial) (by trivial) e)
   | false => rw [if_neg Bool.false_ne_true]; exact wpS_pure (r3 _ (by trivial) (by trivial) e)
 dsimp only
 cases e0:bey O ky left key (el hint) with
 | true =>
  rw [if_pos rfl]
  refine wpS_bind (wpS_mono (wpS_forRange (I:=fun x c st' => st' = st∧∃ la of_,c = (none,la,of_)∧la < of_∧hint + la < n∧x + 1 ≤ of_∧bey O ky left key (el (hint + la)) = true)
   (Q:=fun c st' => st' = st∧∃ la of_,c = (none,la,of_)∧la < of_∧hint + la < n∧bey O ky left key (el (hint + la)) = true∧(n - hint ≤ of_ ∨ (hint + of_ < n∧bey O ky left key (el (hint + of_)) = false))) ?step ?fin ⟨rfl,0,1,rfl,by trivial,by trivial,by trivial,e0⟩) ?post)
  case fin =>
   rintro c st' ⟨rfl,la,of_,rfl,a1,a2,a3,a4⟩
   exact ⟨rfl,la,of_,rfl,a1,a2,a4,.inl (by trivial)⟩
  case step =>
   rintro x c st' _ hx ⟨rfl,la,of_,rfl,a1,a2,a3,a4⟩
   dsimp only
   by_cases hge:of_ ≥ n - hint
   ·rw [if_pos hge]; exact wpS_pure ⟨rfl,la,of_,rfl,a1,a2,a4,.inl hge⟩
   ·rw [if_neg hge]
    refine wpS_bind (ask (hint + of_) (by trivial) ?_)
    dsimp only
    cases e:bey O ky left key (el (hint + of_)) with
    | true =>
     rw [if_neg (by decide)]
     exact wpS_pure ⟨rfl,of_,2 * of_ + 1,rfl,by trivial,by trivial,by trivial,e⟩
    | false =>
     rw [if_pos (by decide)]
     exact wpS_pure ⟨rfl,la,of_,rfl,a1,a2,a4,.inr ⟨by trivial,e⟩⟩
  case post =>
   rintro c st' ⟨rfl,la,of_,rfl,a1,a2,a4,a5⟩
   dsimp only
   refine fin (hint + la + 1) (hint + min of_ (n - hint)) (by trivial) (by trivial) (fun i hi => anti i (hint + la) (by trivial) a2 a4) (fun i i1 i2 => ?_) (body) (fun lo hi => rfl)
   rcases a5 with a5 | ⟨a5,a6⟩
   ·trivial
   ·exact anti' (hint + of_) i (by trivial) i2 a6
 | false =>
  rw [if_neg Bool.false_ne_true]
  refine wpS_bind (wpS_mono (wpS_forRange (I:=fun x c st' => st' = st∧∃ la of_,c = (none,la,of_)∧la < of_∧la ≤ hint∧x + 1 ≤ of_∧bey O ky left key (el (hint - la)) = false)
   (Q:=fun c st' => st' = st∧∃ la of_,c = (none,la,of_)∧la < of_∧la ≤ hint∧bey O ky left key (el (hint - la)) = false∧(hint + 1 ≤ of_ ∨ (of_ ≤ hint∧bey O ky left key (el (hint - of_)) = true))) ?step ?fin ⟨rfl,0,1,rfl,by trivial,by trivial,by trivial,e0⟩) ?post)
  case fin =>
   rintro c st' ⟨rfl,la,of_,rfl,a1,a2,a3,a4⟩
   exact ⟨rfl,la,of_,rfl,a1,a2,a4,.inl (by trivial)⟩
  case step =>
   rintro x c st' _ hx ⟨rfl,la,of_,rfl,a1,a2,a3,a4⟩
   dsimp only
   by_cases hge:of_ ≥ hint + 1
   ·rw [if_pos hge]; exact wpS_pure ⟨rfl,la,of_,rfl,a1,a2,a4,.inl hge⟩
   ·rw [if_neg hge]
    refine wpS_bind (ask (hint - of_) (by trivial) ?_)
    dsimp only
    cases e:bey O ky left key (el (hint - of_)) with
    | true =>
     rw [if_pos rfl]
     exact wpS_pure ⟨rfl,la,of_,rfl,a1,a2,a4,.inr ⟨by trivial,e⟩⟩
    | false =>
     rw [if_neg Bool.false_ne_true]
     exact wpS_pure ⟨rfl,of_,2 * of_ + 1,rfl,by trivial,by trivial,by trivial,e⟩
  case post =>
   rintro c st' ⟨rfl,la,of_,rfl,a1,a2,a4,a5⟩
   dsimp only
   refine fin (hint + 1 - min of_ (hint + 1)) (hint - la) (by trivial) (by trivial) (fun i hi => ?_) (fun i i1 i2 => anti' (hint - la) i (by trivial) i2 a4) (body) (fun lo hi => rfl)
   rcases a5 with a5 | ⟨a5,a6⟩
   ·trivial
   ·exact anti i (hint - of_) (by trivial) (by trivial) a6
end
end TS
set_option linter.all false
namespace TT
open PySem PyProof.Rows TS
section
variable (O:KeyOrd) (ky:Keyed -> O.α) (ix:Keyed -> Nat)
noncomputable def R (p q:Keyed):Prop:=O.kle (ky p) (ky q)∧(O.kle (ky q) (ky p) -> ix p ≤ ix q)
theorem R.refl {O:KeyOrd} {ky:Keyed -> O.α} {ix:Keyed -> Nat} (p:Keyed):R O ky ix p p:=⟨KeyOrd.kle_refl _,fun _ => Nat.le_refl _⟩
theorem R.trans {O:KeyOrd} {ky:Keyed -> O.α} {ix:Keyed -> Nat} {p q r:Keyed} (h:R O ky ix p q) (h':R O ky ix q r):R O ky ix p r:=⟨KeyOrd.kle_trans h.1 h'.1,fun z => Nat.le_trans (h.2 (KeyOrd.kle_trans h'.1 z)) (h'.2 (KeyOrd.kle_trans z h.1))⟩
theorem R.lt {O:KeyOrd} {ky:Keyed -> O.α} {ix:Keyed -> Nat} {p q:Keyed} (h:O.klt (ky p) (ky q)):R O ky ix p q:=⟨KeyOrd.kle_of_klt h,fun z => by
 unfold KeyOrd.klt at h
 unfold KeyOrd.kle at z
 rw [h] at z; cases z⟩
theorem R.le {O:KeyOrd} {ky:Keyed -> O.α} {ix:Keyed -> Nat} {p q:Keyed} (h:O.kle (ky p) (ky q)) (h':ix p ≤ ix q):R O ky ix p q:=⟨h,fun _ => h'⟩
noncomputable def Srt (l:List Keyed):Prop:=l.Pairwise (R O ky ix)
structure MI (a b out:Array Keyed) (ia ib:Nat):Prop where
 ha:ia ≤ a.size
 hb:ib ≤ b.size
 perm:out.toList.Perm (a.toList.take ia ++ b.toList.take ib)
 srt:Srt O ky ix out.toList
 ra:∀ x ∈ out.toList,∀ y ∈ a.toList.drop ia,R O ky ix x y
 rb:∀ x ∈ out.toList,∀ y ∈ b.toList.drop ib,R O ky ix x y
noncomputable def Good (a b o:Array Keyed):Prop:=o.toList.Perm (a.toList ++ b.toList)∧Srt O ky ix o.toList
variable {O ky ix} {a b out o:Array Keyed} {ia ib:Nat}
theorem drop_srt {l:List Keyed} (h:Srt O ky ix l) (k:Nat):Srt O ky ix (l.drop k):=List.Pairwise.sublist (List.drop_sublist k l) h
theorem take_srt {l:List Keyed} (h:Srt O ky ix l) (k:Nat):Srt O ky ix (l.take k):=List.Pairwise.sublist (List.take_sublist k l) h
theorem split_srt {l:List Keyed} (h:Srt O ky ix l) (k:Nat):∀ x ∈ l.take k,∀ y ∈ l.drop k,R O ky ix x y:=by
 have e:=(List.take_append_drop k l).symm
 unfold Srt at h
 rw [e,List.pairwise_append] at h
 exact h.2.2
theorem mem_drop_le {l:List Keyed} {i j:Nat} (h:i ≤ j) {x:Keyed} (hx:x ∈ l.drop j):x ∈ l.drop i:=by
 rw [show j = i + (j - i) by trivial,← List.drop_drop] at hx
 exact List.mem_of_mem_drop hx
theorem mem_take_le {l:List Keyed} {i j:Nat} (h:i ≤ j) {x:Keyed} (hx:x ∈ l.take i):x ∈ l.take j:=by
 rw [show i = min i j by trivial,← List.take_take] at hx
 exact List.mem_of_mem_take hx
theorem MI.addA (h:MI O ky ix a b out ia ib) (sa:Srt O ky ix a.toList) {k:Nat} (hk:ia + k ≤ a.size) (hx:∀ x ∈ (a.toList.drop ia).take k,∀ y ∈ b.toList.drop ib,R O ky ix x y) (ho:o.toList = out.toList ++ (a.toList.drop ia).take k):MI O ky ix a b o (ia + k) ib:=by
 refine ⟨hk,h.hb,?_,?_,fun x hm y hy => ?_,fun x hm y hy => ?_⟩
 ·rw [ho,List.take_add,List.append_assoc]
  refine (h.perm.append_right _).trans ?_
  rw [List.append_assoc]
  exact List.Perm.append_left _ List.perm_append_comm
 ·unfold Srt
  rw [ho,List.pairwise_append]
  exact ⟨h.srt,take_srt (drop_srt sa _) _,fun x hx' y hy => h.ra x hx' y (List.mem_of_mem_take hy)⟩
 ·rw [ho] at hm
  rcases List.mem_append.mp hm with hm | hm
  ·exact h.ra x hm y (mem_drop_le (by trivial) hy)
  ·rw [← List.drop_drop] at hy
   exact split_srt (drop_srt sa ia) k x hm y hy
 ·rw [ho] at hm
  rcases List.mem_append.mp hm with hm | hm
  ·exact h.rb x hm y hy
  ·exact hx x hm y hy
theorem MI.swap (h:MI O ky ix a b out ia ib):MI O ky ix b a out ib ia:=⟨h.hb,h.ha,h.perm.trans List.perm_append_comm,h.srt,h.rb,h.ra⟩
theorem MI.addB (h:MI O ky ix a b out ia ib) (sb:Srt O ky ix b.toList) {k:Nat} (hk:ib + k ≤ b.size) (hx:∀ x ∈ (b.toList.drop ib).take k,∀ y ∈ a.toList.drop ia,R O ky ix x y) (ho:o.toList = out.toList ++ (b.toList.drop ib).take k):MI O ky ix a b o ia (ib + k):=(h.swap.addA sb hk hx ho).swap
theorem ext_all (x:Array Keyed) (i:Nat):(x.extract i x.size).toList = x.toList.drop i:=by simp [List.extract,List.take_of_length_le]
theorem ext_some (x:Array Keyed) (i k:Nat):(x.extract i (i + k)).toList = (x.toList.drop i).take k:=by simp [List.extract]
theorem MI.done (h:MI O ky ix a b out ia ib) (sa:Srt O ky ix a.toList) (sb:Srt O ky ix b.toList) (hor:ia = a.size ∨ ib = b.size):Good O ky ix a b (out ++ a.extract ia a.size ++ b.extract ib b.size):=by
 unfold Good Srt
 rw [Array.toList_append,Array.toList_append,ext_all,ext_all]
 refine ⟨?_,?_⟩
 ·have e1:=List.take_append_drop ia a.toList
  have e2:=List.take_append_drop ib b.toList
  conv => rhs; rw [← e1,← e2]
  rw [List.append_assoc]
  refine (h.perm.append_right _).trans ?_
  rw [List.append_assoc,List.append_assoc]
  refine List.Perm.append_left _ ?_
  rw [← List.append_assoc,← List.append_assoc]
  exact List.perm_append_comm.append_right _
 ·rw [List.pairwise_append,List.pairwise_append]
  refine ⟨⟨h.srt,drop_srt sa _,h.ra⟩,drop_srt sb _,fun x hx y hy => ?_⟩
  rcases List.mem_append.mp hx with hx | hx
  ·exact h.rb x hx y hy
  ·rcases hor with q | q
   ·rw [q,List.drop_of_length_le (by simp)] at hx; cases hx
   ·rw [q,List.drop_of_length_le (by simp)] at hy; cases hy
theorem MI.last (h:MI O ky ix a b out ia ib) (sa:Srt O ky ix a.toList) (sb:Srt O ky ix b.toList) (hl:∀ y ∈ b.toList,∀ x ∈ a.toList.drop ia,R O ky ix y x):Good O ky ix a b (out ++ b.extract ib b.size ++ a.extract ia a.size):=by
 unfold Good Srt
 rw [Array.toList_append,Array.toList_append,ext_all,ext_all]
 refine ⟨?_,?_⟩
 ·have e1:=List.take_append_drop ia a.toList
  have e2:=List.take_append_drop ib b.toList
  conv => rhs; rw [← e1,← e2]
  rw [List.append_assoc]
  refine (h.perm.append_right _).trans ?_
  rw [List.append_assoc,List.append_assoc]
  refine List.Perm.append_left _ ?_
  rw [← List.append_assoc]
  exact List.perm_append_comm
 ·rw [List.pairwise_append,List.pairwise_append]
  refine ⟨⟨h.srt,drop_srt sb _,h.rb⟩,drop_srt sa _,fun x hx y hy => ?_⟩
  rcases List.mem_append.mp hx with hx | hx
  ·exact h.ra x hx y hy
  ·exact hl x (List.mem_of_mem_drop hx) y hy
structure MH (O:KeyOrd) (ky:Keyed -> O.α) (ix:Keyed -> Nat) (a b out:Array Keyed) (na nb:Nat):Prop where
 ha:na ≤ a.size
 hb:nb ≤ b.size
 perm:out.toList.Perm (a.toList.drop na ++ b.toList.drop nb)
 srt:out.toList.Pairwise fun x y => R O ky ix y x
 ra:∀ x ∈ out.toList,∀ y ∈ a.toList.take na,R O ky ix y x
 rb:∀ x ∈ out.toList,∀ y ∈ b.toList.take nb,R O ky ix y x
theorem MH.swap {na nb:Nat} (h:MH O ky ix a b out na nb):MH O ky ix b a out nb na:=⟨h.hb,h.ha,h.perm.trans List.perm_append_comm,h.srt,h.rb,h.ra⟩
theorem MH.addA {na nb k:Nat} (h:MH O ky ix a b out na nb) (sa:Srt O ky ix a.toList) (hk:k ≤ na) (hx:∀ x ∈ (a.toList.take na).drop k,∀ y ∈ b.toList.take nb,R O ky ix y x) (ho:o.toList = out.toList ++ ((a.toList.take na).drop k).reverse):MH O ky ix a b o k nb:=by
 have hd:a.toList.drop k = (a.toList.take na).drop k ++ a.toList.drop na:=by
  conv => lhs; rw [← List.take_append_drop na a.toList]
  rw [List.drop_append_of_le_length (by have:=h.ha; rw [List.length_take]; simp; trivial)]
 refine ⟨Nat.le_trans hk h.ha,h.hb,?_,?_,fun x hm y hy => ?_,fun x hm y hy => ?_⟩
 ·rw [ho,hd]
  refine (h.perm.append_right _).trans ?_
  refine (List.perm_append_comm).trans ?_
  rw [← List.append_assoc]
  exact ((List.reverse_perm _).append_right _).append_right _
 ·rw [ho,List.pairwise_append]
  refine ⟨h.srt,?_,fun x hx' y hy => h.ra x hx' y (List.mem_of_mem_drop (List.mem_reverse.mp hy))⟩
  rw [List.pairwise_reverse]
  exact drop_srt (take_srt sa _) _
 ·rw [ho] at hm
  rcases List.mem_append.mp hm with hm | hm
  ·exact h.ra x hm y (mem_take_le hk hy)
  ·have:=split_srt (take_srt sa na) k y (by rw [List.take_take,Nat.min_eq_left hk]; exact hy) x (List.mem_reverse.mp hm)
   exact this
 ·rw [ho] at hm
  rcases List.mem_append.mp hm with hm | hm
  ·exact h.rb x hm y hy
  ·exact hx x (List.mem_reverse.mp hm) y hy
theorem MH.addB {na nb k:Nat} (h:MH O ky ix a b out na nb) (sb:Srt O ky ix b.toList) (hk:k ≤ nb) (hx:∀ x ∈ (b.toList.take nb).drop k,∀ y ∈ a.toList.take na,R O ky ix y x) (ho:o.toList = out.toList ++ ((b.toList.take nb).drop k).reverse):MH O ky ix a b o na k:=(h.swap.addA sb hk hx ho).swap
theorem ext0 (x:Array Keyed) (k:Nat):(x.extract 0 k).toList = x.toList.take k:=by simp [List.extract]
theorem ext2 (x:Array Keyed) {i j:Nat}:(x.extract i j).toList = (x.toList.take j).drop i:=by
 simp [List.extract]
 rw [List.drop_take]
theorem MH.done {na nb:Nat} (h:MH O ky ix a b out na nb) (sa:Srt O ky ix a.toList) (sb:Srt O ky ix b.toList) (hor:na = 0 ∨ nb = 0):Good O ky ix a b (a.extract 0 na ++ b.extract 0 nb ++ out.reverse):=by
 unfold Good Srt
 rw [Array.toList_append,Array.toList_append,ext0,ext0,Array.toList_reverse]
 refine ⟨?_,?_⟩
 ·have e1:=List.take_append_drop na a.toList
  have e2:=List.take_append_drop nb b.toList
  conv => rhs; rw [← e1,← e2]
  refine (List.Perm.append_left _ ((List.reverse_perm _).trans h.perm)).trans ?_
  rw [List.append_assoc,List.append_assoc]
  refine List.Perm.append_left _ ?_
  rw [← List.append_assoc,← List.append_assoc]
  exact List.perm_append_comm.append_right _
 ·rw [List.pairwise_append,List.pairwise_append,List.pairwise_reverse]
  refine ⟨⟨take_srt sa _,take_srt sb _,fun x hx y hy => ?_⟩,h.srt,fun x hx y hy => ?_⟩
  ·rcases hor with q | q
   ·rw [q,List.take_zero] at hx; cases hx
   ·rw [q,List.take_zero] at hy; cases hy
  ·rcases List.mem_append.mp hx with hx | hx
   ·exact h.ra y (List.mem_reverse.mp hy) x hx
   ·exact h.rb y (List.mem_reverse.mp hy) x hx
theorem MH.first {na nb:Nat} (h:MH O ky ix a b out na nb) (sa:Srt O ky ix a.toList) (sb:Srt O ky ix b.toList) (hl:∀ x ∈ b.toList.take nb,∀ y ∈ a.toList,R O ky ix x y):Good O ky ix a b (b.extract 0 nb ++ a.extract 0 na ++ out.reverse):=by
 unfold Good Srt
 rw [Array.toList_append,Array.toList_append,ext0,ext0,Array.toList_reverse]
 refine ⟨?_,?_⟩
 ·have e1:=List.take_append_drop na a.toList
  have e2:=List.take_append_drop nb b.toList
  conv => rhs; rw [← e1,← e2]
  refine (List.Perm.append_left _ ((List.reverse_perm _).trans h.perm)).trans ?_
  refine (List.perm_append_comm.append_right _).trans ?_
  rw [List.append_assoc,List.append_assoc]
  refine List.Perm.append_left _ ?_
  rw [← List.append_assoc,← List.append_assoc]
  exact List.perm_append_comm.append_right _
 ·rw [List.pairwise_append,List.pairwise_append,List.pairwise_reverse]
  refine ⟨⟨take_srt sb _,take_srt sa _,fun x hx y hy => hl x hx y (List.mem_of_mem_take hy)⟩,h.srt,fun x hx y hy => ?_⟩
  rcases List.mem_append.mp hx with hx | hx
  ·exact h.rb y (List.mem_reverse.mp hy) x hx
  ·exact h.ra y (List.mem_reverse.mp hy) x hx
end
end TT
set_option linter.all false
namespace TT
open PySem PyProof.Rows TS
structure SameSt (st st':SortSt):Prop where
 kind:kindOf st' = kindOf st
 arr:arrOf st' = arrOf st
 pend:pendingOf st' = pendingOf st
 fail:failedOf st' = failedOf st
theorem SameSt.refl (st:SortSt):SameSt st st:=⟨rfl,rfl,rfl,rfl⟩
noncomputable def at_ (a:Array Keyed) (i:Nat):Keyed:=(a[i]?).getD (.none,.none)
theorem at_eq {a:Array Keyed} {i:Nat} (h:i < a.size):a[i]? = some (at_ a i):=by unfold at_; rw [getElem?_pos a i h]; rfl
theorem at_list {a:Array Keyed} {i:Nat} (h:i < a.size):a.toList[i]? = some (at_ a i):=by rw [← at_eq h]; simp
theorem at_mem {a:Array Keyed} {i:Nat} (h:i < a.size):at_ a i ∈ a.toList:=List.mem_of_getElem? (at_list h)
theorem at_cons {a:Array Keyed} {i:Nat} (h:i < a.size):a.toList.drop i = at_ a i :: a.toList.drop (i + 1):=by
 have e:=at_list h
 obtain ⟨hl,e2⟩:=List.getElem?_eq_some_iff.mp e
 rw [List.drop_eq_getElem_cons hl,e2]
theorem at_one {a:Array Keyed} {i:Nat} (h:i < a.size):(a.toList.drop i).take 1 = [at_ a i]:=by rw [at_cons h]; rfl
section
variable {O:KeyOrd} {ky:Keyed -> O.α} {ix:Keyed -> Nat}
theorem at_le {a:Array Keyed} (sa:Srt O ky ix a.toList) {i:Nat} (h:i < a.size):∀ y ∈ a.toList.drop i,R O ky ix (at_ a i) y:=by
 intro y hy
 have s:=drop_srt sa i
 rw [at_cons h] at hy s
 rcases List.mem_cons.mp hy with e | hy
 ·rw [e]; exact R.refl _
 ·exact (List.pairwise_cons.mp s).1 y hy
theorem at_ij {a:Array Keyed} (sa:Srt O ky ix a.toList) {i j:Nat} (hij:i ≤ j) (h:j < a.size):R O ky ix (at_ a i) (at_ a j):=at_le sa (by trivial) _ (by
 have:at_ a j ∈ a.toList.drop j:=by rw [at_cons h]; exact List.mem_cons_self
 exact mem_drop_le hij this)
theorem mem_at {a:Array Keyed} {i k:Nat} {x:Keyed} (hx:x ∈ (a.toList.drop i).take k):∃ j,j < k∧i + j < a.size∧x = at_ a (i + j):=by
 obtain ⟨j,hj,e⟩:=List.getElem_of_mem hx
 rw [List.length_take,List.length_drop] at hj
 have hl:i + j < a.size:=by simp at hj; trivial
 refine ⟨j,by trivial,hl,?_⟩
 have e2:((a.toList.drop i).take k)[j]? = some x:=by rw [← e]; exact List.getElem?_eq_getElem _
 rw [List.getElem?_take,if_pos (by trivial),List.getElem?_drop,at_list hl] at e2
 exact (Option.some.inj e2).symm
end
section
variable {prog:Program} {w:World} {A:Around} {E:Value -> Shared -> Prop} {s:Shared}
variable {kd:SortKind} {O:KeyOrd} {ky:Keyed -> O.α} {ix:Keyed -> Nat} {S:Keyed -> Prop}
theorem wpS_gal (C:Cmp prog w A s kd O ky S) {st:SortSt} {left:Bool} {key:Keyed} {arr:Array Keyed} {base n hint:Nat} {Q:Option Nat -> SortSt -> Prop} (hk:kindOf st = kd) (hs:S key) (hS:∀ p ∈ arr.toList,S p) (sr:∀ i j,i ≤ j -> j < n -> R O ky ix (at_ arr (base + i)) (at_ arr (base + j))) (hix:∀ i,i < n -> if left then ix key ≤ ix (at_ arr (base + i)) else ix (at_ arr (base + i)) ≤ ix key) (hn:base + n ≤ arr.size) (hh:hint < n)
  (h:∀ k,k ≤ n -> (∀ i,i < k -> if left then O.klt (ky (at_ arr (base + i))) (ky key) else R O ky ix (at_ arr (base + i)) key) -> (∀ i,k ≤ i -> i < n -> if left then R O ky ix key (at_ arr (base + i)) else O.klt (ky key) (ky (at_ arr (base + i)))) -> Q (some k) st) :
  wpS (model prog w) A E s (gallop' left key arr base n hint) Q st:=by
 refine wpS_gallop C hk hs (el:=fun i => at_ arr (base + i)) (fun i hi => ⟨at_eq (by trivial),hS _ (at_mem (by trivial))⟩) (fun i j hij hj hb => ?_) hh (fun k hkn h1 h2 => h k hkn (fun i hi => ?_) (fun i hi hin => ?_))
 ·have r:=sr i j hij hj
  unfold bey at hb ⊢
  cases left with
  | true =>
   rw [if_pos rfl] at hb ⊢
   exact KeyOrd.klt_of_kle_of_klt r.1 hb
  | false =>
   rw [if_neg Bool.false_ne_true] at hb ⊢
   have hb':O.blt (ky key) (ky (at_ arr (base + j))) = false:=by simpa using hb
   have:O.kle (ky (at_ arr (base + i))) (ky key):=KeyOrd.kle_trans r.1 hb'
   unfold KeyOrd.kle at this
   rw [this]; rfl
 ·have:=h1 i hi
  unfold bey at this
  cases left with
  | true =>
   rw [if_pos rfl] at this ⊢
   exact this
  | false =>
   rw [if_neg Bool.false_ne_true] at this ⊢
   have hb':O.blt (ky key) (ky (at_ arr (base + i))) = false:=by simpa using this
   have hx:=hix i (by trivial)
   rw [if_neg Bool.false_ne_true] at hx
   exact R.le hb' hx
 ·have:=h2 i hi hin
  unfold bey at this
  cases left with
  | true =>
   rw [if_pos rfl] at this ⊢
   have hx:=hix i hin
   rw [if_pos rfl] at hx
   exact R.le this hx
  | false =>
   rw [if_neg Bool.false_ne_true] at this ⊢
   have hb':O.blt (ky key) (ky (at_ arr (base + i))) = true:=by simpa using this
   exact hb'
theorem wpS_mergeLo (C:Cmp prog w A s kd O ky S) {st:SortSt} {a b:Array Keyed} {Q:Array Keyed -> SortSt -> Prop} (hk:kindOf st = kd) (hSa:∀ p ∈ a.toList,S p) (hSb:∀ p ∈ b.toList,S p) (sa:Srt O ky ix a.toList) (sb:Srt O ky ix b.toList) (hix:∀ x ∈ a.toList,∀ y ∈ b.toList,ix x ≤ ix y) (na:1 ≤ a.size) (nb:1 ≤ b.size)
  (h0:∀ y ∈ a.toList,R O ky ix (at_ b 0) y) (hl:∀ y ∈ b.toList,R O ky ix y (at_ a (a.size - 1))) (h:∀ o st',Good O ky ix a b o -> SameSt st st' -> Q o st'):wpS (model prog w) A E s (mergeLo' a b) Q st:=by
 have lst:∀ {ia},ia + 1 = a.size -> ∀ y ∈ b.toList,∀ x ∈ a.toList.drop ia,R O ky ix y x:=fun {ia} e y hy x hx => by
  rw [at_cons (by trivial),List.drop_of_length_le (by simp; trivial)] at hx
  have:x = at_ a ia:=by simpa using hx
  rw [this,show ia = a.size - 1 by trivial]
  exact hl y hy
 unfold mergeLo'
 refine wpS_bind (wpS_lift (wpAny_rule ⟨rfl,?_⟩))
 dsimp only
 refine wpS_bind (wpS_elem (at_eq (by trivial)) ?_)
 have m0:MI O ky ix a b #[at_ b 0] 0 1:=by
  have z:MI O ky ix a b #[] 0 0:=⟨by trivial,by trivial,by simp,List.Pairwise.nil,fun x hx => by simp at hx,fun x hx => by simp at hx⟩
  have:=z.addB sb (k:=1) (o:=#[at_ b 0]) (by trivial) (fun x hx y hy => ?_) (by rw [at_one (by trivial)]; rfl)
  ·exact this
  ·rw [at_one (by trivial)] at hx
   have:x = at_ b 0:=by simpa using hx
   rw [this]; exact h0 y hy
 by_cases e1:(1 == b.size) = true
 ·rw [if_pos e1]
  exact wpS_pure (h _ _ (m0.done sa sb (.inr (by simpa using e1))) (SameSt.refl _))
 rw [if_neg e1]
 have e1':¬ 1 = b.size:=by simpa using e1
 by_cases e2:(0 + 1 == a.size) = true
 ·rw [if_pos e2]
  exact wpS_pure (h _ _ (m0.last sa sb (lst (by simpa using e2))) (SameSt.refl _))
 rw [if_neg e2]
 have e2':¬ 0 + 1 = a.size:=by simpa using e2
 refine wpS_bind (wpS_get ?_)
 refine wpS_bind (wpS_mono (wpS_forRange
  (I:=fun x c st' => SameSt st st'∧c.1 = none∧MI O ky ix a b c.2.1 c.2.2.1 c.2.2.2.1∧c.2.2.1 + 1 < a.size∧c.2.2.2.1 < b.size∧x + 1 ≤ c.2.2.1 + c.2.2.2.1)
  (Q:=fun c st' => SameSt st st'∧∃ r,c.1 = some r∧Good O ky ix a b r) ?step ?fin ⟨SameSt.refl _,rfl,m0,by dsimp only; trivial,by dsimp only; trivial,by dsimp only; trivial⟩) ?post)
 case fin =>
  rintro c st' ⟨_,_,m,c1,c2,c3⟩
  trivial
 case post =>
  rintro ⟨r,out,ia,ib,mg⟩ st' ⟨ss,r',hr,g⟩
  dsimp only at hr ⊢
  subst hr
  exact wpS_pure (h _ _ g ss)
 case step =>
  rintro x ⟨r,out,ia,ib,mg⟩ st1 _ hx ⟨ss,hr,m,c1,c2,c3⟩
  dsimp only at hr m c1 c2 c3 ⊢
  subst hr
  -- one by one
  refine wpS_bind (wpS_mono (wpS_forRange
   (I:=fun y c st' => st' = st1∧c.1 = none∧MI O ky ix a b c.2.1 c.2.2.1 c.2.2.2.1∧c.2.2.1 + 1 < a.size∧c.2.2.2.1 < b.size∧ia + ib + y ≤ c.2.2.1 + c.2.2.2.1)
   (Q:=fun c st' => st' = st1∧((∃ r,c.1 = some r∧Good O ky ix a b r) ∨ (c.1 = none∧MI O ky ix a b c.2.1 c.2.2.1 c.2.2.2.1∧c.2.2.1 + 1 < a.size∧c.2.2.2.1 < b.size∧ia + ib + 1 ≤ c.2.2.1 + c.2.2.2.1))) ?step1 ?fin1 ⟨rfl,rfl,m,c1,c2,by dsimp only; trivial⟩) ?post1)
  case fin1 =>
   rintro c st' ⟨_,_,m,c1,c2,c3⟩
   trivial
  case step1 =>
   rintro y ⟨r,out,ia',ib',ac,bc⟩ st' _ hy ⟨rfl,hr,m,c1,c2,c3⟩
   dsimp only at hr m c1 c2 c3 ⊢
   subst hr
   have ka:kindOf st' = kd:=ss.kind.trans hk
   refine wpS_bind (wpS_elem (at_eq c2) (wpS_bind (wpS_elem (at_eq (by trivial)) (wpS_bind (wpS_lt C ka (hSb _ (at_mem c2)) (hSa _ (at_mem (by trivial))) ?_)))))
   dsimp only
   cases hw:O.blt (ky (at_ b ib')) (ky (at_ a ia')) with
   | true =>
    rw [if_pos rfl]
    have m1:MI O ky ix a b (out.push (at_ b ib')) ia' (ib' + 1):=m.addB sb (k:=1) (by trivial) (fun x hx y hy => by
     rw [at_one c2] at hx
     have:x = at_ b ib':=by simpa using hx
     rw [this]
     exact R.trans (R.lt hw) (at_le sa (by trivial) y hy)) (by rw [at_one c2]; simp)
    refine wpS_bind (wpS_elem (at_eq c2) ?_)
    split
    ·rename_i q
     exact wpS_pure ⟨rfl,.inl ⟨_,rfl,m1.done sa sb (.inr (by simpa using q))⟩⟩
    ·rename_i q
     have q':¬ ib' + 1 = b.size:=by simpa using q
     split
     ·exact wpS_pure ⟨rfl,.inr ⟨rfl,m1,c1,by dsimp only; trivial,by dsimp only; trivial⟩⟩
     ·exact wpS_pure ⟨rfl,rfl,m1,c1,by dsimp only; trivial,by dsimp only; trivial⟩
   | false =>
    rw [if_neg Bool.false_ne_true]
    have m1:MI O ky ix a b (out.push (at_ a ia')) (ia' + 1) ib':=m.addA sa (k:=1) (by trivial) (fun x hx y hy => by
     rw [at_one (by trivial)] at hx
     have:x = at_ a ia':=by simpa using hx
     rw [this]
     exact R.trans (R.le hw (hix _ (at_mem (by trivial)) _ (at_mem c2))) (at_le sb c2 y hy)) (by rw [at_one (by trivial)]; simp)
    refine wpS_bind (wpS_elem (at_eq (by trivial)) ?_)
    split
    ·rename_i q
     exact wpS_pure ⟨rfl,.inl ⟨_,rfl,m1.last sa sb (lst (by simpa using q))⟩⟩
    ·rename_i q
     have q':¬ ia' + 1 + 1 = a.size:=by simpa using q
     split
     ·exact wpS_pure ⟨rfl,.inr ⟨rfl,m1,by dsimp only; trivial,c2,by dsimp only; trivial⟩⟩
     ·exact wpS_pure ⟨rfl,rfl,m1,by dsimp only; trivial,c2,by dsimp only; trivial⟩
  case post1 =>
   rintro ⟨r,out,ia1,ib1,ac,bc⟩ st' ⟨rfl,hc⟩
   dsimp only at hc ⊢
   rcases hc with ⟨r,rfl,g⟩ | ⟨rfl,m,c1',c2',c3'⟩
   ·exact wpS_pure ⟨ss,r,rfl,g⟩
   dsimp only
   refine wpS_bind (wpS_lift (wpAny_rule ⟨rfl,?_⟩))
   refine wpS_bind (wpS_mono (wpS_forRange
    (I:=fun y c st' => SameSt st st'∧c.1 = none∧MI O ky ix a b c.2.1 c.2.2.1 c.2.2.2.1∧c.2.2.1 + 1 < a.size∧c.2.2.2.1 < b.size∧ia + ib + 1 ≤ c.2.2.1 + c.2.2.2.1)
    (Q:=fun c st' => SameSt st st'∧((∃ r,c.1 = some r∧Good O ky ix a b r) ∨ (c.1 = none∧MI O ky ix a b c.2.1 c.2.2.1 c.2.2.2.1∧c.2.2.1 + 1 < a.size∧c.2.2.2.1 < b.size∧ia + ib + 1 ≤ c.2.2.1 + c.2.2.2.1))) ?step2 ?fin2 ⟨ss,rfl,m,c1',c2',by dsimp only; trivial⟩) ?post2)
   case fin2 =>
    rintro c st' ⟨s',h1,h2,h3,h4,h5⟩
    exact ⟨s',.inr ⟨h1,h2,h3,h4,h5⟩⟩
   case post2 =>
    rintro ⟨r,out,ia2,ib2,mg2,ac2,bc2⟩ st2 ⟨s2,hc⟩
    dsimp only at hc ⊢
    rcases hc with ⟨r,rfl,g⟩ | ⟨rfl,m,d1,d2,d3⟩
    ·exact wpS_pure ⟨s2,r,rfl,g⟩
    dsimp only
    refine wpS_bind (wpS_modify (wpS_pure ⟨⟨s2.kind,s2.arr,s2.pend,s2.fail⟩,rfl,m,d1,d2,by dsimp only; trivial⟩))
   case step2 =>
    rintro y ⟨r,out,ia',ib',mg',ac',bc'⟩ st2 _ hy ⟨s2,hr,m,c1,c2,c3⟩
    dsimp only at hr m c1 c2 c3 ⊢
    subst hr
    -- behind the gallop in a
    have T2:∀ {out:Array Keyed} {ia2 ib2:Nat},MI O ky ix a b out ia2 ib2 -> ia2 + 1 < a.size -> ib2 < b.size -> ia + ib + 1 ≤ ia2 + ib2 -> (∀ y ∈ b.toList.drop ib2,R O ky ix (at_ a ia2) y) -> MI O ky ix a b (out.push (at_ a ia2)) (ia2 + 1) ib2:=fun {out ia2 ib2} m i1 i2 i3 hle => m.addA sa (k:=1) (by trivial) (fun x hx y hy => by
      rw [at_one (by trivial)] at hx
      have:x = at_ a ia2:=by simpa using hx
      rw [this]; exact hle y hy) (by rw [at_one (by trivial)]; simp)
    have T1:∀ {out:Array Keyed} {ia2 ib2:Nat},MI O ky ix a b out ia2 ib2 -> ib2 < b.size -> (∀ y ∈ a.toList.drop ia2,R O ky ix (at_ b ib2) y) -> MI O ky ix a b (out.push (at_ b ib2)) ia2 (ib2 + 1):=fun {out ia2 ib2} m i2 hle => m.addB sb (k:=1) (by trivial) (fun x hx y hy => by
      rw [at_one (by trivial)] at hx
      have:x = at_ b ib2:=by simpa using hx
      rw [this]; exact hle y hy) (by rw [at_one (by trivial)]; simp)
    by_cases hmg:mg' > 1
    ·rw [if_pos hmg]
     refine wpS_bind (wpS_modify ?_)
     refine wpS_bind (wpS_elem (at_eq c2) ?_)
     refine wpS_bind (wpS_gal C (s2.kind.trans hk) (hSb _ (at_mem c2)) hSa (fun i j hij hj => at_ij sa (by trivial) (by trivial)) (fun i hi => by simp only [Bool.false_eq_true,if_false]; exact hix _ (at_mem (by trivial)) _ (at_mem (by trivial))) (by trivial) (by trivial) fun k hkn k1 k2 => ?_)
     dsimp only
     simp only [Bool.false_eq_true,if_false] at k1 k2
     have hle:∀ y ∈ a.toList.drop (ia' + k),R O ky ix (at_ b ib') y:=fun y hy => by
      by_cases hlt:ia' + k < a.size
      ·exact R.trans (R.lt (k2 k (Nat.le_refl _) (by trivial))) (at_le sa hlt y hy)
      ·rw [List.drop_of_length_le (by simp; trivial)] at hy; cases hy
     have mA:MI O ky ix a b (out ++ a.extract ia' (ia' + k)) (ia' + k) ib':=m.addA sa (by trivial) (fun x hx y hy => by
      obtain ⟨j,j1,j2,rfl⟩:=mem_at hx
      exact R.trans (k1 j j1) (at_le sb c2 y hy)) (by rw [Array.toList_append,ext_some])
     by_cases hk0:k > 0
     ·rw [if_pos hk0]
      by_cases p1:(ia' + k + 1 == a.size) = true
      ·rw [if_pos p1]
       exact wpS_pure ⟨⟨s2.kind,s2.arr,s2.pend,s2.fail⟩,.inl ⟨_,rfl,mA.last sa sb (lst (by simpa using p1))⟩⟩
      rw [if_neg p1]
      by_cases p2:(ia' + k == a.size) = true
      ·rw [if_pos p2]
       exact wpS_pure ⟨⟨s2.kind,s2.arr,s2.pend,s2.fail⟩,.inl ⟨_,rfl,mA.done sa sb (.inl (by simpa using p2))⟩⟩
      rw [if_neg p2]
      have p1':¬ ia' + k + 1 = a.size:=by simpa using p1
      have p2':¬ ia' + k = a.size:=by simpa using p2
      refine wpS_bind (wpS_elem (at_eq c2) ?_)
      have m1:=T1 mA c2 hle
      by_cases q1:(ib' + 1 == b.size) = true
      ·rw [if_pos q1]
       exact wpS_pure ⟨⟨s2.kind,s2.arr,s2.pend,s2.fail⟩,.inl ⟨_,rfl,m1.done sa sb (.inr (by simpa using q1))⟩⟩
      rw [if_neg q1]
      have q1':¬ ib' + 1 = b.size:=by simpa using q1
      refine wpS_bind (wpS_elem (at_eq (by trivial)) ?_)
      refine wpS_bind (wpS_gal C (s2.kind.trans hk) (hSa _ (at_mem (by trivial))) hSb (fun i j hij hj => at_ij sb (by trivial) (by trivial)) (fun i hi => by simp only [if_true]; exact hix _ (at_mem (by trivial)) _ (at_mem (by trivial))) (by trivial) (by trivial) fun k' hkn' k1' k2' => ?_)
      dsimp only
      simp only [if_true] at k1' k2'
      have hle2:∀ y ∈ b.toList.drop (ib' + 1 + k'),R O ky ix (at_ a (ia' + k)) y:=fun y hy => by
       by_cases hlt:ib' + 1 + k' < b.size
       ·exact R.trans (k2' k' (Nat.le_refl _) (by trivial)) (at_le sb hlt y hy)
       ·rw [List.drop_of_length_le (by simp; trivial)] at hy; cases hy
      have mB:=m1.addB sb (k:=k') (o:=(out ++ a.extract ia' (ia' + k)).push (at_ b ib') ++ b.extract (ib' + 1) (ib' + 1 + k')) (by trivial) (fun x hx y hy => by
       obtain ⟨j,j1,j2,rfl⟩:=mem_at hx
       exact R.trans (R.lt (k1' j j1)) (at_le sa (by trivial) y hy)) (by rw [Array.toList_append,ext_some])
      by_cases hk1:k' > 0
      ·rw [if_pos hk1]
       by_cases q2:(ib' + 1 + k' == b.size) = true
       ·rw [if_pos q2]
        exact wpS_pure ⟨⟨s2.kind,s2.arr,s2.pend,s2.fail⟩,.inl ⟨_,rfl,mB.done sa sb (.inr (by simpa using q2))⟩⟩
       rw [if_neg q2]
       have q2':¬ ib' + 1 + k' = b.size:=by simpa using q2
       refine wpS_bind (wpS_elem (at_eq (by trivial)) ?_)
       have m2:=T2 mB (by trivial) (by trivial) (by trivial) hle2
       by_cases q3:(ia' + k + 1 + 1 == a.size) = true
       ·rw [if_pos q3]
        exact wpS_pure ⟨⟨s2.kind,s2.arr,s2.pend,s2.fail⟩,.inl ⟨_,rfl,m2.last sa sb (lst (by simpa using q3))⟩⟩
       rw [if_neg q3]
       have q3':¬ ia' + k + 1 + 1 = a.size:=by simpa using q3
       by_cases q4:(decide (k < 7) && decide (k' < 7)) = true
       ·rw [if_pos q4]
        exact wpS_pure ⟨⟨s2.kind,s2.arr,s2.pend,s2.fail⟩,.inr ⟨rfl,m2,by dsimp only; trivial,by dsimp only; trivial,by dsimp only; trivial⟩⟩
       ·rw [if_neg q4]
        exact wpS_pure ⟨⟨s2.kind,s2.arr,s2.pend,s2.fail⟩,rfl,m2,by dsimp only; trivial,by dsimp only; trivial,by dsimp only; trivial⟩
      ·rw [if_neg hk1]
       have hle3:∀ y ∈ b.toList.drop (ib' + 1),R O ky ix (at_ a (ia' + k)) y:=by
        have h':=hle2
        rw [show ib' + 1 + k' = ib' + 1 by trivial] at h'
        exact h'
       refine wpS_bind (wpS_elem (at_eq (by trivial)) ?_)
       have m2:=T2 m1 (by trivial) (by trivial) (by trivial) hle3
       by_cases q3:(ia' + k + 1 + 1 == a.size) = true
       ·rw [if_pos q3]
        exact wpS_pure ⟨⟨s2.kind,s2.arr,s2.pend,s2.fail⟩,.inl ⟨_,rfl,m2.last sa sb (lst (by simpa using q3))⟩⟩
       rw [if_neg q3]
       have q3':¬ ia' + k + 1 + 1 = a.size:=by simpa using q3
       by_cases q4:(decide (k < 7) && decide (k' < 7)) = true
       ·rw [if_pos q4]
        exact wpS_pure ⟨⟨s2.kind,s2.arr,s2.pend,s2.fail⟩,.inr ⟨rfl,m2,by dsimp only; trivial,by dsimp only; trivial,by dsimp only; trivial⟩⟩
       ·rw [if_neg q4]
        exact wpS_pure ⟨⟨s2.kind,s2.arr,s2.pend,s2.fail⟩,rfl,m2,by dsimp only; trivial,by dsimp only; trivial,by dsimp only; trivial⟩
     ·rw [if_neg hk0]
      have hle0:∀ y ∈ a.toList.drop ia',R O ky ix (at_ b ib') y:=by
       have h':=hle
       rw [show ia' + k = ia' by trivial] at h'
       exact h'
      refine wpS_bind (wpS_elem (at_eq c2) ?_)
      have m1:=T1 m c2 hle0
      by_cases q1:(ib' + 1 == b.size) = true
      ·rw [if_pos q1]
       exact wpS_pure ⟨⟨s2.kind,s2.arr,s2.pend,s2.fail⟩,.inl ⟨_,rfl,m1.done sa sb (.inr (by simpa using q1))⟩⟩
      rw [if_neg q1]
      have q1':¬ ib' + 1 = b.size:=by simpa using q1
      refine wpS_bind (wpS_elem (at_eq (by trivial)) ?_)
      refine wpS_bind (wpS_gal C (s2.kind.trans hk) (hSa _ (at_mem (by trivial))) hSb (fun i j hij hj => at_ij sb (by trivial) (by trivial)) (fun i hi => by simp only [if_true]; exact hix _ (at_mem (by trivial)) _ (at_mem (by trivial))) (by trivial) (by trivial) fun k' hkn' k1' k2' => ?_)
      dsimp only
      simp only [if_true] at k1' k2'
      have hle2:∀ y ∈ b.toList.drop (ib' + 1 + k'),R O ky ix (at_ a (ia')) y:=fun y hy => by
       by_cases hlt:ib' + 1 + k' < b.size
       ·exact R.trans (k2' k' (Nat.le_refl _) (by trivial)) (at_le sb hlt y hy)
       ·rw [List.drop_of_length_le (by simp; trivial)] at hy; cases hy
      have mB:=m1.addB sb (k:=k') (o:=out.push (at_ b ib') ++ b.extract (ib' + 1) (ib' + 1 + k')) (by trivial) (fun x hx y hy => by
       obtain ⟨j,j1,j2,rfl⟩:=mem_at hx
       exact R.trans (R.lt (k1' j j1)) (at_le sa (by trivial) y hy)) (by rw [Array.toList_append,ext_some])
      by_cases hk1:k' > 0
      ·rw [if_pos hk1]
       by_cases q2:(ib' + 1 + k' == b.size) = true
       ·rw [if_pos q2]
        exact wpS_pure ⟨⟨s2.kind,s2.arr,s2.pend,s2.fail⟩,.inl ⟨_,rfl,mB.done sa sb (.inr (by simpa using q2))⟩⟩
       rw [if_neg q2]
       have q2':¬ ib' + 1 + k' = b.size:=by simpa using q2
       refine wpS_bind (wpS_elem (at_eq (by trivial)) ?_)
       have m2:=T2 mB (by trivial) (by trivial) (by trivial) hle2
       by_cases q3:(ia' + 1 + 1 == a.size) = true
       ·rw [if_pos q3]
        exact wpS_pure ⟨⟨s2.kind,s2.arr,s2.pend,s2.fail⟩,.inl ⟨_,rfl,m2.last sa sb (lst (by simpa using q3))⟩⟩
       rw [if_neg q3]
       have q3':¬ ia' + 1 + 1 = a.size:=by simpa using q3
       by_cases q4:(decide (k < 7) && decide (k' < 7)) = true
       ·rw [if_pos q4]
        exact wpS_pure ⟨⟨s2.kind,s2.arr,s2.pend,s2.fail⟩,.inr ⟨rfl,m2,by dsimp only; trivial,by dsimp only; trivial,by dsimp only; trivial⟩⟩
       ·rw [if_neg q4]
        exact wpS_pure ⟨⟨s2.kind,s2.arr,s2.pend,s2.fail⟩,rfl,m2,by dsimp only; trivial,by dsimp only; trivial,by dsimp only; trivial⟩
      ·rw [if_neg hk1]
       have hle3:∀ y ∈ b.toList.drop (ib' + 1),R O ky ix (at_ a (ia')) y:=by
        have h':=hle2
        rw [show ib' + 1 + k' = ib' + 1 by trivial] at h'
        exact h'
       refine wpS_bind (wpS_elem (at_eq (by trivial)) ?_)
       have m2:=T2 m1 (by trivial) (by trivial) (by trivial) hle3
       by_cases q3:(ia' + 1 + 1 == a.size) = true
       ·rw [if_pos q3]
        exact wpS_pure ⟨⟨s2.kind,s2.arr,s2.pend,s2.fail⟩,.inl ⟨_,rfl,m2.last sa sb (lst (by simpa using q3))⟩⟩
       rw [if_neg q3]
       have q3':¬ ia' + 1 + 1 = a.size:=by simpa using q3
       by_cases q4:(decide (k < 7) && decide (k' < 7)) = true
       ·rw [if_pos q4]
        exact wpS_pure ⟨⟨s2.kind,s2.arr,s2.pend,s2.fail⟩,.inr ⟨rfl,m2,by dsimp only; trivial,by dsimp only; trivial,by dsimp only; trivial⟩⟩
       ·rw [if_neg q4]
        exact wpS_pure ⟨⟨s2.kind,s2.arr,s2.pend,s2.fail⟩,rfl,m2,by dsimp only; trivial,by dsimp only; trivial,by dsimp only; trivial⟩
    ·rw [if_neg hmg]
     refine wpS_bind (wpS_modify ?_)
     refine wpS_bind (wpS_elem (at_eq c2) ?_)
     refine wpS_bind (wpS_gal C (s2.kind.trans hk) (hSb _ (at_mem c2)) hSa (fun i j hij hj => at_ij sa (by trivial) (by trivial)) (fun i hi => by simp only [Bool.false_eq_true,if_false]; exact hix _ (at_mem (by trivial)) _ (at_mem (by trivial))) (by trivial) (by trivial) fun k hkn k1 k2 => ?_)
     dsimp only
     simp only [Bool.false_eq_true,if_false] at k1 k2
     have hle:∀ y ∈ a.toList.drop (ia' + k),R O ky ix (at_ b ib') y:=fun y hy => by
      by_cases hlt:ia' + k < a.size
      ·exact R.trans (R.lt (k2 k (Nat.le_refl _) (by trivial))) (at_le sa hlt y hy)
      ·rw [List.drop_of_length_le (by simp; trivial)] at hy; cases hy
     have mA:MI O ky ix a b (out ++ a.extract ia' (ia' + k)) (ia' + k) ib':=m.addA sa (by trivial) (fun x hx y hy => by
      obtain ⟨j,j1,j2,rfl⟩:=mem_at hx
      exact R.trans (k1 j j1) (at_le sb c2 y hy)) (by rw [Array.toList_append,ext_some])
     by_cases hk0:k > 0
     ·rw [if_pos hk0]
      by_cases p1:(ia' + k + 1 == a.size) = true
      ·rw [if_pos p1]
       exact wpS_pure ⟨⟨s2.kind,s2.arr,s2.pend,s2.fail⟩,.inl ⟨_,rfl,mA.last sa sb (lst (by simpa using p1))⟩⟩
      rw [if_neg p1]
      by_cases p2:(ia' + k == a.size) = true
      ·rw [if_pos p2]
       exact wpS_pure ⟨⟨s2.kind,s2.arr,s2.pend,s2.fail⟩,.inl ⟨_,rfl,mA.done sa sb (.inl (by simpa using p2))⟩⟩
      rw [if_neg p2]
      have p1':¬ ia' + k + 1 = a.size:=by simpa using p1
      have p2':¬ ia' + k = a.size:=by simpa using p2
      refine wpS_bind (wpS_elem (at_eq c2) ?_)
      have m1:=T1 mA c2 hle
      by_cases q1:(ib' + 1 == b.size) = true
      ·rw [if_pos q1]
       exact wpS_pure ⟨⟨s2.kind,s2.arr,s2.pend,s2.fail⟩,.inl ⟨_,rfl,m1.done sa sb (.inr (by simpa using q1))⟩⟩
      rw [if_neg q1]
      have q1':¬ ib' + 1 = b.size:=by simpa using q1
      refine wpS_bind (wpS_elem (at_eq (by trivial)) ?_)
      refine wpS_bind (wpS_gal C (s2.kind.trans hk) (hSa _ (at_mem (by trivial))) hSb (fun i j hij hj => at_ij sb (by trivial) (by trivial)) (fun i hi => by simp only [if_true]; exact hix _ (at_mem (by trivial)) _ (at_mem (by trivial))) (by trivial) (by trivial) fun k' hkn' k1' k2' => ?_)
      dsimp only
      simp only [if_true] at k1' k2'
      have hle2:∀ y ∈ b.toList.drop (ib' + 1 + k'),R O ky ix (at_ a (ia' + k)) y:=fun y hy => by
       by_cases hlt:ib' + 1 + k' < b.size
       ·exact R.trans (k2' k' (Nat.le_refl _) (by trivial)) (at_le sb hlt y hy)
       ·rw [List.drop_of_length_le (by simp; trivial)] at hy; cases hy
      have mB:=m1.addB sb (k:=k') (o:=(out ++ a.extract ia' (ia' + k)).push (at_ b ib') ++ b.extract (ib' + 1) (ib' + 1 + k')) (by trivial) (fun x hx y hy => by
       obtain ⟨j,j1,j2,rfl⟩:=mem_at hx
       exact R.trans (R.lt (k1' j j1)) (at_le sa (by trivial) y hy)) (by rw [Array.toList_append,ext_some])
      by_cases hk1:k' > 0
      ·rw [if_pos hk1]
       by_cases q2:(ib' + 1 + k' == b.size) = true
       ·rw [if_pos q2]
        exact wpS_pure ⟨⟨s2.kind,s2.arr,s2.pend,s2.fail⟩,.inl ⟨_,rfl,mB.done sa sb (.inr (by simpa using q2))⟩⟩
       rw [if_neg q2]
       have q2':¬ ib' + 1 + k' = b.size:=by simpa using q2
       refine wpS_bind (wpS_elem (at_eq (by trivial)) ?_)
       have m2:=T2 mB (by trivial) (by trivial) (by trivial) hle2
       by_cases q3:(ia' + k + 1 + 1 == a.size) = true
       ·rw [if_pos q3]
        exact wpS_pure ⟨⟨s2.kind,s2.arr,s2.pend,s2.fail⟩,.inl ⟨_,rfl,m2.last sa sb (lst (by simpa using q3))⟩⟩
       rw [if_neg q3]
       have q3':¬ ia' + k + 1 + 1 = a.size:=by simpa using q3
       by_cases q4:(decide (k < 7) && decide (k' < 7)) = true
       ·rw [if_pos q4]
        exact wpS_pure ⟨⟨s2.kind,s2.arr,s2.pend,s2.fail⟩,.inr ⟨rfl,m2,by dsimp only; trivial,by dsimp only; trivial,by dsimp only; trivial⟩⟩
       ·rw [if_neg q4]
        exact wpS_pure ⟨⟨s2.kind,s2.arr,s2.pend,s2.fail⟩,rfl,m2,by dsimp only; trivial,by dsimp only; trivial,by dsimp only; trivial⟩
      ·rw [if_neg hk1]
       have hle3:∀ y ∈ b.toList.drop (ib' + 1),R O ky ix (at_ a (ia' + k)) y:=by
        have h':=hle2
        rw [show ib' + 1 + k' = ib' + 1 by trivial] at h'
        exact h'
       refine wpS_bind (wpS_elem (at_eq (by trivial)) ?_)
       have m2:=T2 m1 (by trivial) (by trivial) (by trivial) hle3
       by_cases q3:(ia' + k + 1 + 1 == a.size) = true
       ·rw [if_pos q3]
        exact wpS_pure ⟨⟨s2.kind,s2.arr,s2.pend,s2.fail⟩,.inl ⟨_,rfl,m2.last sa sb (lst (by simpa using q3))⟩⟩
       rw [if_neg q3]
       have q3':¬ ia' + k + 1 + 1 = a.size:=by simpa using q3
       by_cases q4:(decide (k < 7) && decide (k' < 7)) = true
       ·rw [if_pos q4]
        exact wpS_pure ⟨⟨s2.kind,s2.arr,s2.pend,s2.fail⟩,.inr ⟨rfl,m2,by dsimp only; trivial,by dsimp only; trivial,by dsimp only; trivial⟩⟩
       ·rw [if_neg q4]
        exact wpS_pure ⟨⟨s2.kind,s2.arr,s2.pend,s2.fail⟩,rfl,m2,by dsimp only; trivial,by dsimp only; trivial,by dsimp only; trivial⟩
     ·rw [if_neg hk0]
      have hle0:∀ y ∈ a.toList.drop ia',R O ky ix (at_ b ib') y:=by
       have h':=hle
       rw [show ia' + k = ia' by trivial] at h'
       exact h'
      refine wpS_bind (wpS_elem (at_eq c2) ?_)
      have m1:=T1 m c2 hle0
      by_cases q1:(ib' + 1 == b.size) = true
      ·rw [if_pos q1]
       exact wpS_pure ⟨⟨s2.kind,s2.arr,s2.pend,s2.fail⟩,.inl ⟨_,rfl,m1.done sa sb (.inr (by simpa using q1))⟩⟩
      rw [if_neg q1]
      have q1':¬ ib' + 1 = b.size:=by simpa using q1
      refine wpS_bind (wpS_elem (at_eq (by trivial)) ?_)
      refine wpS_bind (wpS_gal C (s2.kind.trans hk) (hSa _ (at_mem (by trivial))) hSb (fun i j hij hj => at_ij sb (by trivial) (by trivial)) (fun i hi => by simp only [if_true]; exact hix _ (at_mem (by trivial)) _ (at_mem (by trivial))) (by trivial) (by trivial) fun k' hkn' k1' k2' => ?_)
      dsimp only
      simp only [if_true] at k1' k2'
      have hle2:∀ y ∈ b.toList.drop (ib' + 1 + k'),R O ky ix (at_ a (ia')) y:=fun y hy => by
       by_cases hlt:ib' + 1 + k' < b.size
       ·exact R.trans (k2' k' (Nat.le_refl _) (by trivial)) (at_le sb hlt y hy)
       ·rw [List.drop_of_length_le (by simp; trivial)] at hy; cases hy
      have mB:=m1.addB sb (k:=k') (o:=out.push (at_ b ib') ++ b.extract (ib' + 1) (ib' + 1 + k')) (by trivial) (fun x hx y hy => by
       obtain ⟨j,j1,j2,rfl⟩:=mem_at hx
       exact R.trans (R.lt (k1' j j1)) (at_le sa (by trivial) y hy)) (by rw [Array.toList_append,ext_some])
      by_cases hk1:k' > 0
      ·rw [if_pos hk1]
       by_cases q2:(ib' + 1 + k' == b.size) = true
       ·rw [if_pos q2]
        exact wpS_pure ⟨⟨s2.kind,s2.arr,s2.pend,s2.fail⟩,.inl ⟨_,rfl,mB.done sa sb (.inr (by simpa using q2))⟩⟩
       rw [if_neg q2]
       have q2':¬ ib' + 1 + k' = b.size:=by simpa using q2
       refine wpS_bind (wpS_elem (at_eq (by trivial)) ?_)
       have m2:=T2 mB (by trivial) (by trivial) (by trivial) hle2
       by_cases q3:(ia' + 1 + 1 == a.size) = true
       ·rw [if_pos q3]
        exact wpS_pure ⟨⟨s2.kind,s2.arr,s2.pend,s2.fail⟩,.inl ⟨_,rfl,m2.last sa sb (lst (by simpa using q3))⟩⟩
       rw [if_neg q3]
       have q3':¬ ia' + 1 + 1 = a.size:=by simpa using q3
       by_cases q4:(decide (k < 7) && decide (k' < 7)) = true
       ·rw [if_pos q4]
        exact wpS_pure ⟨⟨s2.kind,s2.arr,s2.pend,s2.fail⟩,.inr ⟨rfl,m2,by dsimp only; trivial,by dsimp only; trivial,by dsimp only; trivial⟩⟩
       ·rw [if_neg q4]
        exact wpS_pure ⟨⟨s2.kind,s2.arr,s2.pend,s2.fail⟩,rfl,m2,by dsimp only; trivial,by dsimp only; trivial,by dsimp only; trivial⟩
      ·rw [if_neg hk1]
       have hle3:∀ y ∈ b.toList.drop (ib' + 1),R O ky ix (at_ a (ia')) y:=by
        have h':=hle2
        rw [show ib' + 1 + k' = ib' + 1 by trivial] at h'
        exact h'
       refine wpS_bind (wpS_elem (at_eq (by trivial)) ?_)
       have m2:=T2 m1 (by trivial) (by trivial) (by trivial) hle3
       by_cases q3:(ia' + 1 + 1 == a.size) = true
       ·rw [if_pos q3]
        exact wpS_pure ⟨⟨s2.kind,s2.arr,s2.pend,s2.fail⟩,.inl ⟨_,rfl,m2.last sa sb (lst (by simpa using q3))⟩⟩
       rw [if_neg q3]
       have q3':¬ ia' + 1 + 1 = a.size:=by simpa using q3
       by_cases q4:(decide (k < 7) && decide (k' < 7)) = true
       ·rw [if_pos q4]
        exact wpS_pure ⟨⟨s2.kind,s2.arr,s2.pend,s2.fail⟩,.inr ⟨rfl,m2,by dsimp only; trivial,by dsimp only; trivial,by dsimp only; trivial⟩⟩
       ·rw [if_neg q4]
        exact wpS_pure ⟨⟨s2.kind,s2.arr,s2.pend,s2.fail⟩,rfl,m2,by dsimp only; trivial,by dsimp only; trivial,by dsimp only; trivial⟩
end
end TT
set_option linter.all false
namespace TT
open PySem PyProof.Rows TS
section
variable {O:KeyOrd} {ky:Keyed -> O.α} {ix:Keyed -> Nat}
theorem at_snoc {a:Array Keyed} {i:Nat} (h:i < a.size):a.toList.take (i + 1) = a.toList.take i ++ [at_ a i]:=by rw [List.take_add_one,at_list h]; rfl
theorem at_ge {a:Array Keyed} (sa:Srt O ky ix a.toList) {i:Nat} (h:i < a.size):∀ y ∈ a.toList.take (i + 1),R O ky ix y (at_ a i):=by
 intro y hy
 have s:=take_srt sa (i + 1)
 unfold Srt at s
 rw [at_snoc h] at hy s
 rcases List.mem_append.mp hy with hy | hy
 ·exact (List.pairwise_append.mp s).2.2 y hy _ List.mem_cons_self
 ·have:y = at_ a i:=by simpa using hy
  rw [this]; exact R.refl _
theorem at_one' {a:Array Keyed} {i:Nat} (h:i < a.size):(a.toList.take (i + 1)).drop i = [at_ a i]:=by
 rw [at_snoc h,List.drop_append_of_le_length (by simp; trivial),List.drop_of_length_le (by simp; trivial)]; rfl
theorem mem_at' {a:Array Keyed} {i k:Nat} (hk:k ≤ a.size) {x:Keyed} (hx:x ∈ (a.toList.take k).drop i):∃ j,i ≤ j∧j < k∧x = at_ a j:=by
 rw [List.drop_take] at hx
 obtain ⟨j,j1,j2,e⟩:=mem_at hx
 exact ⟨i + j,by trivial,by trivial,e⟩
theorem mem_take' {a:Array Keyed} {k:Nat} (hk:k ≤ a.size) {x:Keyed} (hx:x ∈ a.toList.take k):∃ j,j < k∧x = at_ a j:=by
 obtain ⟨j,_,j2,e⟩:=mem_at' (i:=0) hk (by rw [List.drop_zero]; exact hx)
 exact ⟨j,j2,e⟩
theorem MH.pushA {a b out:Array Keyed} {na nb:Nat} (m:MH O ky ix a b out na nb) (sa:Srt O ky ix a.toList) (h1:1 ≤ na) (hx:∀ y ∈ b.toList.take nb,R O ky ix y (at_ a (na - 1))):MH O ky ix a b (out.push (at_ a (na - 1))) (na - 1) nb:=by
 have ha:=m.ha
 obtain ⟨j,rfl⟩:∃ j,na = j + 1:=⟨na - 1,by trivial⟩
 rw [Nat.add_sub_cancel] at hx ⊢
 exact m.addA sa (by trivial) (fun x hx' y hy => by
  rw [at_one' (by trivial)] at hx'
  have:x = at_ a j:=by simpa using hx'
  rw [this]; exact hx y hy) (by rw [at_one' (by trivial)]; simp)
theorem MH.pushB {a b out:Array Keyed} {na nb:Nat} (m:MH O ky ix a b out na nb) (sb:Srt O ky ix b.toList) (h1:1 ≤ nb) (hx:∀ y ∈ a.toList.take na,R O ky ix y (at_ b (nb - 1))):MH O ky ix a b (out.push (at_ b (nb - 1))) na (nb - 1):=(m.swap.pushA sb h1 hx).swap
end
section
variable {prog:Program} {w:World} {A:Around} {E:Value -> Shared -> Prop} {s:Shared}
variable {kd:SortKind} {O:KeyOrd} {ky:Keyed -> O.α} {ix:Keyed -> Nat} {S:Keyed -> Prop}
theorem wpS_mergeHi (C:Cmp prog w A s kd O ky S) {st:SortSt} {a b:Array Keyed} {Q:Array Keyed -> SortSt -> Prop} (hk:kindOf st = kd) (hSa:∀ p ∈ a.toList,S p) (hSb:∀ p ∈ b.toList,S p) (sa:Srt O ky ix a.toList) (sb:Srt O ky ix b.toList) (hix:∀ x ∈ a.toList,∀ y ∈ b.toList,ix x ≤ ix y) (na1:1 ≤ a.size) (nb1:1 ≤ b.size)
  (h0:∀ y ∈ a.toList,R O ky ix (at_ b 0) y) (hl:∀ y ∈ b.toList,R O ky ix y (at_ a (a.size - 1))) (h:∀ o st',Good O ky ix a b o -> SameSt st st' -> Q o st'):wpS (model prog w) A E s (mergeHi' a b) Q st:=by
 have fst:∀ {nb},nb = 1 -> ∀ x ∈ b.toList.take nb,∀ y ∈ a.toList,R O ky ix x y:=fun {nb} e x hx y hy => by
  obtain ⟨j,j1,rfl⟩:=mem_take' (by trivial) hx
  rw [show j = 0 by trivial]
  exact h0 y hy
 unfold mergeHi'
 refine wpS_bind (wpS_lift (wpAny_rule ⟨rfl,?_⟩))
 dsimp only
 refine wpS_bind (wpS_elem (at_eq (by trivial)) ?_)
 have m0:MH O ky ix a b #[at_ a (a.size - 1)] (a.size - 1) b.size:=by
  have z:MH O ky ix a b #[] a.size b.size:=⟨Nat.le_refl _,Nat.le_refl _,by simp,List.Pairwise.nil,fun x hx => by simp at hx,fun x hx => by simp at hx⟩
  exact z.pushA sa na1 (fun y hy => hl y (List.mem_of_mem_take hy))
 by_cases e1:(a.size - 1 == 0) = true
 ·rw [if_pos e1]
  exact wpS_pure (h _ _ (m0.done sa sb (.inl (by simpa using e1))) (SameSt.refl _))
 rw [if_neg e1]
 have e1':¬ a.size - 1 = 0:=by simpa using e1
 by_cases e2:(b.size == 1) = true
 ·rw [if_pos e2]
  exact wpS_pure (h _ _ (m0.first sa sb (fst (by simpa using e2))) (SameSt.refl _))
 rw [if_neg e2]
 have e2':¬ b.size = 1:=by simpa using e2
 refine wpS_bind (wpS_get ?_)
 refine wpS_bind (wpS_mono (wpS_forRange
  (I:=fun x c st' => SameSt st st'∧c.1 = none∧MH O ky ix a b c.2.2.2.1 c.2.1 c.2.2.1∧1 ≤ c.2.1∧2 ≤ c.2.2.1∧c.2.1 + c.2.2.1 + x + 1 ≤ a.size + b.size)
  (Q:=fun c st' => SameSt st st'∧∃ r,c.1 = some r∧Good O ky ix a b r) ?step ?fin ⟨SameSt.refl _,rfl,m0,by dsimp only; trivial,by dsimp only; trivial,by dsimp only; trivial⟩) ?post)
 case fin =>
  rintro c st' ⟨_,_,m,c1,c2,c3⟩
  trivial
 case post =>
  rintro ⟨r,na,nb,out,mg⟩ st' ⟨ss,r',hr,g⟩
  dsimp only at hr ⊢
  subst hr
  exact wpS_pure (h _ _ g ss)
 case step =>
  rintro x ⟨r,na,nb,out,mg⟩ st1 _ hx ⟨ss,hr,m,c1,c2,c3⟩
  dsimp only at hr m c1 c2 c3 ⊢
  subst hr
  have ha0:=m.ha
  have hb0:=m.hb
  refine wpS_bind (wpS_mono (wpS_forRange
   (I:=fun y c st' => st' = st1∧c.1 = none∧MH O ky ix a b c.2.2.2.1 c.2.1 c.2.2.1∧1 ≤ c.2.1∧2 ≤ c.2.2.1∧c.2.1 + c.2.2.1 + y ≤ na + nb)
   (Q:=fun c st' => st' = st1∧((∃ r,c.1 = some r∧Good O ky ix a b r) ∨ (c.1 = none∧MH O ky ix a b c.2.2.2.1 c.2.1 c.2.2.1∧1 ≤ c.2.1∧2 ≤ c.2.2.1∧c.2.1 + c.2.2.1 + 1 ≤ na + nb))) ?step1 ?fin1 ⟨rfl,rfl,m,c1,c2,by dsimp only; trivial⟩) ?post1)
  case fin1 =>
   rintro c st' ⟨_,_,m,c1,c2,c3⟩
   trivial
  case step1 =>
   rintro y ⟨r,na',nb',out,ac,bc⟩ st' _ hy ⟨rfl,hr,m,c1,c2,c3⟩
   dsimp only at hr m c1 c2 c3 ⊢
   subst hr
   have ha':=m.ha
   have hb':=m.hb
   have ka:kindOf st' = kd:=ss.kind.trans hk
   refine wpS_bind (wpS_elem (at_eq (by trivial)) (wpS_bind (wpS_elem (at_eq (by trivial)) (wpS_bind (wpS_lt C ka (hSb _ (at_mem (by trivial))) (hSa _ (at_mem (by trivial))) ?_)))))
   dsimp only
   cases hw:O.blt (ky (at_ b (nb' - 1))) (ky (at_ a (na' - 1))) with
   | true =>
    rw [if_pos rfl]
    have m1:=m.pushA sa c1 (fun y hy => by
     have:=at_ge sb (i:=nb' - 1) (by trivial) y (by rw [show nb' - 1 + 1 = nb' by trivial]; exact hy)
     exact R.trans this (R.lt hw))
    refine wpS_bind (wpS_elem (at_eq (by trivial)) ?_)
    split
    ·rename_i q
     exact wpS_pure ⟨rfl,.inl ⟨_,rfl,m1.done sa sb (.inl (by simpa using q))⟩⟩
    ·rename_i q
     have q':¬ na' - 1 = 0:=by simpa using q
     split
     ·exact wpS_pure ⟨rfl,.inr ⟨rfl,m1,by dsimp only; trivial,c2,by dsimp only; trivial⟩⟩
     ·exact wpS_pure ⟨rfl,rfl,m1,by dsimp only; trivial,c2,by dsimp only; trivial⟩
   | false =>
    rw [if_neg Bool.false_ne_true]
    have m1:=m.pushB sb (by trivial) (fun y hy => by
     have:=at_ge sa (i:=na' - 1) (by trivial) y (by rw [show na' - 1 + 1 = na' by trivial]; exact hy)
     exact R.trans this (R.le hw (hix _ (at_mem (by trivial)) _ (at_mem (by trivial)))))
    refine wpS_bind (wpS_elem (at_eq (by trivial)) ?_)
    split
    ·rename_i q
     exact wpS_pure ⟨rfl,.inl ⟨_,rfl,m1.first sa sb (fst (by simpa using q))⟩⟩
    ·rename_i q
     have q':¬ nb' - 1 = 1:=by simpa using q
     split
     ·exact wpS_pure ⟨rfl,.inr ⟨rfl,m1,c1,by dsimp only; trivial,by dsimp only; trivial⟩⟩
     ·exact wpS_pure ⟨rfl,rfl,m1,c1,by dsimp only; trivial,by dsimp only; trivial⟩
  case post1 =>
   rintro ⟨r,na2,nb2,out,ac,bc⟩ st' ⟨rfl,hc⟩
   dsimp only at hc ⊢
   rcases hc with ⟨r,rfl,g⟩ | ⟨rfl,m,c1',c2',c3'⟩
   ·exact wpS_pure ⟨ss,r,rfl,g⟩
   dsimp only
   refine wpS_bind (wpS_lift (wpAny_rule ⟨rfl,?_⟩))
   refine wpS_bind (wpS_mono (wpS_forRange
    (I:=fun y c st' => SameSt st st'∧c.1 = none∧MH O ky ix a b c.2.2.2.1 c.2.1 c.2.2.1∧1 ≤ c.2.1∧2 ≤ c.2.2.1∧c.2.1 + c.2.2.1 + 1 ≤ na + nb)
    (Q:=fun c st' => SameSt st st'∧((∃ r,c.1 = some r∧Good O ky ix a b r) ∨ (c.1 = none∧MH O ky ix a b c.2.2.2.1 c.2.1 c.2.2.1∧1 ≤ c.2.1∧2 ≤ c.2.2.1∧c.2.1 + c.2.2.1 + 1 ≤ na + nb))) ?step2 ?fin2 ⟨ss,rfl,m,c1',c2',by dsimp only; trivial⟩) ?post2)
   case fin2 =>
    rintro c st' ⟨s',h1,h2,h3,h4,h5⟩
    exact ⟨s',.inr ⟨h1,h2,h3,h4,h5⟩⟩
   case post2 =>
    rintro ⟨r,na3,nb3,out,mg2,ac2,bc2⟩ st2 ⟨s2,hc⟩
    dsimp only at hc ⊢
    rcases hc with ⟨r,rfl,g⟩ | ⟨rfl,m,d1,d2,d3⟩
    ·exact wpS_pure ⟨s2,r,rfl,g⟩
    dsimp only
    refine wpS_bind (wpS_modify (wpS_pure ⟨⟨s2.kind,s2.arr,s2.pend,s2.fail⟩,rfl,m,d1,d2,by dsimp only; trivial⟩))
   case step2 =>
    rintro y ⟨r,na',nb',out,mg',ac',bc'⟩ st2 _ hy ⟨s2,hr,m,c1,c2,c3⟩
    dsimp only at hr m c1 c2 c3 ⊢
    subst hr
    have ha':=m.ha
    have hb':=m.hb
    by_cases hmg:mg' > 1
    ·rw [if_pos hmg]
     refine wpS_bind (wpS_modify ?_)
     refine wpS_bind (wpS_elem (at_eq (by trivial)) ?_)
     refine wpS_bind (wpS_gal C (s2.kind.trans hk) (hSb _ (at_mem (by trivial))) hSa (fun i j hij hj => at_ij sa (by trivial) (by trivial)) (fun i hi => by simp only [Bool.false_eq_true,if_false]; exact hix _ (at_mem (by trivial)) _ (at_mem (by trivial))) (by trivial) (by trivial) fun k hkn k1 k2 => ?_)
     dsimp only
     simp only [Bool.false_eq_true,if_false,Nat.zero_add] at k1 k2
     have hle:∀ y ∈ a.toList.take k,R O ky ix y (at_ b (nb' - 1)):=fun y hy => by
      obtain ⟨j,j1,rfl⟩:=mem_take' (by trivial) hy
      exact k1 j j1
     have mA:MH O ky ix a b (out ++ (a.extract k na').reverse) k nb':=m.addA sa hkn (fun x hx y hy => by
      obtain ⟨j,j1,j2,rfl⟩:=mem_at' (by trivial) hx
      exact R.trans (at_ge sb (i:=nb' - 1) (by trivial) y (by rw [show nb' - 1 + 1 = nb' by trivial]; exact hy)) (R.lt (k2 j j1 j2))) (by rw [Array.toList_append,Array.toList_reverse,ext2])
     by_cases hk0:na' - k > 0
     ·rw [if_pos hk0]
      by_cases p1:(k == 0) = true
      ·rw [if_pos p1]
       exact wpS_pure ⟨⟨s2.kind,s2.arr,s2.pend,s2.fail⟩,.inl ⟨_,rfl,mA.done sa sb (.inl (by simpa using p1))⟩⟩
      rw [if_neg p1]
      have p1':¬ k = 0:=by simpa using p1
      refine wpS_bind (wpS_elem (at_eq (by trivial)) ?_)
      have m1:=MH.pushB mA sb (by trivial) hle
      by_cases q1:(nb' - 1 == 1) = true
      ·rw [if_pos q1]
       exact wpS_pure ⟨⟨s2.kind,s2.arr,s2.pend,s2.fail⟩,.inl ⟨_,rfl,m1.first sa sb (fst (by simpa using q1))⟩⟩
      rw [if_neg q1]
      have q1':¬ nb' - 1 = 1:=by simpa using q1
      refine wpS_bind (wpS_elem (at_eq (by trivial)) ?_)
      refine wpS_bind (wpS_gal C (s2.kind.trans hk) (hSa _ (at_mem (by trivial))) hSb (fun i j hij hj => at_ij sb (by trivial) (by trivial)) (fun i hi => by simp only [if_true]; exact hix _ (at_mem (by trivial)) _ (at_mem (by trivial))) (by trivial) (by trivial) fun k' hkn' k1' k2' => ?_)
      dsimp only
      simp only [if_true,Nat.zero_add] at k1' k2'
      have hle2:∀ y ∈ b.toList.take k',R O ky ix y (at_ a (k - 1)):=fun y hy => by
       obtain ⟨j,j1,rfl⟩:=mem_take' (by trivial) hy
       exact R.lt (k1' j j1)
      have mB:=m1.addB sb (k:=k') (o:=(out ++ (a.extract k na').reverse).push (at_ b (nb' - 1)) ++ (b.extract k' (nb' - 1)).reverse) hkn' (fun x hx y hy => by
       obtain ⟨j,j1,j2,rfl⟩:=mem_at' (by trivial) hx
       exact R.trans (at_ge sa (i:=k - 1) (by trivial) y (by rw [show k - 1 + 1 = k by trivial]; exact hy)) (k2' j j1 j2)) (by rw [Array.toList_append,Array.toList_reverse,ext2])
      by_cases hk1:nb' - 1 - k' > 0
      ·rw [if_pos hk1]
       by_cases q2:(k' == 1) = true
       ·rw [if_pos q2]
        exact wpS_pure ⟨⟨s2.kind,s2.arr,s2.pend,s2.fail⟩,.inl ⟨_,rfl,mB.first sa sb (fst (by simpa using q2))⟩⟩
       rw [if_neg q2]
       by_cases q5:(k' == 0) = true
       ·rw [if_pos q5]
        exact wpS_pure ⟨⟨s2.kind,s2.arr,s2.pend,s2.fail⟩,.inl ⟨_,rfl,mB.done sa sb (.inr (by simpa using q5))⟩⟩
       rw [if_neg q5]
       have q2':¬ k' = 1:=by simpa using q2
       have q5':¬ k' = 0:=by simpa using q5
       refine wpS_bind (wpS_elem (at_eq (by trivial)) ?_)
       have m2:=MH.pushA mB sa (by trivial) hle2
       by_cases q3:(k - 1 == 0) = true
       ·rw [if_pos q3]
        exact wpS_pure ⟨⟨s2.kind,s2.arr,s2.pend,s2.fail⟩,.inl ⟨_,rfl,m2.done sa sb (.inl (by simpa using q3))⟩⟩
       rw [if_neg q3]
       have q3':¬ k - 1 = 0:=by simpa using q3
       by_cases q4:(decide (na' - k < 7) && decide (nb' - 1 - k' < 7)) = true
       ·rw [if_pos q4]
        exact wpS_pure ⟨⟨s2.kind,s2.arr,s2.pend,s2.fail⟩,.inr ⟨rfl,m2,by dsimp only; trivial,by dsimp only; trivial,by dsimp only; trivial⟩⟩
       ·rw [if_neg q4]
        exact wpS_pure ⟨⟨s2.kind,s2.arr,s2.pend,s2.fail⟩,rfl,m2,by dsimp only; trivial,by dsimp only; trivial,by dsimp only; trivial⟩
      ·rw [if_neg hk1]
       have hle3:∀ y ∈ b.toList.take (nb' - 1),R O ky ix y (at_ a (k - 1)):=by
        have h':=hle2
        rw [show k' = nb' - 1 by trivial] at h'
        exact h'
       refine wpS_bind (wpS_elem (at_eq (by trivial)) ?_)
       have m2:=MH.pushA m1 sa (by trivial) hle3
       by_cases q3:(k - 1 == 0) = true
       ·rw [if_pos q3]
        exact wpS_pure ⟨⟨s2.kind,s2.arr,s2.pend,s2.fail⟩,.inl ⟨_,rfl,m2.done sa sb (.inl (by simpa using q3))⟩⟩
       rw [if_neg q3]
       have q3':¬ k - 1 = 0:=by simpa using q3
       by_cases q4:(decide (na' - k < 7) && decide (nb' - 1 - k' < 7)) = true
       ·rw [if_pos q4]
        exact wpS_pure ⟨⟨s2.kind,s2.arr,s2.pend,s2.fail⟩,.inr ⟨rfl,m2,by dsimp only; trivial,by dsimp only; trivial,by dsimp only; trivial⟩⟩
       ·rw [if_neg q4]
        exact wpS_pure ⟨⟨s2.kind,s2.arr,s2.pend,s2.fail⟩,rfl,m2,by dsimp only; trivial,by dsimp only; trivial,by dsimp only; trivial⟩
     ·rw [if_neg hk0]
      have hle0:∀ y ∈ a.toList.take na',R O ky ix y (at_ b (nb' - 1)):=by
       have h':=hle
       rw [show k = na' by trivial] at h'
       exact h'
      refine wpS_bind (wpS_elem (at_eq (by trivial)) ?_)
      have m1:=MH.pushB m sb (by trivial) hle0
      by_cases q1:(nb' - 1 == 1) = true
      ·rw [if_pos q1]
       exact wpS_pure ⟨⟨s2.kind,s2.arr,s2.pend,s2.fail⟩,.inl ⟨_,rfl,m1.first sa sb (fst (by simpa using q1))⟩⟩
      rw [if_neg q1]
      have q1':¬ nb' - 1 = 1:=by simpa using q1
      refine wpS_bind (wpS_elem (at_eq (by trivial)) ?_)
      refine wpS_bind (wpS_gal C (s2.kind.trans hk) (hSa _ (at_mem (by trivial))) hSb (fun i j hij hj => at_ij sb (by trivial) (by trivial)) (fun i hi => by simp only [if_true]; exact hix _ (at_mem (by trivial)) _ (at_mem (by trivial))) (by trivial) (by trivial) fun k' hkn' k1' k2' => ?_)
      dsimp only
      simp only [if_true,Nat.zero_add] at k1' k2'
      have hle2:∀ y ∈ b.toList.take k',R O ky ix y (at_ a (na' - 1)):=fun y hy => by
       obtain ⟨j,j1,rfl⟩:=mem_take' (by trivial) hy
       exact R.lt (k1' j j1)
      have mB:=m1.addB sb (k:=k') (o:=out.push (at_ b (nb' - 1)) ++ (b.extract k' (nb' - 1)).reverse) hkn' (fun x hx y hy => by
       obtain ⟨j,j1,j2,rfl⟩:=mem_at' (by trivial) hx
       exact R.trans (at_ge sa (i:=na' - 1) (by trivial) y (by rw [show na' - 1 + 1 = na' by trivial]; exact hy)) (k2' j j1 j2)) (by rw [Array.toList_append,Array.toList_reverse,ext2])
      by_cases hk1:nb' - 1 - k' > 0
      ·rw [if_pos hk1]
       by_cases q2:(k' == 1) = true
       ·rw [if_pos q2]
        exact wpS_pure ⟨⟨s2.kind,s2.arr,s2.pend,s2.fail⟩,.inl ⟨_,rfl,mB.first sa sb (fst (by simpa using q2))⟩⟩
       rw [if_neg q2]
       by_cases q5:(k' == 0) = true
       ·rw [if_pos q5]
        exact wpS_pure ⟨⟨s2.kind,s2.arr,s2.pend,s2.fail⟩,.inl ⟨_,rfl,mB.done sa sb (.inr (by simpa using q5))⟩⟩
       rw [if_neg q5]
       have q2':¬ k' = 1:=by simpa using q2
       have q5':¬ k' = 0:=by simpa using q5
       refine wpS_bind (wpS_elem (at_eq (by trivial)) ?_)
       have m2:=MH.pushA mB sa (by trivial) hle2
       by_cases q3:(na' - 1 == 0) = true
       ·rw [if_pos q3]
        exact wpS_pure ⟨⟨s2.kind,s2.arr,s2.pend,s2.fail⟩,.inl ⟨_,rfl,m2.done sa sb (.inl (by simpa using q3))⟩⟩
       rw [if_neg q3]
       have q3':¬ na' - 1 = 0:=by simpa using q3
       by_cases q4:(decide (na' - k < 7) && decide (nb' - 1 - k' < 7)) = true
       ·rw [if_pos q4]
        exact wpS_pure ⟨⟨s2.kind,s2.arr,s2.pend,s2.fail⟩,.inr ⟨rfl,m2,by dsimp only; trivial,by dsimp only; trivial,by dsimp only; trivial⟩⟩
       ·rw [if_neg q4]
        exact wpS_pure ⟨⟨s2.kind,s2.arr,s2.pend,s2.fail⟩,rfl,m2,by dsimp only; trivial,by dsimp only; trivial,by dsimp only; trivial⟩
      ·rw [if_neg hk1]
       have hle3:∀ y ∈ b.toList.take (nb' - 1),R O ky ix y (at_ a (na' - 1)):=by
        have h':=hle2
        rw [show k' = nb' - 1 by trivial] at h'
        exact h'
       refine wpS_bind (wpS_elem (at_eq (by trivial)) ?_)
       have m2:=MH.pushA m1 sa (by trivial) hle3
       by_cases q3:(na' - 1 == 0) = true
       ·rw [if_pos q3]
        exact wpS_pure ⟨⟨s2.kind,s2.arr,s2.pend,s2.fail⟩,.inl ⟨_,rfl,m2.done sa sb (.inl (by simpa using q3))⟩⟩
       rw [if_neg q3]
       have q3':¬ na' - 1 = 0:=by simpa using q3
       by_cases q4:(decide (na' - k < 7) && decide (nb' - 1 - k' < 7)) = true
       ·rw [if_pos q4]
        exact wpS_pure ⟨⟨s2.kind,s2.arr,s2.pend,s2.fail⟩,.inr ⟨rfl,m2,by dsimp only; trivial,by dsimp only; trivial,by dsimp only; trivial⟩⟩
       ·rw [if_neg q4]
        exact wpS_pure ⟨⟨s2.kind,s2.arr,s2.pend,s2.fail⟩,rfl,m2,by dsimp only; trivial,by dsimp only; trivial,by dsimp only; trivial⟩
    ·rw [if_neg hmg]
     refine wpS_bind (wpS_modify ?_)
     refine wpS_bind (wpS_elem (at_eq (by trivial)) ?_)
     refine wpS_bind (wpS_gal C (s2.kind.trans hk) (hSb _ (at_mem (by trivial))) hSa (fun i j hij hj => at_ij sa (by trivial) (by trivial)) (fun i hi => by simp only [Bool.false_eq_true,if_false]; exact hix _ (at_mem (by trivial)) _ (at_mem (by trivial))) (by trivial) (by trivial) fun k hkn k1 k2 => ?_)
     dsimp only
     simp only [Bool.false_eq_true,if_false,Nat.zero_add] at k1 k2
     have hle:∀ y ∈ a.toList.take k,R O ky ix y (at_ b (nb' - 1)):=fun y hy => by
      obtain ⟨j,j1,rfl⟩:=mem_take' (by trivial) hy
      exact k1 j j1
     have mA:MH O ky ix a b (out ++ (a.extract k na').reverse) k nb':=m.addA sa hkn (fun x hx y hy => by
      obtain ⟨j,j1,j2,rfl⟩:=mem_at' (by trivial) hx
      exact R.trans (at_ge sb (i:=nb' - 1) (by trivial) y (by rw [show nb' - 1 + 1 = nb' by trivial]; exact hy)) (R.lt (k2 j j1 j2))) (by rw [Array.toList_append,Array.toList_reverse,ext2])
     by_cases hk0:na' - k > 0
     ·rw [if_pos hk0]
      by_cases p1:(k == 0) = true
      ·rw [if_pos p1]
       exact wpS_pure ⟨⟨s2.kind,s2.arr,s2.pend,s2.fail⟩,.inl ⟨_,rfl,mA.done sa sb (.inl (by simpa using p1))⟩⟩
      rw [if_neg p1]
      have p1':¬ k = 0:=by simpa using p1
      refine wpS_bind (wpS_elem (at_eq (by trivial)) ?_)
      have m1:=MH.pushB mA sb (by trivial) hle
      by_cases q1:(nb' - 1 == 1) = true
      ·rw [if_pos q1]
       exact wpS_pure ⟨⟨s2.kind,s2.arr,s2.pend,s2.fail⟩,.inl ⟨_,rfl,m1.first sa sb (fst (by simpa using q1))⟩⟩
      rw [if_neg q1]
      have q1':¬ nb' - 1 = 1:=by simpa using q1
      refine wpS_bind (wpS_elem (at_eq (by trivial)) ?_)
      refine wpS_bind (wpS_gal C (s2.kind.trans hk) (hSa _ (at_mem (by trivial))) hSb (fun i j hij hj => at_ij sb (by trivial) (by trivial)) (fun i hi => by simp only [if_true]; exact hix _ (at_mem (by trivial)) _ (at_mem (by trivial))) (by trivial) (by trivial) fun k' hkn' k1' k2' => ?_)
      dsimp only
      simp only [if_true,Nat.zero_add] at k1' k2'
      have hle2:∀ y ∈ b.toList.take k',R O ky ix y (at_ a (k - 1)):=fun y hy => by
       obtain ⟨j,j1,rfl⟩:=mem_take' (by trivial) hy
       exact R.lt (k1' j j1)
      have mB:=m1.addB sb (k:=k') (o:=(out ++ (a.extract k na').reverse).push (at_ b (nb' - 1)) ++ (b.extract k' (nb' - 1)).reverse) hkn' (fun x hx y hy => by
       obtain ⟨j,j1,j2,rfl⟩:=mem_at' (by trivial) hx
       exact R.trans (at_ge sa (i:=k - 1) (by trivial) y (by rw [show k - 1 + 1 = k by trivial]; exact hy)) (k2' j j1 j2)) (by rw [Array.toList_append,Array.toList_reverse,ext2])
      by_cases hk1:nb' - 1 - k' > 0
      ·rw [if_pos hk1]
       by_cases q2:(k' == 1) = true
       ·rw [if_pos q2]
        exact wpS_pure ⟨⟨s2.kind,s2.arr,s2.pend,s2.fail⟩,.inl ⟨_,rfl,mB.first sa sb (fst (by simpa using q2))⟩⟩
       rw [if_neg q2]
       by_cases q5:(k' == 0) = true
       ·rw [if_pos q5]
        exact wpS_pure ⟨⟨s2.kind,s2.arr,s2.pend,s2.fail⟩,.inl ⟨_,rfl,mB.done sa sb (.inr (by simpa using q5))⟩⟩
       rw [if_neg q5]
       have q2':¬ k' = 1:=by simpa using q2
       have q5':¬ k' = 0:=by simpa using q5
       refine wpS_bind (wpS_elem (at_eq (by trivial)) ?_)
       have m2:=MH.pushA mB sa (by trivial) hle2
       by_cases q3:(k - 1 == 0) = true
       ·rw [if_pos q3]
        exact wpS_pure ⟨⟨s2.kind,s2.arr,s2.pend,s2.fail⟩,.inl ⟨_,rfl,m2.done sa sb (.inl (by simpa using q3))⟩⟩
       rw [if_neg q3]
       have q3':¬ k - 1 = 0:=by simpa using q3
       by_cases q4:(decide (na' - k < 7) && decide (nb' - 1 - k' < 7)) = true
       ·rw [if_pos q4]
        exact wpS_pure ⟨⟨s2.kind,s2.arr,s2.pend,s2.fail⟩,.inr ⟨rfl,m2,by dsimp only; trivial,by dsimp only; trivial,by dsimp only; trivial⟩⟩
       ·rw [if_neg q4]
        exact wpS_pure ⟨⟨s2.kind,s2.arr,s2.pend,s2.fail⟩,rfl,m2,by dsimp only; trivial,by dsimp only; trivial,by dsimp only; trivial⟩
      ·rw [if_neg hk1]
       have hle3:∀ y ∈ b.toList.take (nb' - 1),R O ky ix y (at_ a (k - 1)):=by
        have h':=hle2
        rw [show k' = nb' - 1 by trivial] at h'
        exact h'
       refine wpS_bind (wpS_elem (at_eq (by trivial)) ?_)
       have m2:=MH.pushA m1 sa (by trivial) hle3
       by_cases q3:(k - 1 == 0) = true
       ·rw [if_pos q3]
        exact wpS_pure ⟨⟨s2.kind,s2.arr,s2.pend,s2.fail⟩,.inl ⟨_,rfl,m2.done sa sb (.inl (by simpa using q3))⟩⟩
       rw [if_neg q3]
       have q3':¬ k - 1 = 0:=by simpa using q3
       by_cases q4:(decide (na' - k < 7) && decide (nb' - 1 - k' < 7)) = true
       ·rw [if_pos q4]
        exact wpS_pure ⟨⟨s2.kind,s2.arr,s2.pend,s2.fail⟩,.inr ⟨rfl,m2,by dsimp only; trivial,by dsimp only; trivial,by dsimp only; trivial⟩⟩
       ·rw [if_neg q4]
        exact wpS_pure ⟨⟨s2.kind,s2.arr,s2.pend,s2.fail⟩,rfl,m2,by dsimp only; trivial,by dsimp only; trivial,by dsimp only; trivial⟩
     ·rw [if_neg hk0]
      have hle0:∀ y ∈ a.toList.take na',R O ky ix y (at_ b (nb' - 1)):=by
       have h':=hle
       rw [show k = na' by trivial] at h'
       exact h'
      refine wpS_bind (wpS_elem (at_eq (by trivial)) ?_)
      have m1:=MH.pushB m sb (by trivial) hle0
      by_cases q1:(nb' - 1 == 1) = true
      ·rw [if_pos q1]
       exact wpS_pure ⟨⟨s2.kind,s2.arr,s2.pend,s2.fail⟩,.inl ⟨_,rfl,m1.first sa sb (fst (by simpa using q1))⟩⟩
      rw [if_neg q1]
      have q1':¬ nb' - 1 = 1:=by simpa using q1
      refine wpS_bind (wpS_elem (at_eq (by trivial)) ?_)
      refine wpS_bind (wpS_gal C (s2.kind.trans hk) (hSa _ (at_mem (by trivial))) hSb (fun i j hij hj => at_ij sb (by trivial) (by trivial)) (fun i hi => by simp only [if_true]; exact hix _ (at_mem (by trivial)) _ (at_mem (by trivial))) (by trivial) (by trivial) fun k' hkn' k1' k2' => ?_)
      dsimp only
      simp only [if_true,Nat.zero_add] at k1' k2'
      have hle2:∀ y ∈ b.toList.take k',R O ky ix y (at_ a (na' - 1)):=fun y hy => by
       obtain ⟨j,j1,rfl⟩:=mem_take' (by trivial) hy
       exact R.lt (k1' j j1)
      have mB:=m1.addB sb (k:=k') (o:=out.push (at_ b (nb' - 1)) ++ (b.extract k' (nb' - 1)).reverse) hkn' (fun x hx y hy => by
       obtain ⟨j,j1,j2,rfl⟩:=mem_at' (by trivial) hx
       exact R.trans (at_ge sa (i:=na' - 1) (by trivial) y (by rw [show na' - 1 + 1 = na' by trivial]; exact hy)) (k2' j j1 j2)) (by rw [Array.toList_append,Array.toList_reverse,ext2])
      by_cases hk1:nb' - 1 - k' > 0
      ·rw [if_pos hk1]
       by_cases q2:(k' == 1) = true
       ·rw [if_pos q2]
        exact wpS_pure ⟨⟨s2.kind,s2.arr,s2.pend,s2.fail⟩,.inl ⟨_,rfl,mB.first sa sb (fst (by simpa using q2))⟩⟩
       rw [if_neg q2]
       by_cases q5:(k' == 0) = true
       ·rw [if_pos q5]
        exact wpS_pure ⟨⟨s2.kind,s2.arr,s2.pend,s2.fail⟩,.inl ⟨_,rfl,mB.done sa sb (.inr (by simpa using q5))⟩⟩
       rw [if_neg q5]
       have q2':¬ k' = 1:=by simpa using q2
       have q5':¬ k' = 0:=by simpa using q5
       refine wpS_bind (wpS_elem (at_eq (by trivial)) ?_)
       have m2:=MH.pushA mB sa (by trivial) hle2
       by_cases q3:(na' - 1 == 0) = true
       ·rw [if_pos q3]
        exact wpS_pure ⟨⟨s2.kind,s2.arr,s2.pend,s2.fail⟩,.inl ⟨_,rfl,m2.done sa sb (.inl (by simpa using q3))⟩⟩
       rw [if_neg q3]
       have q3':¬ na' - 1 = 0:=by simpa using q3
       by_cases q4:(decide (na' - k < 7) && decide (nb' - 1 - k' < 7)) = true
       ·rw [if_pos q4]
        exact wpS_pure ⟨⟨s2.kind,s2.arr,s2.pend,s2.fail⟩,.inr ⟨rfl,m2,by dsimp only; trivial,by dsimp only; trivial,by dsimp only; trivial⟩⟩
       ·rw [if_neg q4]
        exact wpS_pure ⟨⟨s2.kind,s2.arr,s2.pend,s2.fail⟩,rfl,m2,by dsimp only; trivial,by dsimp only; trivial,by dsimp only; trivial⟩
      ·rw [if_neg hk1]
       have hle3:∀ y ∈ b.toList.take (nb' - 1),R O ky ix y (at_ a (na' - 1)):=by
        have h':=hle2
        rw [show k' = nb' - 1 by trivial] at h'
        exact h'
       refine wpS_bind (wpS_elem (at_eq (by trivial)) ?_)
       have m2:=MH.pushA m1 sa (by trivial) hle3
       by_cases q3:(na' - 1 == 0) = true
       ·rw [if_pos q3]
        exact wpS_pure ⟨⟨s2.kind,s2.arr,s2.pend,s2.fail⟩,.inl ⟨_,rfl,m2.done sa sb (.inl (by simpa using q3))⟩⟩
       rw [if_neg q3]
       have q3':¬ na' - 1 = 0:=by simpa using q3
       by_cases q4:(decide (na' - k < 7) && decide (nb' - 1 - k' < 7)) = true
       ·rw [if_pos q4]
        exact wpS_pure ⟨⟨s2.kind,s2.arr,s2.pend,s2.fail⟩,.inr ⟨rfl,m2,by dsimp only; trivial,by dsimp only; trivial,by dsimp only; trivial⟩⟩
       ·rw [if_neg q4]
        exact wpS_pure ⟨⟨s2.kind,s2.arr,s2.pend,s2.fail⟩,rfl,m2,by dsimp only; trivial,by dsimp only; trivial,by dsimp only; trivial⟩
end
end TT
set_option linter.all false
namespace TT
open PySem PyProof.Rows TS
structure Chg (lo:Nat) (st st':SortSt):Prop where
 kind:kindOf st' = kindOf st
 pend:pendingOf st' = pendingOf st
 fail:failedOf st' = failedOf st
 perm:(arrOf st').Perm (arrOf st)
 low:∀ i,i < lo -> (arrOf st')[i]? = (arrOf st)[i]?
theorem Chg.refl (lo:Nat) (st:SortSt):Chg lo st st:=⟨rfl,rfl,rfl,Array.Perm.refl _,fun _ _ => rfl⟩
theorem Chg.trans {lo:Nat} {a b c:SortSt} (h:Chg lo a b) (h':Chg lo b c):Chg lo a c:=⟨h'.kind.trans h.kind,h'.pend.trans h.pend,h'.fail.trans h.fail,h'.perm.trans h.perm,fun i hi => (h'.low i hi).trans (h.low i hi)⟩
theorem Chg.size {lo:Nat} {a b:SortSt} (h:Chg lo a b):(arrOf b).size = (arrOf a).size:=h.perm.size_eq
theorem Chg.all {lo:Nat} {a b:SortSt} {S:Keyed -> Prop} (h:Chg lo a b) (hS:∀ p ∈ (arrOf a).toList,S p):∀ p ∈ (arrOf b).toList,S p:=fun p hp => hS p ((Array.perm_iff_toList_perm.mp h.perm).mem_iff.mp hp)
theorem chg_mirror {lo i j:Nat} {st:SortSt} (h:lo ≤ i) (hj:j ≤ (arrOf st).size):Chg lo st (setArr st (mirror (arrOf st) i j ((j - i) / 2))):=⟨rfl,rfl,rfl,mirror_perm _ _ _ _,fun k hk => by
 show (mirror (arrOf st) i j ((j - i) / 2))[k]? = _
 rw [getElem?_mirror_all hj,if_neg (by trivial)]⟩
theorem chg_bubble {lo src d:Nat} {st:SortSt} (hs:src < (arrOf st).size) (hd:d ≤ src) (h:lo ≤ src - d):Chg lo st (setArr st (bubble (arrOf st) src d)):=⟨rfl,rfl,rfl,bubble_perm _ _ _,fun k hk => by
 show (bubble (arrOf st) src d)[k]? = _
 rw [getElem?_bubble hs d hd,if_neg (by trivial),if_neg (by trivial)]⟩
theorem at_congr {a b:Array Keyed} {i j:Nat} (h:a[i]? = b[j]?):at_ a i = at_ b j:=by unfold at_; rw [h]
theorem at_mirror {xs:Array Keyed} {i j:Nat} (hj:j ≤ xs.size) (k:Nat):at_ (mirror xs i j ((j - i) / 2)) k = if i ≤ k∧k < j then at_ xs (i + j - 1 - k) else at_ xs k:=by
 have e:=getElem?_mirror_all (i:=i) hj k
 split at e
 ·rename_i c; rw [if_pos c]; exact at_congr e
 ·rename_i c; rw [if_neg c]; exact at_congr e
theorem at_bubble {xs:Array Keyed} {src d:Nat} (hs:src < xs.size) (hd:d ≤ src) (k:Nat):at_ (bubble xs src d) k = if k = src - d then at_ xs src else if src - d < k∧k ≤ src then at_ xs (k - 1) else at_ xs k:=by
 have e:=getElem?_bubble hs d hd k
 split at e
 ·rename_i c; rw [if_pos c]; exact at_congr e
 ·rename_i c
  rw [if_neg c]
  split at e
  ·rename_i c2; rw [if_pos c2]; exact at_congr e
  ·rename_i c2; rw [if_neg c2]; exact at_congr e
section
variable {prog:Program} {w:World} {A:Around} {E:Value -> Shared -> Prop} {s:Shared}
variable {kd:SortKind} {O:KeyOrd} {ky:Keyed -> O.α} {ix:Keyed -> Nat} {S:Keyed -> Prop}
noncomputable abbrev kf (ky:Keyed -> O.α) (st:SortSt) (lo i:Nat):O.α:=ky (at_ (arrOf st) (lo + i))
noncomputable def Up (O:KeyOrd) (ky:Keyed -> O.α) (ix:Keyed -> Nat) (st:SortSt) (lo n:Nat):Prop:=∀ i j,i ≤ j -> j < n -> R O ky ix (at_ (arrOf st) (lo + i)) (at_ (arrOf st) (lo + j))
noncomputable def Dn (O:KeyOrd) (ky:Keyed -> O.α) (ix:Keyed -> Nat) (st:SortSt) (lo n:Nat):Prop:=∀ i j,i ≤ j -> j < n -> R O ky ix (at_ (arrOf st) (lo + j)) (at_ (arrOf st) (lo + i))
structure Lap (ix:Keyed -> Nat) (st:SortSt) (lo n m:Nat):Prop where
 cross:∀ i j,i < n -> n ≤ j -> j < m -> ix (at_ (arrOf st) (lo + i)) ≤ ix (at_ (arrOf st) (lo + j))
 rise:∀ i j,n ≤ i -> i ≤ j -> j < m -> ix (at_ (arrOf st) (lo + i)) ≤ ix (at_ (arrOf st) (lo + j))
theorem Lap.on {st:SortSt} {lo n m k:Nat} (h:Lap ix st lo n m) (hk:n ≤ k):Lap ix st lo k m:=⟨fun i j h1 h2 h3 => by
 by_cases c:i < n
 ·exact h.cross i j c (by trivial) h3
 ·exact h.rise i j (by trivial) (by trivial) h3,fun i j h1 h2 h3 => h.rise i j (by trivial) h2 h3⟩
theorem Lap.any {st:SortSt} {lo n m i j:Nat} (h:Lap ix st lo n m) (h1:i ≤ j) (h2:n ≤ j) (h3:j < m):ix (at_ (arrOf st) (lo + i)) ≤ ix (at_ (arrOf st) (lo + j)):=by
 by_cases c:i < n
 ·exact h.cross i j c h2 h3
 ·exact h.rise i j (by trivial) h1 h3
theorem Lap.of {st st':SortSt} {lo n m:Nat} (h:Lap ix st lo n m) (h1:∀ i,i < n -> ∃ k,k < n∧at_ (arrOf st') (lo + i) = at_ (arrOf st) (lo + k)) (h2:∀ i,n ≤ i -> at_ (arrOf st') (lo + i) = at_ (arrOf st) (lo + i)):Lap ix st' lo n m:=⟨fun i j a b c => by
 obtain ⟨k,k1,e⟩:=h1 i a
 rw [e,h2 j b]
 exact h.cross k j k1 b c,fun i j a b c => by
 rw [h2 i a,h2 j (by trivial)]
 exact h.rise i j a b c⟩
theorem Lap.mirror {st:SortSt} {lo n m i j:Nat} (h:Lap ix st lo n m) (hj:lo + j ≤ (arrOf st).size) (hn:j ≤ n):Lap ix (setArr st (mirror (arrOf st) (lo + i) (lo + j) ((lo + j - (lo + i)) / 2))) lo n m:=by
 refine h.of (fun k hk => ?_) (fun k hk => ?_)
 ·show ∃ k',k' < n∧at_ (PyProof.Rows.mirror (arrOf st) (lo + i) (lo + j) ((lo + j - (lo + i)) / 2)) (lo + k) = _
  rw [at_mirror hj]
  by_cases c:lo + i ≤ lo + k∧lo + k < lo + j
  ·rw [if_pos c]
   exact ⟨i + j - 1 - k,by trivial,by congr 1; trivial⟩
  ·rw [if_neg c]; exact ⟨k,hk,rfl⟩
 ·show at_ (PyProof.Rows.mirror (arrOf st) (lo + i) (lo + j) ((lo + j - (lo + i)) / 2)) (lo + k) = _
  rw [at_mirror hj,if_neg (by trivial)]
theorem wpS_ltAt' (C:Cmp prog w A s kd O ky S) {st:SortSt} {i j:Nat} {Q:Option Bool -> SortSt -> Prop} (hk:kindOf st = kd) (hS:∀ p ∈ (arrOf st).toList,S p) (hi:i < (arrOf st).size) (hj:j < (arrOf st).size)
  (h:Q (some (O.blt (ky (at_ (arrOf st) i)) (ky (at_ (arrOf st) j)))) st):wpS (model prog w) A E s (ltAt' i j) Q st:=by
 rw [ltAt'_eq]
 refine wpS_bind (wpS_get ?_)
 exact wpS_bind (wpS_elem (at_eq hi) (wpS_bind (wpS_elem (at_eq hj) (wpS_lt C hk (hS _ (at_mem hi)) (hS _ (at_mem hj)) h))))
theorem asc_loop {st:SortSt} {lo a nrem:Nat} {Q:Option (Option Nat) × Nat -> SortSt -> Prop} {f:Nat -> Option (Option Nat) × Nat -> StateT SortSt Sem (ForInStep (Option (Option Nat) × Nat))} (h1:1 ≤ a) (h2:a ≤ nrem) (hu:Up O ky ix st lo a) (hl:Lap ix st lo a nrem)
  (hf:∀ (x n:Nat),1 ≤ n -> n < nrem -> ∀ {R:ForInStep (Option (Option Nat) × Nat) -> SortSt -> Prop},(O.klt (kf ky st lo n) (kf ky st lo (n - 1)) -> R (.done (none,n)) st) -> (O.kle (kf ky st lo (n - 1)) (kf ky st lo n) -> R (.yield (none,n + 1)) st) -> wpS (model prog w) A E s (f x (none,n)) R st)
  (h:∀ n,a ≤ n -> n ≤ nrem -> Up O ky ix st lo n -> (n = nrem ∨ O.klt (kf ky st lo n) (kf ky st lo (n - 1))) -> Q (none,n) st):wpS (model prog w) A E s (forIn [a:nrem] (none,a) f) Q st:=by
 refine wpS_forRange (I:=fun x c st' => st' = st∧c = (none,x)∧Up O ky ix st lo x) ?step ?fin ⟨rfl,rfl,hu⟩
 case fin =>
  rintro c st' ⟨rfl,rfl,hs'⟩
  rw [show max a nrem = nrem by trivial] at hs' ⊢
  exact h nrem h2 (Nat.le_refl _) hs' (.inl rfl)
 case step =>
  rintro x c st' hax hxn ⟨rfl,rfl,hs'⟩
  refine hf x x (by trivial) hxn (fun q => h x hax (by trivial) hs' (.inr q)) (fun q => ⟨rfl,rfl,fun i j hij hj => ?_⟩)
  by_cases e:j = x
  ·by_cases e2:i = x
   ·rw [e,e2]; exact R.refl _
   ·rw [e]; exact R.trans (hs' i (x - 1) (by trivial) (by trivial)) (R.le q (hl.any (by trivial) hax hxn))
  ·exact hs' i j hij (by trivial)
theorem kf_mirror {st:SortSt} {lo i j k:Nat} (hj:lo + j ≤ (arrOf st).size):kf ky (setArr st (mirror (arrOf st) (lo + i) (lo + j) ((lo + j - (lo + i)) / 2))) lo k = if i ≤ k∧k < j then kf ky st lo (i + j - 1 - k) else kf ky st lo k:=by
 show ky (at_ (mirror (arrOf st) (lo + i) (lo + j) ((lo + j - (lo + i)) / 2)) (lo + k)) = _
 rw [at_mirror hj]
 by_cases c:i ≤ k∧k < j
 ·rw [if_pos c,if_pos (by trivial)]
  show ky (at_ _ _) = ky (at_ _ _)
  congr 2; trivial
 ·rw [if_neg c,if_neg (by trivial)]
theorem kf_mirror_eq {st:SortSt} {lo i j:Nat} (hj:lo + j ≤ (arrOf st).size) (he:∀ k,i ≤ k -> k < j -> kf ky st lo k = kf ky st lo (j - 1)) (k:Nat):kf ky (setArr st (mirror (arrOf st) (lo + i) (lo + j) ((lo + j - (lo + i)) / 2))) lo k = kf ky st lo k:=by
 rw [kf_mirror hj]
 split
 ·rw [he _ (by trivial) (by trivial),he k (by trivial) (by trivial)]
 ·rfl
theorem wpS_rev {st:SortSt} {i j:Nat} {Q:Unit -> SortSt -> Prop} (h:Q () (setArr st (mirror (arrOf st) i j ((j - i) / 2)))):wpS (model prog w) A E s (reverseSlice' i j) Q st:=by
 rw [reverseSlice'_eq]
 exact wpS_modify h
structure Des (O:KeyOrd) (ky:Keyed -> O.α) (ix:Keyed -> Nat) (st:SortSt) (lo x neq m:Nat):Prop where
 le:neq + 1 ≤ x
 dn:Dn O ky ix st lo (x - (neq + 1))
 lt:∀ i j,i < x - (neq + 1) -> x - (neq + 1) ≤ j -> j < x -> O.klt (kf ky st lo j) (kf ky st lo i)
 eq:∀ i,x - (neq + 1) ≤ i -> i < x -> kf ky st lo i = kf ky st lo (x - 1)
 lap:Lap ix st lo (x - (neq + 1)) m
theorem Des.one {st:SortSt} {lo x m:Nat} (hd:Dn O ky ix st lo x) (hx:1 ≤ x) (hlt:O.klt (kf ky st lo x) (kf ky st lo (x - 1))) (hl:Lap ix st lo x m):Des O ky ix st lo (x + 1) 0 m:=by
 refine ⟨by trivial,by rw [show x + 1 - (0 + 1) = x by trivial]; exact hd,fun i j h1 h2 h3 => ?_,fun i h1 h2 => by congr 1; trivial,by rw [show x + 1 - (0 + 1) = x by trivial]; exact hl⟩
 obtain rfl:j = x:=by trivial
 exact KeyOrd.klt_of_klt_of_kle hlt (hd i (j - 1) (by trivial) (by trivial)).1
theorem Des.done {st:SortSt} {lo x m:Nat} (h:Des O ky ix st lo x 0 m):Dn O ky ix st lo x∧Lap ix st lo x m:=by
 have h1:=h.le
 refine ⟨fun i j hij hj => ?_,h.lap.on (by trivial)⟩
 by_cases c:j < x - (0 + 1)
 ·exact h.dn i j hij c
 ·by_cases c2:i = j
  ·rw [c2]; exact R.refl _
  ·exact R.lt (h.lt i j (by trivial) (by trivial) hj)
theorem Des.turn {st:SortSt} {lo x neq m:Nat} (h:Des O ky ix st lo x neq m) (hx:lo + x ≤ (arrOf st).size) (hm:x ≤ m) :
  Dn O ky ix (setArr st (mirror (arrOf st) (lo + (x - (neq + 1))) (lo + x) ((lo + x - (lo + (x - (neq + 1)))) / 2))) lo x∧Lap ix (setArr st (mirror (arrOf st) (lo + (x - (neq + 1))) (lo + x) ((lo + x - (lo + (x - (neq + 1)))) / 2))) lo x m:=by
 have h1:=h.le
 refine ⟨fun i j hij hj => ?_,(h.lap.on (by trivial)).mirror hx (Nat.le_refl _)⟩
 show R O ky ix (at_ (mirror (arrOf st) (lo + (x - (neq + 1))) (lo + x) ((lo + x - (lo + (x - (neq + 1)))) / 2)) (lo + j)) (at_ (mirror (arrOf st) (lo + (x - (neq + 1))) (lo + x) ((lo + x - (lo + (x - (neq + 1)))) / 2)) (lo + i))
 rw [at_mirror hx,at_mirror hx]
 by_cases cj:j < x - (neq + 1)
 ·rw [if_neg (by trivial),if_neg (by trivial)]
  exact h.dn i j hij cj
 ·rw [if_pos (by trivial)]
  rw [show lo + (x - (neq + 1)) + (lo + x) - 1 - (lo + j) = lo + (x - (neq + 1) + x - 1 - j) by trivial]
  by_cases ci:i < x - (neq + 1)
  ·rw [if_neg (by trivial)]
   exact R.lt (h.lt i (x - (neq + 1) + x - 1 - j) ci (by trivial) (by trivial))
  ·rw [if_pos (by trivial)]
   rw [show lo + (x - (neq + 1)) + (lo + x) - 1 - (lo + i) = lo + (x - (neq + 1) + x - 1 - i) by trivial]
   have e1:=h.eq (x - (neq + 1) + x - 1 - j) (by trivial) (by trivial)
   have e2:=h.eq (x - (neq + 1) + x - 1 - i) (by trivial) (by trivial)
   refine R.le ?_ (h.lap.rise _ _ (by trivial) (by trivial) (by trivial))
   rw [show ky (at_ (arrOf st) (lo + (x - (neq + 1) + x - 1 - j))) = ky (at_ (arrOf st) (lo + (x - (neq + 1) + x - 1 - i))) from e1.trans e2.symm]
   exact KeyOrd.kle_refl _
theorem Des.more {st:SortSt} {lo x neq m:Nat} (h:Des O ky ix st lo x neq m) (he:kf ky st lo x = kf ky st lo (x - 1)):Des O ky ix st lo (x + 1) (neq + 1) m:=by
 have h1:=h.le
 have eb:x + 1 - (neq + 1 + 1) = x - (neq + 1):=by trivial
 refine ⟨by trivial,by rw [eb]; exact h.dn,fun i j a b c => ?_,fun i a b => ?_,by rw [eb]; exact h.lap⟩
 ·rw [eb] at a b
  by_cases e:j = x
  ·rw [e,he]; exact h.lt i (x - 1) a (by trivial) (by trivial)
  ·exact h.lt i j a b (by trivial)
 ·rw [eb] at a
  rw [show x + 1 - 1 = x by trivial]
  by_cases e:i = x
  ·rw [e]
  ·rw [he]; exact h.eq i a (by trivial)
theorem Dn.up {st:SortSt} {lo m:Nat} (h:Dn O ky ix st lo m) (hs:lo + m ≤ (arrOf st).size):Up O ky ix (setArr st (mirror (arrOf st) (lo + 0) (lo + m) ((lo + m - (lo + 0)) / 2))) lo m:=fun i j hij hj => by
 show R O ky ix (at_ (mirror (arrOf st) (lo + 0) (lo + m) ((lo + m - (lo + 0)) / 2)) (lo + i)) (at_ (mirror (arrOf st) (lo + 0) (lo + m) ((lo + m - (lo + 0)) / 2)) (lo + j))
 rw [at_mirror hs,at_mirror hs,if_pos (by trivial),if_pos (by trivial),show lo + 0 + (lo + m) - 1 - (lo + i) = lo + (m - 1 - i) by trivial,show lo + 0 + (lo + m) - 1 - (lo + j) = lo + (m - 1 - j) by trivial]
 exact h _ _ (by trivial) (by trivial)
theorem wpS_run (C:Cmp prog w A s kd O ky S) {st0:SortSt} {lo nrem:Nat} {Q:Option Nat -> SortSt -> Prop} (hk0:kindOf st0 = kd) (hS0:∀ p ∈ (arrOf st0).toList,S p) (hn:lo + nrem ≤ (arrOf st0).size) (h1:1 ≤ nrem) (lap0:Lap ix st0 lo 0 nrem)
  (h:∀ n st',Chg lo st0 st' -> 1 ≤ n -> n ≤ nrem -> Up O ky ix st' lo n -> Lap ix st' lo n nrem -> Q (some n) st'):wpS (model prog w) A E s (countRun' lo nrem) Q st0:=by
 have ask:∀ {st:SortSt},Chg lo st0 st -> ∀ (i j:Nat) {Q:Option Bool -> SortSt -> Prop},i < lo + nrem -> j < lo + nrem -> Q (some (O.blt (ky (at_ (arrOf st) i)) (ky (at_ (arrOf st) j)))) st -> wpS (model prog w) A E s (ltAt' i j) Q st:=fun {st} ch i j Q hi hj hq =>
  wpS_ltAt' C (ch.kind.trans hk0) (ch.all hS0) (by rw [ch.size]; trivial) (by rw [ch.size]; trivial) hq
 unfold countRun'
 refine wpS_bind (asc_loop (O:=O) (ky:=ky) (ix:=ix) (lo:=lo) (Nat.le_refl 1) h1 (fun i j hij hj => by rw [show i = j by trivial]; exact R.refl _) (lap0.on (by trivial)) ?hf ?hq)
 case hf =>
  intro x n n1 n2 R r1 r2
  refine wpS_bind (ask (Chg.refl _ _) _ _ (by trivial) (by trivial) ?_)
  dsimp only
  rw [show lo + n - 1 = lo + (n - 1) by trivial]
  cases e:O.blt (ky (at_ (arrOf st0) (lo + n))) (ky (at_ (arrOf st0) (lo + (n - 1)))) with
  | true => exact wpS_pure (r1 e)
  | false => exact wpS_pure (r2 e)
 case hq =>
 intro n n1 n2 hup hor
 dsimp only
 by_cases e1:(n == nrem) = true
 ·rw [if_pos e1]
  exact wpS_pure (h n _ (Chg.refl _ _) n1 n2 hup (lap0.on (by trivial)))
 rw [if_neg e1]
 have e1':¬ n = nrem:=by simpa using e1
 have hlt:=hor.resolve_left e1'
 by_cases hgt:n > 1
 ·rw [if_pos hgt]
  refine wpS_bind (ask (Chg.refl _ _) _ _ (by trivial) (by trivial) ?_)
  dsimp only
  rw [show lo + n - 1 = lo + (n - 1) by trivial]
  cases e:O.blt (ky (at_ (arrOf st0) lo)) (ky (at_ (arrOf st0) (lo + (n - 1)))) with
  | true =>
   rw [if_pos rfl]
   exact wpS_pure (h n _ (Chg.refl _ _) n1 n2 hup (lap0.on (by trivial)))
  | false =>
   rw [if_neg Bool.false_ne_true]
   have hsz0:lo + n ≤ (arrOf st0).size:=by trivial
   have e':O.kle (kf ky st0 lo (n - 1)) (kf ky st0 lo 0):=e
   have hall:∀ k,0 ≤ k -> k < n -> kf ky st0 lo k = kf ky st0 lo (n - 1):=fun k _ hk => by
    have a1:=(hup 0 k (by trivial) hk).1
    have a2:=(hup k (n - 1) (by trivial) (by trivial)).1
    exact KeyOrd.kle_antisymm a2 (KeyOrd.kle_trans e' a1)
   refine wpS_bind (wpS_rev ?_)
   have ch1:=chg_mirror (lo:=lo) (i:=lo + 0) (j:=lo + n) (st:=st0) (by trivial) hsz0
   have dd:Des O ky ix st0 lo n (n - 1) nrem:=by
    have en:n - (n - 1 + 1) = 0:=by trivial
    refine ⟨by trivial,by rw [en]; exact fun i j a b => by trivial,by rw [en]; exact fun i j a => by trivial,fun i a b => hall i (by trivial) b,by rw [en]; exact lap0⟩
   have d1:=dd.turn hsz0 n2
   rw [show n - (n - 1 + 1) = 0 by trivial] at d1
   have hlt1:O.klt (kf ky (setArr st0 (mirror (arrOf st0) (lo + 0) (lo + n) ((lo + n - (lo + 0)) / 2))) lo n) (kf ky (setArr st0 (mirror (arrOf st0) (lo + 0) (lo + n) ((lo + n - (lo + 0)) / 2))) lo (n - 1)):=by
    rw [kf_mirror_eq hsz0 hall,kf_mirror_eq hsz0 hall]; exact hlt
   rw [show mirror (arrOf st0) lo (lo + n) ((lo + n - lo) / 2) = mirror (arrOf st0) (lo + 0) (lo + n) ((lo + n - (lo + 0)) / 2) from rfl]
   generalize setArr st0 (mirror (arrOf st0) (lo + 0) (lo + n) ((lo + n - (lo + 0)) / 2)) = st1 at ch1 d1 hlt1 ⊢
   have des1:=Des.one d1.1 n1 hlt1 d1.2
   refine wpS_bind (wpS_lift (wpAny_rule ⟨rfl,?_⟩))
   refine wpS_bind (wpS_mono (wpS_forRange
    (I:=fun x c st' => ∃ neq,c = (none,x,neq)∧Chg lo st0 st'∧Des O ky ix st' lo x neq nrem)
    (Q:=fun c st' => ∃ m neq,c = (none,m,neq)∧n + 1 ≤ m∧m ≤ nrem∧Chg lo st0 st'∧Des O ky ix st' lo m neq nrem) ?step ?fin ⟨0,rfl,ch1,des1⟩) ?post)
   case fin =>
    rintro c st' ⟨neq,rfl,ch,d⟩
    rw [show max (n + 1) nrem = nrem by trivial] at d ⊢
    exact ⟨nrem,neq,rfl,by trivial,Nat.le_refl _,ch,d⟩
   case step =>
    rintro x c st' hx1 hx2 ⟨neq,rfl,ch,d⟩
    dsimp only
    have q1:=d.le
    have hsz:lo + x ≤ (arrOf st').size:=by rw [ch.size]; trivial
    refine wpS_bind (ask ch _ _ (by trivial) (by trivial) ?_)
    dsimp only
    rw [show lo + x - 1 = lo + (x - 1) by trivial]
    cases e:O.blt (ky (at_ (arrOf st') (lo + x))) (ky (at_ (arrOf st') (lo + (x - 1)))) with
    | true =>
     rw [if_pos rfl]
     by_cases hne:neq > 0
     ·rw [if_pos hne]
      rw [show lo + x - (neq + 1) = lo + (x - (neq + 1)) by trivial]
      have t:=d.turn hsz (by trivial)
      have lt2:O.klt (kf ky (setArr st' (mirror (arrOf st') (lo + (x - (neq + 1))) (lo + x) ((lo + x - (lo + (x - (neq + 1)))) / 2))) lo x) (kf ky (setArr st' (mirror (arrOf st') (lo + (x - (neq + 1))) (lo + x) ((lo + x - (lo + (x - (neq + 1)))) / 2))) lo (x - 1)):=by
       rw [kf_mirror_eq hsz d.eq,kf_mirror_eq hsz d.eq]; exact e
      refine wpS_bind (wpS_rev (wpS_pure ⟨0,rfl,ch.trans (chg_mirror (by trivial) hsz),Des.one t.1 (by trivial) lt2 t.2⟩))
     ·rw [if_neg hne]
      obtain rfl:neq = 0:=by trivial
      exact wpS_pure ⟨0,rfl,ch,Des.one d.done.1 (by trivial) e d.done.2⟩
    | false =>
     rw [if_neg Bool.false_ne_true]
     refine wpS_bind (ask ch _ _ (by trivial) (by trivial) ?_)
     dsimp only
     cases e2:O.blt (ky (at_ (arrOf st') (lo + (x - 1)))) (ky (at_ (arrOf st') (lo + x))) with
     | true =>
      rw [if_pos rfl]
      exact wpS_pure ⟨x,neq,rfl,by trivial,by trivial,ch,d⟩
     | false =>
      rw [if_neg Bool.false_ne_true]
      have heq:kf ky st' lo x = kf ky st' lo (x - 1):=KeyOrd.kle_antisymm e2 e
      exact wpS_pure ⟨neq + 1,rfl,ch,d.more heq⟩
   case post =>
    rintro c st' ⟨m,neq,rfl,m1,m2,ch,d⟩
    dsimp only
    have q1:=d.le
    have hsz:lo + m ≤ (arrOf st').size:=by rw [ch.size]; trivial
    by_cases hne:neq > 0
    ·rw [if_pos hne]
     rw [show lo + m - (neq + 1) = lo + (m - (neq + 1)) by trivial]
     refine wpS_bind (wpS_rev ?_)
     have ch2:=ch.trans (chg_mirror (lo:=lo) (i:=lo + (m - (neq + 1))) (j:=lo + m) (st:=st') (by trivial) hsz)
     have d2:=d.turn hsz m2
     generalize setArr st' (mirror (arrOf st') (lo + (m - (neq + 1))) (lo + m) ((lo + m - (lo + (m - (neq + 1)))) / 2)) = st4 at ch2 d2 ⊢
     refine wpS_bind (wpS_rev ?_)
     have hsz3:lo + m ≤ (arrOf st4).size:=by rw [(ch2).size]; trivial
     have ch3:=(ch2).trans (chg_mirror (lo:=lo) (i:=lo + 0) (j:=lo + m) (st:=st4) (by trivial) hsz3)
     have up3:=d2.1.up hsz3
     have lap3:=d2.2.mirror (i:=0) hsz3 (Nat.le_refl _)
     refine wpS_bind (asc_loop (O:=O) (ky:=ky) (ix:=ix) (lo:=lo) (by trivial) (by trivial) up3 lap3 ?_ (fun n3 a1 a2 a3 _ => wpS_pure (h n3 _ ch3 (by trivial) a2 a3 (lap3.on a1))))
     intro x n' b1 b2 R r1 r2
     refine wpS_bind (ask ch3 _ _ (by trivial) (by trivial) ?_)
     dsimp only
     rw [show lo + n' - 1 = lo + (n' - 1) by trivial]
     cases e:O.blt (ky (at_ (mirror (arrOf st4) (lo + 0) (lo + m) ((lo + m - (lo + 0)) / 2)) (lo + n'))) (ky (at_ (mirror (arrOf st4) (lo + 0) (lo + m) ((lo + m - (lo + 0)) / 2)) (lo + (n' - 1)))) with
     | true => exact wpS_pure (r1 e)
     | false => exact wpS_pure (r2 e)
    ·rw [if_neg hne]
     obtain rfl:neq = 0:=by trivial
     have ch2:=ch
     have d2:=d.done
     generalize st' = st4 at ch2 d2 ⊢
     refine wpS_bind (wpS_rev ?_)
     have hsz3:lo + m ≤ (arrOf st4).size:=by rw [(ch2).size]; trivial
     have ch3:=(ch2).trans (chg_mirror (lo:=lo) (i:=lo + 0) (j:=lo + m) (st:=st4) (by trivial) hsz3)
     have up3:=d2.1.up hsz3
     have lap3:=d2.2.mirror (i:=0) hsz3 (Nat.le_refl _)
     refine wpS_bind (asc_loop (O:=O) (ky:=ky) (ix:=ix) (lo:=lo) (by trivial) (by trivial) up3 lap3 ?_ (fun n3 a1 a2 a3 _ => wpS_pure (h n3 _ ch3 (by trivial) a2 a3 (lap3.on a1))))
     intro x n' b1 b2 R r1 r2
     refine wpS_bind (ask ch3 _ _ (by trivial) (by trivial) ?_)
     dsimp only
     rw [show lo + n' - 1 = lo + (n' - 1) by trivial]
     cases e:O.blt (ky (at_ (mirror (arrOf st4) (lo + 0) (lo + m) ((lo + m - (lo + 0)) / 2)) (lo + n'))) (ky (at_ (mirror (arrOf st4) (lo + 0) (lo + m) ((lo + m - (lo + 0)) / 2)) (lo + (n' - 1)))) with
     | true => exact wpS_pure (r1 e)
     | false => exact wpS_pure (r2 e)
 ·rw [if_neg hgt]
  have ch1:=Chg.refl lo st0
  have des1:Des O ky ix st0 lo (n + 1) 0 nrem:=Des.one (fun i j a b => by rw [show i = j by trivial]; exact R.refl _) n1 hlt (lap0.on (by trivial))
  refine wpS_bind (wpS_lift (wpAny_rule ⟨rfl,?_⟩))
  refine wpS_bind (wpS_mono (wpS_forRange
   (I:=fun x c st' => ∃ neq,c = (none,x,neq)∧Chg lo st0 st'∧Des O ky ix st' lo x neq nrem)
   (Q:=fun c st' => ∃ m neq,c = (none,m,neq)∧n + 1 ≤ m∧m ≤ nrem∧Chg lo st0 st'∧Des O ky ix st' lo m neq nrem) ?step ?fin ⟨0,rfl,ch1,des1⟩) ?post)
  case fin =>
   rintro c st' ⟨neq,rfl,ch,d⟩
   rw [show max (n + 1) nrem = nrem by trivial] at d ⊢
   exact ⟨nrem,neq,rfl,by trivial,Nat.le_refl _,ch,d⟩
  case step =>
   rintro x c st' hx1 hx2 ⟨neq,rfl,ch,d⟩
   dsimp only
   have q1:=d.le
   have hsz:lo + x ≤ (arrOf st').size:=by rw [ch.size]; trivial
   refine wpS_bind (ask ch _ _ (by trivial) (by trivial) ?_)
   dsimp only
   rw [show lo + x - 1 = lo + (x - 1) by trivial]
   cases e:O.blt (ky (at_ (arrOf st') (lo + x))) (ky (at_ (arrOf st') (lo + (x - 1)))) with
   | true =>
    rw [if_pos rfl]
    by_cases hne:neq > 0
    ·rw [if_pos hne]
     rw [show lo + x - (neq + 1) = lo + (x - (neq + 1)) by trivial]
     have t:=d.turn hsz (by trivial)
     have lt2:O.klt (kf ky (setArr st' (mirror (arrOf st') (lo + (x - (neq + 1))) (lo + x) ((lo + x - (lo + (x - (neq + 1)))) / 2))) lo x) (kf ky (setArr st' (mirror (arrOf st') (lo + (x - (neq + 1))) (lo + x) ((lo + x - (lo + (x - (neq + 1)))) / 2))) lo (x - 1)):=by
      rw [kf_mirror_eq hsz d.eq,kf_mirror_eq hsz d.eq]; exact e
     refine wpS_bind (wpS_rev (wpS_pure ⟨0,rfl,ch.trans (chg_mirror (by trivial) hsz),Des.one t.1 (by trivial) lt2 t.2⟩))
    ·rw [if_neg hne]
     obtain rfl:neq = 0:=by trivial
     exact wpS_pure ⟨0,rfl,ch,Des.one d.done.1 (by trivial) e d.done.2⟩
   | false =>
    rw [if_neg Bool.false_ne_true]
    refine wpS_bind (ask ch _ _ (by trivial) (by trivial) ?_)
    dsimp only
    cases e2:O.blt (ky (at_ (arrOf st') (lo + (x - 1)))) (ky (at_ (arrOf st') (lo + x))) with
    | true =>
     rw [if_pos rfl]
     exact wpS_pure ⟨x,neq,rfl,by trivial,by trivial,ch,d⟩
    | false =>
     rw [if_neg Bool.false_ne_true]
     have heq:kf ky st' lo x = kf ky st' lo (x - 1):=KeyOrd.kle_antisymm e2 e
     exact wpS_pure ⟨neq + 1,rfl,ch,d.more heq⟩
  case post =>
   rintro c st' ⟨m,neq,rfl,m1,m2,ch,d⟩
   dsimp only
   have q1:=d.le
   have hsz:lo + m ≤ (arrOf st').size:=by rw [ch.size]; trivial
   by_cases hne:neq > 0
   ·rw [if_pos hne]
    rw [show lo + m - (neq + 1) = lo + (m - (neq + 1)) by trivial]
    refine wpS_bind (wpS_rev ?_)
    have ch2:=ch.trans (chg_mirror (lo:=lo) (i:=lo + (m - (neq + 1))) (j:=lo + m) (st:=st') (by trivial) hsz)
    have d2:=d.turn hsz m2
    generalize setArr st' (mirror (arrOf st') (lo + (m - (neq + 1))) (lo + m) ((lo + m - (lo + (m - (neq + 1)))) / 2)) = st4 at ch2 d2 ⊢
    refine wpS_bind (wpS_rev ?_)
    have hsz3:lo + m ≤ (arrOf st4).size:=by rw [(ch2).size]; trivial
    have ch3:=(ch2).trans (chg_mirror (lo:=lo) (i:=lo + 0) (j:=lo + m) (st:=st4) (by trivial) hsz3)
    have up3:=d2.1.up hsz3
    have lap3:=d2.2.mirror (i:=0) hsz3 (Nat.le_refl _)
    refine wpS_bind (asc_loop (O:=O) (ky:=ky) (ix:=ix) (lo:=lo) (by trivial) (by trivial) up3 lap3 ?_ (fun n3 a1 a2 a3 _ => wpS_pure (h n3 _ ch3 (by trivial) a2 a3 (lap3.on a1))))
    intro x n' b1 b2 R r1 r2
    refine wpS_bind (ask ch3 _ _ (by trivial) (by trivial) ?_)
    dsimp only
    rw [show lo + n' - 1 = lo + (n' - 1) by trivial]
    cases e:O.blt (ky (at_ (mirror (arrOf st4) (lo + 0) (lo + m) ((lo + m - (lo + 0)) / 2)) (lo + n'))) (ky (at_ (mirror (arrOf st4) (lo + 0) (lo + m) ((lo + m - (lo + 0)) / 2)) (lo + (n' - 1)))) with
    | true => exact wpS_pure (r1 e)
    | false => exact wpS_pure (r2 e)
   ·rw [if_neg hne]
    obtain rfl:neq = 0:=by trivial
    have ch2:=ch
    have d2:=d.done
    generalize st' = st4 at ch2 d2 ⊢
    refine wpS_bind (wpS_rev ?_)
    have hsz3:lo + m ≤ (arrOf st4).size:=by rw [(ch2).size]; trivial
    have ch3:=(ch2).trans (chg_mirror (lo:=lo) (i:=lo + 0) (j:=lo + m) (st:=st4) (by trivial) hsz3)
    have up3:=d2.1.up hsz3
    have lap3:=d2.2.mirror (i:=0) hsz3 (Nat.le_refl _)
    refine wpS_bind (asc_loop (O:=O) (ky:=ky) (ix:=ix) (lo:=lo) (by trivial) (by trivial) up3 lap3 ?_ (fun n3 a1 a2 a3 _ => wpS_pure (h n3 _ ch3 (by trivial) a2 a3 (lap3.on a1))))
    intro x n' b1 b2 R r1 r2
    refine wpS_bind (ask ch3 _ _ (by trivial) (by trivial) ?_)
    dsimp only
    rw [show lo + n' - 1 = lo + (n' - 1) by trivial]
    cases e:O.blt (ky (at_ (mirror (arrOf st4) (lo + 0) (lo + m) ((lo + m - (lo + 0)) / 2)) (lo + n'))) (ky (at_ (mirror (arrOf st4) (lo + 0) (lo + m) ((lo + m - (lo + 0)) / 2)) (lo + (n' - 1)))) with
    | true => exact wpS_pure (r1 e)
    | false => exact wpS_pure (r2 e)
theorem wpS_bin (C:Cmp prog w A s kd O ky S) {st0:SortSt} {lo n ok:Nat} {Q:Bool -> SortSt -> Prop} (hk0:kindOf st0 = kd) (hS0:∀ p ∈ (arrOf st0).toList,S p) (hn:lo + n ≤ (arrOf st0).size) (hok:ok ≤ n) (hu:Up O ky ix st0 lo ok) {nrem:Nat} (hnr:n ≤ nrem) (lap0:Lap ix st0 lo ok nrem)
  (h:∀ st',Chg lo st0 st' -> Up O ky ix st' lo n -> Lap ix st' lo n nrem -> Q true st'):wpS (model prog w) A E s (binarySort' lo n ok) Q st0:=by
 unfold binarySort'
 refine wpS_bind (wpS_mono (wpS_forRange (I:=fun k c st' => c = (none,())∧Chg lo st0 st'∧Up O ky ix st' lo (min k n)∧Lap ix st' lo (min k n) nrem) (Q:=fun c st' => c = (none,())∧Chg lo st0 st'∧Up O ky ix st' lo n∧Lap ix st' lo n nrem) ?step ?fin ?init) ?post)
 case post =>
  rintro c st' ⟨rfl,ch,u,lp⟩
  exact wpS_pure (h st' ch u lp)
 case init =>
  refine ⟨rfl,Chg.refl _ _,fun i j hij hj => ?_,lap0.on (by trivial)⟩
  by_cases z:i = j
  ·rw [z]; exact R.refl _
  ·exact hu i j hij (by trivial)
 case fin =>
  rintro c st' ⟨hc,ch,u,lp⟩
  rw [show min (max (max ok 1) n) n = n by trivial] at u lp
  exact ⟨hc,ch,u,lp⟩
 case step =>
  rintro k c st' hk1 hk2 ⟨rfl,ch,u,lp⟩
  rw [show min k n = k by trivial] at u lp
  have hsz:=ch.size
  dsimp only
  refine wpS_bind (wpS_mono (wpS_forRange (I:=fun x c st2 => st2 = st'∧∃ l r,c = (none,l,r)∧l ≤ r∧r ≤ k∧r - l ≤ k - x∧(∀ i,i < l -> R O ky ix (at_ (arrOf st') (lo + i)) (at_ (arrOf st') (lo + k)))∧(∀ i,r ≤ i -> i < k -> O.klt (kf ky st' lo k) (kf ky st' lo i)))
   (Q:=fun c st2 => st2 = st'∧∃ l r,c = (none,l,r)∧l ≤ k∧(∀ i,i < l -> R O ky ix (at_ (arrOf st') (lo + i)) (at_ (arrOf st') (lo + k)))∧(∀ i,l ≤ i -> i < k -> O.klt (kf ky st' lo k) (kf ky st' lo i))) ?s2 ?f2 ⟨rfl,0,k,rfl,by trivial,by trivial,by trivial,fun i hi => by trivial,fun i i1 i2 => by trivial⟩) ?p2)
  case f2 =>
   rintro c st2 ⟨rfl,l,r,rfl,a1,a2,a3,a4,a5⟩
   obtain rfl:l = r:=by trivial
   exact ⟨rfl,l,l,rfl,a2,a4,a5⟩
  case s2 =>
   rintro x c st2 _ hx ⟨rfl,l,r,rfl,a1,a2,a3,a4,a5⟩
   dsimp only
   by_cases hge:l ≥ r
   ·rw [if_pos hge]
    obtain rfl:l = r:=by trivial
    exact wpS_pure ⟨rfl,l,l,rfl,a2,a4,a5⟩
   ·rw [if_neg hge]
    refine wpS_bind (wpS_ltAt' C (ch.kind.trans hk0) (ch.all hS0) (by trivial) (by trivial) ?_)
    dsimp only
    cases e:O.blt (ky (at_ (arrOf st2) (lo + k))) (ky (at_ (arrOf st2) (lo + (l + r) / 2))) with
    | true =>
     rw [if_pos rfl]
     exact wpS_pure ⟨rfl,l,(l + r) / 2,rfl,by trivial,by trivial,by trivial,a4,fun i i1 i2 => KeyOrd.klt_of_klt_of_kle e (u _ i i1 i2).1⟩
    | false =>
     rw [if_neg Bool.false_ne_true]
     exact wpS_pure ⟨rfl,(l + r) / 2 + 1,r,rfl,by trivial,by trivial,by trivial,fun i i1 => R.trans (u i ((l + r) / 2) (by trivial) (by trivial)) (R.le e (lp.any (by trivial) (Nat.le_refl _) (by trivial))),a5⟩
  case p2 =>
   rintro c st2 ⟨rfl,l,r,rfl,a1,a4,a5⟩
   dsimp only
   have hks:lo + k < (arrOf st2).size:=by trivial
   show wpS _ _ _ _ (moveDown' (lo + k) (lo + l) >>= fun _ => pure (ForInStep.yield (none,()))) _ _
   rw [moveDown'_eq]
   refine wpS_bind (wpS_modify (wpS_pure ⟨rfl,ch.trans (chg_bubble hks (by trivial) (by trivial)),?_,?_⟩))
   ·rw [show min (k + 1) n = k + 1 by trivial]
    intro i j hij hj
    show R O ky ix (at_ (bubble (arrOf st2) (lo + k) (lo + k - (lo + l))) (lo + i)) (at_ (bubble (arrOf st2) (lo + k) (lo + k - (lo + l))) (lo + j))
    rw [at_bubble hks (by trivial),at_bubble hks (by trivial),show lo + k - (lo + k - (lo + l)) = lo + l by trivial]
    by_cases i1:i = l
    ·rw [if_pos (by trivial)]
     by_cases j1:j = l
     ·rw [if_pos (by trivial)]; exact R.refl _
     ·rw [if_neg (by trivial),if_pos (by trivial),show lo + j - 1 = lo + (j - 1) by trivial]
      exact R.lt (a5 (j - 1) (by trivial) (by trivial))
    ·rw [if_neg (by trivial)]
     by_cases i2:l < i
     ·rw [if_pos (by trivial),if_neg (by trivial),if_pos (by trivial),show lo + i - 1 = lo + (i - 1) by trivial,show lo + j - 1 = lo + (j - 1) by trivial]
      exact u _ _ (by trivial) (by trivial)
     ·rw [if_neg (by trivial)]
      by_cases j1:j = l
      ·rw [if_pos (by trivial)]; exact a4 i (by trivial)
      ·rw [if_neg (by trivial)]
       by_cases j2:l < j
       ·rw [if_pos (by trivial),show lo + j - 1 = lo + (j - 1) by trivial]; exact u _ _ (by trivial) (by trivial)
       ·rw [if_neg (by trivial)]; exact u _ _ hij (by trivial)
   ·rw [show min (k + 1) n = k + 1 by trivial]
    refine (lp.on (Nat.le_succ k)).of (fun i hi => ?_) (fun i hi => ?_)
    ·show ∃ k',k' < k + 1∧at_ (bubble (arrOf st2) (lo + k) (lo + k - (lo + l))) (lo + i) = _
     rw [at_bubble hks (by trivial),show lo + k - (lo + k - (lo + l)) = lo + l by trivial]
     by_cases i1:lo + i = lo + l
     ·rw [if_pos i1]; exact ⟨k,by trivial,rfl⟩
     ·rw [if_neg i1]
      by_cases i2:lo + l < lo + i∧lo + i ≤ lo + k
      ·rw [if_pos i2,show lo + i - 1 = lo + (i - 1) by trivial]; exact ⟨i - 1,by trivial,rfl⟩
      ·rw [if_neg i2]; exact ⟨i,hi,rfl⟩
    ·show at_ (bubble (arrOf st2) (lo + k) (lo + k - (lo + l))) (lo + i) = _
     rw [at_bubble hks (by trivial),if_neg (by trivial),if_neg (by trivial)]
end
end TT
set_option linter.all false
namespace TT
open PySem PyProof.Rows TS
noncomputable def offs:Nat -> List (List Keyed) -> List (Nat × Nat)
 | _,[] => []
 | o,g :: r => (o,g.length) :: offs (o + g.length) r
theorem offs_append:∀ (p q:List (List Keyed)) (o:Nat),offs o (p ++ q) = offs o p ++ offs (o + p.flatten.length) q
 | [],q,o => by simp [offs]
 | g :: r,q,o => by
  show (o,g.length) :: offs (o + g.length) (r ++ q) = (o,g.length) :: offs (o + g.length) r ++ _
  rw [offs_append r q,List.cons_append,List.flatten_cons,List.length_append,Nat.add_assoc]
theorem offs_length:∀ (p:List (List Keyed)) (o:Nat),(offs o p).length = p.length
 | [],_ => rfl
 | g :: r,o => by show (offs (o + g.length) r).length + 1 = _; rw [offs_length r]; rfl
noncomputable def two (p:Nat × Nat × Nat):Nat × Nat:=(p.1,p.2.1)
noncomputable def Ord (ix:Keyed -> Nat) (l:List (List Keyed)):Prop:=l.Pairwise fun g h => ∀ x ∈ g,∀ y ∈ h,ix x ≤ ix y
theorem Ord.two {ix:Keyed -> Nat} {pre post:List (List Keyed)} {F G:List Keyed} (h:Ord ix (pre ++ F :: G :: post)):∀ x ∈ F,∀ y ∈ G,ix x ≤ ix y :=
 (List.pairwise_cons.mp (List.pairwise_append.mp h).2.1).1 G List.mem_cons_self
theorem Ord.join {ix:Keyed -> Nat} {pre post:List (List Keyed)} {F G M:List Keyed} (h:Ord ix (pre ++ F :: G :: post)) (hm:∀ x ∈ M,x ∈ F ∨ x ∈ G):Ord ix (pre ++ M :: post):=by
 unfold Ord at h ⊢
 rw [List.pairwise_append,List.pairwise_cons,List.pairwise_cons] at h
 rw [List.pairwise_append,List.pairwise_cons]
 obtain ⟨h1,⟨h2,h3,h4⟩,h5⟩:=h
 refine ⟨h1,⟨fun g hg x hx y hy => ?_,h4⟩,fun g hg k hk x hx y hy => ?_⟩
 ·rcases hm x hx with z | z
  ·exact h2 g (List.mem_cons_of_mem _ hg) x z y hy
  ·exact h3 g hg x z y hy
 ·rcases List.mem_cons.mp hk with e | hk
  ·subst e
   rcases hm y hy with z | z
   ·exact h5 g hg F List.mem_cons_self x hx y z
   ·exact h5 g hg G (List.mem_cons_of_mem _ List.mem_cons_self) x hx y z
  ·exact h5 g hg k (List.mem_cons_of_mem _ (List.mem_cons_of_mem _ hk)) x hx y hy
theorem Ord.last {ix:Keyed -> Nat} {l:List (List Keyed)} {r r':List Keyed} (h:Ord ix (l ++ [r])) (hm:∀ x ∈ r',x ∈ r):Ord ix (l ++ [r']):=by
 unfold Ord at h ⊢
 rw [List.pairwise_append] at h ⊢
 refine ⟨h.1,List.pairwise_singleton _ _,fun g hg k hk x hx y hy => ?_⟩
 rw [List.mem_singleton.mp hk] at hy
 exact h.2.2 g hg r List.mem_cons_self x hx y (hm y hy)
theorem Ord.cut {ix:Keyed -> Nat} {l:List (List Keyed)} {a b:List Keyed} (h:Ord ix (l ++ [a ++ b])) (hm:∀ x ∈ a,∀ y ∈ b,ix x ≤ ix y):Ord ix ((l ++ [a]) ++ [b]):=by
 unfold Ord at h ⊢
 rw [List.pairwise_append] at h
 rw [List.append_assoc,List.pairwise_append]
 refine ⟨h.1,List.pairwise_pair.mpr hm,fun g hg k hk x hx y hy => ?_⟩
 have hk':k = a ∨ k = b:=by simpa using hk
 rcases hk' with rfl | rfl
 ·exact h.2.2 g hg _ List.mem_cons_self x hx y (List.mem_append_left _ hy)
 ·exact h.2.2 g hg _ List.mem_cons_self x hx y (List.mem_append_right _ hy)
structure Stk (O:KeyOrd) (ky:Keyed -> O.α) (ix:Keyed -> Nat) (kd:SortKind) (a0:Array Keyed) (st:SortSt) (segs:List (List Keyed)) (rest:List Keyed):Prop where
 kind:kindOf st = kd
 fail:failedOf st = none
 arr:(arrOf st).toList = segs.flatten ++ rest
 perm:(arrOf st).Perm a0
 pend:(pendingOf st).toList.map two = offs 0 segs
 each:∀ g ∈ segs,g ≠ []∧Srt O ky ix g
 ord:Ord ix (segs ++ [rest])
theorem at_seg {arr:Array Keyed} {P G T:List Keyed} (h:arr.toList = P ++ (G ++ T)) {i:Nat} {x:Keyed} (hx:G[i]? = some x):at_ arr (P.length + i) = x:=by
 have e:arr.toList[P.length + i]? = some x:=by
  rw [h,List.getElem?_append_right (by trivial),show P.length + i - P.length = i by trivial,List.getElem?_append_left (List.getElem?_eq_some_iff.mp hx).1]
  exact hx
 unfold at_
 rw [← Array.getElem?_toList,e]; rfl
section
variable {O:KeyOrd} {ky:Keyed -> O.α} {ix:Keyed -> Nat}
theorem srt_ij {G:List Keyed} (h:Srt O ky ix G) {i j:Nat} {x y:Keyed} (hij:i ≤ j) (hx:G[i]? = some x) (hy:G[j]? = some y):R O ky ix x y:=by
 obtain ⟨h1,e1⟩:=List.getElem?_eq_some_iff.mp hx
 obtain ⟨h2,e2⟩:=List.getElem?_eq_some_iff.mp hy
 by_cases e:i = j
 ·subst e
  rw [hx] at hy
  cases hy
  exact R.refl _
 ·have:=List.pairwise_iff_getElem.mp h i j h1 h2 (by trivial)
  rw [e1,e2] at this
  exact this
theorem seg_srt {arr:Array Keyed} {P G T:List Keyed} (h:arr.toList = P ++ (G ++ T)) (hs:Srt O ky ix G):∀ i j,i ≤ j -> j < G.length -> R O ky ix (at_ arr (P.length + i)) (at_ arr (P.length + j)):=fun i j hij hj => by
 have e1:G[i]? = some G[i]:=List.getElem?_eq_getElem _
 have e2:G[j]? = some G[j]:=List.getElem?_eq_getElem _
 rw [at_seg h e1,at_seg h e2]
 exact srt_ij hs hij e1 e2
end
theorem write_back (sa:Nat):∀ (m:List Keyed) (n:Nat) (arr:Array Keyed),sa + n + m.length ≤ arr.size →
  ((m.zipIdx n).foldl (fun a (x:Keyed × Nat) => match x with | (p,j) => a.setIfInBounds (sa + j) p) arr).toList = arr.toList.take (sa + n) ++ (m ++ arr.toList.drop (sa + n + m.length))
 | [],n,arr,_ => by simp
 | p :: r,n,arr,h => by
  rw [List.length_cons] at h
  rw [List.zipIdx_cons,List.foldl_cons]
  have ih:=write_back sa r (n + 1) (arr.setIfInBounds (sa + n) p) (by simp; trivial)
  rw [ih]
  have hlt:sa + n < arr.toList.length:=by simp; trivial
  have el:(arr.setIfInBounds (sa + n) p).toList = arr.toList.set (sa + n) p:=by simp
  rw [el,show sa + (n + 1) = sa + n + 1 by trivial,List.take_add_one,List.length_cons]
  rw [List.take_set_of_le (by trivial),List.getElem?_set_self hlt,List.drop_set_of_lt (by trivial)]
  simp [Nat.add_assoc,Nat.add_comm,Nat.add_left_comm]
section
variable {prog:Program} {w:World} {A:Around} {E:Value -> Shared -> Prop} {s:Shared}
variable {kd:SortKind} {O:KeyOrd} {ky:Keyed -> O.α} {ix:Keyed -> Nat} {S:Keyed -> Prop} {a0:Array Keyed}
theorem pend_split {st:SortSt} {pre post:List (List Keyed)} {F G:List Keyed} (h:(pendingOf st).toList.map two = offs 0 (pre ++ F :: G :: post)):∃ p1 w1 w2 p2,(pendingOf st).toList = p1 ++ (pre.flatten.length,F.length,w1) :: (pre.flatten.length + F.length,G.length,w2) :: p2∧p1.length = pre.length∧p1.map two = offs 0 pre∧p2.map two = offs (pre.flatten.length + F.length + G.length) post:=by
 rw [offs_append] at h
 obtain ⟨p1,p2,e,e1,e2⟩:=List.map_eq_append_iff.mp h
 have h2:p2.map two = (0 + pre.flatten.length,F.length) :: (0 + pre.flatten.length + F.length,G.length) :: offs (0 + pre.flatten.length + F.length + G.length) post:=e2
 rw [Nat.zero_add] at h2
 obtain ⟨q1,p3,rfl,f1,f2⟩:=List.map_eq_cons_iff.mp h2
 obtain ⟨q2,p4,rfl,g1,g2⟩:=List.map_eq_cons_iff.mp f2
 obtain ⟨x1,x2,x3⟩:=q1
 obtain ⟨y1,y2,y3⟩:=q2
 obtain ⟨rfl,rfl⟩:=Prod.mk.inj (show (x1,x2) = _ from f1)
 obtain ⟨rfl,rfl⟩:=Prod.mk.inj (show (y1,y2) = _ from g1)
 refine ⟨p1,x3,y3,p4,e,?_,e1,g2⟩
 have:=congrArg List.length e1
 rw [List.length_map,offs_length] at this
 exact this
theorem wpS_mergeAt (C:Cmp prog w A s kd O ky S) {st:SortSt} {pre post:List (List Keyed)} {F G:List Keyed} {rest:List Keyed} {i:Nat} {Q:Bool -> SortSt -> Prop} (hS:∀ p ∈ a0.toList,S p) (h:Stk O ky ix kd a0 st (pre ++ F :: G :: post) rest) (hi:i = pre.length)
  (k:∀ st' M,Stk O ky ix kd a0 st' (pre ++ M :: post) rest -> M.length = F.length + G.length -> Q true st'):wpS (model prog w) A E s (TS.mergeAt' i) Q st:=by
 obtain ⟨p1,w1,w2,p2,ep,l1,q1,q2⟩:=pend_split h.pend
 have hSa:∀ p ∈ (arrOf st).toList,S p:=fun p hp => hS p ((Array.perm_iff_toList_perm.mp h.perm).mem_iff.mp hp)
 have hF:=h.each F (List.mem_append_right _ List.mem_cons_self)
 have hG:=h.each G (List.mem_append_right _ (List.mem_cons_of_mem _ List.mem_cons_self))
 have lF:1 ≤ F.length:=List.length_pos_iff.mpr hF.1
 have lG:1 ≤ G.length:=List.length_pos_iff.mpr hG.1
 have arrF:(arrOf st).toList = pre.flatten ++ (F ++ (G ++ (post.flatten ++ rest))):=by
  rw [h.arr]; simp
 have arrG:(arrOf st).toList = (pre.flatten ++ F) ++ (G ++ (post.flatten ++ rest)):=by
  rw [arrF]; simp
 have lenG:(pre.flatten ++ F).length = pre.flatten.length + F.length:=List.length_append
 have hsz:pre.flatten.length + F.length + G.length ≤ (arrOf st).size:=by
  have:=congrArg List.length arrF
  rw [List.length_append,List.length_append,List.length_append,Array.length_toList] at this
  trivial
 have srF:=seg_srt arrF hF.2
 have srG:=seg_srt arrG hG.2
 rw [lenG] at srG
 have g1:(pendingOf st)[i]? = some (pre.flatten.length,F.length,w1):=by
  rw [← Array.getElem?_toList,ep,hi,← l1]; simp
 have g2:(pendingOf st)[i + 1]? = some (pre.flatten.length + F.length,G.length,w2):=by
  rw [← Array.getElem?_toList,ep,hi,← l1,List.getElem?_append_right (by trivial)]; simp
 unfold TS.mergeAt'
 refine wpS_bind (wpS_get ?_)
 rw [show (pendingOf st)[i]? = _ from g1,show (pendingOf st)[i + 1]? = _ from g2]
 dsimp only
 -- what is told whatever is merged
 have fin:∀ (st':SortSt) (M:List Keyed),kindOf st' = kindOf st -> failedOf st' = failedOf st -> (arrOf st').toList = pre.flatten ++ (M ++ (post.flatten ++ rest)) -> M.Perm (F ++ G) -> Srt O ky ix M →
   pendingOf st' = ((pendingOf st).setIfInBounds i (pre.flatten.length,F.length + G.length,w1)).eraseIdxIfInBounds (i + 1) -> Q true st':=by
  intro st' M k1 k2 k3 k4 k5 k6
  refine k st' M ⟨k1.trans h.kind,k2.trans h.fail,?_,?_,?_,fun g hg => ?_,?_⟩ (by rw [k4.length_eq,List.length_append])
  ·rw [k3]; simp
  ·refine Array.Perm.trans (Array.perm_iff_toList_perm.mpr ?_) h.perm
   rw [k3,arrF]
   refine List.Perm.append_left _ ?_
   rw [← List.append_assoc F]
   exact k4.append_right _
  ·rw [k6]
   have e:(((pendingOf st).setIfInBounds i (pre.flatten.length,F.length + G.length,w1)).eraseIdxIfInBounds (i + 1)).toList = p1 ++ (pre.flatten.length,F.length + G.length,w1) :: p2:=by
    simp [ep]
    rw [hi,← l1,List.set_append_right _ _ (Nat.le_refl _),Nat.sub_self,List.set_cons_zero,List.eraseIdx_append_of_length_le (by trivial),show p1.length + 1 - p1.length = 1 by trivial]
    rfl
   rw [e,List.map_append,q1,List.map_cons,q2,offs_append,Nat.zero_add]
   show _ = offs 0 pre ++ (pre.flatten.length,M.length) :: offs (pre.flatten.length + M.length) post
   rw [k4.length_eq,List.length_append,← Nat.add_assoc]
   rfl
  ·rcases List.mem_append.mp hg with hg | hg
   ·exact h.each g (List.mem_append_left _ hg)
   ·rcases List.mem_cons.mp hg with hg | hg
    ·subst hg
     refine ⟨fun z => ?_,k5⟩
     have:=k4.length_eq
     rw [z,List.length_append] at this
     simp at this
     trivial
    ·exact h.each g (List.mem_append_right _ (List.mem_cons_of_mem _ (List.mem_cons_of_mem _ hg)))
  ·have o:=h.ord
   rw [List.append_assoc,List.cons_append,List.cons_append] at o
   rw [List.append_assoc,List.cons_append]
   exact o.join fun x hx => List.mem_append.mp (k4.mem_iff.mp hx)
 have fG:∀ {i:Nat},i < G.length -> ∃ x,G[i]? = some x∧at_ (arrOf st) (pre.flatten.length + F.length + i) = x:=fun {i} hi => by
  refine ⟨G[i],List.getElem?_eq_getElem _,?_⟩
  have:=at_seg arrG (i:=i) (List.getElem?_eq_getElem hi)
  rw [lenG] at this
  exact this
 have fF:∀ {i:Nat},i < F.length -> ∃ x,F[i]? = some x∧at_ (arrOf st) (pre.flatten.length + i) = x:=fun {i} hi => ⟨F[i],List.getElem?_eq_getElem _,at_seg arrF (List.getElem?_eq_getElem hi)⟩
 have memF:∀ {x:Keyed} {i j:Nat},x ∈ (F.take j).drop i -> ∃ n,i ≤ n∧n < j∧n < F.length∧at_ (arrOf st) (pre.flatten.length + n) = x:=fun {x i j} hx => by
  obtain ⟨n,hn,e⟩:=List.getElem_of_mem hx
  rw [List.length_drop,List.length_take] at hn
  refine ⟨i + n,by trivial,by trivial,by trivial,at_seg arrF ?_⟩
  have e2:((F.take j).drop i)[n]? = some x:=by rw [← e]; exact List.getElem?_eq_getElem _
  rw [List.getElem?_drop,List.getElem?_take,if_pos (by trivial)] at e2
  exact e2
 have memG:∀ {x:Keyed} {i j:Nat},x ∈ (G.take j).drop i -> ∃ n,i ≤ n∧n < j∧n < G.length∧at_ (arrOf st) (pre.flatten.length + F.length + n) = x:=fun {x i j} hx => by
  obtain ⟨n,hn,e⟩:=List.getElem_of_mem hx
  rw [List.length_drop,List.length_take] at hn
  have e2:((G.take j).drop i)[n]? = some x:=by rw [← e]; exact List.getElem?_eq_getElem _
  rw [List.getElem?_drop,List.getElem?_take,if_pos (by trivial)] at e2
  have:=at_seg arrG e2
  rw [lenG] at this
  exact ⟨i + n,by trivial,by trivial,by trivial,this⟩
 have allF:F = (F.take F.length).drop 0:=by simp
 have allG:G = (G.take G.length).drop 0:=by simp
 have hix:∀ x ∈ F,∀ y ∈ G,ix x ≤ ix y:=by
  have o:=h.ord
  rw [List.append_assoc,List.cons_append,List.cons_append] at o
  exact o.two
 have hixA:∀ m n,m < F.length -> n < G.length -> ix (at_ (arrOf st) (pre.flatten.length + m)) ≤ ix (at_ (arrOf st) (pre.flatten.length + F.length + n)):=fun m n hm hn => by
  obtain ⟨x,x1,x2⟩:=fF hm
  obtain ⟨y,y1,y2⟩:=fG hn
  rw [x2,y2]
  exact hix x (List.mem_of_getElem? x1) y (List.mem_of_getElem? y1)
 refine wpS_bind (wpS_modify (f:=fun _ => _) ?_)
 refine wpS_bind (wpS_elem (at_eq (show pre.flatten.length + F.length < (arrOf st).size by trivial)) ?_)
 refine wpS_bind (wpS_gal C h.kind (hSa _ (at_mem (show pre.flatten.length + F.length < (arrOf st).size by trivial))) hSa srF (fun i hi => by simp only [Bool.false_eq_true,if_false]; exact hixA i 0 hi lG) (show pre.flatten.length + F.length ≤ (arrOf st).size by trivial) (by trivial) fun kk hkk r1 r2 => ?_)
 dsimp only
 simp only [Bool.false_eq_true,if_false] at r1 r2
 have G0:∀ y ∈ G,R O ky ix (at_ (arrOf st) (pre.flatten.length + F.length)) y:=fun y hy => by
  rw [allG] at hy
  obtain ⟨n,_,_,n3,rfl⟩:=memG hy
  exact srG 0 n (by trivial) n3
 by_cases z1:(F.length - kk == 0) = true
 ·rw [if_pos z1]
  have z1':F.length - kk = 0:=by simpa using z1
  refine wpS_pure (fin _ (F ++ G) rfl rfl ?_ (List.Perm.refl _) ?_ rfl)
  ·show (arrOf st).toList = _
   rw [arrF]; simp
  ·unfold Srt
   rw [List.pairwise_append]
   refine ⟨hF.2,hG.2,fun x hx y hy => ?_⟩
   rw [allF] at hx
   obtain ⟨n,_,_,n3,rfl⟩:=memF hx
   exact R.trans (r1 n (by trivial)) (G0 y hy)
 rw [if_neg z1]
 have z1':¬ F.length - kk = 0:=by simpa using z1
 have elast:pre.flatten.length + kk + (F.length - kk) - 1 = pre.flatten.length + (F.length - 1):=by trivial
 rw [elast]
 refine wpS_bind (wpS_elem (at_eq (show pre.flatten.length + (F.length - 1) < (arrOf st).size by trivial)) ?_)
 refine wpS_bind (wpS_gal C h.kind (hSa _ (at_mem (show pre.flatten.length + (F.length - 1) < (arrOf st).size by trivial))) hSa srG (fun i hi => by simp only [if_true]; exact hixA (F.length - 1) i (by trivial) hi) (show pre.flatten.length + F.length + G.length ≤ (arrOf st).size by trivial) (by trivial) fun nn hnn t1 t2 => ?_)
 dsimp only
 simp only [if_true] at t1 t2
 have FL:∀ x ∈ F,R O ky ix x (at_ (arrOf st) (pre.flatten.length + (F.length - 1))):=fun x hx => by
  rw [allF] at hx
  obtain ⟨n,_,_,n3,rfl⟩:=memF hx
  exact srF n (F.length - 1) (by trivial) (by trivial)
 by_cases z2:(nn == 0) = true
 ·rw [if_pos z2]
  have z2':nn = 0:=by simpa using z2
  refine wpS_pure (fin _ (F ++ G) rfl rfl ?_ (List.Perm.refl _) ?_ rfl)
  ·show (arrOf st).toList = _
   rw [arrF]; simp
  ·unfold Srt
   rw [List.pairwise_append]
   refine ⟨hF.2,hG.2,fun x hx y hy => ?_⟩
   rw [allG] at hy
   obtain ⟨n,_,_,n3,rfl⟩:=memG hy
   exact R.trans (FL x hx) (t2 n (by trivial) n3)
 rw [if_neg z2]
 have z2':¬ nn = 0:=by simpa using z2
 have hx:((arrOf st).extract (pre.flatten.length + kk) (pre.flatten.length + F.length)).toList = F.drop kk:=by
  rw [ext2,arrG,← lenG,List.take_append_of_le_length (Nat.le_refl _),List.take_length,← List.drop_drop]
  simp
 have hy:((arrOf st).extract (pre.flatten.length + F.length) (pre.flatten.length + F.length + nn)).toList = G.take nn:=by
  rw [ext_some,arrG,← lenG,List.drop_append_of_le_length (Nat.le_refl _),List.drop_length,List.nil_append,List.take_append_of_le_length hnn]
 have szx:((arrOf st).extract (pre.flatten.length + kk) (pre.flatten.length + F.length)).size = F.length - kk:=by
  rw [← Array.length_toList,hx,List.length_drop]
 have szy:((arrOf st).extract (pre.flatten.length + F.length) (pre.flatten.length + F.length + nn)).size = nn:=by
  rw [← Array.length_toList,hy,List.length_take]; trivial
 generalize (arrOf st).extract (pre.flatten.length + kk) (pre.flatten.length + F.length) = x at hx szx ⊢
 generalize (arrOf st).extract (pre.flatten.length + F.length) (pre.flatten.length + F.length + nn) = y at hy szy ⊢
 have inF:∀ p ∈ F,S p:=fun p hp => hSa p (by rw [arrF]; exact List.mem_append_right _ (List.mem_append_left _ hp))
 have inG:∀ p ∈ G,S p:=fun p hp => hSa p (by rw [arrF]; exact List.mem_append_right _ (List.mem_append_right _ (List.mem_append_left _ hp)))
 have hSx:∀ p ∈ x.toList,S p:=fun p hp => inF p (by rw [hx] at hp; exact List.mem_of_mem_drop hp)
 have hSy:∀ p ∈ y.toList,S p:=fun p hp => inG p (by rw [hy] at hp; exact List.mem_of_mem_take hp)
 have sx:Srt O ky ix x.toList:=by rw [hx]; exact drop_srt hF.2 _
 have sy:Srt O ky ix y.toList:=by rw [hy]; exact take_srt hG.2 _
 have hixy:∀ p ∈ x.toList,∀ q ∈ y.toList,ix p ≤ ix q:=fun p hp q hq => by
  rw [hx] at hp
  rw [hy] at hq
  exact hix p (List.mem_of_mem_drop hp) q (List.mem_of_mem_take hq)
 have y0:at_ y 0 = at_ (arrOf st) (pre.flatten.length + F.length):=by
  obtain ⟨g,hg1,hg2⟩:=fG (i:=0) lG
  have e:y.toList[0]? = some g:=by rw [hy,List.getElem?_take,if_pos (by trivial)]; exact hg1
  rw [show pre.flatten.length + F.length = pre.flatten.length + F.length + 0 from rfl,hg2]
  unfold at_
  rw [← Array.getElem?_toList,e]; rfl
 have xl:at_ x (x.size - 1) = at_ (arrOf st) (pre.flatten.length + (F.length - 1)):=by
  obtain ⟨g,hg1,hg2⟩:=fF (i:=F.length - 1) (by trivial)
  have e:x.toList[x.size - 1]? = some g:=by rw [hx,szx,List.getElem?_drop,show kk + (F.length - kk - 1) = F.length - 1 by trivial]; exact hg1
  rw [hg2]
  unfold at_
  rw [← Array.getElem?_toList,e]; rfl
 have h0:∀ p ∈ x.toList,R O ky ix (at_ y 0) p:=fun p hp => by
  rw [hx,show F.drop kk = (F.take F.length).drop kk by rw [List.take_length]] at hp
  obtain ⟨n,n1,_,n3,rfl⟩:=memF hp
  rw [y0]
  exact R.lt (r2 n n1 n3)
 have hl:∀ p ∈ y.toList,R O ky ix p (at_ x (x.size - 1)):=fun p hp => by
  rw [hy,show G.take nn = (G.take nn).drop 0 by rw [List.drop_zero]] at hp
  obtain ⟨n,_,n2,n3,rfl⟩:=memG hp
  rw [xl]
  exact R.lt (t1 n n2)
 have last:∀ (o:Array Keyed) (st':SortSt),Good O ky ix x y o -> SameSt (SortSt.mk' (kindOf st) (arrOf st) (((pendingOf st).setIfInBounds i (pre.flatten.length,F.length + G.length,w1)).eraseIdxIfInBounds (i + 1)) (gallopOf st) (failedOf st)) st' →
   (failedOf st').isNone = true∧Q true (SortSt.mk' (kindOf st') (o.toList.zipIdx.foldl (fun a (x:Keyed × Nat) => match x with | (p,j) => a.setIfInBounds (pre.flatten.length + kk + j) p) (arrOf st')) (pendingOf st') (gallopOf st') (failedOf st')):=by
  intro o st' go ss
  obtain ⟨pm,so⟩:=go
  rw [hx,hy] at pm
  have lo:o.toList.length = F.length - kk + nn:=by rw [pm.length_eq,List.length_append,List.length_drop,List.length_take]; trivial
  refine ⟨by rw [show failedOf st' = failedOf st from ss.fail,h.fail]; rfl,?_⟩
  refine fin _ (F.take kk ++ (o.toList ++ G.drop nn)) ss.kind ss.fail ?_ ?_ ?_ ss.pend
  ·show (o.toList.zipIdx.foldl _ (arrOf st')).toList = _
   rw [show arrOf st' = arrOf st from ss.arr]
   have wb:=write_back (pre.flatten.length + kk) o.toList 0 (arrOf st) (by trivial)
   rw [Nat.add_zero] at wb
   refine wb.trans ?_
   have d1:(arrOf st).toList.take (pre.flatten.length + kk) = pre.flatten ++ F.take kk:=by
    rw [arrF,List.take_length_add_append,List.take_append_of_le_length (by trivial)]
   have d2:(arrOf st).toList.drop (pre.flatten.length + kk + o.toList.length) = G.drop nn ++ (post.flatten ++ rest):=by
    rw [arrG,lo,show pre.flatten.length + kk + (F.length - kk + nn) = (pre.flatten ++ F).length + nn by rw [lenG]; trivial,List.drop_length_add_append,List.drop_append_of_le_length hnn]
   rw [d1,d2]; simp
  ·have e1:=List.take_append_drop kk F
   have e2:=List.take_append_drop nn G
   conv => rhs; rw [← e1,← e2]
   rw [List.append_assoc]
   refine List.Perm.append_left _ ?_
   rw [← List.append_assoc]
   exact pm.append_right _
  ·have mo:∀ p ∈ o.toList,p ∈ F.drop kk ∨ p ∈ G.take nn:=fun p hp => List.mem_append.mp (pm.mem_iff.mp hp)
   unfold Srt
   rw [List.pairwise_append,List.pairwise_append]
   refine ⟨take_srt hF.2 _,⟨so,drop_srt hG.2 _,fun p hp q hq => ?_⟩,fun p hp q hq => ?_⟩
   ·rcases mo p hp with hp | hp
    ·rw [show G.drop nn = (G.take G.length).drop nn by rw [List.take_length]] at hq
     obtain ⟨n,n1,_,n3,rfl⟩:=memG hq
     exact R.trans (FL p (List.mem_of_mem_drop hp)) (t2 n n1 n3)
    ·exact split_srt hG.2 nn p hp q hq
   ·have ub:R O ky ix p (at_ (arrOf st) (pre.flatten.length + F.length)):=by
     rw [show F.take kk = (F.take kk).drop 0 by rw [List.drop_zero]] at hp
     obtain ⟨n,_,n2,n3,rfl⟩:=memF hp
     exact r1 n n2
    rcases List.mem_append.mp hq with hq | hq
    ·rcases mo q hq with hq | hq
     ·exact split_srt hF.2 kk p hp q hq
     ·exact R.trans ub (G0 q (List.mem_of_mem_take hq))
    ·exact R.trans ub (G0 q (List.mem_of_mem_drop hq))
 by_cases hle:F.length - kk ≤ nn
 ·rw [if_pos hle]
  refine wpS_bind (wpS_mergeLo C h.kind hSx hSy sx sy hixy (by trivial) (by trivial) h0 hl fun o st' go ss => ?_)
  obtain ⟨l1,l2⟩:=last o st' go ss
  refine wpS_bind (wpS_modify (wpS_bind (wpS_get (wpS_pure ?_))))
  rw [show (failedOf st').isNone = true from l1]
  exact l2
 ·rw [if_neg hle]
  refine wpS_bind (wpS_mergeHi C h.kind hSx hSy sx sy hixy (by trivial) (by trivial) h0 hl fun o st' go ss => ?_)
  obtain ⟨l1,l2⟩:=last o st' go ss
  refine wpS_bind (wpS_modify (wpS_bind (wpS_get (wpS_pure ?_))))
  rw [show (failedOf st').isNone = true from l1]
  exact l2
end
end TT
set_option linter.all false
namespace TT
open PySem PyProof.Rows TS
section
variable {prog:Program} {w:World} {A:Around} {E:Value -> Shared -> Prop} {s:Shared}
variable {kd:SortKind} {O:KeyOrd} {ky:Keyed -> O.α} {ix:Keyed -> Nat} {S:Keyed -> Prop} {a0:Array Keyed}
theorem Stk.chg {st st':SortSt} {segs:List (List Keyed)} {rest:List Keyed} {lo:Nat} (h:Stk O ky ix kd a0 st segs rest) (c:Chg lo st st') (hl:segs.flatten.length = lo):Stk O ky ix kd a0 st' segs ((arrOf st').toList.drop lo):=by
 have e:(arrOf st').toList.take lo = segs.flatten:=by
  have e0:(arrOf st).toList.take lo = segs.flatten:=by rw [h.arr,← hl,List.take_append_of_le_length (Nat.le_refl _),List.take_length]
  rw [← e0]
  apply List.ext_getElem?
  intro i
  rw [List.getElem?_take,List.getElem?_take]
  by_cases hi:i < lo
  ·rw [if_pos hi,if_pos hi,Array.getElem?_toList,Array.getElem?_toList]; exact c.low i hi
  ·rw [if_neg hi,if_neg hi]
 have ea:(arrOf st').toList = segs.flatten ++ (arrOf st').toList.drop lo:=by rw [← e,List.take_append_drop]
 refine ⟨c.kind.trans h.kind,c.fail.trans h.fail,ea,c.perm.trans h.perm,by rw [c.pend]; exact h.pend,h.each,h.ord.last fun x hx => ?_⟩
 have p:=Array.perm_iff_toList_perm.mp c.perm
 rw [ea,h.arr] at p
 exact ((List.perm_append_left_iff _).mp p).mem_iff.mp hx
theorem up_srt {st:SortSt} {lo n:Nat} (hn:lo + n ≤ (arrOf st).size) (h:Up O ky ix st lo n):Srt O ky ix (((arrOf st).toList.drop lo).take n):=by
 unfold Srt
 rw [List.pairwise_iff_getElem]
 intro i j hi hj hij
 rw [List.length_take,List.length_drop] at hi hj
 have hat:∀ k (hk:k < (((arrOf st).toList.drop lo).take n).length),(((arrOf st).toList.drop lo).take n)[k] = at_ (arrOf st) (lo + k):=fun k hk => by
  have hk':=hk
  rw [List.length_take,List.length_drop] at hk'
  have e:(((arrOf st).toList.drop lo).take n)[k]? = some (((arrOf st).toList.drop lo).take n)[k]:=List.getElem?_eq_getElem _
  rw [List.getElem?_take,if_pos (by trivial),List.getElem?_drop,at_list (by trivial)] at e
  exact (Option.some.inj e).symm
 rw [hat,hat]
 exact h i j (by trivial) (by trivial)
theorem Stk.push {st:SortSt} {segs:List (List Keyed)} {rest:List Keyed} {lo n:Nat} (h:Stk O ky ix kd a0 st segs rest) (hl:segs.flatten.length = lo) (h1:1 ≤ n) (hn:n ≤ rest.length) (hs:Srt O ky ix (rest.take n)) (hc:∀ x ∈ rest.take n,∀ y ∈ rest.drop n,ix x ≤ ix y) {st':SortSt} (k1:kindOf st' = kindOf st) (k2:failedOf st' = failedOf st) (k3:arrOf st' = arrOf st) (k4:(pendingOf st').toList.map two = (pendingOf st).toList.map two ++ [(lo,n)]) :
  Stk O ky ix kd a0 st' (segs ++ [rest.take n]) (rest.drop n):=by
 have hln:(rest.take n).length = n:=by rw [List.length_take]; trivial
 refine ⟨k1.trans h.kind,k2.trans h.fail,?_,by rw [k3]; exact h.perm,?_,fun g hg => ?_,Ord.cut (by rw [List.take_append_drop]; exact h.ord) hc⟩
 ·rw [k3,h.arr]; simp
 ·rw [k4,h.pend,offs_append,Nat.zero_add,hl]
  show _ = _ ++ [(lo,(rest.take n).length)]
  rw [hln]
 ·rcases List.mem_append.mp hg with hg | hg
  ·exact h.each g hg
  ·have:g = rest.take n:=by simpa using hg
   subst this
   refine ⟨fun z => ?_,hs⟩
   rw [z] at hln
   simp at hln
   trivial
theorem lap_list {st:SortSt} {lo n m:Nat} (h:Lap ix st lo n m) (hm:lo + m = (arrOf st).size) (hn:n ≤ m):(∀ x ∈ ((arrOf st).toList.drop lo).take n,∀ y ∈ ((arrOf st).toList.drop lo).drop n,ix x ≤ ix y)∧(((arrOf st).toList.drop lo).drop n).Pairwise (fun x y => ix x ≤ ix y):=by
 refine ⟨fun x hx y hy => ?_,?_⟩
 ·obtain ⟨i,i1,i2,rfl⟩:=mem_at hx
  obtain ⟨j,j1,e⟩:=List.getElem_of_mem hy
  rw [List.length_drop,List.length_drop,Array.length_toList] at j1
  have e2:(((arrOf st).toList.drop lo).drop n)[j]? = some y:=by rw [← e]; exact List.getElem?_eq_getElem _
  rw [List.getElem?_drop,List.getElem?_drop,at_list (by trivial)] at e2
  rw [← Option.some.inj e2]
  exact h.cross i (n + j) i1 (by trivial) (by trivial)
 ·rw [List.pairwise_iff_getElem]
  intro i j hi hj hij
  have hat:∀ k (hk:k < (((arrOf st).toList.drop lo).drop n).length),(((arrOf st).toList.drop lo).drop n)[k] = at_ (arrOf st) (lo + (n + k)):=fun k hk => by
   have hk':=hk
   rw [List.length_drop,List.length_drop,Array.length_toList] at hk'
   have e2:(((arrOf st).toList.drop lo).drop n)[k]? = some (((arrOf st).toList.drop lo).drop n)[k]:=List.getElem?_eq_getElem _
   rw [List.getElem?_drop,List.getElem?_drop,at_list (by trivial)] at e2
   exact (Option.some.inj e2).symm
  rw [hat,hat]
  rw [List.length_drop,List.length_drop,Array.length_toList] at hi hj
  exact h.rise _ _ (by trivial) (by trivial) (by trivial)
theorem lap_of_list {st:SortSt} {P T:List Keyed} {m:Nat} (h:(arrOf st).toList = P ++ T) (hm:m ≤ T.length) (hp:T.Pairwise (fun x y => ix x ≤ ix y)):Lap ix st P.length 0 m:=by
 refine ⟨fun i j h1 => by trivial,fun i j h1 h2 h3 => ?_⟩
 by_cases e:i = j
 ·rw [e]; exact Nat.le_refl _
 ·have hat:∀ k (hk:k < T.length),at_ (arrOf st) (P.length + k) = T[k]:=fun k hk => by
   have:=at_seg (P:=P) (G:=T) (T:=[]) (i:=k) (by rw [h,List.append_nil]) (List.getElem?_eq_getElem hk)
   exact this
  rw [hat i (by trivial),hat j (by trivial)]
  exact List.pairwise_iff_getElem.mp hp i j (by trivial) (by trivial) (by trivial)
theorem pend_size {st:SortSt} {segs:List (List Keyed)} {rest:List Keyed} (h:Stk O ky ix kd a0 st segs rest):(pendingOf st).size = segs.length:=by
 have:=congrArg List.length h.pend
 rw [List.length_map,offs_length,Array.length_toList] at this
 exact this
theorem two_modify (p:Array (Nat × Nat × Nat)) (i v:Nat):(p.modify i fun x => (x.1,x.2.1,v)).toList.map two = p.toList.map two:=by
 apply List.ext_getElem?
 intro j
 rw [List.getElem?_map,List.getElem?_map,Array.getElem?_toList,Array.getElem?_toList,Array.getElem?_modify]
 split
 ·cases p[j]? with
  | none => rfl
  | some x => rfl
 ·rfl
theorem snoc2 {α:Type} {l:List α} (h:2 ≤ l.length) {i:Nat} (hi:i + 2 = l.length ∨ i + 3 = l.length):∃ pre F G post,l = pre ++ F :: G :: post∧pre.length = i:=by
 have h1:i < l.length:=by trivial
 have h2:i + 1 < l.length:=by trivial
 refine ⟨l.take i,l[i],l[i + 1],l.drop (i + 2),?_,by rw [List.length_take]; trivial⟩
 conv => lhs; rw [← List.take_append_drop i l,List.drop_eq_getElem_cons h1,List.drop_eq_getElem_cons h2]
theorem pick {m i:Nat} {o:Option Nat} {f:Nat -> Bool} (h2:2 ≤ m) (hb:(if Option.any f (if m - 2 > 0 then o else none) = true then m - 2 - 1 else m - 2) = i):i + 2 = m ∨ i + 3 = m:=by
 by_cases c:Option.any f (if m - 2 > 0 then o else none) = true
 ·rw [if_pos c] at hb
  by_cases z:m - 2 > 0
  ·right; trivial
  ·rw [if_neg z] at c; simp at c
 ·rw [if_neg c] at hb; left; trivial
theorem flat_join {pre post:List (List Keyed)} {F G M:List Keyed} (h:M.length = F.length + G.length):(pre ++ M :: post).flatten.length = (pre ++ F :: G :: post).flatten.length:=by
 simp [h,Nat.add_assoc]
theorem wpS_sort (C:Cmp prog w A s kd O ky S) {st0:SortSt} {Q:Unit -> SortSt -> Prop} (hS:∀ p ∈ (arrOf st0).toList,S p) (hk:kindOf st0 = kd) (hf:failedOf st0 = none) (hp:pendingOf st0 = #[]) (hrise:(arrOf st0).toList.Pairwise (fun x y => ix x ≤ ix y))
  (h:∀ st',(arrOf st').Perm (arrOf st0) -> failedOf st' = none -> Srt O ky ix (arrOf st').toList -> Q () st'):wpS (model prog w) A E s sortRuns' Q st0:=by
 unfold sortRuns'
 refine wpS_bind (wpS_get ?_)
 dsimp only
 generalize hsz:(arrOf st0).size = size
 generalize (sortPriv% PySem.Builtin.minRun) size size 0 = minrun
 have base:Stk O ky ix kd (arrOf st0) st0 [] (arrOf st0).toList:=⟨hk,hf,rfl,Array.Perm.refl _,by rw [hp]; rfl,(fun _ z => by cases z),List.pairwise_singleton _ _⟩
 have szof:∀ {st:SortSt} {segs:List (List Keyed)} {rest:List Keyed},Stk O ky ix kd (arrOf st0) st segs rest -> (arrOf st).size = size∧segs.flatten.length + rest.length = size:=fun {st segs rest} k => by
  have e:=k.perm.size_eq
  have e2:=congrArg List.length k.arr
  rw [List.length_append,Array.length_toList] at e2
  exact ⟨by trivial,by trivial⟩
 have allS:∀ {st:SortSt} {segs:List (List Keyed)} {rest:List Keyed},Stk O ky ix kd (arrOf st0) st segs rest -> ∀ p ∈ (arrOf st).toList,S p:=fun {st segs rest} k p hp => hS p ((Array.perm_iff_toList_perm.mp k.perm).mem_iff.mp hp)
 refine wpS_bind (wpS_mono (wpS_forRange
  (I:=fun x c st' => c.1 = none∧x ≤ c.2∧∃ segs rest,Stk O ky ix kd (arrOf st0) st' segs rest∧segs.flatten.length = c.2∧rest.Pairwise (fun x y => ix x ≤ ix y))
  (Q:=fun c st' => c.1 = none∧∃ segs,Stk O ky ix kd (arrOf st0) st' segs []) ?step ?fin ⟨rfl,Nat.le_refl _,[],_,base,rfl,hrise⟩) ?post)
 case fin =>
  rintro c st' ⟨c1,c2,segs,rest,k,kl,_⟩
  obtain ⟨_,e⟩:=szof k
  have:rest = []:=List.eq_nil_of_length_eq_zero (by trivial)
  subst this
  exact ⟨c1,segs,k⟩
 case post =>
  rintro ⟨r,lo⟩ st1 ⟨c1,segs,k⟩
  dsimp only at c1 ⊢
  subst c1
  dsimp only
  obtain ⟨_,esz⟩:=szof k
  have ls:segs.length ≤ size:=by
   have:∀ l:List (List Keyed),(∀ g ∈ l,g ≠ []∧Srt O ky ix g) -> l.length ≤ l.flatten.length:=by
    intro l
    induction l with
    | nil => intro _; exact Nat.le_refl _
    | cons g r ih =>
     intro hg
     have a:=ih fun x hx => hg x (List.mem_cons_of_mem _ hx)
     have b:=List.length_pos_iff.mpr (hg g List.mem_cons_self).1
     rw [List.length_cons,List.flatten_cons,List.length_append]
     trivial
   have:=this segs k.each
   simp at esz
   simp at this
   trivial
  refine wpS_bind (wpS_mono (wpS_forRange
   (I:=fun x c st' => c = (none,())∧∃ segs,Stk O ky ix kd (arrOf st0) st' segs []∧(segs.length ≤ 1 ∨ segs.length + x ≤ size))
   (Q:=fun c st' => c = (none,())∧∃ segs,Stk O ky ix kd (arrOf st0) st' segs []∧segs.length ≤ 1) ?st2 ?fn2 ⟨rfl,segs,k,.inr (by trivial)⟩) ?ps2)
  case fn2 =>
   rintro c st' ⟨c1,segs,k,hor⟩
   exact ⟨c1,segs,k,by rcases hor with q | q <;> trivial⟩
  case ps2 =>
   rintro c st' ⟨rfl,segs,k,hle⟩
   refine wpS_pure (h st' k.perm k.fail ?_)
   rw [k.arr,List.append_nil]
   match segs,hle,k.each with
   | [],_,_ => exact List.Pairwise.nil
   | [g],_,he =>
    rw [List.flatten_cons,List.flatten_nil,List.append_nil]
    exact (he g List.mem_cons_self).2
  case st2 =>
   rintro x c st' _ hx ⟨rfl,segs,k,hor⟩
   have ps:=pend_size k
   refine wpS_bind (wpS_get ?_)
   by_cases hle:(pendingOf st').size ≤ 1
   ·rw [if_pos hle]
    exact wpS_pure ⟨rfl,segs,k,by trivial⟩
   ·rw [if_neg hle]
    generalize hb:(if Option.any _ _ = true then (pendingOf st').size - 2 - 1 else (pendingOf st').size - 2) = i
    have hi:=pick (show 2 ≤ (pendingOf st').size by trivial) hb
    rw [ps] at hi
    obtain ⟨pre,F,G,post,rfl,hpl⟩:=snoc2 (by trivial) hi
    refine wpS_bind (wpS_mergeAt C hS k hpl.symm fun st2 M k2 ml => ?_)
    rw [if_neg (by decide)]
    refine wpS_pure ⟨rfl,pre ++ M :: post,k2,.inr ?_⟩
    simp only [List.length_append,List.length_cons] at hor hle ps ⊢
    trivial
 case step =>
  rintro x ⟨r,lo⟩ st1 _ hx ⟨c1,c2,segs,rest,k,kl,asc⟩
  dsimp only at c1 c2 kl ⊢
  subst c1
  obtain ⟨ea,er⟩:=szof k
  by_cases hge:lo ≥ size
  ·rw [if_pos hge]
   have:rest = []:=List.eq_nil_of_length_eq_zero (by trivial)
   subst this
   exact wpS_pure ⟨rfl,segs,k⟩
  rw [if_neg hge]
  have lap0:Lap ix st1 lo 0 (size - lo):=by
   rw [← kl]
   exact lap_of_list k.arr (by trivial) asc
  refine wpS_bind (wpS_run C (ix:=ix) k.kind (allS k) (by trivial) (by trivial) lap0 fun n st2 ch n1 n2 up lap => ?_)
  have k2:=k.chg ch kl
  dsimp only
  by_cases hmr:n < minrun
  ·rw [if_pos hmr]
   refine wpS_bind (wpS_lift (wpAny_rule ⟨rfl,?_⟩))
   obtain ⟨ea2,_⟩:=szof k2
   refine wpS_bind (wpS_bin C k2.kind (allS k2) (by trivial) (by trivial) up (nrem:=size - lo) (by trivial) lap fun stB chB upB lapB => ?_)
   rw [if_neg (by decide)]
   have kB:=k2.chg chB kl
   generalize hfo:min (size - lo) minrun = force at upB lapB ⊢
   have es:=szof kB
   have hrl:((arrOf stB).toList.drop lo).length = size - lo:=by rw [List.length_drop,Array.length_toList]; trivial
   have hsr:Srt O ky ix (((arrOf stB).toList.drop lo).take (force)):=up_srt (by trivial) upB
   obtain ⟨hcr,hasc⟩:=lap_list lapB (by trivial) (by trivial)
   generalize (arrOf stB).toList.drop lo = rest2 at kB es hrl hsr hcr hasc
   refine wpS_bind (wpS_get ?_)
   cases hb:(pendingOf stB).back? with
   | none =>
    dsimp only
    refine wpS_bind (wpS_modify (wpS_pure ⟨rfl,by dsimp only; trivial,_,_,Stk.push kB kl (by trivial) (by trivial) hsr hcr rfl rfl rfl (by
     show (((pendingOf stB).push (lo,force,0)).toList.map two) = _
     rw [Array.toList_push,List.map_append]; rfl),?_,hasc⟩))
    dsimp only
    rw [List.flatten_append,List.length_append,kl]
    simp
    trivial
   | some q =>
    obtain ⟨s1,n1',w1'⟩:=q
    dsimp only
    refine wpS_bind (wpS_mono (wpS_forRange
     (I:=fun x c st' => c = (none,())∧∃ segs,Stk O ky ix kd (arrOf st0) st' segs rest2∧segs.flatten.length = lo)
     (Q:=fun c st' => c = (none,())∧∃ segs,Stk O ky ix kd (arrOf st0) st' segs rest2∧segs.flatten.length = lo) ?sA (fun _ _ z => z) ⟨rfl,segs,kB,kl⟩) ?pA)
    case sA =>
     rintro x' c st3 _ hx' ⟨rfl,segs3,k3,kl3⟩
     have ps:=pend_size k3
     refine wpS_bind (wpS_get ?_)
     cases ho:(if (pendingOf st3).size > 1 then (pendingOf st3)[(pendingOf st3).size - 2]? else none) with
     | none => exact wpS_pure ⟨rfl,segs3,k3,kl3⟩
     | some q3 =>
      obtain ⟨u1,u2,older⟩:=q3
      dsimp only
      have hp1:(pendingOf st3).size > 1:=by
       by_cases z:(pendingOf st3).size > 1
       ·exact z
       ·rw [if_neg z] at ho; cases ho
      split
      ·exact wpS_pure ⟨rfl,segs3,k3,kl3⟩
      ·obtain ⟨pre,F,G,post,rfl,hpl⟩:=snoc2 (l:=segs3) (i:=(pendingOf st3).size - 2) (by trivial) (.inl (by trivial))
       refine wpS_bind (wpS_mergeAt C hS k3 hpl.symm fun st4 M k4 ml => ?_)
       rw [if_neg (by decide)]
       exact wpS_pure ⟨rfl,pre ++ M :: post,k4,by rw [flat_join ml]; exact kl3⟩
    case pA =>
     rintro c st3 ⟨rfl,segs3,k3,kl3⟩
     dsimp only
     refine wpS_bind (wpS_modify ?_)
     refine wpS_bind (wpS_modify (wpS_pure ⟨rfl,by dsimp only; trivial,_,_,Stk.push k3 kl3 (by trivial) (by trivial) hsr hcr rfl rfl rfl (by
      show (((Array.modify (pendingOf st3) ((pendingOf st3).size - 1) _).push (lo,force,0)).toList.map two) = _
      rw [Array.toList_push,List.map_append,two_modify]; rfl),?_,hasc⟩))
     dsimp only
     rw [List.flatten_append,List.length_append,kl3]
     simp
     trivial
  ·rw [if_neg hmr]
   have es:=szof k2
   have hrl:((arrOf st2).toList.drop lo).length = size - lo:=by rw [List.length_drop,Array.length_toList]; trivial
   have hsr:Srt O ky ix (((arrOf st2).toList.drop lo).take (n)):=up_srt (by trivial) up
   obtain ⟨hcr,hasc⟩:=lap_list lap (by trivial) (by trivial)
   generalize (arrOf st2).toList.drop lo = rest2 at k2 es hrl hsr hcr hasc
   refine wpS_bind (wpS_get ?_)
   cases hb:(pendingOf st2).back? with
   | none =>
    dsimp only
    refine wpS_bind (wpS_modify (wpS_pure ⟨rfl,by dsimp only; trivial,_,_,Stk.push k2 kl (by trivial) (by trivial) hsr hcr rfl rfl rfl (by
     show (((pendingOf st2).push (lo,n,0)).toList.map two) = _
     rw [Array.toList_push,List.map_append]; rfl),?_,hasc⟩))
    dsimp only
    rw [List.flatten_append,List.length_append,kl]
    simp
    trivial
   | some q =>
    obtain ⟨s1,n1',w1'⟩:=q
    dsimp only
    refine wpS_bind (wpS_mono (wpS_forRange
     (I:=fun x c st' => c = (none,())∧∃ segs,Stk O ky ix kd (arrOf st0) st' segs rest2∧segs.flatten.length = lo)
     (Q:=fun c st' => c = (none,())∧∃ segs,Stk O ky ix kd (arrOf st0) st' segs rest2∧segs.flatten.length = lo) ?sA (fun _ _ z => z) ⟨rfl,segs,k2,kl⟩) ?pA)
    case sA =>
     rintro x' c st3 _ hx' ⟨rfl,segs3,k3,kl3⟩
     have ps:=pend_size k3
     refine wpS_bind (wpS_get ?_)
     cases ho:(if (pendingOf st3).size > 1 then (pendingOf st3)[(pendingOf st3).size - 2]? else none) with
     | none => exact wpS_pure ⟨rfl,segs3,k3,kl3⟩
     | some q3 =>
      obtain ⟨u1,u2,older⟩:=q3
      dsimp only
      have hp1:(pendingOf st3).size > 1:=by
       by_cases z:(pendingOf st3).size > 1
       ·exact z
       ·rw [if_neg z] at ho; cases ho
      split
      ·exact wpS_pure ⟨rfl,segs3,k3,kl3⟩
      ·obtain ⟨pre,F,G,post,rfl,hpl⟩:=snoc2 (l:=segs3) (i:=(pendingOf st3).size - 2) (by trivial) (.inl (by trivial))
       refine wpS_bind (wpS_mergeAt C hS k3 hpl.symm fun st4 M k4 ml => ?_)
       rw [if_neg (by decide)]
       exact wpS_pure ⟨rfl,pre ++ M :: post,k4,by rw [flat_join ml]; exact kl3⟩
    case pA =>
     rintro c st3 ⟨rfl,segs3,k3,kl3⟩
     dsimp only
     refine wpS_bind (wpS_modify ?_)
     refine wpS_bind (wpS_modify (wpS_pure ⟨rfl,by dsimp only; trivial,_,_,Stk.push k3 kl3 (by trivial) (by trivial) hsr hcr rfl rfl rfl (by
      show (((Array.modify (pendingOf st3) ((pendingOf st3).size - 1) _).push (lo,n,0)).toList.map two) = _
      rw [Array.toList_push,List.map_append,two_modify]; rfl),?_,hasc⟩))
     dsimp only
     rw [List.flatten_append,List.length_append,kl3]
     simp
     trivial
end
end TT
set_option linter.all false
namespace TS
open PySem PyProof.Rows
section
variable (O:KeyOrd) (ky:Keyed -> O.α)
noncomputable def R (p q:Keyed):Prop:=O.kle (ky p) (ky q)
noncomputable def Srt (l:List Keyed):Prop:=l.Pairwise (R O ky)
end
section
variable {prog:Program} {w:World} {A:Around} {E:Value -> Shared -> Prop} {s:Shared}
variable {kd:SortKind} {O:KeyOrd} {ky:Keyed -> O.α} {S:Keyed -> Prop}
theorem wpS_sort (C:Cmp prog w A s kd O ky S) {st0:SortSt} {Q:Unit -> SortSt -> Prop} (hS:∀ p ∈ (arrOf st0).toList,S p) (hk:kindOf st0 = kd) (hf:failedOf st0 = none) (hp:pendingOf st0 = #[])
  (h:∀ st',(arrOf st').Perm (arrOf st0) -> failedOf st' = none -> Srt O ky (arrOf st').toList -> Q () st'):wpS (model prog w) A E s sortRuns' Q st0 :=
 TT.wpS_sort (ix:=fun _ => 0) C hS hk hf hp (List.pairwise_iff_getElem.mpr fun _ _ _ _ _ => Nat.le_refl _) fun st' h1 h2 h3 => h st' h1 h2 (h3.imp fun r => r.1)
end
end TS
set_option linter.all false
set_option maxRecDepth 100000
namespace TS
open PySem PyProof.Rows
section
variable {prog:Program} {w:World} {A:Around} {E:Value -> Shared -> Prop} {s:Shared}
variable {kd:SortKind} {O:KeyOrd} {ky:Keyed -> O.α} {S:Keyed -> Prop}
noncomputable def Rises (O:KeyOrd) (ky:Keyed -> O.α) (l:List Value):Prop:=l.Pairwise fun x y => O.kle (ky (x,x)) (ky (y,y))
theorem out_of {vs:List Value} {xs:Array Keyed} (hp:xs.Perm (pairsOf vs)) (hs:Srt O ky xs.toList):(xs.map (·.2)).toList.Perm vs∧Rises O ky (xs.map (·.2)).toList:=by
 have hl:xs.toList.Perm (vs.zip vs):=by rw [← pairsOf_toList]; exact Array.perm_iff_toList_perm.mp hp
 have same:∀ p ∈ xs.toList,p = (p.2,p.2):=fun p hp' => by
  have e:=(mem_zip_self (hl.mem_iff.mp hp')).1
  exact Prod.ext e rfl
 rw [Array.toList_map]
 refine ⟨?_,?_⟩
 ·have q:=hl.map (·.2)
  rwa [List.map_snd_zip (Nat.le_refl _)] at q
 ·unfold Rises
  rw [List.pairwise_map]
  unfold Srt at hs
  refine List.Pairwise.imp_of_mem ?_ hs
  intro p q h1 h2 r
  have e1:=same p h1
  have e2:=same q h2
  unfold R at r
  rw [e1,e2] at r
  exact r
theorem sort_tree {a:Addr} {vs:List Value} {n:Nat} {P:Fin -> Shared -> Prop} (ho:s.heap.get? a = some (seqObj "list" vs.toArray n)) (hz:vs.length ≤ sizeLine) (hS:∀ v ∈ vs, S (v, v))
  (hkk:∀ s':Shared,2 ≤ vs.length -> (∀ b o,b ≠ a -> s.heap.get? b = some o -> s'.heap.get? b = some o) -> ∀ Q:SortKind -> Shared -> Prop,Q kd s' -> wpAny (model prog w) A (keyKind' vs.toArray) Q E s')
  (hC:∀ s':Shared,(∀ b o,b ≠ a -> s.heap.get? b = some o -> s'.heap.get? b = some o) -> Cmp prog w A s' kd O ky S)
  (h:∀ out:Array Value,out.toList.Perm vs -> Rises O ky out.toList -> P (.done (.ret .none)) { s with heap:=sortedHeap s.heap a vs out }) :
  wpAny (model prog w) A (Builtin.«list.sort» ⟨[.ref a],[]⟩) P E s:=by
 have ha:a < s.heap.objs.size:=Heap.lt_size ho
 have hsz:vs.toArray.size = vs.length:=by simp
 rw [list_sort_plain]
 refine wpAny_bind (listItems_at ho rfl (wpAny_bind (listUpdate_at ho rfl ?_ (by rw [hsz]; exact hz) (Nat.zero_le _))))
 have ho1:=get?_update_seq ho (fun _ => #[])
 generalize hh1:s.heap.update a (Obj.mapSeq fun _ => #[]) = h1 at ho1 ⊢
 have hs1:h1.objs.size = s.heap.objs.size:=by rw [← hh1,Heap.size_update]
 have k1:∀ b o,b ≠ a -> s.heap.get? b = some o -> h1.get? b = some o:=fun b o hb e => by rw [← hh1,Heap.get?_update_ne _ _ _ _ hb]; exact e
 refine wpAny_bind (seqEpoch_at ho1 rfl (wpAny_bind (wpAny_newTuple (wpAny_bind (wpAny_newList (wpAny_holding ?_))) (by show vs.toArray.toList.length ≤ _; exact hz))))
 have ho3:((h1.push (seqObj "tuple" vs.toArray 0)).push (seqObj "list" #[] 0)).get? a = some (seqObj "list" #[] _):=Heap.get?_push_of_some _ (Heap.get?_push_of_some _ ho1)
 have k3:∀ b o, b ≠ a -> s.heap.get? b = some o -> ((h1.push (seqObj "tuple" vs.toArray 0)).push (seqObj "list" #[] 0)).get? b = some o:=fun b o hb e => Heap.get?_push_of_some _ (Heap.get?_push_of_some _ (k1 b o hb e))
 show wpAny (model prog w) A _ P E { s with heap:=(h1.push (seqObj "tuple" vs.toArray 0)).push (seqObj "list" #[] 0) }
 dsimp only
 have fin:∀ out:Array Value, out.toList.Perm vs -> Rises O ky out.toList -> P (.done (.ret .none)) { s with heap:=((h1.push (seqObj "tuple" vs.toArray 0)).push (seqObj "list" #[] 0)).update a (Obj.mapSeq fun _ => out) }:=fun out p r => by
  have:=h out p r
  unfold sortedHeap at this
  rw [hh1] at this
  exact this
 have olen:∀ out:Array Value,out.toList.Perm vs -> out.size ≤ sizeLine + 1:=fun out p => by
  have:=p.length_eq
  rw [Array.length_toList] at this
  trivial
 by_cases h2:vs.toArray.size < 2
 ·rw [if_pos h2,if_pos h2]
  refine wpAny_bind (wpAny_pure ?_)
  rw [StateT.run_pure]
  refine wpAny_bind (wpAny_pure ?_)
  have hp:((vs.toArray.zip vs.toArray).map (·.2)).toList = vs:=by simp [List.map_snd_zip]
  dsimp only
  refine wpAny_bind (seqEpoch_at ho3 rfl (wpAny_bind (listUpdate_at ho3 rfl ?_ (Nat.zero_le _) (olen _ (by rw [hp])))))
  simp only [bne_self_eq_false,Bool.false_eq_true,if_false]
  refine wpAny_pure (fin _ (by rw [hp]) ?_)
  rw [hp]
  match vs,hsz ▸ h2 with
  | [],_ => exact List.Pairwise.nil
  | [v],_ => exact List.pairwise_singleton _ _
  | _ :: _ :: _,z => simp at z; trivial
 ·rw [if_neg h2,if_neg h2]
  refine wpAny_bind (hkk _ (by trivial) k3 _ ?_)
  refine wpAny_bind (wpAny_mono (wpS_sort (hC _ k3) (st0:=SortSt.mk' kd (vs.toArray.zip vs.toArray) #[] 7 none) (Q:=fun _ st' => (arrOf st').Perm (pairsOf vs)∧failedOf st' = none∧Srt O ky (arrOf st').toList) (fun p hp => ?_) rfl rfl rfl fun st' a1 a2 a3 => ⟨a1,a2,a3⟩) ?_ fun _ _ e => e)
  ·have hp':p ∈ vs.zip vs:=by
    have:p ∈ (pairsOf vs).toList:=hp
    rwa [pairsOf_toList] at this
   have e:=mem_zip_self hp'
   have:p = (p.1,p.1):=Prod.ext rfl e.1.symm
   rw [this]; exact hS _ e.2
  ·rintro ⟨⟨⟩,st'⟩ s' ⟨rfl,hp,hf,hs⟩
   obtain ⟨o1,o2⟩:=out_of hp hs
   dsimp only
   refine wpAny_bind (seqEpoch_at ho3 rfl (wpAny_bind (listUpdate_at ho3 rfl ?_ (Nat.zero_le _) (olen _ o1))))
   rw [hf]
   simp only [bne_self_eq_false,Bool.false_eq_true,if_false]
   exact wpAny_pure (fin _ o1 o2)
noncomputable def intOrd:KeyOrd where
 α:=Int
 blt:=fun a b => decide (a < b)
 irrefl:=fun a => by simp
 trans:=fun a b c h1 h2 => by simp at *; trivial
 negTrans:=fun a b c h => by simp at *; trivial
 total:=fun a b h1 h2 => by simp at *; trivial
noncomputable def intKy (p:Keyed):Int:=numOf p.1
theorem cmp_int:Cmp prog w A s oneType' intOrd intKy (fun p => ∃ n t,p.1 = .int n t) where
 lt:=fun p q ⟨n,t,e1⟩ ⟨m,u,e2⟩ E Q h => by
  rw [e1,e2,keyLt'_oneType]
  refine oneLt_int ?_
  have:intOrd.blt (intKy p) (intKy q) = decide (n < m):=by
   show decide (numOf p.1 < numOf q.1) = _
   rw [e1,e2]; rfl
  rw [← this]; exact h
theorem rises_ints {vs out:List Value} {ns:List Int} (hI:IntsAre vs ns) (hp:out.Perm vs) (hr:Rises intOrd intKy out):∃ ns',IntsAre out ns'∧ns'.Perm ns∧ns'.Pairwise (· ≤ ·):=by
 have hall:∀ v ∈ out,∃ n t,v = .int n t:=fun v hv => hI.all v (hp.mem_iff.mp hv)
 refine ⟨out.map numOf,intsAre_map out hall,?_,?_⟩
 ·have:=hp.map numOf
  rwa [hI.nums] at this
 ·rw [List.pairwise_map]
  refine List.Pairwise.imp (fun {x y} r => ?_) hr
  have r':decide (numOf y < numOf x) = false:=r
  have:=of_decide_eq_false r'
  trivial
theorem sorted_gen {r:Value} {V:List Value -> Prop} {Q:Value -> Shared -> Prop} (hz:∀ vs,V vs -> vs.length ≤ sizeLine) (hS:∀ vs,V vs -> ∀ v ∈ vs,S (v,v))
  (hcol:∀ {E:Value -> Shared -> Prop} {R:List Value -> Shared -> Prop},(∀ (h':Heap) (tk:Nat) (vs:List Value),V vs -> (∀ b o,s.heap.get? b = some o -> h'.get? b = some o) -> R vs { s with heap:=h',toks:=tk }) -> wpAny (model prog w) A.in1 (collect r) R E s)
  (hkk:∀ (vs:List Value) (s':Shared),V vs -> 2 ≤ vs.length -> (∀ b o,s.heap.get? b = some o -> s'.heap.get? b = some o) -> ∀ {A:Around} {E:Value -> Shared -> Prop} {Q:SortKind -> Shared -> Prop},Q kd s' -> wpAny (model prog w) A (keyKind' vs.toArray) Q E s')
  (hC:∀ s':Shared,(∀ b o,s.heap.get? b = some o -> s'.heap.get? b = some o) -> Cmp prog w A.in1.in1 s' kd O ky S)
  (h:∀ (h1 h':Heap) (tk:Nat) (vs:List Value) (out:Array Value) (n:Nat), V vs -> (∀ b o, s.heap.get? b = some o -> h1.get? b = some o) -> (∀ b o, h1.get? b = some o -> h'.get? b = some o) -> h'.get? h1.objs.size = some (seqObj "list" out n) -> out.toList.Perm vs -> Rises O ky out.toList -> Q (.ref h1.objs.size) { s with heap:=h', toks:=tk }) :
  wpAny (model prog w) A (call (.builtin "sorted") [r]) Q E s:=by
 refine Calls.call_function_entry kind_sorted plain_sorted entry_sorted (args_sorted1 _) ?_
 unfold Builtin.«sorted»
 refine wpAny_bind (m:=checkCount "sorted" 1 1 _) (wpAny_pure ?_)
 refine wpAny_bind (hcol fun h' tk vs hV hk => ?_)
 refine wpAny_bind (wpAny_newList ?_ (hz vs hV))
 have hoL:(h'.push (seqObj "list" vs.toArray 0)).get? h'.objs.size = some (seqObj "list" vs.toArray 0):=Heap.get?_push_size _ rfl
 have keep:∀ s':Shared, (∀ b o, b ≠ h'.objs.size -> (h'.push (seqObj "list" vs.toArray 0)).get? b = some o -> s'.heap.get? b = some o) -> ∀ b o, s.heap.get? b = some o -> s'.heap.get? b = some o:=fun s' k b o e =>
  k b o (Nat.ne_of_lt (Heap.lt_size (hk b o e))) (Heap.get?_push_of_some _ (hk b o e))
 refine wpAny_bind (wpAny_holding (wpAny_call_entry slot_list_sort ⟨_,hoL,rfl⟩ entry_list_sort (sort_tree hoL (hz vs hV) (hS vs hV) (fun s' h2 k Q q => hkk vs s' hV h2 (keep s' k) q) (fun s' k => hC s' (keep s' k)) fun out p r => ⟨_,rfl,?_⟩) (args_list_sort _)))
 refine wpAny_pure ⟨_,rfl,?_⟩
 have hu:=get?_update_seq hoL (fun _ => (#[]:Array Value))
 have hu2:=get?_update_seq (Heap.get?_push_of_some (seqObj "list" #[] 0) (Heap.get?_push_of_some (seqObj "tuple" vs.toArray 0) hu)) (fun _ => out)
 refine h h' (sortedHeap (h'.push (seqObj "list" vs.toArray 0)) h'.objs.size vs out) tk vs out _ hV hk (fun b o e => ?_) hu2 p r
 have hb:b ≠ h'.objs.size:=Nat.ne_of_lt (Heap.lt_size e)
 unfold sortedHeap
 rw [Heap.get?_update_ne _ _ _ _ hb]
 refine Heap.get?_push_of_some _ (Heap.get?_push_of_some _ ?_)
 rw [Heap.get?_update_ne _ _ _ _ hb]
 exact Heap.get?_push_of_some _ e
end
end TS
set_option Elab.async false
set_option linter.all false
set_option maxRecDepth 100000
namespace L2
open PySem PySem.Spec PyProof.Rows PySem.W
theorem vals_intsAre:∀ {ns:List Int} {us:List Value},Vals (ns.map V.int) us -> IntsAre us ns
 | [],_,r => by
  rw [List.map_nil] at r
  cases r; exact .nil
 | n :: ns,_,r => by
  rw [List.map_cons] at r
  cases r with
  | cons h t =>
   obtain ⟨t',rfl⟩:=(show ∃ t,_ = Value.int n t from h)
   exact .cons n t' (vals_intsAre t)
theorem intsAre_vals:∀ {us:List Value} {ns:List Int},IntsAre us ns -> Vals (ns.map V.int) us
 | _,_,.nil => .nil
 | _,_,.cons n t h => .cons ⟨t,rfl⟩ (intsAre_vals h)
theorem kk_ints {prog:Program} {w:World} {vs:List Value} {ns:List Int} (hI:IntsAre vs ns) (h2:2 ≤ vs.length) {A:Around} {E:Value -> Shared -> Prop} {Q:SortKind -> Shared -> Prop} {s':Shared} (q:Q oneType' s'):wpAny (model prog w) A (keyKind' vs.toArray) Q E s':=by
 obtain ⟨v1,v2,rest,rfl⟩:∃ v1 v2 rest,vs = v1 :: v2 :: rest:=by
  match vs,h2 with
  | v1 :: v2 :: rest,_ => exact ⟨v1,v2,rest,rfl⟩
 rw [keyKind_ints hI]
 exact wpAny_pure q
section
variable {X:Cx}
noncomputable def rSortI (ns:List Int) (H:Hp) (Q:VK):Prop:=∀ (ns':List Int) (p:Addr),ns'.Perm ns -> ns'.Pairwise (· ≤ ·) -> H p = none -> Q (.ref p) (upd H p (.lst (ns'.map V.int)))
theorem sorted_ints_end {pins:List (Addr × Obj)} {s:Shared} {σ:St} {H:Hp} {Q:VK} {ns:List Int} {r:Value} (I:Inv X pins σ H s) (hz:ns.length ≤ sizeLine)
  (hcol:∀ {E:Value -> Shared -> Prop} {R:List Value -> Shared -> Prop},(∀ (h':Heap) (tk:Nat) (vs:List Value),IntsAre vs ns -> (∀ b o,s.heap.get? b = some o -> h'.get? b = some o) -> R vs { s with heap:=h',toks:=tk }) -> wpAny (model X.prog X.w) X.A.in1 (collect r) R E s)
  (q:rSortI ns H Q):wpAny (model X.prog X.w) X.A (call (.builtin "sorted") [r]) (EP X pins σ Q) X.xe s:=by
 have lenOf:∀ {vs:List Value} {ms:List Int},IntsAre vs ms -> vs.length = ms.length:=fun {vs ms} h => by
  have:=(intsAre_vals h).length
  rw [List.length_map] at this
  exact this.symm
 refine TS.sorted_gen (kd:=oneType') (O:=TS.intOrd) (ky:=TS.intKy) (S:=fun p => ∃ n t,p.1 = .int n t) (V:=fun vs => IntsAre vs ns) (fun vs hI => by rw [lenOf hI]; exact hz) (fun vs hI v hv => hI.all v hv) hcol (fun vs s' hI h2 _ {_ _ _} qq => kk_ints hI h2 qq) (fun s' _ => TS.cmp_int) (fun h1 h' tk vs out n hI k1 k2 e p rr => ?_)
 obtain ⟨ns',a1,a2,a3⟩:=TS.rises_ints hI p rr
 have I1:Inv X pins σ H { s with heap:=h1 }:=I.kept (t':=s.toks) k1
 refine ⟨.ref h1.objs.size,_,I1.laid (a:=h1.objs.size) (o:=.lst (ns'.map V.int)) (t':=tk) k2 (Nat.le_refl _) ?_,rfl,q ns' _ a2 a3 (I1.hok.fresh (Nat.le_refl _))⟩
 exact ⟨by rw [List.length_map,a2.length_eq]; exact hz,out.toList,n,intsAre_vals a1,by rw [Array.toArray_toList]; exact e⟩
theorem call_sortedL:CallR X (.builtin "sorted") (fun xs H Q => ∃ a ns, xs = [.ref a]∧SqL X.K H a (ns.map V.int)∧rSortI ns H Q):=by
 intro pins s σ H xs us Q I r h
 obtain ⟨a,ns,rfl,hq,q⟩:=h
 obtain ⟨u,rfl,rx⟩:=vals1 r
 cases rx
 obtain ⟨its,r',pl,hz⟩:=I.list hq
 obtain ⟨o,ho,hcl,n,hd⟩:=pl.isList
 have hlen:=r'.length
 rw [List.length_map] at hlen hz
 refine sorted_ints_end I hz (fun {E R} k => ?_) q
 exact wpAny_collect_seq a (.inl rfl) ho hcl hd (fun h' kp => by have:=k h' s.toks its (vals_intsAre r') kp; simpa using this) (by simp; trivial)
theorem call_sortedD (hc:X.calm = true):CallR X (.builtin "sorted") (fun xs H Q => ∃ a kvs ns, xs = [.ref a]∧Rd H a (.dK kvs)∧kvs.map (·.1) = ns.map Sum.inl∧rSortI ns H Q):=by
 intro pins s σ H xs us Q I r h
 obtain ⟨a,kvs,ns,rfl,hd,hk,q⟩:=h
 obtain ⟨u,rfl,rx⟩:=vals1 r
 cases rx
 obtain ⟨z,hs,vs,rel,dd⟩:=dk_rd I.hok hd
 obtain ⟨o,es,ep,dd⟩:=dd
 have dat:s.heap.DictAt (mixKind X.prog X.w) a vs ep:=⟨o,es,dd⟩
 have hh:X.A.in1.handled = none:=I.ok.hd hc
 have hn:vs.length ≤ sizeLine:=by rw [← rel.length]; exact z
 have hks:vs.map (·.1) = ns.map Sum.inl:=by rw [← rel.keys]; exact hk
 have hnl:ns.length = vs.length:=by
  have:=congrArg List.length hks
  rw [List.length_map,List.length_map] at this
  exact this.symm
 refine sorted_ints_end I (by trivial) (fun {E R} k => ?_) q
 refine kdu_collect (kdl_dict hs) hh dat hn fun h' tk acc kp hacc => k h' tk acc.toList ?_ kp
 -- the keys,one by one
 have each:∀ (j:Nat) (v:Value),acc.toList[j]? = some v -> ∃ (n:Int) (t:Tok),ns[j]? = some n∧v = .int n t:=fun j v e => by
  obtain ⟨k',x,e1,e2⟩:=hacc.2 j v (by rw [← Array.getElem?_toList]; exact e)
  have e3:(vs.map (·.1))[j]? = some k':=by rw [List.getElem?_map,e1]; rfl
  rw [hks,List.getElem?_map] at e3
  cases e4:ns[j]? with
  | none => rw [e4] at e3; cases e3
  | some n =>
   rw [e4] at e3
   have e5:k' = Sum.inl n:=(Option.some.inj e3).symm
   subst e5
   obtain ⟨t,e6⟩:=Value.isInt_shape (k:=n) (v:=v) e2
   exact ⟨n,t,rfl,e6⟩
 have hl:acc.toList.length = ns.length:=by rw [Array.length_toList,hacc.1,hnl]
 generalize acc.toList = l at each hl
 clear hacc k q hnl hks hk
 induction l generalizing ns with
 | nil =>
  cases ns with
  | nil => exact .nil
  | cons _ _ => simp at hl
 | cons v l ih =>
  cases ns with
  | nil => simp at hl
  | cons n ns =>
   obtain ⟨n',t,e1,e2⟩:=each 0 v rfl
   have:n = n':=by simpa using e1
   subst this
   rw [e2]
   exact .cons n t (ih ns (fun j v e => by
    obtain ⟨m,t',a1,a2⟩:=each (j + 1) v (by simpa using e)
    exact ⟨m,t',by simpa using a1,a2⟩) (by simpa using hl))
end
end L2
set_option Elab.async false
set_option linter.all false
set_option maxRecDepth 100000
namespace L2
open PySem PySem.Spec PyProof.Rows PySem.W
section
variable {X:Cx} {pins:List (Addr × Obj)} {σ:St} {H:Hp} {s:Shared}
noncomputable abbrev rInt1:List V -> Hp -> VK -> Prop:=fun xs H Q => (∃ i,xs = [.int i]∧Q (.int i) H) ∨ ∃ k,xs = [.bl k]∧Q (.int (if k then 1 else 0)) H
noncomputable def rCount (K:Frag):V -> List V -> Hp -> VK -> Prop:=fun x vs H Q => ∃ (p:Addr) (ns:List Int) (k:Int),x = .ref p∧vs = [.int k]∧SqL K H p (ns.map V.int)∧Q (.int (ns.count k:Nat)) H
theorem mt_count:MtR X "list.count" (rCount X.K):=by
 intro pins s σ H x vs v us Q I rx rv h
 obtain ⟨p,ns,k,rfl,rfl,hs,q⟩:=h
 cases rx
 obtain ⟨u,rfl,ru⟩:=rv.one
 obtain ⟨t,rfl⟩:=ru
 obtain ⟨its,r,pl,hz⟩:=I.list hs
 exact count_list_ints pl.isList (vals_intsAre r) ⟨.int _,H,I.tok _,⟨_,rfl⟩,q⟩
end
end L2
set_option Elab.async false
set_option linter.all false
set_option maxRecDepth 100000
set_option maxHeartbeats 4000000
namespace PH
open PySem L2 PySem.W
theorem boot_sorted':bootBuiltins "sorted" = some (.builtin "sorted"):=by decide +kernel
structure Prs (H:Hp) (p:Addr) (zs:List (Addr × Int × Int)):Prop where
 at_:H p = some (.lst (zs.map fun z => V.ref z.1))
 each:∀ z ∈ zs,H z.1 = some (.tup [.int z.2.1,.int z.2.2])
theorem Prs.same {H H':Hp} {p:Addr} {zs:List (Addr × Int × Int)} (h:Prs H p zs) (s:Same H H'):Prs H' p zs:=⟨s _ _ h.at_,fun z hz => s _ _ (h.each z hz)⟩
noncomputable def cnts (ns:List Int):List (Int × Int):=((List.range 256).map fun k => ((k:Nat):Int)).filterMap fun k => if 0 < ns.count k then some (k,(ns.count k:Int)) else none
noncomputable def ksOf (ns:List Int):List Int:=((List.range 256).map fun k => ((k:Nat):Int)).filter fun k => decide (0 < ns.count k)
theorem cnts_ks (ns:List Int):cnts ns = (ksOf ns).map fun k => (k,(ns.count k:Int)):=by
 unfold cnts ksOf
 generalize (List.range 256).map (fun k => ((k:Nat):Int)) = l
 induction l with
 | nil => rfl
 | cons k r ih =>
  rw [List.filterMap_cons,List.filter_cons]
  by_cases h:0 < ns.count k
  ·rw [if_pos h,if_pos (decide_eq_true h)]
   simp only [List.map_cons,ih]
  ·rw [if_neg h,if_neg (by simpa using h)]
   exact ih
theorem ks_sorted (ns:List Int):(ksOf ns).Pairwise (· ≤ ·)∧(ksOf ns).Nodup:=by
 have h:((List.range 256).map fun k => ((k:Nat):Int)).Pairwise (· < ·):=by
  rw [List.pairwise_map]
  exact List.Pairwise.imp (fun {a b} h => by trivial) (List.pairwise_lt_range (n:=256))
 have hf:(ksOf ns).Pairwise (· < ·):=List.Pairwise.filter _ h
 exact ⟨List.Pairwise.imp (fun {a b} h => by trivial) hf,List.Pairwise.imp (fun {a b} h => by trivial) hf⟩
theorem mem_ks {ns:List Int} (hb:∀ x ∈ ns,0 ≤ x∧x ≤ 255) (k:Int):k ∈ ksOf ns ↔ k ∈ ns:=by
 unfold ksOf
 rw [List.mem_filter]
 constructor
 ·rintro ⟨_,h⟩
  exact List.count_pos_iff.mp (of_decide_eq_true h)
 ·intro h
  refine ⟨List.mem_map.mpr ⟨k.toNat,List.mem_range.mpr ?_,?_⟩,decide_eq_true (List.count_pos_iff.mpr h)⟩
  ·have:=hb k h; trivial
  ·have:=hb k h; trivial
theorem sorted_keys {ns ks ks':List Int} (hb:∀ x ∈ ns,0 ≤ x∧x ≤ 255) (nd:ks.Nodup) (hm:∀ k,k ∈ ks ↔ k ∈ ns) (hp:ks'.Perm ks) (hs:ks'.Pairwise (· ≤ ·)):ks' = ksOf ns:=by
 obtain ⟨s1,s2⟩:=ks_sorted ns
 refine ksm_same (hp.trans ?_) hs s1
 refine (List.perm_ext_iff_of_nodup nd s2).mpr fun k => ?_
 rw [hm,mem_ks hb]
noncomputable def cntD (ks pre:List Int):List (Key × V):=ks.map fun j => (Sum.inl j,V.int (pre.count j:Int))
theorem cntD_keys (ks pre:List Int):(cntD ks pre).map (·.1) = ks.map Sum.inl:=by unfold cntD; rw [List.map_map]; rfl
theorem valV_cntD {pre:List Int} {k:Int}:∀ {ks:List Int},valV (cntD ks pre) (Sum.inl k) = if k ∈ ks then some (.int (pre.count k:Int)) else none
 | [] => rfl
 | j :: r => by
  show valV ((Sum.inl j,V.int (pre.count j:Int)) :: cntD r pre) (Sum.inl k) = _
  by_cases h:j = k
  ·subst h
   rw [valV_pos rfl,if_pos List.mem_cons_self]
  ·rw [valV_neg (by intro z; exact h (Sum.inl.inj z)),valV_cntD]
   by_cases hk:k ∈ r
   ·rw [if_pos hk,if_pos (List.mem_cons_of_mem _ hk)]
   ·rw [if_neg hk,if_neg (by intro z; rcases List.mem_cons.mp z with e | e; exact h e.symm; exact hk e)]
theorem count_snoc (pre:List Int) (k j:Int):((pre ++ [k]).count j:Int) = (pre.count j:Int) + if j = k then 1 else 0:=by
 rw [List.count_append]
 by_cases h:j = k
 ·subst h; simp
 ·rw [if_neg h]
  have:List.count j [k] = 0:=by
   rw [List.count_eq_zero]
   simpa using h
  rw [this]; trivial
theorem put_cntD {ks pre:List Int} {k:Int} (hm:∀ j,j ∈ ks ↔ j ∈ pre):putK (cntD ks pre) (Sum.inl k) (.int ((pre.count k:Int) + 1)) = cntD (if k ∈ ks then ks else ks ++ [k]) (pre ++ [k]):=by
 by_cases h:k ∈ ks
 ·rw [if_pos h]
  unfold putK
  rw [valV_any,valV_cntD,if_pos h,if_pos (show (some (V.int (pre.count k:Int))).isSome = true from rfl)]
  unfold cntD
  rw [List.map_map]
  apply List.map_congr_left
  intro j _
  show (if (Sum.inl j:Key) = Sum.inl k then _ else _) = _
  by_cases e:j = k
  ·subst e
   rw [if_pos rfl,count_snoc,if_pos rfl]
  ·rw [if_neg (fun z => e (Sum.inl.inj z)),count_snoc,if_neg e,Int.add_zero]
 ·rw [if_neg h]
  unfold putK
  rw [valV_any,valV_cntD,if_neg h,if_neg (by simp)]
  unfold cntD
  rw [List.map_append]
  congr 1
  ·apply List.map_congr_left
   intro j hj
   have e:¬ j = k:=fun z => h (by rw [← z]; exact hj)
   rw [count_snoc,if_neg e,Int.add_zero]
  ·show [_] = [((Sum.inl k:Key),V.int ((pre ++ [k]).count k:Int))]
   rw [count_snoc,if_pos rfl]
noncomputable def spCounts (K:Frag):Sp:=fun vs H Q _ => ∃ (a:Addr) (ns:List Int),vs = [.ref a]∧SqL K H a (ns.map V.int)∧ns.length ≤ 5000∧(∀ x ∈ ns,0 ≤ x∧x ≤ 255) ∧
 ∀ (p:Addr) (zs:List (Addr × Int × Int)) (H':Hp),Same H H' -> H p = none -> Prs H' p zs -> zs.map (·.2) = cnts ns -> Q (.ref p) H'
theorem ref_at {zs:List (Addr × Int × Int)} {i:Nat} {y:V} (h:(zs.map fun z => V.ref z.1)[i]? = some y):∃ z,zs[i]? = some z∧y = V.ref z.1:=by
 rw [List.getElem?_map] at h
 cases e:zs[i]? with
 | none => rw [e] at h; cases h
 | some z => rw [e] at h; exact ⟨z,rfl,(Option.some.inj h).symm⟩
end PH
set_option Elab.async false
set_option linter.all false
set_option maxRecDepth 100000
namespace L2
open PySem PySem.Spec PyProof.Rows PySem.W
section
variable {X:Cx}
end
end L2
set_option linter.all false
namespace PH
open L2
end PH
set_option Elab.async false
set_option linter.all false
set_option maxRecDepth 100000
set_option maxHeartbeats 4000000
namespace PH
open PySem L2 PySem.W
theorem small_down {a b:Int} (ha:-(2 ^ 61) ≤ a) (ha':a < 2 ^ 61) (hb:-(2 ^ 61) ≤ b) (hb':b < 2 ^ 61):Builtin.Range.small a b (-1) = true:=by
 have h0:=rangeSize_nn a b (-1)
 have h1:Builtin.Range.rangeSize a b (-1) ≤ 2 ^ 62:=by
  unfold Builtin.Range.rangeSize
  rw [if_neg (by decide)]
  split
  ·rw [show (-(-1):Int) = 1 by decide,Int.ediv_one]; trivial
  ·decide
 unfold Builtin.Range.small
 simp only [Builtin.Range.rangeFitsLong,Bool.and_eq_true,Bool.or_eq_true,decide_eq_true_eq,beq_iff_eq]
 rw [if_neg (show ¬ (-1:Int) > 0 by decide)]
 simp only [Bool.and_eq_true,decide_eq_true_eq]
 trivial
theorem size_down (m:Nat):(Builtin.Range.rangeSize ((m:Int) - 1) (-1) (-1)).toNat = m:=by
 unfold Builtin.Range.rangeSize
 rw [if_neg (by decide)]
 split
 ·rw [show (-(-1):Int) = 1 by decide,Int.ediv_one]; trivial
 ·trivial
end PH
set_option Elab.async false
set_option linter.all false
set_option maxRecDepth 100000
set_option maxHeartbeats 4000000
namespace PH
open PySem L2 PySem.W
theorem at_ints {ns:List Int} {i:Nat} {z:Int} (h:ns[i]? = some z):atI (ns.map V.int) (i:Int) = some (.int z):=atI_nat (by rw [List.getElem?_map,h]; rfl)
noncomputable def RiseC (cs:List (Int × Int)):Prop:=(cs.map (·.1)).Pairwise (· < ·)∧∀ c ∈ cs,0 ≤ c.1∧c.1 ≤ 255∧1 ≤ c.2
end PH
set_option Elab.async false
set_option linter.all false
set_option maxRecDepth 100000
namespace L2
open PySem PySem.Spec PyProof.Rows
theorem ps_setC {X:Cx} {elt tg iter:Expr} {ifs:List Expr} {scope:Scope} {pos:Pos} {N:List Str} {js:List (Option Nat)} {wi:TI} {g:TG} {tc:TT} {te:TE} {y:Str} {iy:Nat} {py spos:Pos} (hN:X.N.Nodup) (hiy:X.N[iy]? = some y) (hy:X.env.scope.names.lookup y = some .local) (hcalm:X.calm = true) (S:CompScope X N js scope)
  (hi:PI X tg iter wi) (hg:∀ C s H fp,PG (compCx X N scope C s H fp) tg g) (ht:∀ C s H fp,PIfs (compCx X N scope C s H fp) ifs tc) (he:∀ C s H fp,PE (compCx X N scope C s H fp) elt te)
  (hs:∀ x,foldedSetIterable iter X.env x = pure x:=by intro _; rfl) (hsw:swapsWith (.ListComp elt [⟨tg,iter,ifs,0⟩] scope pos) (some (.Name y py)) spos.line X.env = pure true:=by rfl) :
  PS X (.Assign [.Name y py] (.ListComp elt [⟨tg,iter,ifs,0⟩] scope pos) spos) (tAsg (tComp js wi g tc te) (gName iy)):=by
 intro pins s σ H ED I h
 have hc:∀ x ∈ scope.names,x.2 = .free -> ∃ c,X.env.cells.lookup x.1 = some c:=fun x hx e => I.ok.has _ (S.free x hx e)
 rw [exec_Assign_Name_used _ _ _ _ hsw]
 refine wpAny_bind (wpAny_standAt (wpAny_bind ?_))
 show wpAny _ X.A (do let _ ← comprehension (.ListComp elt [⟨tg,iter,ifs,0⟩] scope pos) scope X.env _ (newList []) false (eval iter X.env) (some (assign (.Name y py) X.env))) _ _ s
 refine wpAny_bind (wpAny_mono (Q:=fun _ s' => SP X pins ED .next s') ?_ (fun _ s' hq => wpAny_pure (wpAny_pure hq)) fun _ _ e => e)
 refine wpAny_comprehension_free (use:=some (assign (.Name y py) X.env)) rfl hs (clos_eq hc) S.kind S.locs (thn (hi pins s σ H _ I h) fun v s1 h1 => thn h1 fun itv s2 h2 => ?_)
 obtain ⟨it,fp,tn,J,H2,e,I2,T,st2,f2,q⟩:=h2
 subst e
 refine wpAny_newObj_type (wpAny_newFunctionEnv S.nocell (by intro y hy; simp at hy) (fun h₁ hns₁ hsb₁ => ?_) S.kind)
 dsimp only at hns₁ hsb₁ ⊢
 generalize hH2:s2.heap.push { cls:=.type "list", dict:=none, data:=.seq ([]:List Value).toArray } = G2 at hns₁ hsb₁ ⊢
 have hC:G2.objs.size = s2.heap.objs.size + 1:=by rw [← hH2,Heap.size_push]
 have hDC:s2.heap.objs.size ≠ G2.objs.size:=by rw [hC]; exact Nat.ne_of_lt (Nat.lt_succ_self _)
 have hC0:s2.heap.objs.size ≤ G2.objs.size:=by rw [hC]; exact Nat.le_succ _
 have below:∀ b,b < s2.heap.objs.size -> b ≠ G2.objs.size:=fun b hb => by rw [hC]; exact Nat.ne_of_lt (Nat.lt_succ_of_lt hb)
 have old:∀ b o,s2.heap.get? b = some o -> h₁.get? b = some o:=fun b o e => hsb₁.extBut b o (below b (Heap.lt_size e)) (Heap.get?_push_of_some _ (hH2 ▸ Heap.get?_push_of_some _ e))
 have hacc:h₁.get? s2.heap.objs.size = some { cls:=.type "list", data:=.seq ([]:List Value).toArray }:=hsb₁.extBut _ _ hDC (Heap.get?_push_of_some _ (hH2 ▸ Heap.get?_push_size _ rfl))
 have hfp:∀ b ∈ fp,b < s2.heap.objs.size:=fun b hb => by obtain ⟨o,e,_⟩:=T.obj 0 _ st2 b hb; exact Heap.lt_size e
 obtain ⟨W,⟨m0,w0⟩,turn⟩:=q s2.heap.objs.size (I2.hok.fresh (Nat.le_refl _))
 have stat:∀ {H':Hp},(∀ b ∈ fp,H' b = none) -> ∀ b ∈ fp,FpOk (compCx X N scope G2.objs.size s2 H2 fp) [] H' b:=fun {H'} hn b hb =>
  ⟨hn b hb,below b (hfp b hb),fun z => by
   rcases List.mem_cons.mp (I2.stkSub b z) with q | q
   ·exact (f2 b hb).2.1 q
   ·exact (f2 b hb).2.2.1 q,.inl hb,fun x c e => (f2 b hb).2.2.2.2.1 x c (clos_sub _ _ (fun _ _ z => by simp at z) e),fun p hp => absurd hp (by simp [compCx])⟩
 have loop:∀ s3:Shared,s3 = { s2 with heap:=h₁,toks:=s2.toks + ([]:List (Str × Value)).length } →
   codeAny (model X.prog X.w) X.A (.compLoop (.ListComp elt [⟨tg,iter,ifs,0⟩] scope pos) 0 (.ref it) (.ref s2.heap.objs.size) (compEnvC scope (clos X.env.cells scope.names []) G2.objs.size X.env))
    (compPost (model X.prog X.w) X.A X.xe (some (assign (.Name y py) X.env)) (fun _ s' => SP X pins ED .next s') (.ref s2.heap.objs.size) G2.objs.size) s3:=by
  rintro s3 rfl
  have I3:Inv (compCx X N scope G2.objs.size s2 H2 fp) [] (innerSt js σ) (upd H2 s2.heap.objs.size (.lst [])) { s2 with heap:=h₁,toks:=s2.toks + ([]:List (Str × Value)).length } :=
   inv_comp S I2 f2 hfp old (Nat.le_refl _) hC0 hDC ⟨_,hacc⟩ hns₁
  refine compLoop_gen (fun n s' => ∃ i σ' H',Inv (compCx X N scope G2.objs.size s2 H2 fp) [] σ' H' s'∧tn i s'.heap∧(∀ b ∈ fp,H' b = none)∧W i n σ' H') ?_ m0
   ⟨0,_,_,I3,T.keep 0 _ _ st2 fun b _ o e => old b o e,fun b hb => by rw [upd_ne (Nat.ne_of_lt (hfp b hb))]; exact (f2 b hb).1,w0⟩
  rintro n s4 ⟨i,σ4,H4,I4,st4,fr4,w4⟩
  rcases turn i n σ4 H4 w4 with ⟨stop,qn⟩ | ⟨go,step⟩
  ·refine thn (T.done (compCx X N scope G2.objs.size s2 H2 fp) rfl rfl rfl hcalm i [] s4 σ4 H4 (fun _ _ => False) I4 (stat fr4) st4 stop) fun r s5 ⟨hr,I5⟩ => ?_
   subst hr
   obtain ⟨m5,n5,_⟩:=I5.loc
   have hos:s5.os = s2.os:=I5.os
   obtain ⟨hh,gg,dd,tt,os5⟩:=s5
   obtain rfl:os5 = s2.os:=hos
   have sb:Heap.SameBut G2.objs.size hh hh:=⟨rfl,fun _ _ => rfl⟩
   have un:Un (frs X.stack) fp H2 H4 s2.heap hh:=by
    have u:=I5.base
    have nC:∀ b o,s2.heap.get? b = some o -> b ≠ G2.objs.size:=fun b o e => below b (Heap.lt_size e)
    exact ⟨fun b o e n hf hx => sb.extBut b o (nC b o e) (u.keep b o e n hf hx),fun b o e n hf hx => by
      obtain ⟨sl,z⟩:=u.slot b o e n hf hx
      exact ⟨sl,sb.extBut b _ (nC b o e) z⟩,u.free,fun b o e hx => by
      obtain ⟨o',z⟩:=u.there b o e hx
      exact ⟨o',sb.extBut b _ (nC b o e) z⟩,u.tups,u.frzs,u.tbls⟩
   have hok:HOk X.prog X.w H4 hh:=fun b ob e => (I5.hok b ob e).stay (fun c v hcv z => sb.extBut c v (fun q => by
    rcases hcv with hcv | hcv
    ·rw [← hcv,q] at e
     have:=I5.free
     have this':H4 G2.objs.size = none:=this
     rw [e] at this'; cases this'
    ·rw [q] at hcv
     have this':H4 G2.objs.size = none:=I5.free
     rw [hcv] at this'; cases this') z) (fun _ z => z) fun _ _ z => z
   have IE:=I2.call (h':=hh) (g':=gg) (d':=dd) (t':=tt) (ch:=fp) un hok I5.bare fun b hb => ⟨(f2 b hb).2.2.2.1,(f2 b hb).2.1,(f2 b hb).2.2.2.2.1,(f2 b hb).2.2.2.2.2⟩
   have hCf:H4 G2.objs.size = none:=I5.free
   have hCL:G2.objs.size ≠ X.env.locals:=Ne.symm (below _ I2.lt)
   have hCc:∀ x c,X.env.cells.lookup x = some c -> c ≠ G2.objs.size:=fun x c e => by
    obtain ⟨v',o',e',_⟩:=I2.cell x c e
    exact below _ (Heap.lt_size e')
   refine wpAny_assign_Name (store_ok2 IE hN hiy (.inl hy) (show RelV (.ref s2.heap.objs.size) (.ref s2.heap.objs.size) from rfl) (fun s6 I6 ⟨a6,sb6,ha6⟩ => ?_) (.inr hy))
   have nea:G2.objs.size ≠ a6:=by
    rcases ha6 with z | z
    ·rw [z]; exact hCL
    ·exact Ne.symm (hCc _ _ z)
   refine ⟨m5,n5.sameBut sb6 nea,fun h' sb' => ⟨_,H4,?_,qn⟩⟩
   have:=I6.turned (h':=h') (t':=s6.toks) (it:=G2.objs.size) (fun b o ne e => (sb'.2 b ne).trans e) hCf hCL (.inr (Nat.le_trans I2.sz hC0)) hCc (fun p hp => below _ (Heap.lt_size (I2.pin p hp).1))
   exact this
  ·refine thn (T.item (compCx X N scope G2.objs.size s2 H2 fp) rfl rfl rfl hcalm i [] s4 σ4 H4 (fun _ _ => False) I4 (stat fr4) st4 go) fun r s5 ⟨u,hr,h5⟩ => ?_
   subst hr
   refine thn h5 fun _ s6 ⟨x,H6,I6,r6,y6,st6,fr6⟩ => ?_
   have I6':=I6.pinned (stat fr6) (T.obj _ _ st6)
   refine thn (hg _ _ _ _ _ s6 σ4 H6 x u _ I6' r6 (step x H6 y6)) fun _ s7 ⟨σ7,H7,I7,q7⟩ => ?_
   refine thn (ht _ _ _ _ _ s7 σ7 H7 _ I7 q7) fun b s8 ⟨H8,I8,q8⟩ => ?_
   have again:∀ {s9:Shared} {H9:Hp},Inv (compCx X N scope G2.objs.size s2 H2 fp) ([] ++ pinsAt fp s6.heap) σ7 H9 s9 -> (∃ m',m' < n∧W (i + 1) m' σ7 H9) -> ∃ m,m < n∧∃ i σ' H',Inv (compCx X N scope G2.objs.size s2 H2 fp) [] σ' H' s9∧tn i s9.heap∧(∀ b ∈ fp,H' b = none)∧W i m σ' H':=fun {s9 H9} I9 ⟨m',hm,w9⟩ => by
    refine ⟨m',hm,i + 1,σ7,H9,I9.unpinned,T.keep _ _ _ st6 fun b hb o e => (I9.pin (b,o) (List.mem_append_right _ (List.mem_append_right _ (mem_pinsAt hb e)))).1,fun b hb => ?_,w9⟩
    obtain ⟨o,e,d⟩:=T.obj _ _ st6 b hb
    exact (I9.pin (b,o) (List.mem_append_right _ (List.mem_append_right _ (mem_pinsAt hb e)))).2.1
   cases b with
   | false =>
    rw [if_neg Bool.false_ne_true] at q8 ⊢
    exact again I8 q8
   | true =>
    rw [if_pos rfl] at q8 ⊢
    refine thn (he _ _ _ _ _ s8 σ7 H8 _ I8 q8) fun xv s9 ⟨xx,H9,I9,r9,q9⟩ => ?_
    refine thn (mt_append _ s9 σ7 H9 (.ref s2.heap.objs.size) [xx] (.ref s2.heap.objs.size) [xv] _ I9 rfl (.cons r9 .nil) q9) fun _ s10 ⟨_,H10,I10,_,q10⟩ => ?_
    exact again I10 q10
 exact codeAny_compStart_list (loop _ rfl) (T.self _ _ _ _ _ (T.keep 0 _ _ st2 fun b _ o e => old b o e) (loop _ rfl))
end L2
set_option Elab.async false
set_option linter.all false
set_option maxRecDepth 100000
set_option maxHeartbeats 4000000
namespace PH
open PySem L2 PySem.W
end PH
set_option Elab.async false
set_option linter.all false
set_option maxRecDepth 100000
namespace L2
open PySem PySem.Spec PyProof.Rows PySem.W
section
variable {X:Cx}
theorem boot_all':bootBuiltins "all" = some (.builtin "all"):=by decide +kernel
noncomputable def rAll (K:Frag):List V -> Hp -> VK -> Prop:=fun xs H Q => ∃ (p:Addr) (bs:List Bool),xs = [.ref p]∧SqL K H p (bs.map V.bl)∧Q (.bl (bs.all id)) H
theorem bl_at {bs:List Bool} {us:List Value} (r:Vals (bs.map V.bl) us):us = bs.map Value.bool:=by
 induction bs generalizing us with
 | nil => cases r; rfl
 | cons b t ih =>
  cases r with
  | cons h t' =>
   rw [ih t']
   cases h
   rfl
theorem range_allB:∀ (bs:List Bool),((List.range bs.length).all fun i => (bs[i]?).getD true) = bs.all id:=fun bs => by
 rw [Bool.eq_iff_iff,List.all_eq_true,List.all_eq_true]
 constructor
 ·intro h b hb
  obtain ⟨i,hi,e⟩:=List.mem_iff_getElem.mp hb
  have:=h i (List.mem_range.mpr hi)
  rw [List.getElem?_eq_getElem hi,e] at this
  exact this
 ·intro h i hi
  have hi:=List.mem_range.mp hi
  rw [List.getElem?_eq_getElem hi]
  exact h _ (List.getElem_mem hi)
theorem call_allL (hc:X.calm = true):CallR X (.builtin "all") (rAll X.K):=by
 intro pins s σ H xs us Q I r h
 obtain ⟨p,bs,rfl,hs,q⟩:=h
 obtain ⟨u,rfl,ru⟩:=r.one
 cases ru
 obtain ⟨its,rv,pl,hz⟩:=I.list hs
 have e:=bl_at rv
 subst e
 have hl:=pl.isList
 have hlt:p < s.heap.objs.size:=by obtain ⟨_,e,_⟩:=hl; exact Heap.lt_size e
 refine call_all_walk (wpAny_pyIter_list hl ?_)
 refine ⟨s.heap.objs.size,[s.heap.objs.size,p],[s.heap.objs.size],(bs.map Value.bool).toArray.size,_,_,fun i => (bs[i]?).getD true,rfl,Walks.list (A:=X.A.in1) (I.ok.hd hc) _ p (Nat.ne_of_lt hlt) (bs.map Value.bool).toArray,
  ⟨⟨_,Heap.get?_push_size _ rfl,rfl,rfl⟩,hl.push _⟩,fun i v s' Q' E' hP hQ => ?_,fun h' tk hk => ?_⟩
 ·have hP':(bs.map Value.bool)[i]? = some v:=by simpa using hP
  rw [List.getElem?_map] at hP'
  cases eb:bs[i]? with
  | none => rw [eb] at hP'; cases hP'
  | some b =>
   rw [eb] at hP'
   cases hP'
   simp only [eb,Option.getD_some] at hQ
   exact wpAny_truthy_bool hQ
 ·have e:((List.range (bs.map Value.bool).toArray.size).all fun i => (bs[i]?).getD true) = bs.all id:=by
   rw [List.size_toArray,List.length_map]; exact range_allB bs
  rw [e]
  exact ⟨.bl _,H,I.kept (h':=h') (t':=tk) (fun b x e => hk b x (fun hm => by rw [List.mem_singleton.mp hm] at e; exact Nat.lt_irrefl _ (Heap.lt_size e)) (Heap.get?_push_of_some _ e)),rfl,q⟩
end
end L2
set_option Elab.async false
set_option linter.all false
set_option maxRecDepth 100000
set_option maxHeartbeats 4000000
namespace PH
open PySem L2 PySem.W
theorem trueT {A B:Hp -> Prop} {σ:St} {H:Hp} (h:A H):tTrue σ H (fun b H4 => if b = true then A H4 else B H4):=by
 show if true = true then A H else B H
 exact iteT h
noncomputable def riseB:Int -> List (Int × Int) -> Bool
 | _,[] => true
 | a,c :: r => decide (a < c.1) && decide (c.1 ≤ 255) && riseB c.1 r
theorem riseB_step {cs:List (Int × Int)} {k:Nat} {c:Int × Int} (h:cs[k]? = some c) (a:Int):riseB a (cs.drop k) = (decide (a < c.1) && decide (c.1 ≤ 255) && riseB c.1 (cs.drop (k + 1))):=by
 obtain ⟨hk,hv⟩:=List.getElem?_eq_some_iff.mp h
 rw [List.drop_eq_getElem_cons hk,hv]
 rfl
theorem riseB_of:∀ {cs:List (Int × Int)} {a:Int},RiseC cs -> (∀ c ∈ cs,a < c.1) -> riseB a cs = true
 | [],_,_,_ => rfl
 | c :: r,a,h,ha => by
  have h1:=ha c List.mem_cons_self
  have h2:=(h.2 c List.mem_cons_self).2.1
  have hp:=List.pairwise_cons.mp h.1
  have:=riseB_of (cs:=r) (a:=c.1) ⟨hp.2,fun x hx => h.2 x (List.mem_cons_of_mem _ hx)⟩ (fun x hx => hp.1 x.1 (List.mem_map.mpr ⟨x,hx,rfl⟩))
  unfold riseB
  rw [decide_eq_true h1,decide_eq_true h2,this]; rfl
noncomputable def areC (cs:List (Int × Int)):Bool:=riseB (-1) cs && cs.all fun c => decide (1 ≤ c.2)
theorem areC_of {cs:List (Int × Int)} (h:RiseC cs):areC cs = true:=by
 unfold areC
 rw [riseB_of h (fun c hc => by have:=(h.2 c hc).1; trivial),Bool.true_and,List.all_eq_true]
 exact fun c hc => decide_eq_true (h.2 c hc).2.2
noncomputable def LS (mg:Str -> Option Value):Prop:=∃ u, mg "LAST_SIGN" = some u∧RelV (.int 255) u
noncomputable def spRise:Sp:=fun vs H Q _ => ∃ (p:Addr) (zs:List (Addr × Int × Int)),vs = [.ref p]∧Prs H p zs∧Q (.bl (riseB (-1) (zs.map (·.2)))) H
end PH
set_option Elab.async false
set_option linter.all false
set_option maxRecDepth 100000
set_option maxHeartbeats 4000000
namespace PH
open PySem L2 PySem.W
noncomputable def Kb (d:Addr) (H H':Hp):Prop:=∀ b u,b ≠ d -> H b = some u -> H' b = some u
theorem Kb.refl (d:Addr) (H:Hp):Kb d H H:=fun _ _ _ e => e
theorem Kb.of {d:Addr} {H H':Hp} (s:Same H H'):Kb d H H':=fun b u _ e => s b u e
theorem Kb.trans {d:Addr} {H H1 H2:Hp} (a:Kb d H H1) (b:Kb d H1 H2):Kb d H H2:=fun x u n e => b x u n (a x u n e)
theorem Kb.put (d:Addr) (H:Hp) (o:HO):Kb d H (upd H d o):=fun b u n e => by rw [upd_ne n]; exact e
theorem Kb.new {d q:Addr} {H H':Hp} (k:Kb d H H') (o:HO) (hq:H q = none):Kb d H (upd H' q o):=fun b u n e => by rw [upd_ne (ne_of_none e hq)]; exact k b u n e
theorem Kb.free {d q:Addr} {H H':Hp} {o:HO} (k:Kb d H H') (hd:H' d = some o) (hq:H' q = none):H q = none:=by
 cases e:H q with
 | none => rfl
 | some u =>
  have n:q ≠ d:=fun z => by rw [z,hd] at hq; cases hq
  rw [k q u n e] at hq; cases hq
noncomputable def isD (d:Addr) (H:Hp):Prop:=∃ a b c,H d = some (deckO a b c)
theorem isD.put (d:Addr) (H:Hp) (a b c:Int):isD d (upd H d (deckO a b c)):=⟨a,b,c,upd_same⟩
end PH
set_option Elab.async false
set_option linter.all false
set_option maxRecDepth 100000
set_option maxHeartbeats 4000000
namespace L2
open PySem PySem.Spec PyProof.Rows PySem.W
section
variable {X:Cx}
noncomputable def rSum (K:Frag):List V -> Hp -> VK -> Prop:=fun xs H Q => ∃ (p:Addr) (ns:List Int),xs = [.ref p]∧SqL K H p (ns.map V.int)∧Q (.int ns.sum) H
theorem call_sum (hc:X.calm = true):CallR X (.builtin "sum") (rSum X.K):=by
 intro pins s σ H xs us Q I r h
 obtain ⟨p,ns,rfl,hs,q⟩:=h
 obtain ⟨u,rfl,rx⟩:=vals1 r
 cases rx
 obtain ⟨its,r',pl,hz⟩:=I.list hs
 have hi:=vals_intsAre r'
 have hn:=hi.numsOf
 obtain ⟨ys,hy⟩:=hi.allInts.items
 refine sum_intListG (I.ok.hd hc) (l:=p) (xs:=ys) (by rw [← hy]; exact pl.isList) fun h' tk t' hk => ?_
 have e:preSum (numAt ys) ys.size = ns.sum:=by
  have e1:=nums_intItems (xs:=ys)
  rw [← hy] at e1
  rw [preSum_eq,List.take_of_length_le (by simp)]
  rw [← hn]
  exact congrArg List.sum e1.symm
 rw [e]
 exact ⟨.int ns.sum,H,I.kept hk,⟨_,rfl⟩,q⟩
noncomputable def CDivG (i j:Int):Prop:=0 < j∧j < ((2 ^ 3000:Nat):Int)
theorem op_fdivG:OpR X (binaryOp .FloorDiv) (rI CDivG fun i j => .int (i / j)):=opI fun i j _ _ _ _ _ hc q => by
 obtain ⟨h0,h1⟩:=hc
 refine floordiv_int (by trivial) ?_ (.inl (PyProof.noPylong_of_log2 ?_))
 ·rw [Int.fdiv_eq_ediv_of_nonneg _ (by trivial)]; exact q
 ·have h2:j.natAbs < 2 ^ 3000:=by
   generalize (2:Nat) ^ 3000 = M at h1 ⊢
   trivial
  have:j.natAbs.log2 < 3000:=(Nat.log2_lt (by trivial)).mpr h2
  trivial
end
end L2
namespace PH
open PySem L2 PySem.W
theorem boot_sum':bootBuiltins "sum" = some (.builtin "sum"):=by decide +kernel
structure ExK (K:Frag) (cN c1 c2 c3 c4 c5 c6:Addr):Prop where
 k1:kitOne K (.ref cN) (.ref c1) = some false
 k2:kitOne K (.ref cN) (.ref c2) = some false
 k3:kitOne K (.ref cN) (.ref c3) = some false
 k4:kitOne K (.ref cN) (.ref c4) = some false
 k5:kitOne K (.ref cN) (.ref c5) = some false
 k6:kitOne K (.ref cN) (.ref c6) = some false
end PH
set_option Elab.async false
set_option linter.all false
namespace PH
noncomputable def fac:Nat -> Nat
 | 0 => 1
 | n + 1 => fac n * (n + 1)
theorem fac_pos:∀ n,0 < fac n
 | 0 => Nat.one_pos
 | n + 1 => Nat.mul_pos (fac_pos n) (Nat.succ_pos n)
theorem fac_le {a b:Nat} (h:a ≤ b):fac a ≤ fac b:=by
 induction h with
 | refl => exact Nat.le_refl _
 | step _ ih => exact Nat.le_trans ih (Nat.le_mul_of_pos_right _ (Nat.succ_pos _))
theorem fac400:fac 400 < 2 ^ 3000:=by decide +kernel
theorem fac_lt {a:Nat} (h:a ≤ 400):fac a < 2 ^ 3000:=Nat.lt_of_le_of_lt (fac_le h) fac400
noncomputable def ch:Nat -> Nat -> Nat
 | _,0 => 1
 | 0,_ + 1 => 0
 | n + 1,k + 1 => ch n k + ch n (k + 1)
theorem ch_mul:∀ (n k:Nat),ch (n + 1) (k + 1) * (k + 1) = ch n k * (n + 1)
 | 0,0 => rfl
 | 0,k + 1 => by
  show (ch 0 (k + 1) + ch 0 (k + 1 + 1)) * (k + 1 + 1) = ch 0 (k + 1) * 1
  show (0 + 0) * (k + 1 + 1) = 0 * 1
  trivial
 | n + 1,0 => by
  have h:=ch_mul n 0
  show (ch (n + 1) 0 + ch (n + 1) 1) * 1 = ch (n + 1) 0 * (n + 1 + 1)
  rw [Nat.zero_add,Nat.mul_one] at h
  rw [h]
  show (1 + ch n 0 * (n + 1)) * 1 = 1 * (n + 1 + 1)
  have:ch n 0 = 1:=by cases n <;> rfl
  rw [this]
  trivial
 | n + 1,k + 1 => by
  have h1:=ch_mul n k
  have h2:=ch_mul n (k + 1)
  show (ch (n + 1) (k + 1) + ch (n + 1) (k + 1 + 1)) * (k + 1 + 1) = ch (n + 1) (k + 1) * (n + 1 + 1)
  have e:ch (n + 1) (k + 1) = ch n k + ch n (k + 1):=rfl
  rw [Nat.add_mul,h2,Nat.mul_add (ch (n + 1) (k + 1)) (k + 1) 1,h1]
  rw [Nat.mul_add (ch (n + 1) (k + 1)) (n + 1) 1,e]
  have:=Nat.add_mul (ch n k) (ch n (k + 1)) (n + 1)
  trivial
theorem ch_fac:∀ (s k:Nat),ch (s + k) k * (fac k * fac s) = fac (s + k)
 | s,0 => by
  have:ch s 0 = 1:=by cases s <;> rfl
  show ch s 0 * (1 * fac s) = fac s
  rw [this,Nat.one_mul,Nat.one_mul]
 | s,k + 1 => by
  have h:=ch_fac s k
  have h1:=ch_mul (s + k) k
  show ch (s + k + 1) (k + 1) * (fac k * (k + 1) * fac s) = fac (s + k) * (s + k + 1)
  rw [show ch (s + k + 1) (k + 1) * (fac k * (k + 1) * fac s) = ch (s + k + 1) (k + 1) * (k + 1) * (fac k * fac s) by
   rw [Nat.mul_right_comm (fac k) (k + 1) (fac s),Nat.mul_comm (fac k * fac s) (k + 1),Nat.mul_assoc],h1,Nat.mul_right_comm,h]
theorem step_ch (o s k:Nat):((o * ch (s + k) k:Nat):Int) * ((s + k + 1:Nat):Int) / ((k + 1:Nat):Int) = ((o * ch (s + (k + 1)) (k + 1):Nat):Int):=by
 have h1:=ch_mul (s + k) k
 have:(o * ch (s + k) k) * (s + k + 1) = o * ch (s + (k + 1)) (k + 1) * (k + 1):=by
  rw [Nat.mul_assoc,← h1,Nat.mul_assoc]; rfl
 rw [← Int.natCast_mul,this,Int.natCast_mul]
 exact Int.mul_ediv_cancel _ (by trivial)
noncomputable def mlt:Nat -> Nat -> List Nat -> Nat
 | o,_,[] => o
 | o,s,t :: r => mlt (o * ch (s + t) t) (s + t) r
noncomputable def pfac:List Nat -> Nat
 | [] => 1
 | t :: r => fac t * pfac r
theorem mlt_fac:∀ (ts:List Nat) (o s m:Nat),o * m = fac s -> mlt o s ts * (m * pfac ts) = fac (s + ts.sum)
 | [],o,s,m,h => by
  show o * (m * 1) = fac (s + 0)
  rw [Nat.mul_one]; exact h
 | t :: r,o,s,m,h => by
  have:=mlt_fac r (o * ch (s + t) t) (s + t) (m * fac t) (by
   rw [← ch_fac s t,← h,Nat.mul_mul_mul_comm,Nat.mul_comm (o * m),Nat.mul_assoc])
  show mlt (o * ch (s + t) t) (s + t) r * (m * (fac t * pfac r)) = fac (s + (t + r.sum))
  rw [← Nat.mul_assoc m,this,Nat.add_assoc]
theorem mlt_snoc:∀ (ts:List Nat) (o s t:Nat),mlt o s (ts ++ [t]) = mlt o s ts * ch (s + ts.sum + t) t
 | [],o,s,t => by
  show o * ch (s + t) t = o * ch (s + 0 + t) t
  rfl
 | a :: r,o,s,t => by
  show mlt (o * ch (s + a) a) (s + a) (r ++ [t]) = mlt (o * ch (s + a) a) (s + a) r * ch (s + (a + r.sum) + t) t
  rw [mlt_snoc r,Nat.add_assoc s a]
noncomputable def dvs:Nat -> List Nat -> Nat
 | m,[] => m
 | m,t :: r => dvs (m / fac t) r
theorem dvs_all:∀ (ts:List Nat) (x:Nat),dvs (x * pfac ts) ts = x
 | [],x => by show x * 1 = x; trivial
 | t :: r,x => by
  show dvs (x * (fac t * pfac r) / fac t) r = x
  rw [Nat.mul_left_comm,Nat.mul_div_cancel_left _ (fac_pos t)]
  exact dvs_all r x
theorem dvs_snoc:∀ (ts:List Nat) (m t:Nat),dvs m (ts ++ [t]) = dvs m ts / fac t
 | [],_,_ => rfl
 | a :: r,m,t => by
  show dvs (m / fac a) (r ++ [t]) = dvs (m / fac a) r / fac t
  exact dvs_snoc r _ t
theorem many_eq (ts:List Nat):dvs (fac ts.sum) ts = mlt 1 0 ts:=by
 have h:=mlt_fac ts 1 0 1 rfl
 rw [Nat.one_mul,Nat.zero_add] at h
 rw [← h,dvs_all]
end PH
set_option Elab.async false
set_option linter.all false
set_option maxRecDepth 100000
set_option maxHeartbeats 4000000
namespace PH
open PySem L2 PySem.W
noncomputable def PL (n:Int) (p:Addr) (H:Hp):Prop:=∃ a b c,H p = some (deckO a b c)∧0 ≤ c∧c ≤ n
theorem PL.same {n:Int} {p:Addr} {H H':Hp} (h:PL n p H) (s:Same H H'):PL n p H':=by
 obtain ⟨a,b,c,e,h0,h1⟩:=h
 exact ⟨a,b,c,s _ _ e,h0,h1⟩
theorem PL.up {n:Int} {p q:Addr} {H:Hp} {o:HO} (h:PL n p H) (hq:p ≠ q):PL n p (upd H q o):=by
 obtain ⟨a,b,c,e,h0,h1⟩:=h
 exact ⟨a,b,c,by rw [upd_ne hq]; exact e,h0,h1⟩
theorem PL.mono {n m:Int} {p:Addr} {H:Hp} (h:PL n p H) (hm:n ≤ m):PL m p H:=by
 obtain ⟨a,b,c,e,h0,h1⟩:=h
 exact ⟨a,b,c,e,h0,by trivial⟩
theorem PL.ne {n:Int} {p q:Addr} {H:Hp} (h:PL n p H) (hq:H q = none):p ≠ q:=by
 obtain ⟨a,b,c,e,h0,h1⟩:=h
 exact ne_of_none e hq
theorem Kb.free' {n:Int} {d q:Addr} {H H':Hp} (k:Kb d H H') (hd:PL n d H') (hq:H' q = none):H q = none:=by
 obtain ⟨a,b,c,e,h0,h1⟩:=hd
 exact k.free e hq
noncomputable def spPool (K:Frag):Sp:=fun vs H Q _ => ∃ (a:Addr) (ns:List Int) (k:Nat),vs = [.ref a,.int (k:Int)]∧SqL K H a (ns.map V.int)∧k ≤ 62 ∧
 ∀ (p:Addr) (H':Hp),H p = none -> Same H H' -> PL 434 p H' -> Q (.ref p) H'
noncomputable def spTake:Sp:=fun vs H Q _ => ∃ (p:Addr) (n many:Int),vs = [.ref p,.int many]∧PL n p H∧n ≤ 1000000∧0 < many∧many < 1073741824 ∧
 ∀ (r:Int) (H':Hp),0 ≤ r -> r < many -> PL (n + 1) p H' -> Kb p H H' -> Q (.int r) H'
noncomputable def tms (cs:List (Int × Int)):List Nat:=cs.map fun c => c.2.toNat
noncomputable def sumT (cs:List (Int × Int)):Int:=(cs.map (·.2)).sum
noncomputable def facs:List Int:=(List.range 401).map fun i => (fac i:Int)
noncomputable def spProd:Sp:=fun vs H Q _ => vs = [.int 400]∧∀ (p:Addr) (H':Hp),Same H H' -> H p = none -> H' p = some (lsI facs) -> Q (.ref p) H'
noncomputable def spMany:Sp:=fun vs H Q _ => ∃ (p q:Addr) (zs:List (Addr × Int × Int)),vs = [.ref p,.ref q]∧Prs H p zs∧H q = some (lsI facs)∧zs.length ≤ 300∧(∀ c ∈ zs.map (·.2),1 ≤ c.2)∧sumT (zs.map (·.2)) ≤ 400 ∧
 ∀ H',Same H H' -> Q (.int (mlt 1 0 (tms (zs.map (·.2))):Nat)) H'
noncomputable def spWhole:Sp:=fun vs H Q _ => ∃ n:Int,vs = [.int n]∧Q (.bl true) H
noncomputable def spPair:Sp:=fun vs H Q _ => ∃ (t:Addr) (a b:Int),vs = [.ref t]∧H t = some (.tup [.int a,.int b])∧Q (.bl true) H
noncomputable def haveT (cs:List (Int × Int)):Bool:=areC cs && decide (sumT cs ≤ 400)
noncomputable def spOrders:Sp:=fun vs H Q _ => ∃ (p:Addr) (zs:List (Addr × Int × Int)),vs = [.ref p]∧Prs H p zs∧zs.length ≤ 300∧(∀ c ∈ zs.map (·.2),1 ≤ c.2)∧sumT (zs.map (·.2)) ≤ 400∧Q (.int (mlt 1 0 (tms (zs.map (·.2))):Nat)) H
noncomputable def MS (mg:Str -> Option Value):Prop:=∃ u, mg "MOST_SIGNS" = some u∧RelV (.int 400) u
theorem sumT_nat:∀ {cs:List (Int × Int)},(∀ c ∈ cs,1 ≤ c.2) -> sumT cs = ((tms cs).sum:Int)
 | [],_ => rfl
 | c :: r,h => by
  have h1:=h c List.mem_cons_self
  have h2:=sumT_nat (cs:=r) fun x hx => h x (List.mem_cons_of_mem _ hx)
  show c.2 + sumT r = ((c.2.toNat + (tms r).sum:Nat):Int)
  rw [h2]
  trivial
theorem tms_snoc (cs:List (Int × Int)) (c:Int × Int):tms (cs ++ [c]) = tms cs ++ [c.2.toNat]:=by
 unfold tms
 rw [List.map_append]; rfl
theorem tms_sum_take {cs:List (Int × Int)} {k:Nat} {c:Int × Int} (h:cs[k]? = some c):(tms (cs.take k)).sum + c.2.toNat ≤ (tms cs).sum:=by
 have e:cs = cs.take k ++ c :: cs.drop (k + 1):=by
  obtain ⟨h1,h2⟩:=List.getElem?_eq_some_iff.mp h
  rw [← h2,← List.drop_eq_getElem_cons h1,List.take_append_drop]
 have:(tms cs).sum = (tms (cs.take k)).sum + (c.2.toNat + (tms (cs.drop (k + 1))).sum):=by
  conv => lhs; rw [e]
  unfold tms
  rw [List.map_append,List.sum_append]
  rfl
 trivial
theorem mlt_take {cs:List (Int × Int)} {k:Nat} {c:Int × Int} (h:cs[k]? = some c):mlt 1 0 (tms (cs.take (k + 1))) = mlt 1 0 (tms (cs.take k)) * ch ((tms (cs.take k)).sum + c.2.toNat) c.2.toNat:=by
 rw [take_at h,tms_snoc,mlt_snoc,Nat.zero_add]
theorem sum_take {cs:List (Int × Int)} {k:Nat} {c:Int × Int} (h:cs[k]? = some c):(tms (cs.take (k + 1))).sum = (tms (cs.take k)).sum + c.2.toNat:=by
 rw [take_at h,tms_snoc,List.sum_append]
 rfl
theorem dvs_take {cs:List (Int × Int)} {k m:Nat} {c:Int × Int} (h:cs[k]? = some c):dvs m (tms (cs.take (k + 1))) = dvs m (tms (cs.take k)) / fac c.2.toNat:=by
 rw [take_at h,tms_snoc,dvs_snoc]
theorem facs_at {i:Nat} (h:i ≤ 400):facs[i]? = some (fac i:Int):=by
 unfold facs
 rw [List.getElem?_map,List.getElem?_range (by trivial)]
 rfl
theorem RiseC.ge {cs:List (Int × Int)} (h:RiseC cs):∀ c ∈ cs,1 ≤ c.2:=fun c hc => (h.2 c hc).2.2
theorem strict {ks:List Int} (h1:ks.Pairwise (· ≤ ·)) (h2:ks.Nodup):ks.Pairwise (· < ·):=by
 refine (h1.and h2).imp fun {a b} h => ?_
 have:=h.1
 have:=h.2
 trivial
theorem mul_bd {u v U V:Int} (h0:0 ≤ u) (h1:u ≤ U) (h2:0 ≤ v) (h3:v ≤ V):0 ≤ u * v∧u * v ≤ U * V:=⟨Int.mul_nonneg h0 h2,Int.mul_le_mul h1 h3 h2 (by trivial)⟩
theorem gNx {i:Nat} {v v':V} {σ:St} {H:Hp} {Q:St -> Hp -> Prop} (e:v' = v) (h:gName i v' σ H Q):gName i v σ H Q:=by
 subst e; exact h
end PH
set_option Elab.async false
set_option linter.all false
namespace PH
noncomputable def pf:List Int -> Nat
 | [] => 1
 | x :: r => (r.count x + 1) * pf r
theorem pf_pos:∀ l,0 < pf l
 | [] => Nat.one_pos
 | _ :: r => Nat.mul_pos (Nat.succ_pos _) (pf_pos r)
theorem pf_split (x:Int):∀ l,pf l = fac (l.count x) * pf (l.filter fun y => decide (y ≠ x))
 | [] => rfl
 | y :: r => by
  have ih:=pf_split x r
  by_cases h:y = x
  ·subst h
   rw [List.filter_cons_of_neg (by simp),List.count_cons_self]
   show (r.count y + 1) * pf r = fac (r.count y) * (r.count y + 1) * _
   rw [ih,Nat.mul_comm (fac _) (_ + 1),Nat.mul_assoc]
  ·rw [List.filter_cons_of_pos (by simpa using h),List.count_cons_of_ne h]
   show (r.count y + 1) * pf r = fac (r.count x) * ((List.count y (r.filter _) + 1) * pf (r.filter _))
   rw [ih,List.count_filter (by simpa using h),Nat.mul_left_comm]
theorem len_split (x:Int) (l:List Int):l.length = (l.filter fun y => decide (y ≠ x)).length + l.count x:=by
 induction l with
 | nil => rfl
 | cons y r ih =>
  by_cases h:y = x
  ·subst h
   rw [List.filter_cons_of_neg (by simp),List.count_cons_self,List.length_cons,ih]; trivial
  ·rw [List.filter_cons_of_pos (by simpa using h),List.count_cons_of_ne h,List.length_cons,List.length_cons,ih]; trivial
theorem pf_dvd:∀ (n:Nat) (l:List Int),l.length = n -> pf l ∣ fac n:=by
 intro n
 induction n using Nat.strongRecOn with
 | _ n ih =>
  intro l hl
  cases l with
  | nil => subst hl; exact Nat.dvd_refl _
  | cons x r =>
   have h1:=len_split x (x :: r)
   have hc:1 ≤ (x :: r).count x:=by rw [List.count_cons_self]; trivial
   have:=ih ((x :: r).filter fun y => decide (y ≠ x)).length (by trivial) _ rfl
   rw [pf_split x (x :: r)]
   have h2:=ch_fac ((x :: r).filter fun y => decide (y ≠ x)).length ((x :: r).count x)
   rw [← h1,hl] at h2
   rw [← h2]
   exact Nat.dvd_trans (Nat.mul_dvd_mul_left _ this) (Nat.dvd_mul_left _ _)
noncomputable def tx (l:List Int):Nat:=fac l.length / pf l
theorem tx_mul (l:List Int):tx l * pf l = fac l.length:=Nat.div_mul_cancel (pf_dvd _ l rfl)
theorem tx_pos (l:List Int):0 < tx l:=by
 have:=tx_mul l
 have h:=fac_pos l.length
 rcases Nat.eq_zero_or_pos (tx l) with e | e
 ·rw [e,Nat.zero_mul] at this; trivial
 ·exact e
theorem tx_le (l:List Int):tx l ≤ fac l.length:=Nat.div_le_self _ _
theorem pf_erase (x:Int):∀ {l:List Int},x ∈ l -> pf l = l.count x * pf (l.erase x)
 | [],h => by cases h
 | y :: r,h => by
  by_cases e:y = x
  ·subst e
   rw [List.erase_cons_head,List.count_cons_self]; rfl
  ·have hm:x ∈ r:=by
    rcases List.mem_cons.mp h with q | q
    ·exact absurd q.symm e
    ·exact q
   rw [List.erase_cons_tail (by simpa using e),List.count_cons_of_ne e]
   show (r.count y + 1) * pf r = r.count x * (((r.erase x).count y + 1) * pf (r.erase x))
   rw [pf_erase x hm,List.count_erase_of_ne e,Nat.mul_left_comm]
theorem tx_erase {x:Int} {l:List Int} (h:x ∈ l):tx l * l.count x = tx (l.erase x) * l.length:=by
 have h1:=tx_mul l
 have h2:=tx_mul (l.erase x)
 have hp:=pf_pos (l.erase x)
 have hl:0 < l.length:=List.length_pos_of_mem h
 rw [List.length_erase_of_mem h] at h2
 rw [pf_erase x h] at h1
 refine Nat.eq_of_mul_eq_mul_right hp ?_
 have e:fac l.length = fac (l.length - 1) * l.length:=by
  obtain ⟨k,hk⟩:∃ k,l.length = k + 1:=⟨l.length - 1,by trivial⟩
  rw [hk]; rfl
 rw [Nat.mul_assoc,h1,e,← h2,Nat.mul_right_comm]
theorem tx_countP:∀ (k:Nat) (p:Int -> Bool) (l:List Int),l.countP p = k -> l.length ∣ tx l * l.countP p:=by
 intro k
 induction k using Nat.strongRecOn with
 | _ k ih =>
  intro p l hk
  rcases Nat.eq_zero_or_pos k with e | e
  ·rw [hk,e]; exact ⟨0,rfl⟩
  ·obtain ⟨x,hx,hp⟩:=List.countP_pos_iff.mp (show 0 < l.countP p by trivial)
   have hs:l.countP p = l.count x + l.countP (fun y => p y && decide (y ≠ x)):=by
    clear ih hk e
    induction l with
    | nil => rfl
    | cons y r ihr =>
     have ih2:r.countP p = r.count x + r.countP (fun y => p y && decide (y ≠ x)):=by
      by_cases hm:x ∈ r
      ·exact ihr hm
      ·have h0:r.count x = 0:=List.count_eq_zero.mpr hm
       rw [h0,Nat.zero_add]
       refine List.countP_congr fun y hy => ?_
       have:y ≠ x:=fun z => hm (z ▸ hy)
       simp [this]
     by_cases hyx:y = x
     ·subst hyx
      rw [List.countP_cons_of_pos hp,List.count_cons_self,List.countP_cons_of_neg (by simp),ih2]; trivial
     ·rw [List.count_cons_of_ne hyx]
      by_cases hpy:p y = true
      ·rw [List.countP_cons_of_pos hpy,List.countP_cons_of_pos (by simp [hpy,hyx]),ih2]; trivial
      ·rw [List.countP_cons_of_neg hpy,List.countP_cons_of_neg (by simp [hpy]),ih2]
   have hc:0 < l.count x:=List.count_pos_iff.mpr hx
   rw [hs,Nat.mul_add]
   exact Nat.dvd_add ⟨_,by rw [tx_erase hx,Nat.mul_comm]⟩ (ih _ (by trivial) _ l rfl)
theorem at_sorted {x:Int}:∀ {l:List Int} {j:Nat},l.Pairwise (· ≤ ·) -> l[j]? = some x -> l.idxOf x = l.countP (fun y => decide (y < x))∧l.countP (fun y => decide (y < x)) ≤ j∧j < l.countP (fun y => decide (y < x)) + l.count x
 | [],j,_,h => by cases h
 | y :: r,j,hs,h => by
  have hp:=List.pairwise_cons.mp hs
  by_cases e:y = x
  ·subst e
   have h0:r.countP (fun z => decide (z < y)) = 0:=List.countP_eq_zero.mpr fun z hz => by have:=hp.1 z hz; simp; trivial
   rw [List.idxOf_cons_self,List.countP_cons_of_neg (by simp),h0,List.count_cons_self]
   refine ⟨rfl,Nat.zero_le _,?_⟩
   cases j with
   | zero => trivial
   | succ j =>
    have:=at_sorted (l:=r) (j:=j) hp.2 h
    trivial
  ·cases j with
   | zero => exact absurd (Option.some.inj h) e
   | succ j =>
    have hj:r[j]? = some x:=h
    have hle:=hp.1 x (List.mem_of_getElem? hj)
    have ih:=at_sorted (l:=r) (j:=j) hp.2 hj
    rw [List.idxOf_cons,beq_false_of_ne e,cond_false,List.countP_cons_of_pos (by simp; trivial),List.count_cons_of_ne e]
    trivial
theorem share_step {l:List Int} {rest:Nat} (hs:l.Pairwise (· ≤ ·)) (h0:0 < l.length) (hr:rest < tx l) :
  rest * l.length / tx l < l.length∧∀ x,l[rest * l.length / tx l]? = some x →
   tx l * l.count x / l.length = tx (l.erase x)∧tx l * l.idxOf x / l.length ≤ rest∧rest - tx l * l.idxOf x / l.length < tx (l.erase x):=by
 have hT:=tx_pos l
 have hj:rest * l.length / tx l < l.length:=by
  rw [Nat.div_lt_iff_lt_mul hT,Nat.mul_comm l.length]
  exact Nat.mul_lt_mul_of_pos_right hr h0
 refine ⟨hj,fun x hx => ?_⟩
 obtain ⟨hi,h1,h2⟩:=at_sorted hs hx
 have hm:=List.mem_of_getElem? hx
 have e:=tx_erase hm
 obtain ⟨u,hu⟩:=tx_countP _ (fun y => decide (y < x)) l rfl
 rw [hi,e,hu,Nat.mul_comm l.length u,Nat.mul_div_cancel _ h0,Nat.mul_div_cancel _ h0]
 have a1:rest * l.length / tx l * tx l ≤ rest * l.length:=Nat.div_mul_le_self _ _
 have a2:rest * l.length < (rest * l.length / tx l + 1) * tx l:=Nat.lt_mul_of_div_lt (Nat.lt_succ_self _) hT
 generalize rest * l.length / tx l = j at *
 generalize hcp:l.countP (fun y => decide (y < x)) = cp at *
 have b1:u * l.length ≤ rest * l.length:=by
  rw [Nat.mul_comm u,← hu]
  exact Nat.le_trans (by rw [Nat.mul_comm]; exact Nat.mul_le_mul_right _ h1) a1
 have hur:u ≤ rest:=Nat.le_of_mul_le_mul_right b1 h0
 refine ⟨rfl,hur,?_⟩
 have b2:rest * l.length < (u + tx (l.erase x)) * l.length:=by
  have:(j + 1) * tx l ≤ (cp + l.count x) * tx l:=Nat.mul_le_mul_right _ (by trivial)
  rw [Nat.add_mul,Nat.mul_comm u,← hu,← e]
  rw [Nat.add_mul cp,Nat.mul_comm cp,Nat.mul_comm (l.count x)] at this
  exact Nat.lt_of_lt_of_le a2 this
 have:=Nat.lt_of_mul_lt_mul_right b2
 trivial
end PH
set_option Elab.async false
set_option linter.all false
set_option maxRecDepth 100000
namespace L2
open PySem PySem.Spec PyProof.Rows PySem.W
section
variable {X:Cx} {pins:List (Addr × Obj)} {σ:St} {H:Hp} {s:Shared}
noncomputable def rRemove:V -> List V -> Hp -> VK -> Prop:=fun x vs H Q => ∃ (p:Addr) (pre:List Int) (k:Int) (post:List Int),x = .ref p∧vs = [.int k]∧H p = some (.lst ((pre ++ k :: post).map V.int))∧k ∉ pre∧Q .non (upd H p (.lst ((pre ++ post).map V.int)))
theorem mt_remove:MtM X "list.remove" rRemove:=by
 intro pins s σ H x vs v us Q I rx rv h
 obtain ⟨p,pre,k,post,rfl,rfl,hH,hn,q⟩:=h
 cases rx
 obtain ⟨u,rfl,ru⟩:=rv.one
 obtain ⟨t,rfl⟩:=ru
 obtain ⟨z,its,n,r,hl,e⟩:=I.lstM hH
 have hl':its.length = pre.length + (post.length + 1):=by
  rw [← hl,List.length_map,List.length_append,List.length_cons]
 have shape:∀ (j:Nat) (h:j < its.toArray.size),∃ (w:Int) (tw:Tok),(pre ++ k :: post)[j]? = some w∧its.toArray[j] = .int w tw:=fun j h => by
  have hj:j < (pre ++ k :: post).length:=by
   rw [List.size_toArray] at h
   rw [List.length_append,List.length_cons]; trivial
  obtain ⟨u,eu,tw,ru⟩:=r.get (i:=j) (x:=.int (pre ++ k :: post)[j]) (by rw [List.getElem?_map,List.getElem?_eq_getElem hj]; rfl)
  refine ⟨_,tw,List.getElem?_eq_getElem hj,?_⟩
  rw [List.getElem_toArray,← ru]
  exact Option.some.inj ((List.getElem?_eq_getElem (by simpa using h)).symm.trans eu)
 have mem:∀ y,y ∈ its.toArray -> MeetsSeq.EqGives y (.int k t) (eqU (.int k) y):=fun y hy => by
  obtain ⟨j,hj,rfl⟩:=Array.getElem_of_mem hy
  obtain ⟨w,tw,_,e2⟩:=shape j hj
  rw [e2]
  exact MeetsSeq.EqGives.int w k tw t
 refine call_meets F.slot_list_remove ⟨_,e,rfl⟩ F.entry_list_remove (F.args_list_remove_2 _ _) (MeetsSeq.list_remove p its.toArray n (.int k t) (eqU (.int k)) mem pre.length (by rw [List.size_toArray]; trivial) ?_ ?_ (by rw [List.size_toArray]; trivial)) ⟨e,?_⟩
 ·obtain ⟨w,tw,e1,e2⟩:=shape pre.length (by rw [List.size_toArray]; trivial)
  rw [e2]
  have:w = k:=by
   rw [List.getElem?_append_right (Nat.le_refl _)] at e1
   simpa using e1.symm
  subst this
  show (w == w) = true
  simp
 ·intro m hm hlt
  obtain ⟨w,tw,e1,e2⟩:=shape m hm
  rw [e2]
  have hp:m < pre.length:=hlt
  rw [List.getElem?_append_left hp] at e1
  show (w == k) = false
  have:w ≠ k:=fun z => hn (z ▸ List.mem_of_getElem? e1)
  simpa using this
 ·have hpre:pre.length = (pre.map V.int).length:=(List.length_map ..).symm
  refine ⟨.non,_,I.lset (its':=its.eraseIdx pre.length) hH e ?_ (r.eraseIdx pre.length) ?_,rfl,?_⟩
  ·show its.toArray.eraseIdxIfInBounds pre.length = (its.eraseIdx pre.length).toArray
   rw [List.eraseIdxIfInBounds_toArray]
  ·have:=len_erase ((pre ++ k :: post).map V.int) pre.length
   trivial
  ·have e1:((pre ++ k :: post).map V.int).eraseIdx pre.length = (pre ++ post).map V.int:=by
    rw [List.map_append,List.map_cons,List.eraseIdx_append_of_length_le (by rw [List.length_map]; exact Nat.le_refl _),List.length_map,Nat.sub_self,List.eraseIdx_zero,List.map_append]
    rfl
   rw [e1]; exact q
end
end L2
set_option Elab.async false
set_option linter.all false
set_option maxRecDepth 100000
set_option maxHeartbeats 4000000
namespace PH
open PySem L2 PySem.W
noncomputable def flat (cs:List (Int × Int)):List Int:=cs.flatMap fun c => List.replicate c.2.toNat c.1
theorem flat_snoc (cs:List (Int × Int)) (c:Int × Int):flat (cs ++ [c]) = flat cs ++ List.replicate c.2.toNat c.1:=by
 unfold flat
 rw [List.flatMap_append]
 show _ ++ (List.replicate c.2.toNat c.1 ++ []) = _
 rw [List.append_nil]
theorem flat_len:∀ cs:List (Int × Int),(flat cs).length = (tms cs).sum
 | [] => rfl
 | c :: r => by
  show (List.replicate c.2.toNat c.1 ++ flat r).length = c.2.toNat + (tms r).sum
  rw [List.length_append,List.length_replicate,flat_len r]
theorem mem_flat {cs:List (Int × Int)} {x:Int} (h:x ∈ flat cs):x ∈ cs.map (·.1):=by
 obtain ⟨c,hc,hx⟩:=List.mem_flatMap.mp h
 exact List.mem_map.mpr ⟨c,hc,(List.mem_replicate.mp hx).2.symm⟩
theorem RiseC.tail {c:Int × Int} {r:List (Int × Int)} (h:RiseC (c :: r)):RiseC r∧∀ x ∈ r.map (·.1),c.1 < x :=
 have hp:=List.pairwise_cons.mp h.1
 ⟨⟨hp.2,fun x hx => h.2 x (List.mem_cons_of_mem _ hx)⟩,hp.1⟩
theorem flat_sorted:∀ {cs:List (Int × Int)},RiseC cs -> (flat cs).Pairwise (· ≤ ·)
 | [],_ => List.Pairwise.nil
 | c :: r,h => by
  obtain ⟨hr,hl⟩:=h.tail
  show (List.replicate c.2.toNat c.1 ++ flat r).Pairwise (· ≤ ·)
  refine List.pairwise_append.mpr ⟨List.pairwise_replicate.mpr (.inr (Int.le_refl _)),flat_sorted hr,fun a ha b hb => ?_⟩
  have h1:=(List.mem_replicate.mp ha).2
  have h2:=hl b (mem_flat hb)
  trivial
theorem pf_rep {s:Int} {l:List Int} (h:s ∉ l):∀ t:Nat,pf (List.replicate t s ++ l) = fac t * pf l
 | 0 => by show pf l = 1 * pf l; rw [Nat.one_mul]
 | t + 1 => by
  have ih:=pf_rep h t
  rw [List.replicate_succ,List.cons_append]
  show ((List.replicate t s ++ l).count s + 1) * pf (List.replicate t s ++ l) = fac t * (t + 1) * pf l
  rw [ih,List.count_append,List.count_replicate_self,List.count_eq_zero.mpr h,Nat.add_zero,Nat.mul_left_comm,Nat.mul_assoc]
theorem pf_flat:∀ {cs:List (Int × Int)},RiseC cs -> pf (flat cs) = pfac (tms cs)
 | [],_ => rfl
 | c :: r,h => by
  obtain ⟨hr,hl⟩:=h.tail
  show pf (List.replicate c.2.toNat c.1 ++ flat r) = fac c.2.toNat * pfac (tms r)
  rw [pf_rep (fun z => by have:=hl _ (mem_flat z); trivial),pf_flat hr]
theorem tx_flat {cs:List (Int × Int)} (h:RiseC cs):tx (flat cs) = mlt 1 0 (tms cs):=by
 have h1:=mlt_fac (tms cs) 1 0 1 rfl
 rw [Nat.one_mul,Nat.zero_add] at h1
 have hp:=pf_pos (flat cs)
 unfold tx
 rw [flat_len,← h1,← pf_flat h,Nat.mul_div_cancel _ hp]
theorem riseB_rise:∀ {cs:List (Int × Int)} {a:Int},riseB a cs = true -> (cs.map (·.1)).Pairwise (· < ·)∧∀ c ∈ cs,a < c.1∧c.1 ≤ 255
 | [],_,_ => ⟨List.Pairwise.nil,fun _ z => by cases z⟩
 | c :: r,a,h => by
  unfold riseB at h
  rw [Bool.and_eq_true,Bool.and_eq_true] at h
  have h1:=of_decide_eq_true h.1.1
  have h2:=of_decide_eq_true h.1.2
  obtain ⟨p1,p2⟩:=riseB_rise h.2
  refine ⟨List.pairwise_cons.mpr ⟨fun x hx => ?_,p1⟩,fun x hx => ?_⟩
  ·obtain ⟨y,hy,rfl⟩:=List.mem_map.mp hx
   exact (p2 y hy).1
  ·rcases List.mem_cons.mp hx with e | e
   ·subst e; exact ⟨h1,h2⟩
   ·have:=p2 x e
    exact ⟨by trivial,this.2⟩
theorem rise_of {cs:List (Int × Int)} (h:areC cs = true):RiseC cs:=by
 unfold areC at h
 rw [Bool.and_eq_true] at h
 obtain ⟨p1,p2⟩:=riseB_rise h.1
 refine ⟨p1,fun c hc => ?_⟩
 have h1:=p2 c hc
 have h2:1 ≤ c.2:=of_decide_eq_true (List.all_eq_true.mp h.2 c hc)
 exact ⟨by trivial,h1.2,h2⟩
theorem have_of {cs:List (Int × Int)} (h:haveT cs = true):RiseC cs∧sumT cs ≤ 400:=by
 unfold haveT at h
 rw [Bool.and_eq_true] at h
 exact ⟨rise_of h.1,of_decide_eq_true h.2⟩
theorem erase_at {x:Int}:∀ {l:List Int},x ∈ l -> ∃ pre post,l = pre ++ x :: post∧x ∉ pre∧l.erase x = pre ++ post∧l.idxOf x = pre.length
 | [],h => by cases h
 | y :: r,h => by
  by_cases e:y = x
  ·subst e
   exact ⟨[],r,rfl,(fun z => by cases z),List.erase_cons_head _ _,List.idxOf_cons_self⟩
  ·have hm:x ∈ r:=by
    rcases List.mem_cons.mp h with q | q
    ·exact absurd q.symm e
    ·exact q
   obtain ⟨pre,post,h1,h2,h3,h4⟩:=erase_at hm
   refine ⟨y :: pre,post,by rw [h1]; rfl,fun z => ?_,?_,?_⟩
   ·rcases List.mem_cons.mp z with q | q
    ·exact e q.symm
    ·exact h2 q
   ·rw [List.erase_cons_tail (by simpa using e),h3]; rfl
   ·rw [List.idxOf_cons,beq_false_of_ne e,cond_false,h4]; rfl
theorem mlt_lt {cs:List (Int × Int)} (h:RiseC cs) (hs:sumT cs ≤ 400):mlt 1 0 (tms cs) < 2 ^ 3000:=by
 rw [← tx_flat h]
 refine Nat.lt_of_le_of_lt (tx_le _) (fac_lt ?_)
 rw [flat_len]
 have:=sumT_nat h.ge
 trivial
noncomputable def spInOrd:Sp:=fun vs H Q _ => ∃ (p:Addr) (zs:List (Addr × Int × Int)),vs = [.ref p]∧Prs H p zs∧zs.length ≤ 300∧(∀ c ∈ zs.map (·.2),1 ≤ c.2)∧sumT (zs.map (·.2)) ≤ 400 ∧
 ∀ (L:Addr) (H':Hp),Same H H' -> H L = none -> H' L = some (lsI (flat (zs.map (·.2)))) -> Q (.ref L) H'
theorem Prs.sl {H:Hp} {p:Addr} {zs:List (Addr × Int × Int)} (h:Prs H p zs) {q:Addr} (hq:H q = none) {ys:List (Addr × Int × Int)} (hs:∀ y ∈ ys,y ∈ zs):Prs (upd H q (.lst (ys.map fun z => V.ref z.1))) q ys :=
 ⟨upd_same,fun z hz => (same_new hq _) _ _ (h.each z (hs z hz))⟩
end PH
set_option Elab.async false
set_option linter.all false
namespace PH
theorem pf_perm {l m:List Int} (h:l.Perm m):pf l = pf m:=by
 induction h with
 | nil => rfl
 | cons x h ih =>
  show (_ + 1) * _ = (_ + 1) * _
  rw [ih,h.count_eq]
 | swap x y l =>
  show ((x :: l).count y + 1) * ((l.count x + 1) * pf l) = ((y :: l).count x + 1) * ((l.count y + 1) * pf l)
  by_cases e:x = y
  ·subst e; rfl
  ·rw [List.count_cons_of_ne e,List.count_cons_of_ne (fun z => e z.symm),Nat.mul_left_comm]
 | trans _ _ a b => exact a.trans b
theorem tx_perm {l m:List Int} (h:l.Perm m):tx l = tx m:=by
 unfold tx
 rw [pf_perm h,h.length_eq]
noncomputable def lss (x:Int) (l:List Int):Nat:=l.countP fun y => decide (y < x)
theorem lss_perm {x:Int} {l m:List Int} (h:l.Perm m):lss x l = lss x m:=h.countP_eq _
noncomputable def qn (x:Int) (l:List Int):Nat:=tx l * lss x l / l.length
theorem qn_mul (x:Int) {l:List Int} (h:l ≠ []):qn x l * l.length = tx l * lss x l :=
 Nat.div_mul_cancel (tx_countP _ _ l rfl)
theorem qn_perm {x:Int} {l m:List Int} (h:l.Perm m):qn x l = qn x m:=by
 unfold qn
 rw [tx_perm h,lss_perm h,h.length_eq]
noncomputable def nm:List Int -> Nat
 | [] => 0
 | x :: r => qn x (x :: r) + nm r
theorem tx_cons (x:Int) (r:List Int):tx (x :: r) * (x :: r).count x = tx r * (x :: r).length:=by
 have:=tx_erase (x:=x) (l:=x :: r) List.mem_cons_self
 rwa [List.erase_cons_head] at this
theorem lss_count (x:Int):∀ l:List Int,lss x l + l.count x ≤ l.length
 | [] => Nat.le_refl _
 | y :: r => by
  have ih:=lss_count x r
  unfold lss at ih ⊢
  by_cases e:y = x
  ·subst e
   rw [List.countP_cons_of_neg (by simp),List.count_cons_self,List.length_cons]; trivial
  ·rw [List.count_cons_of_ne e,List.length_cons,List.countP_cons]
   split <;> trivial
theorem nm_lt:∀ t:List Int,nm t < tx t
 | [] => by decide
 | x :: r => by
  have ih:=nm_lt r
  have h1:=qn_mul x (l:=x :: r) (fun z => by cases z)
  have h2:=tx_cons x r
  have h3:=lss_count x (x :: r)
  show qn x (x :: r) + nm r < tx (x :: r)
  have hl:0 < (x :: r).length:=by rw [List.length_cons]; trivial
  generalize (x :: r).length = n at *
  refine Nat.lt_of_mul_lt_mul_right (a:=n) ?_
  rw [Nat.add_mul,h1]
  have h4:nm r * n < tx r * n:=Nat.mul_lt_mul_of_pos_right ih hl
  have h5:tx (x :: r) * (lss x (x :: r) + (x :: r).count x) ≤ tx (x :: r) * n:=Nat.mul_le_mul_left _ h3
  rw [Nat.mul_add] at h5
  trivial
theorem sorted_at {x:Int}:∀ {l:List Int} {j:Nat},l.Pairwise (· ≤ ·) -> lss x l ≤ j -> j < lss x l + l.count x -> l[j]? = some x
 | [],j,_,h1,h2 => by unfold lss at h1 h2; simp at h2
 | y :: r,j,hs,h1,h2 => by
  have hp:=List.pairwise_cons.mp hs
  unfold lss at h1 h2
  by_cases hy:y < x
  ·rw [List.countP_cons_of_pos (by simpa using hy)] at h1 h2
   rw [List.count_cons_of_ne (by trivial)] at h2
   obtain ⟨k,rfl⟩:∃ k,j = k + 1:=⟨j - 1,by trivial⟩
   rw [List.getElem?_cons_succ]
   exact sorted_at hp.2 (by unfold lss; trivial) (by unfold lss; trivial)
  ·rw [List.countP_cons_of_neg (by simpa using hy)] at h1 h2
   have h0:r.countP (fun z => decide (z < x)) = 0:=List.countP_eq_zero.mpr fun z hz => by have:=hp.1 z hz; simp; trivial
   by_cases e:y = x
   ·subst e
    rw [List.count_cons_self] at h2
    cases j with
    | zero => rfl
    | succ j =>
     rw [List.getElem?_cons_succ]
     exact sorted_at hp.2 (by unfold lss; trivial) (by unfold lss; trivial)
   ·have hc:r.count x = 0:=List.count_eq_zero.mpr fun hm => by have:=hp.1 x hm; trivial
    rw [List.count_cons_of_ne e,hc] at h2
    trivial
theorem read_step {l r:List Int} {x:Int} (hs:l.Pairwise (· ≤ ·)) (hp:(x :: r).Perm l) :
  l[nm (x :: r) * l.length / tx l]? = some x∧tx l * l.count x / l.length = tx (l.erase x)∧tx l * l.idxOf x / l.length + nm r = nm (x :: r)∧r.Perm (l.erase x):=by
 have hm:x ∈ l:=hp.subset List.mem_cons_self
 have h0:0 < l.length:=List.length_pos_of_mem hm
 have hne:l ≠ []:=fun e => by rw [e] at hm; cases hm
 have hT:=tx_pos l
 have pr:r.Perm (l.erase x):=by
  have:=hp.erase x
  rwa [List.erase_cons_head] at this
 have e:=tx_erase hm
 have hq:qn x (x :: r) = qn x l:=qn_perm hp
 have h1:=qn_mul x hne
 have hr:=nm_lt r
 rw [tx_perm pr] at hr
 have hn:nm (x :: r) = qn x l + nm r:=by show qn x (x :: r) + nm r = _; rw [hq]
 have hx:l[nm (x :: r) * l.length / tx l]? = some x:=by
  have hmul:nm (x :: r) * l.length = tx l * lss x l + nm r * l.length:=by rw [hn,Nat.add_mul,h1]
  have hd:nm (x :: r) * l.length / tx l = lss x l + nm r * l.length / tx l:=by rw [hmul,Nat.add_comm,Nat.add_mul_div_left _ _ hT,Nat.add_comm]
  have hlt:nm r * l.length / tx l < l.count x:=by
   rw [Nat.div_lt_iff_lt_mul hT,Nat.mul_comm (l.count x),e]
   exact Nat.mul_lt_mul_of_pos_right hr h0
  rw [hd]; exact sorted_at hs (Nat.le_add_right _ _) (Nat.add_lt_add_left hlt _)
 obtain ⟨hi,_⟩:=at_sorted hs hx
 refine ⟨hx,by rw [e,Nat.mul_div_cancel _ h0],?_,pr⟩
 rw [hi,hn]
 rfl
end PH
set_option Elab.async false
set_option linter.all false
set_option maxRecDepth 100000
set_option maxHeartbeats 4000000
namespace ST
open PySem
noncomputable def Up (xs:Array Nat):Prop:=xs.toList.Pairwise (· < ·)
theorem Up.at {xs:Array Nat} (u:Up xs) {i k:Nat} (h:i < k) (hk:k < xs.size):xs.getD i 0 < xs.getD k 0:=by
 have hi:i < xs.size:=Nat.lt_trans h hk
 have:=List.pairwise_iff_getElem.mp u i k (by simpa using hi) (by simpa using hk) h
 simpa [Array.getD,hi,hk] using this
theorem go_spec {xs:Array Nat} (u:Up xs) (j:Nat):∀ fuel lo hi:Nat,lo ≤ hi -> hi ≤ xs.size -> hi - lo ≤ fuel -> (∀ i,i < lo -> xs.getD i 0 < j) -> (∀ i,hi ≤ i -> i < xs.size -> j ≤ xs.getD i 0) →
  SetTable.below.go xs j fuel lo hi ≤ xs.size∧(∀ i,i < SetTable.below.go xs j fuel lo hi -> xs.getD i 0 < j)∧(∀ i,SetTable.below.go xs j fuel lo hi ≤ i -> i < xs.size -> j ≤ xs.getD i 0)
 | 0,lo,hi,h1,h2,h3,h4,h5 => by
  have:lo = hi:=by trivial
  subst this
  exact ⟨h2,h4,h5⟩
 | fuel + 1,lo,hi,h1,h2,h3,h4,h5 => by
  unfold SetTable.below.go
  by_cases c:lo < hi
  ·rw [if_pos c]
   have hm:(lo + hi) / 2 < xs.size:=by trivial
   have e:xs.getD ((lo + hi) / 2) j = xs.getD ((lo + hi) / 2) 0:=by simp [Array.getD,hm]
   dsimp only
   rw [e]
   by_cases c2:xs.getD ((lo + hi) / 2) 0 < j
   ·rw [if_pos c2]
    refine go_spec u j fuel _ hi (by trivial) h2 (by trivial) (fun i hi' => ?_) h5
    by_cases q:i = (lo + hi) / 2
    ·rw [q]; exact c2
    ·exact Nat.lt_trans (u.at (show i < (lo + hi) / 2 by trivial) hm) c2
   ·rw [if_neg c2]
    refine go_spec u j fuel lo _ (by trivial) (by trivial) (by trivial) h4 (fun i hi' hs => ?_)
    by_cases q:i = (lo + hi) / 2
    ·rw [q]; trivial
    ·have:=u.at (show (lo + hi) / 2 < i by trivial) hs
     trivial
  ·rw [if_neg c]
   have:lo = hi:=by trivial
   subst this
   exact ⟨h2,h4,h5⟩
theorem below_spec {xs:Array Nat} (u:Up xs) (j:Nat):SetTable.below xs j ≤ xs.size∧(∀ i,i < SetTable.below xs j -> xs.getD i 0 < j)∧(∀ i,SetTable.below xs j ≤ i -> i < xs.size -> j ≤ xs.getD i 0) :=
 go_spec u j xs.size 0 xs.size (Nat.zero_le _) (Nat.le_refl _) (by trivial) (fun i h => absurd h (Nat.not_lt_zero _)) (fun i h h' => by trivial)
theorem below_at {xs:Array Nat} (u:Up xs) {k:Nat} (h:k < xs.size):SetTable.below xs (xs.getD k 0) = k∧SetTable.below xs (xs.getD k 0 + 1) = k + 1:=by
 obtain ⟨a1,a2,a3⟩:=below_spec u (xs.getD k 0)
 obtain ⟨b1,b2,b3⟩:=below_spec u (xs.getD k 0 + 1)
 constructor
 ·rcases Nat.lt_trichotomy (SetTable.below xs (xs.getD k 0)) k with q | q | q
  ·have:=a3 _ (Nat.le_refl _) (by trivial)
   have:=u.at q h
   trivial
  ·exact q
  ·have:=a2 k q
   trivial
 ·rcases Nat.lt_trichotomy (SetTable.below xs (xs.getD k 0 + 1)) (k + 1) with q | q | q
  ·have:=b3 k (by trivial) h
   trivial
  ·exact q
  ·have h2:=b2 (k + 1) q
   have:=u.at (show k < k + 1 by trivial) (show k + 1 < xs.size by trivial)
   trivial
theorem mem_getD {xs:Array Nat} {j:Nat} (h:j ∈ xs.toList):∃ k,k < xs.size∧xs.getD k 0 = j:=by
 obtain ⟨k,hk,e⟩:=List.mem_iff_getElem.mp h
 have hk':k < xs.size:=by simpa using hk
 exact ⟨k,hk',by simp [Array.getD,hk']; simpa using e⟩
structure Ok (t:SetTable) (n:Nat):Prop where
 mask:t.mask = 7 ∨ t.mask = 31 ∨ t.mask = 127 ∨ t.mask = 511
 size:t.place.size = n
 fit:n ≤ t.mask
 dum:t.dummies = #[]
 up:Up t.place
 le:∀ j ∈ t.place.toList,j ≤ t.mask
 plain:t.plain = true
theorem has_nil (j:Nat):SetTable.has #[] j = false:=rfl
theorem slot_of {t:SetTable} {n:Nat} (o:Ok t n) (j:Nat):(j ∉ t.place.toList∧t.slot j = .empty) ∨ (j ∈ t.place.toList∧∃ i,t.slot j = .live i):=by
 unfold SetTable.slot
 by_cases h:j ∈ t.place.toList
 ·obtain ⟨k,hk,e⟩:=mem_getD h
  have b:=(below_at o.up hk).1
  rw [e] at b
  refine .inr ⟨h,k,?_⟩
  dsimp only
  rw [b]
  have:t.place[k]? = some j:=by
   rw [Array.getElem?_eq_getElem hk]
   simpa [Array.getD,hk] using e
  rw [this,if_pos (beq_self_eq_true _)]
 ·refine .inl ⟨h,?_⟩
  dsimp only
  rw [if_neg,o.dum,has_nil,if_neg Bool.false_ne_true]
  intro z
  have z:=beq_iff_eq.mp z
  exact h (by
   have:=List.mem_of_getElem? (l:=t.place.toList) (i:=SetTable.below t.place j) (a:=j) (by rw [Array.getElem?_toList]; exact z)
   exact this)
noncomputable def lp (m:Nat):Nat -> Nat × Nat -> Nat × Nat
 | 0,q => q
 | k + 1,q => lp m k (SetTable.leap m q.1 q.2)
theorem run_le {m i:Nat} (h:i ≤ m):SetTable.runEnd m i - i ≤ 9∧i + (SetTable.runEnd m i - i) ≤ m:=by
 unfold SetTable.runEnd
 split <;> trivial
theorem leap_le (m i p:Nat):(SetTable.leap m i p).1 ≤ m:=by
 unfold SetTable.leap
 have:=Nat.mod_lt (i * 5 + 1 + p / 32) (show 0 < m + 1 by trivial)
 show _ % (m + 1) ≤ m
 trivial
theorem go_ok {t:SetTable} {n:Nat} (o:Ok t n) (h:Int) {e:Nat} (he:e ∉ t.place.toList) (hem:e ≤ t.mask):∀ (fuel:Nat) (p:SetTable.Probe) (K:Nat),p.dummy = none -> p.j + p.more ≤ t.mask -> p.more ≤ 9 →
  ((K = 0∧p.j = e∧1 ≤ fuel) ∨ (1 ≤ K∧(lp t.mask K (p.i,p.perturb)).1 = e∧p.more + 2 + 10 * (K - 1) ≤ fuel)) →
  ∃ j,SetTable.probe.go t (fun _ => h + 1) h fuel p = some (.empty j none)∧j ∉ t.place.toList∧j ≤ t.mask
 | 0,p,K,hd,hj,hm,hk => by trivial
 | fuel + 1,p,K,hd,hj,hm,hk => by
  unfold SetTable.probe.go
  rcases slot_of o p.j with ⟨s1,s2⟩ | ⟨s1,i,s2⟩
  ·rw [s2]
   exact ⟨p.j,by rw [hd],s1,by trivial⟩
  ·rw [s2]
   dsimp only
   rw [if_neg (by intro z; have:=beq_iff_eq.mp z; trivial)]
   rcases hk with ⟨_,q,_⟩ | ⟨k1,k2,k3⟩
   ·exact absurd (by rw [← q]; exact s1) he
   unfold SetTable.advance
   by_cases c:p.more > 0
   ·rw [if_pos c]
    exact go_ok o h he hem fuel _ K hd (by show p.j + 1 + (p.more - 1) ≤ _; trivial) (by show p.more - 1 ≤ 9; trivial) (.inr ⟨k1,k2,by show p.more - 1 + 2 + 10 * (K - 1) ≤ fuel; trivial⟩)
   ·rw [if_neg c]
    have hle:=leap_le t.mask p.i p.perturb
    obtain ⟨r1,r2⟩:=run_le hle
    refine go_ok o h he hem fuel _ (K - 1) hd r2 r1 ?_
    obtain ⟨K',rfl⟩:∃ K',K = K' + 1:=⟨K - 1,by trivial⟩
    have k2':(lp t.mask K' (SetTable.leap t.mask p.i p.perturb)).1 = e:=k2
    by_cases z:K' = 0
    ·subst z
     exact .inl ⟨rfl,k2',by trivial⟩
    ·exact .inr ⟨by trivial,k2',by show SetTable.runEnd t.mask _ - _ + 2 + 10 * (K' + 1 - 1 - 1) ≤ fuel; trivial⟩
noncomputable def it (N:Nat):Nat -> Nat -> Nat
 | 0,a => a
 | k + 1,a => it N k ((a * 5 + 1) % N)
noncomputable def orb (N:Nat):Nat -> Nat -> List Nat
 | 0,_ => []
 | k + 1,a => a :: orb N k ((a * 5 + 1) % N)
theorem orb_mem (N:Nat):∀ (n a b:Nat),b ∈ orb N n a -> ∃ k,k < n∧it N k a = b
 | 0,a,b,h => by cases h
 | n + 1,a,b,h => by
  rcases List.mem_cons.mp h with h | h
  ·exact ⟨0,by trivial,h.symm⟩
  ·obtain ⟨k,h1,h2⟩:=orb_mem N n _ b h
   exact ⟨k + 1,by trivial,h2⟩
theorem it_add (N:Nat):∀ (k l a:Nat),it N (k + l) a = it N l (it N k a)
 | 0,l,a => by rw [Nat.zero_add]; rfl
 | k + 1,l,a => by
  rw [show k + 1 + l = (k + l) + 1 by trivial]
  exact it_add N k l _
theorem cyc {N:Nat} (h0:it N N 0 = 0) (hm:∀ b,b < N -> b ∈ orb N N 0) {a b:Nat} (ha:a < N) (hb:b < N):∃ k,k < N∧it N k a = b:=by
 obtain ⟨i,i1,i2⟩:=orb_mem N N 0 a (hm a ha)
 obtain ⟨j,j1,j2⟩:=orb_mem N N 0 b (hm b hb)
 by_cases c:i ≤ j
 ·refine ⟨j - i,by trivial,?_⟩
  rw [← i2,← it_add,show i + (j - i) = j by trivial,j2]
 ·refine ⟨N - i + j,by trivial,?_⟩
  rw [← i2,← it_add,show i + (N - i + j) = N + j by trivial,it_add,h0,j2]
theorem all_mem {N:Nat} (h:((List.range N).all fun b => (orb N N 0).contains b) = true):∀ b,b < N -> b ∈ orb N N 0:=fun b hb => by
 have:=List.all_eq_true.mp h b (List.mem_range.mpr hb)
 simpa using this
theorem cyc_all {m:Nat} (h:m = 7 ∨ m = 31 ∨ m = 127 ∨ m = 511) {a b:Nat} (ha:a ≤ m) (hb:b ≤ m):∃ k,k ≤ m∧it (m + 1) k a = b:=by
 have key:∃ k,k < m + 1∧it (m + 1) k a = b:=by
  rcases h with rfl | rfl | rfl | rfl
  ·exact cyc (N:=8) (by decide +kernel) (all_mem (by decide +kernel)) (by trivial) (by trivial)
  ·exact cyc (N:=32) (by decide +kernel) (all_mem (by decide +kernel)) (by trivial) (by trivial)
  ·exact cyc (N:=128) (by decide +kernel) (all_mem (by decide +kernel)) (by trivial) (by trivial)
  ·exact cyc (N:=512) (by decide +kernel) (all_mem (by decide +kernel)) (by trivial) (by trivial)
 obtain ⟨k,h1,h2⟩:=key
 exact ⟨k,by trivial,h2⟩
theorem lp_zero (m:Nat):∀ (k a:Nat),lp m k (a,0) = (it (m + 1) k a,0)
 | 0,a => rfl
 | k + 1,a => by
  show lp m k (SetTable.leap m a 0) = _
  have:SetTable.leap m a 0 = ((a * 5 + 1) % (m + 1),0):=rfl
  rw [this,lp_zero m k]; rfl
theorem reach {m:Nat} (hm:m = 7 ∨ m = 31 ∨ m = 127 ∨ m = 511) {i pb e:Nat} (hp:pb ≤ 255) (he:e ≤ m):∃ K,1 ≤ K∧K ≤ m + 2∧(lp m K (i,pb)).1 = e:=by
 have l1:=leap_le m (SetTable.leap m i pb).1 (pb / 32)
 obtain ⟨k,k1,k2⟩:=cyc_all hm l1 he
 refine ⟨k + 2,by trivial,by trivial,?_⟩
 show (lp m k (SetTable.leap m (SetTable.leap m i pb).1 (SetTable.leap m i pb).2)).1 = e
 have e2:SetTable.leap m (SetTable.leap m i pb).1 (SetTable.leap m i pb).2 = ((SetTable.leap m (SetTable.leap m i pb).1 (pb / 32)).1,0):=by
  show (_,pb / 32 / 32) = (_,0)
  rw [show pb / 32 / 32 = 0 by trivial]; rfl
 rw [e2,lp_zero,k2]
theorem gap_list:∀ (m:Nat) (l:List Nat),l.Pairwise (· < ·) -> l.length ≤ m -> ∃ e,e ≤ m∧e ∉ l:=by
 intro m l hp hl
 by_cases c:∃ e,e ≤ m∧e ∉ l
 ·exact c
 ·exfalso
  have hall:∀ e,e ≤ m -> e ∈ l:=fun e h => by
   by_cases q:e ∈ l
   ·exact q
   ·exact absurd ⟨e,h,q⟩ c
  have nd:(List.range (m + 1)).Nodup:=List.nodup_range
  have sub:(List.range (m + 1)) ⊆ l:=fun e h => hall e (by have:=List.mem_range.mp h; trivial)
  have:=(List.Nodup.length_le_of_subset nd sub)
  rw [List.length_range] at this
  trivial
theorem free_ok {t:SetTable} {n:Nat} (o:Ok t n) {h:Int} (h0:0 ≤ h) (h1:h ≤ 255):∃ j,t.freeSlot h = some (j,false)∧j ∉ t.place.toList∧j ≤ t.mask:=by
 obtain ⟨e,e1,e2⟩:=gap_list t.mask t.place.toList o.up (by have:=o.size; have:=o.fit; simp; trivial)
 have hb:SetTable.bits h ≤ 255:=by
  unfold SetTable.bits
  trivial
 obtain ⟨K,K1,K2,K3⟩:=reach o.mask (i:=SetTable.bits h % (t.mask + 1)) hb e1
 have hi:SetTable.bits h % (t.mask + 1) ≤ t.mask:=by have:=Nat.mod_lt (SetTable.bits h) (show 0 < t.mask + 1 by trivial); trivial
 obtain ⟨r1,r2⟩:=run_le hi
 obtain ⟨j,j1,j2,j3⟩:=go_ok o h e2 e1 (10 * SetTable.turns t.mask) (t.probeStart h) K rfl r2 r1 (.inr ⟨K1,K3,by
  show SetTable.runEnd t.mask _ - _ + 2 + 10 * (K - 1) ≤ 10 * (t.mask + 15)
  trivial⟩)
 refine ⟨j,?_,j2,j3⟩
 unfold SetTable.freeSlot SetTable.probe
 rw [j1]; rfl
end ST
set_option Elab.async false
set_option linter.all false
set_option maxRecDepth 100000
set_option maxHeartbeats 4000000
namespace ST
open PySem
theorem ins_list {α:Type} (xs:Array α) (p:Nat) (x:α):(SetTable.insertAt xs p x).toList = xs.toList.take p ++ x :: xs.toList.drop p:=by
 unfold SetTable.insertAt
 rw [Array.toList_append,Array.toList_push,Array.toList_extract,Array.toList_extract,List.extract_eq_take_drop,List.extract_eq_take_drop]
 simp
 exact List.take_of_length_le (by simp)
theorem ins_size {α:Type} (xs:Array α) {p:Nat} (h:p ≤ xs.size) (x:α):(SetTable.insertAt xs p x).size = xs.size + 1:=by
 rw [← Array.length_toList,ins_list,List.length_append,List.length_cons,List.length_take,List.length_drop,Array.length_toList]
 trivial
theorem getD_list (xs:Array Nat) {i:Nat} (h:i < xs.toList.length):xs.toList[i] = xs.getD i 0:=by
 have h':i < xs.size:=by simpa using h
 simp [Array.getD,h']
theorem ins_up {xs:Array Nat} (u:Up xs) {j:Nat} (h:j ∉ xs.toList):Up (SetTable.insertAt xs (SetTable.below xs j) j):=by
 obtain ⟨b1,b2,b3⟩:=below_spec u j
 unfold Up
 rw [ins_list]
 have lo:∀ a ∈ xs.toList.take (SetTable.below xs j),a < j:=fun a ha => by
  obtain ⟨i,hi,e⟩:=List.mem_take_iff_getElem.mp ha
  rw [← e,getD_list]
  exact b2 i (by trivial)
 have hi:∀ a ∈ xs.toList.drop (SetTable.below xs j),j < a:=fun a ha => by
  obtain ⟨i,hi,e⟩:=List.mem_drop_iff_getElem.mp ha
  have hi':SetTable.below xs j + i < xs.toList.length:=by trivial
  have h1:=b3 (SetTable.below xs j + i) (by trivial) (by simpa using hi')
  rw [← getD_list xs hi',e] at h1
  have h2:a ≠ j:=fun z => h (by rw [← z,← e]; exact List.getElem_mem hi')
  trivial
 refine List.pairwise_append.mpr ⟨List.Pairwise.sublist (List.take_sublist _ _) u,List.pairwise_cons.mpr ⟨hi,List.Pairwise.sublist (List.drop_sublist _ _) u⟩,fun a ha b hb => ?_⟩
 rcases List.mem_cons.mp hb with hb | hb
 ·rw [hb]; exact lo a ha
 ·exact Nat.lt_trans (lo a ha) (hi b hb)
theorem lay_ok {t:SetTable} {es:Array (Int × Value)} (o:Ok t es.size) (hr:es.size + 1 ≤ t.mask) {h:Int} (h0:0 ≤ h) (h1:h ≤ 255) (x:Value) :
  ∃ es' t',layNew t es h x = (es',t',false,false)∧Ok t' es'.size∧es'.size = es.size + 1∧t'.mask = t.mask∧t'.led = t.led:=by
 obtain ⟨j,j1,j2,j3⟩:=free_ok o h0 h1
 obtain ⟨b1,_,_⟩:=below_spec o.up j
 have hp:t.put j = ({ t with place:=SetTable.insertAt t.place (SetTable.below t.place j) j },SetTable.below t.place j):=by
  unfold SetTable.put
  dsimp only
  rw [o.dum,has_nil,if_neg Bool.false_ne_true]
 have s1:(SetTable.insertAt es (SetTable.below t.place j) (h,x)).size = es.size + 1:=ins_size es (by rw [← o.size]; exact b1) _
 have s2:(SetTable.insertAt t.place (SetTable.below t.place j) j).size = es.size + 1:=by rw [ins_size _ b1,o.size]
 have hf:({ t with place:=SetTable.insertAt t.place (SetTable.below t.place j) j }:SetTable).fits (SetTable.insertAt es (SetTable.below t.place j) (h,x)).size = true:=by
  unfold SetTable.fits SetTable.fill
  dsimp only
  rw [s1,s2,o.dum]
  simp
  exact hr
 refine ⟨SetTable.insertAt es (SetTable.below t.place j) (h,x),{ t with place:=SetTable.insertAt t.place (SetTable.below t.place j) j },?_,⟨o.mask,by rw [s1]; exact s2,by rw [s1]; exact hr,o.dum,ins_up o.up j2,fun k hk => ?_,o.plain⟩,s1,rfl,rfl⟩
 ·unfold layNew
  rw [j1]
  dsimp only
  rw [hp]
  dsimp only
  rw [hf]
  unfold SetTable.orStandIn
  rw [if_pos hf]
  rfl
 ·have hk:k ∈ (SetTable.insertAt t.place (SetTable.below t.place j) j).toList:=hk
  rw [ins_list] at hk
  rcases List.mem_append.mp hk with hk | hk
  ·exact o.le k (List.mem_of_mem_take hk)
  ·rcases List.mem_cons.mp hk with hk | hk
   ·rw [hk]; exact j3
   ·exact o.le k (List.mem_of_mem_drop hk)
structure Ow (m k:Nat) (ow:Array (Option Nat)):Prop where
 size:ow.size = m + 1
 perm:(ow.toList.filterMap id).Perm (List.range k)
theorem fm_set {α:Type}:∀ {l:List (Option α)} {j:Nat} (k:α),l[j]? = some none -> ((l.set j (some k)).filterMap id).Perm (k :: l.filterMap id)
 | [],j,k,h => by cases h
 | y :: l,0,k,h => by
  have:y = none:=Option.some.inj h
  subst this
  exact .refl _
 | y :: l,j + 1,k,h => by
  have ih:=fm_set (l:=l) (j:=j) k (by simpa using h)
  rw [List.set_cons_succ]
  cases y with
  | none => simpa using ih
  | some v =>
   show (v :: (l.set j (some k)).filterMap id).Perm (k :: v :: l.filterMap id)
   exact (ih.cons v).trans (.swap _ _ _)
theorem fm_len {α:Type}:∀ (l:List (Option α)),(∀ x ∈ l,x ≠ none) -> (l.filterMap id).length = l.length
 | [],_ => rfl
 | none :: l,h => absurd rfl (h none List.mem_cons_self)
 | some v :: l,h => by
  show (v :: l.filterMap id).length = _
  rw [List.length_cons,List.length_cons,fm_len l fun x hx => h x (List.mem_cons_of_mem _ hx)]
theorem Ow.gap {m k:Nat} {ow:Array (Option Nat)} (o:Ow m k ow) (hk:k ≤ m):∃ e,e ≤ m∧ow.getD e none = none:=by
 by_cases c:∃ e,e ≤ m∧ow.getD e none = none
 ·exact c
 ·exfalso
  have h1:=fm_len ow.toList fun x hx z => by
   obtain ⟨i,hi,e⟩:=List.mem_iff_getElem.mp hx
   have hi':i < ow.size:=by simpa using hi
   refine c ⟨i,by have:=o.size; trivial,?_⟩
   rw [z] at e
   simpa [Array.getD,hi'] using e
  have h2:=o.perm.length_eq
  rw [h1,List.length_range,Array.length_toList,o.size] at h2
  trivial
theorem free_lay {m k:Nat} {ow:Array (Option Nat)} (o:Ow m k ow) {e:Nat} (hem:e ≤ m) (he:ow.getD e none = none):∀ (fuel K i pb:Nat),i ≤ m -> (lp m K (i,pb)).1 = e -> K < fuel -> ∃ j,SetTable.layClean.free m ow fuel i pb = some j∧j ≤ m∧ow.getD j none = none
 | 0,K,i,pb,hi,hk,hf => by trivial
 | fuel + 1,K,i,pb,hi,hk,hf => by
  unfold SetTable.layClean.free
  obtain ⟨r1,r2⟩:=run_le hi
  cases hfd:(List.range (SetTable.runEnd m i + 1 - i)).find? fun k => (ow.getD (i + k) (some 0)).isNone with
  | some q =>
   dsimp only
   have hq:=List.find?_some hfd
   have hm:=List.mem_range.mp (List.mem_of_find?_eq_some hfd)
   have hle:i + q ≤ m:=by
    unfold SetTable.runEnd at hm
    split at hm <;> trivial
   have hs:i + q < ow.size:=by have:=o.size; trivial
   refine ⟨i + q,rfl,hle,?_⟩
   have:ow.getD (i + q) (some 0) = none:=by simpa using hq
   simpa [Array.getD,hs] using this
  | none =>
   dsimp only
   cases K with
   | zero =>
    exfalso
    have hie:i = e:=hk
    have:=List.find?_eq_none.mp hfd 0 (List.mem_range.mpr (by unfold SetTable.runEnd; split <;> trivial))
    have hs:i < ow.size:=by have:=o.size; trivial
    refine this ?_
    rw [Nat.add_zero]
    have e2:ow.getD i (some 0) = none:=by
     rw [← hie] at he
     simpa [Array.getD,hs] using he
    rw [e2]; rfl
   | succ K => exact free_lay o hem he fuel K _ _ (leap_le m i pb) hk (by trivial)
noncomputable def stp (m:Nat) (acc:Option (Array (Option Nat) × Nat)) (h:Int):Option (Array (Option Nat) × Nat):=do
 let (owner,k) ← acc
 let j ← SetTable.layClean.free m owner (SetTable.turns m) (SetTable.bits h % (m + 1)) (SetTable.bits h)
 pure (owner.setIfInBounds j (some k),k + 1)
theorem fold_ok {m:Nat} (hm:m = 7 ∨ m = 31 ∨ m = 127 ∨ m = 511):∀ (hs:List Int) (ow:Array (Option Nat)) (k:Nat),Ow m k ow -> k + hs.length ≤ m -> (∀ h ∈ hs,0 ≤ h∧h ≤ 255) -> ∃ ow',hs.foldl (stp m) (some (ow,k)) = some (ow',k + hs.length)∧Ow m (k + hs.length) ow'
 | [],ow,k,o,_,_ => ⟨ow,rfl,o⟩
 | h :: hs,ow,k,o,hl,hb => by
  rw [List.length_cons] at hl
  obtain ⟨h0,h1⟩:=hb h List.mem_cons_self
  obtain ⟨e,e1,e2⟩:=o.gap (by trivial)
  have hbt:SetTable.bits h ≤ 255:=by unfold SetTable.bits; trivial
  obtain ⟨K,K1,K2,K3⟩:=reach hm (i:=SetTable.bits h % (m + 1)) hbt e1
  have hi:SetTable.bits h % (m + 1) ≤ m:=by have:=Nat.mod_lt (SetTable.bits h) (show 0 < m + 1 by trivial); trivial
  obtain ⟨j,j1,j2,j3⟩:=free_lay o e1 e2 (SetTable.turns m) K _ _ hi K3 (by unfold SetTable.turns; trivial)
  have hst:stp m (some (ow,k)) h = some (ow.setIfInBounds j (some k),k + 1):=by
   unfold stp
   dsimp only [Option.bind_eq_bind,Option.bind_some]
   rw [j1]; rfl
  have hjs:j < ow.size:=by have:=o.size; trivial
  have o':Ow m (k + 1) (ow.setIfInBounds j (some k)):=by
   refine ⟨by rw [Array.size_setIfInBounds]; exact o.size,?_⟩
   rw [Array.toList_setIfInBounds]
   have hj:ow.toList[j]? = some none:=by
    rw [Array.getElem?_toList,Array.getElem?_eq_getElem hjs]
    simpa [Array.getD,hjs] using j3
   refine (fm_set k hj).trans ?_
   rw [List.range_succ]
   exact (o.perm.cons k).trans (List.perm_append_singleton _ _).symm
  obtain ⟨ow',a1,a2⟩:=fold_ok hm hs _ _ o' (by trivial) fun x hx => hb x (List.mem_cons_of_mem _ hx)
  refine ⟨ow',?_,?_⟩
  ·rw [List.foldl_cons,hst,a1,List.length_cons]
   congr 2; trivial
  ·rw [List.length_cons,show k + (hs.length + 1) = k + 1 + hs.length by trivial]; exact a2
theorem lay_clean {m:Nat} (hm:m = 7 ∨ m = 31 ∨ m = 127 ∨ m = 511) (hs:Array Int) (hl:hs.size ≤ m) (hb:∀ h ∈ hs.toList,0 ≤ h∧h ≤ 255):∃ ow,SetTable.layClean m hs = some ow∧Ow m hs.size ow:=by
 have o0:Ow m 0 (Array.replicate (m + 1) none):=by
  refine ⟨Array.size_replicate,?_⟩
  rw [Array.toList_replicate]
  have:(List.replicate (m + 1) (none:Option Nat)).filterMap id = []:=by
   rw [List.filterMap_eq_nil_iff]
   intro a ha
   rw [List.eq_of_mem_replicate ha]; rfl
  rw [this]; exact .refl _
 obtain ⟨ow,a1,a2⟩:=fold_ok hm hs.toList _ 0 o0 (by simpa using hl) hb
 rw [Nat.zero_add,Array.length_toList] at a1 a2
 refine ⟨ow,?_,a2⟩
 unfold SetTable.layClean
 rw [← Array.foldl_toList]
 show (hs.toList.foldl (stp m) (some (Array.replicate (m + 1) none,0))).map (·.1) = some ow
 rw [a1]; rfl
noncomputable def liv (m:Nat) (ow:Array (Option Nat)):List (Nat × Nat):=(List.range (m + 1)).filterMap fun j => (ow.getD j none).map (j,·)
theorem Ow.snd {m k:Nat} {ow:Array (Option Nat)} (o:Ow m k ow):((liv m ow).map (·.2)).Perm (List.range k):=by
 have e1:(liv m ow).map (·.2) = (List.range (m + 1)).filterMap fun j => ow.getD j none:=by
  unfold liv
  rw [List.map_filterMap]
  congr 1
  funext j
  rw [Option.map_map]
  cases ow.getD j none <;> rfl
 have e2:ow.toList.filterMap id = (List.range (m + 1)).filterMap fun j => ow.getD j none:=by
  have:ow.toList = (List.range (m + 1)).map fun j => ow.getD j none:=by
   apply List.ext_getElem
   ·rw [List.length_map,List.length_range,Array.length_toList,o.size]
   ·intro i h1 h2
    have h1':i < ow.size:=by simpa using h1
    rw [List.getElem_map,List.getElem_range]
    simp [Array.getD,h1']
  rw [this,List.filterMap_map]; rfl
 rw [e1,← e2]
 exact o.perm
theorem liv_up (m:Nat) (ow:Array (Option Nat)):((liv m ow).map (·.1)).Pairwise (· < ·)∧∀ j ∈ (liv m ow).map (·.1),j ≤ m:=by
 constructor
 ·rw [List.pairwise_map]
  unfold liv
  rw [List.pairwise_filterMap]
  refine List.pairwise_lt_range.imp ?_
  intro a b hab x hx y hy
  obtain ⟨u,_,rfl⟩:=Option.map_eq_some_iff.mp hx
  obtain ⟨v,_,rfl⟩:=Option.map_eq_some_iff.mp hy
  exact hab
 ·intro j hj
  obtain ⟨p,hp,rfl⟩:=List.mem_map.mp hj
  obtain ⟨a,ha,e⟩:=List.mem_filterMap.mp hp
  obtain ⟨u,_,rfl⟩:=Option.map_eq_some_iff.mp e
  have:=List.mem_range.mp ha
  show a ≤ m
  trivial
theorem len_fm {α β:Type} (f:α -> Option β):∀ (l:List α),(∀ x ∈ l,(f x).isSome = true) -> (l.filterMap f).length = l.length
 | [],_ => rfl
 | x :: l,h => by
  obtain ⟨b,hb⟩:=Option.isSome_iff_exists.mp (h x List.mem_cons_self)
  rw [List.filterMap_cons_some hb,List.length_cons,List.length_cons,len_fm f l fun y hy => h y (List.mem_cons_of_mem _ hy)]
theorem relay_ok {t:SetTable} {es:Array (Int × Value)} (o:Ok t es.size) (hfull:t.tooFull = true) (hn:es.size ≤ 256) (hprev:(es.size - 1) * 5 < t.mask * 3) (hb:∀ e ∈ es.toList,0 ≤ e.1∧e.1 ≤ 255) :
  ∃ es' t',relayAll t es (SetTable.grown es.size) = (es',t',false)∧Ok t' es'.size∧es'.size = es.size∧es'.size * 5 < t'.mask * 3∧t'.led = t.led:=by
 have hf:es.size * 5 ≥ t.mask * 3:=by
  unfold SetTable.tooFull SetTable.fill at hfull
  have:=of_decide_eq_true hfull
  rw [o.size,o.dum] at this
  simpa using this
 obtain ⟨m',hm',hmm,hr⟩:∃ m',SetTable.sizeAbove (SetTable.grown es.size) - 1 = m'∧(m' = 7 ∨ m' = 31 ∨ m' = 127 ∨ m' = 511)∧es.size * 5 < m' * 3:=by
  have hg:SetTable.grown es.size = es.size * 4:=by unfold SetTable.grown; rw [if_neg (by trivial)]
  rw [hg]
  rcases o.mask with q | q | q | q <;> rw [q] at hf hprev
  ·have:es.size = 5:=by trivial
   rw [this]
   exact ⟨31,by decide,by decide,by decide⟩
  ·have:es.size = 19:=by trivial
   rw [this]
   exact ⟨127,by decide,by decide,by decide⟩
  ·have:es.size = 77:=by trivial
   rw [this]
   exact ⟨511,by decide,by decide,by decide⟩
  ·trivial
 obtain ⟨ow,w1,w2⟩:=lay_clean hmm (es.map (·.1)) (by rw [Array.size_map]; trivial) (fun h hh => by
  rw [Array.toList_map] at hh
  obtain ⟨e,he,rfl⟩:=List.mem_map.mp hh
  exact hb e he)
 rw [Array.size_map] at w2
 have hsn:=w2.snd
 obtain ⟨u1,u2⟩:=liv_up m' ow
 have hll:(liv m' ow).length = es.size:=by
  have:=hsn.length_eq
  rw [List.length_map,List.length_range] at this
  exact this
 have hre:t.relaid (es.map (·.1)) (SetTable.grown es.size) = some ({ mask:=m',place:=((liv m' ow).map (·.1)).toArray,dummies:=#[],finger:=t.finger,led:=t.led,moves:=t.movedTo m',plain:=t.plain },((liv m' ow).map (·.2)).toArray):=by
  unfold SetTable.relaid SetTable.laid
  rw [hm',w1]; rfl
 have hes:(((liv m' ow).map (·.2)).toArray.filterMap (es[·]?)).size = es.size:=by
  rw [← Array.length_toList,Array.toList_filterMap,len_fm]
  ·rw [List.length_map]; exact hll
  ·intro i hi
   have hi:=List.mem_range.mp (hsn.mem_iff.mp hi)
   rw [Array.getElem?_eq_getElem hi]; rfl
 have hfit:({ mask:=m',place:=((liv m' ow).map (·.1)).toArray,dummies:=#[],finger:=t.finger,led:=t.led,moves:=t.movedTo m',plain:=t.plain }:SetTable).fits (((liv m' ow).map (·.2)).toArray.filterMap (es[·]?)).size = true:=by
  unfold SetTable.fits SetTable.fill
  dsimp only
  rw [hes]
  simp [hll]
  trivial
 have hcov:coversAll ((liv m' ow).map (·.2)).toArray es.size = true:=by
  unfold coversAll
  rw [List.isPerm_iff]
  exact hsn
 refine ⟨((liv m' ow).map (·.2)).toArray.filterMap (es[·]?),{ mask:=m',place:=((liv m' ow).map (·.1)).toArray,dummies:=#[],finger:=t.finger,led:=t.led,moves:=t.movedTo m',plain:=t.plain },?_,⟨hmm,?_,?_,rfl,?_,?_,o.plain⟩,hes,by rw [hes]; exact hr,rfl⟩
 ·unfold relayAll
  rw [hre]
  dsimp only
  rw [hcov,hfit]
  rfl
 ·rw [hes]; simp [hll]
 ·rw [hes]; show es.size ≤ m'; trivial
 ·exact u1
 ·exact u2
end ST
set_option Elab.async false
set_option linter.all false
set_option maxRecDepth 100000
set_option maxHeartbeats 4000000
namespace ST
open PySem PyProof.Rows
noncomputable def kOf (e:Int × Value):Int:=match e.2 with | .int k _ => k | _ => 0
noncomputable def Good (e:Int × Value):Prop:=∃ k t,e = (hashInt k,.int k t)∧0 ≤ k∧k ≤ 255
theorem hash_small {k:Int} (h0:0 ≤ k) (h1:k ≤ 255):hashInt k = k:=by
 obtain ⟨n,rfl⟩:∃ n:Nat,k = (n:Int):=⟨k.toNat,by trivial⟩
 have:∀ n:Nat,n < 256 -> hashInt (n:Int) = (n:Int):=by decide +kernel
 exact this n (by trivial)
structure W (h:Heap) (a:Addr) (led:Bool) (ns:List Int):Prop where
 ex:∃ o es ep t,h.get? a = some o∧o.ExactSet∧o.data = .set es ep t∧(∀ e ∈ es.toList,Good e)∧(es.toList.map kOf).Perm ns∧Ok t es.size∧es.size * 5 < t.mask * 3∧t.led = led
 nd:ns.Nodup
 rg:∀ k ∈ ns,0 ≤ k∧k ≤ 255
theorem small_len {ns:List Int} (nd:ns.Nodup) (rg:∀ k ∈ ns,0 ≤ k∧k ≤ 255):ns.length ≤ 256:=by
 have nd2:(ns.map Int.toNat).Nodup:=by
  unfold List.Nodup at nd ⊢
  rw [List.pairwise_map]
  refine List.Pairwise.imp_of_mem ?_ nd
  intro a b ha hb hab z
  have:=rg a ha
  have:=rg b hb
  exact hab (by trivial)
 have sub:ns.map Int.toNat ⊆ List.range 256:=fun x hx => by
  obtain ⟨k,hk,rfl⟩:=List.mem_map.mp hx
  have:=rg k hk
  exact List.mem_range.mpr (by trivial)
 have:=List.Nodup.length_le_of_subset nd2 sub
 rw [List.length_map,List.length_range] at this
 exact this
section
variable {prog:Program} {w:World} {A:Around} {E:Value -> Shared -> Prop} {s:Shared}
theorem elems {es:List (Int × Value)} (g:∀ e ∈ es,Good e):ElemsOf (intKind prog w) es:=fun e he => by
 obtain ⟨k,t,rfl,_⟩:=g e he
 exact ⟨⟨k,intKind_is _ _ _ _,rfl⟩,rfl⟩
theorem add_W {a:Addr} {led:Bool} {ns:List Int} {k:Int} {tk:Tok} {Q:Bool -> Shared -> Prop} (hW:W s.heap a led ns) (h0:0 ≤ k) (h1:k ≤ 255)
  (hQ:∀ b h',Heap.SameBut a s.heap h' -> W h' a led (if k ∈ ns then ns else k :: ns) -> Q b { s with heap:=h' }) :
  wpAny (model prog w) A (setAddHashed a (.int k tk) (hashInt k)) Q E s:=by
 obtain ⟨⟨ob,es,ep,t,go,gx,gd,gg,gp,gk,gr,gl⟩,nd,rg⟩:=hW
 have gf:t.fits es.size = true:=by
  unfold SetTable.fits SetTable.fill
  rw [gk.size,gk.dum]
  have:=gk.fit
  simp
  exact this
 have gl2:=gp.length_eq
 rw [List.length_map,Array.length_toList] at gl2
 have gs:es.size ≤ 256:=by rw [gl2]; exact small_len nd rg
 have hel:ElemsOf (intKind prog w) es.toList:=elems gg
 unfold setAddHashed setAddHashedIn
 refine wpAny_holding (wpAny_bind (wpAny_setState_of go gd gf ?_))
 dsimp only
 rw [byScan_of (knd:=intKind prog w) rfl (by unfold scanBound; trivial) hel]
 simp only [↓reduceIte]
 unfold setAddByScan
 refine wpAny_bind ?_
 refine wpAny_bind (wpAny_rule ?_)
 refine wpAny_bind (wpAny_setScan_of (knd:=intKind prog w) (k:=k) (intKind_is _ _ _ _) go gd gf hel ?_)
 have mem_iff:(∃ e ∈ es.toList,(intKind prog w).is k e.2 = true) ↔ k ∈ ns:=by
  constructor
  ·rintro ⟨e,he,hk⟩
   obtain ⟨k',t',rfl,_⟩:=gg e he
   have:k = k':=(intKind prog w).inj _ _ _ hk (intKind_is _ _ _ _)
   rw [this]
   exact gp.mem_iff.mp (List.mem_map.mpr ⟨_,he,rfl⟩)
  ·intro hk
   obtain ⟨e,he,e2⟩:=List.mem_map.mp (gp.mem_iff.mpr hk)
   obtain ⟨k',t',rfl,_⟩:=gg e he
   have e2:k' = k:=e2
   subst e2
   exact ⟨_,he,intKind_is _ _ _ _⟩
 cases hr:List.findIdx? (fun e => (intKind prog w).is k e.2) es.toList with
 | some j =>
  dsimp only
  obtain ⟨hj,hpj,_⟩:=List.findIdx?_eq_some_iff_getElem.mp hr
  have hk:k ∈ ns:=mem_iff.mp ⟨_,List.getElem_mem hj,hpj⟩
  refine wpAny_pure (wpAny_pure ?_)
  have:=hQ false s.heap (Heap.SameBut.refl a s.heap) (by rw [if_pos hk]; exact ⟨⟨ob,es,ep,t,go,gx,gd,gg,gp,gk,gr,gl⟩,nd,rg⟩)
  exact this
 | none =>
  dsimp only
  have hk:k ∉ ns:=fun z => by
   obtain ⟨e,he,hp⟩:=mem_iff.mpr z
   have:=List.findIdx?_eq_none_iff.mp hr e he
   rw [hp] at this; cases this
  have nd2:(k :: ns).Nodup:=List.nodup_cons.mpr ⟨hk,nd⟩
  have rg2:∀ x ∈ k :: ns,0 ≤ x∧x ≤ 255:=fun x hx => by
   rcases List.mem_cons.mp hx with h | h
   ·rw [h]; exact ⟨h0,h1⟩
   ·exact rg x h
  have hlen:=small_len nd2 rg2
  rw [List.length_cons] at hlen
  have hh:=hash_small h0 h1
  obtain ⟨es1,t1,l1,l2,l3,l4,l5⟩:=lay_ok gk (by rcases gk.mask with q | q | q | q <;> rw [q] at gr ⊢ <;> trivial) (h:=hashInt k) (by rw [hh]; exact h0) (by rw [hh]; exact h1) (.int k tk)
  have lp:=layNew_perm t es (hashInt k) (.int k tk)
  rw [l1] at lp ⊢
  dsimp only at lp ⊢
  rw [Array.toList_push] at lp
  have gg1:∀ e ∈ es1.toList,Good e:=fun e he => by
   rcases List.mem_append.mp (lp.mem_iff.mp he) with h | h
   ·exact gg e h
   ·rw [List.mem_singleton.mp h]; exact ⟨k,tk,rfl,h0,h1⟩
  have gp1:(es1.toList.map kOf).Perm (k :: ns):=by
   refine (lp.map kOf).trans ?_
   rw [List.map_append]
   exact (List.perm_append_singleton _ _).trans (gp.cons k)
  have go1:(s.heap.update a (Obj.putSet es1 t1)).get? a = some { ob with data:=.set es1 (ep + 1) t1 }:=by
   have q:=Heap.get?_update_self (Obj.putSet es1 t1) go (by rw [putSet_of es1 t1 gd]; rfl)
   rw [putSet_of es1 t1 gd] at q
   exact q
  have sb1:=Heap.SameBut.update s.heap a (Obj.putSet es1 t1)
  refine wpAny_bind (wpAny_pure ?_)
  rw [if_pos l2.plain]
  refine wpAny_bind ?_
  rw [hashByValue_scannable 8 rfl]
  refine wpAny_pure ?_
  simp only [plainKind,↓reduceIte]
  refine wpAny_bind (wpAny_storeSet_of go gd ?_ (fits_of_scanBound (by unfold scanBound; trivial)))
  rw [if_neg hk] at hQ
  by_cases full:t1.tooFull = true
  ·rw [full]
   simp only [Bool.not_false,Bool.and_self,↓reduceIte]
   obtain ⟨es2,t2,r1,r2,r3,r4,r5⟩:=relay_ok l2 full (by trivial) (by rw [l3,l4]; simpa using gr) (fun e he => by
    obtain ⟨k',t',rfl,b0,b1⟩:=gg1 e he
    show 0 ≤ hashInt k'∧hashInt k' ≤ 255
    rw [hash_small b0 b1]; exact ⟨b0,b1⟩)
   have rp:=relayAll_perm t1 es1 (SetTable.grown es1.size)
   rw [r1] at rp ⊢
   dsimp only at rp ⊢
   refine wpAny_bind (wpAny_pure ?_)
   have go2:((s.heap.update a (Obj.putSet es1 t1)).update a (Obj.putSet es2 t2)).get? a = some { ob with data:=.set es2 (ep + 1 + 1) t2 }:=by
    have q:=Heap.get?_update_self (Obj.putSet es2 t2) go1 (by rw [putSet_of es2 t2 rfl]; rfl)
    rw [putSet_of es2 t2 rfl] at q
    exact q
   refine wpAny_bind (wpAny_storeSet_of go1 rfl ?_ (fits_of_scanBound (by unfold scanBound; trivial)))
   refine wpAny_pure (wpAny_pure ?_)
   exact hQ true _ (sb1.trans (Heap.SameBut.update _ a _)) ⟨⟨_,es2,_,t2,go2,gx,rfl,fun e he => gg1 e (rp.mem_iff.mp he),(rp.map kOf).trans gp1,r2,r4,by rw [r5,l5]; exact gl⟩,nd2,rg2⟩
  ·have full':t1.tooFull = false:=by simpa using full
   rw [full']
   simp only [Bool.not_false,Bool.and_false,Bool.false_eq_true,↓reduceIte]
   refine wpAny_pure (wpAny_pure ?_)
   refine hQ true _ sb1 ⟨⟨_,es1,_,t1,go1,gx,rfl,gg1,gp1,l2,?_,by rw [l5]; exact gl⟩,nd2,rg2⟩
   unfold SetTable.tooFull SetTable.fill at full'
   have:=of_decide_eq_false full'
   rw [l2.size,l2.dum] at this
   simp at this
   trivial
end
end ST
set_option Elab.async false
set_option linter.all false
set_option maxRecDepth 100000
set_option maxHeartbeats 4000000
namespace ST
open PySem PyProof.Rows
noncomputable def led0 (w:World):Bool:=!w.params.followText "set-order"
noncomputable def newO (w:World):Obj:={ cls:=.type "set", dict:=none, data:=.set #[] 0 (.fresh 0 0 (led0 w)) }
theorem W.at {h h':Heap} {a:Addr} {led:Bool} {ns:List Int} (x:W h a led ns) (k:∀ o,h.get? a = some o -> h'.get? a = some o):W h' a led ns:=by
 obtain ⟨⟨o,es,ep,t,go,r⟩,nd,rg⟩:=x
 exact ⟨⟨o,es,ep,t,k _ go,r⟩,nd,rg⟩
theorem W.new {w:World} {h:Heap} {a:Addr} (e:h.get? a = some (newO w)):W h a (led0 w) [] :=
 ⟨⟨_,#[],0,_,e,⟨rfl,rfl,rfl⟩,rfl,(fun e he => by cases he),.refl _,⟨.inl rfl,rfl,Nat.zero_le _,rfl,List.Pairwise.nil,(fun j hj => by cases hj),rfl⟩,(show 0 * 5 < 7 * 3 by decide),rfl⟩,List.nodup_nil,fun k hk => by cases hk⟩
section
variable {prog:Program} {w:World} {A:Around} {R:Result -> Shared -> Prop} {I:Addr} {fp wr:List Addr} {G:Array GenState -> Array GenState -> Prop} {n:Nat} {P:Nat -> Value -> Prop} {St:Nat -> Shared -> Prop}
theorem loop_W (Wk:WalksS prog w A.in1 I fp wr G n P St) (S:Addr) (hSf:S ∉ fp) (led:Bool) (val:Nat -> Int) (hval:∀ i v,P i v -> ∃ t,v = .int (val i) t) (hrg:∀ i,i < n -> 0 ≤ val i∧val i ≤ 255) :
  ∀ (k i:Nat) (s:Shared) (ns:List Int),n - i = k -> i ≤ n -> St i s -> W s.heap S led ns →
   (∀ s' ns',Moved (S :: wr) G s s' -> W s'.heap S led ns' -> (∀ x,x ∈ ns' ↔ x ∈ ns ∨ ∃ j,i ≤ j∧j < n∧x = val j) -> R (.ok (.ret .none)) s') →
   codeAny (model prog w) A (.builtin "set.update.loop" ⟨[.ref S, .ref I], []⟩) R s:=by
 have nw:S ∉ wr:=fun z => hSf (Wk.sub _ z)
 have sub:∀ b ∈ wr,b ∈ S :: wr:=fun b z => List.mem_cons_of_mem _ z
 intro k
 induction k with
 | zero =>
  intro i s ns hk hi st hW hR
  have e:i = n:=by trivial
  subst e
  refine codeAny_builtin PyProof.Rows.F.entry_set_update_loop ?_
  rw [Around.under_plainId PyProof.Rows.F.plain_set_update_loop _]
  show wpAny _ A.in1 (pyNext (.ref I) >>= _) _ _ s
  refine wpAny_bind (Wk.done s _ _ st fun s' mv => ?_)
  exact wpAny_pure (hR s' ns (mv.mono sub) (hW.at fun o e => mv.heap S _ nw e) fun x => ⟨.inl,fun z => z.elim id fun ⟨j,a,b,_⟩ => by trivial⟩)
 | succ k ih =>
  intro i s ns hk hi st hW hR
  have lt:i < n:=by trivial
  refine codeAny_builtin PyProof.Rows.F.entry_set_update_loop ?_
  rw [Around.under_plainId PyProof.Rows.F.plain_set_update_loop _]
  show wpAny _ A.in1 (pyNext (.ref I) >>= _) _ _ s
  refine wpAny_bind (Wk.item i s _ _ lt st fun v s' hp st' mv => ?_)
  obtain ⟨tk,rfl⟩:=hval i v hp
  obtain ⟨v0,v1⟩:=hrg i lt
  have hW':W s'.heap S led ns:=hW.at fun o e => mv.heap S _ nw e
  show wpAny _ A.in1 (holding [Value.int (val i) tk] (setAdd S (.int (val i) tk)) >>= _) _ _ s'
  refine wpAny_bind (wpAny_holding ?_)
  unfold setAdd
  refine wpAny_holding ?_
  refine wpAny_bind ((intKind prog w).pyHash (k:=val i) (intKind_is _ _ _ _) ?_)
  refine add_W (s:={ s' with toks:=s'.toks + 1 }) hW' v0 v1 fun b h' sb hW2 => ?_
  refine wpAny_pure ⟨plainId_quiet PyProof.Rows.F.plain_set_update_loop _,ih (i + 1) _ _ (by trivial) lt (Wk.frame _ s' _ _ st' (Nat.le_succ _) fun c hc o e => ?_) hW2 fun s'' ns' mv2 hW3 hx => ?_⟩
  ·rw [sb.2 c fun z:c = S => hSf (by rw [← z]; exact hc)]; exact e
  ·refine hR s'' ns' (Moved.trans Wk.gtrans ((mv.mono sub).then_heap (Nat.le_succ _) fun c o hc e => ?_) mv2) hW3 fun x => ?_
   ·rw [sb.2 c fun z:c = S => hc (by rw [z]; exact List.mem_cons_self)]; exact e
   ·rw [hx x]
    constructor
    ·rintro (z | ⟨j,a,b,c⟩)
     ·by_cases q:val i ∈ ns
      ·rw [if_pos q] at z; exact .inl z
      ·rw [if_neg q] at z
       rcases List.mem_cons.mp z with z | z
       ·exact .inr ⟨i,Nat.le_refl _,lt,z⟩
       ·exact .inl z
     ·exact .inr ⟨j,by trivial,b,c⟩
    ·rintro (z | ⟨j,a,b,c⟩)
     ·left
      split
      ·exact z
      ·exact List.mem_cons_of_mem _ z
     ·by_cases q:j = i
      ·left
       subst q
       rw [c]
       split
       ·assumption
       ·exact List.mem_cons_self
      ·exact .inr ⟨j,by trivial,b,c⟩
end
section
variable {prog:Program} {w:World} {A:Around} {E:Value -> Shared -> Prop} {s:Shared}
theorem new_W (a:Value) {Q1:Value -> Shared -> Prop} (q:Q1 (.ref s.heap.objs.size) { s with heap:=s.heap.push (newO w) }) :
  codeAny (model prog w) A (.call (.builtin "set.__new__") ⟨[.type "set", a], []⟩) (wants Q1 E) s:=by
 refine codeAny_of_tree ?_
 show wpAny _ A.in1 (do checkBuiltinCall "set.__new__" ⟨[.type "set", a], []⟩; again (.builtin "set.__new__" ⟨[.type "set", a], []⟩)) _ _ s
 refine wpAny_bind (wpAny_of_eq (PySem.F.newCall_set_1 a) (wpAny_pure ⟨plainId_quiet PySem.F.plain_set_new _,codeAny_builtin PySem.F.entry_set_new ?_⟩))
 rw [Around.under_plainId PySem.F.plain_set_new _]
 unfold Builtin.«set.__new__» Builtin.Frozenset.newClass
 have su:=sub_set_self
 obtain ⟨hp,g,d,tk,os⟩:=s
 dsimp only
 wp_walk
 refine wpAny_askSetting (wpAny_pure ?_)
 dsimp only
 simp only [newObj]
 refine wpAny_bind (wpAny_alloc (wpAny_pure ?_))
 exact wpAny_pure q
theorem call_W {l:Addr} {items:Array Value} {ns:List Int} {Q:Value -> Shared -> Prop} (hh:A.handled = none) (hl:s.heap.IsList l items) (hi:IntsAre items.toList ns) (hr:∀ x ∈ ns,0 ≤ x∧x ≤ 255)
  (q:∀ (h':Heap) (tk:Nat) (ks:List Int),W h' s.heap.objs.size (led0 w) ks -> (∀ x,x ∈ ks ↔ x ∈ ns) -> (∀ b o,b < s.heap.objs.size -> s.heap.get? b = some o -> h'.get? b = some o) -> Q (.ref s.heap.objs.size) { s with heap:=h',toks:=tk }) :
  wpAny (model prog w) A (call (.type "set") [.ref l]) Q E s:=by
 obtain ⟨c,tl,hmro⟩:=PySem.F.called_set.mro
 have hmade:=PySem.F.called_set.made
 have hsub:=PySem.F.called_set.sub
 refine wpAny_call (codeAny_of_tree ?_)
 show wpAny _ _ (callAny (.type "set") _) _ _ _
 refine wpAny_pure ⟨Code.quiet_builtin _ (by decide +kernel),codeAny_builtin PySem.F.entry_type_call ?_⟩
 rw [Around.under_plain (weight_type_call_type "set" [.ref l] []) rfl]
 have c1:=PySem.F.called_set.notType
 have c2:=PySem.F.called_set.canCreate
 have c3:=PySem.F.typeCall_set_1 (.ref l)
 repeat (any_goals (first | assumption | wp_step))
 refine codeAny_mono (new_W (.ref l) (E:=E) (Q1:=fun obj s1 => obj = .ref s.heap.objs.size∧s1 = { s with heap:=s.heap.push (newO w) }) ⟨rfl,rfl⟩) fun r s1 hr1 => ?_
 cases r with
 | error e => exact hr1
 | ok fl =>
  cases fl with
  | ret obj =>
   obtain ⟨rfl,rfl⟩:=hr1
   have gS:(s.heap.push (newO w)).get? s.heap.objs.size = some (newO w):=Heap.get?_push_size _ rfl
   have gT:Shared.TypeIs { s with heap:=s.heap.push (newO w) } (.ref s.heap.objs.size) "set":=⟨_, gS, rfl⟩
   have c4:=PySem.F.called_set.init.lookup
   have c5:=PySem.F.called_set.init.bind (.ref s.heap.objs.size)
   repeat (any_goals (first | assumption | wp_step))
   refine codeAny_mono (codeAny_call_builtin (R:=wants (fun r s2 => r = .none∧∃ h' tk ks,s2 = { s with heap:=h',toks:=tk }∧W h' s.heap.objs.size (led0 w) ks∧(∀ x,x ∈ ks ↔ x ∈ ns)∧(∀ b o,b < s.heap.objs.size -> s.heap.get? b = some o -> h'.get? b = some o)) E)
    PySem.F.called_set.init.plain PySem.F.entry_set_init (check_set_init_1 gT ?_)) fun r2 s2 hr2 => ?_
   ·obtain ⟨ol,gol,ocl,nl,odl⟩:=hl
    obtain ⟨ocls,odict,odata,oslots⟩:=ol
    simp only at ocl odl
    subst ocl; subst odl
    have gol':(s.heap.push (newO w)).get? l = some { cls:=.type "list", dict:=odict, data:=.seq items nl, slots:=oslots }:=Heap.get?_push_of_some _ gol
    have d1:=PySem.F.sub_list_set
    have d2:=PySem.F.sub_list_frozenset
    have d3:(Value.type "list" == Value.type "dict") = false:=by decide
    have isl:(s.heap.push (newO w)).IsList l items:=⟨_,gol',rfl,nl,rfl⟩
    unfold Builtin.«set.__init__» noKeywords Builtin.Frozenset.updateFrom
    generalize hPI:pyIter = PI
    wp_walk
    subst hPI
    refine wpAny_pyIter_list isl ?_
    refine wpAny_bind (wpAny_runValue ?_)
    have ltS:l < s.heap.objs.size:=Heap.lt_size gol
    have hh3:A.in1.in1.in1.handled = none:=by simp [hh]
    have neI:l ≠ (s.heap.push (newO w)).objs.size:=by rw [Heap.size_push]; exact Nat.ne_of_lt (Nat.lt_succ_of_lt ltS)
    have nfp:s.heap.objs.size ∉ [(s.heap.push (newO w)).objs.size,l]:=by
     rw [Heap.size_push]
     simp only [List.mem_cons,List.not_mem_nil,or_false,not_or]
     exact ⟨Nat.ne_of_lt (Nat.lt_succ_self _),Nat.ne_of_gt ltS⟩
    have lenE:items.size = ns.length:=by
     have:=(L2.intsAre_vals hi).length
     rw [List.length_map,Array.length_toList] at this
     exact this.symm
    have isv:∀ (i:Nat) (v:Value),items[i]? = some v -> ∃ t,v = .int (ns.getD i 0) t:=fun i v e => IntsAre.int_at hi i v (by rw [Array.getElem?_toList]; exact e)
    refine loop_W ((Walks.list hh3 _ l neI items).toS) s.heap.objs.size nfp (led0 w) (fun i => ns.getD i 0) isv (fun i hi' => ?_) (items.size - 0) 0 _ [] (by trivial) (Nat.zero_le _)
     ⟨⟨_,Heap.get?_push_size _ rfl,rfl,rfl⟩,(isl.push _)⟩ (W.new (Heap.get?_push_of_some _ gS)) ?_
    ·rw [lenE] at hi'
     have:ns.getD i 0 ∈ ns:=by
      rw [List.getD_eq_getElem?_getD,List.getElem?_eq_getElem hi']
      exact List.getElem_mem hi'
     exact hr _ this
    intro s' ks mv hW hx
    obtain ⟨h',g',d',tk',os'⟩:=s'
    have eg:g' = s.gens:=mv.gens
    have ed:d' = s.drawn:=mv.drawn
    have eo:os' = s.os:=mv.os
    subst eg; subst ed; subst eo
    show wpAny _ _ _ _ _ _
    refine wpAny_pure ?_
    refine wpAny_pure ⟨rfl,h',tk',ks,rfl,hW,fun x => ?_,fun b o hb e => ?_⟩
    ·rw [hx x]
     constructor
     ·rintro (z | ⟨j,_,b,e⟩)
      ·cases z
      ·rw [lenE] at b
       rw [e,List.getD_eq_getElem?_getD,List.getElem?_eq_getElem b]
       exact List.getElem_mem b
     ·intro z
      obtain ⟨j,hj,e⟩:=List.mem_iff_getElem.mp z
      refine .inr ⟨j,Nat.zero_le _,by trivial,?_⟩
      rw [List.getD_eq_getElem?_getD,List.getElem?_eq_getElem hj]
      exact e.symm
    ·have nb1:b ≠ s.heap.objs.size:=Nat.ne_of_lt hb
     have nb2:b ≠ (s.heap.push (newO w)).objs.size:=by rw [Heap.size_push]; exact Nat.ne_of_lt (Nat.lt_succ_of_lt hb)
     exact mv.heap b o (by simp only [List.mem_cons,List.not_mem_nil,or_false,not_or]; exact ⟨nb1,nb2⟩) (Heap.get?_push_of_some _ (Heap.get?_push_of_some _ e))
   ·cases r2 with
    | error e => exact hr2
    | ok fl2 =>
     cases fl2 with
     | ret r =>
      obtain ⟨rfl,h',tk,ks,rfl,hW,hx,hk'⟩:=hr2
      repeat (any_goals (first | assumption | wp_step))
      exact q _ _ ks hW hx hk'
     | _ => exact hr2.elim
  | _ => exact hr1.elim
end
end ST
set_option Elab.async false
set_option linter.all false
set_option maxRecDepth 100000
set_option maxHeartbeats 4000000
namespace ST
open PySem PyProof.Rows
theorem slot_nx:Slot "set_iterator" "__next__" "set_iterator.__next__" :=
 .of (owner:="set_iterator") (n:="__next__") (by rw [typeLookup_type, builtinLookup_eq_fast]; kernel_rfl) (by decide +kernel) (by decide +kernel) (by decide +kernel) (by first | exact .inl (by decide +kernel) | exact .inr (by decide +kernel)) (by rw [isSubtype_type]; kernel_rfl)
theorem slot_it:Slot "set_iterator" "__iter__" "set_iterator.__iter__" :=
 .of (owner:="set_iterator") (n:="__iter__") (by rw [typeLookup_type, builtinLookup_eq_fast]; kernel_rfl) (by decide +kernel) (by decide +kernel) (by decide +kernel) (by first | exact .inl (by decide +kernel) | exact .inr (by decide +kernel)) (by rw [isSubtype_type]; kernel_rfl)
theorem ent_nx:entryFor table "set_iterator.__next__" = some Builtin.«set_iterator.__next__»:=entryFor_of_fast (by kernel_rfl)
theorem ent_it:entryFor table "set_iterator.__iter__" = some Builtin.«dict_keyiterator.__iter__»:=entryFor_alias (id':="dict_keyiterator.__iter__") (by kernel_rfl) rfl (by decide +kernel) (by kernel_rfl)
theorem ent_si:entryFor table "set.__iter__" = some Builtin.«frozenset.__iter__»:=entryFor_alias (id':="frozenset.__iter__") (by kernel_rfl) rfl (by decide +kernel) (by kernel_rfl)
theorem args_nx (a:Value):argsOk "set_iterator.__next__" ⟨[a], []⟩:=by unfold argsOk; kernel_rfl
theorem args_it (a:Value):argsOk "set_iterator.__iter__" ⟨[a], []⟩:=by unfold argsOk; kernel_rfl
theorem cons_erase {α:Type}:∀ {l:List α} {i:Nat} (h:i < l.length),(l[i] :: l.eraseIdx i).Perm l
 | x :: l,0,_ => .refl _
 | x :: l,i + 1,h => by
  have ih:=cons_erase (l:=l) (i:=i) (by simpa using h)
  exact (List.Perm.swap _ _ _).trans (ih.cons x)
theorem pick_perm {α:Type} (nx:Nat -> Nat):∀ (fuel k:Nat) (left:List α) (out:Array α),left.length ≤ fuel -> (pickOrder.go nx fuel k left out).toList.Perm (out.toList ++ left)
 | 0,k,left,out,h => by
  have:left = []:=List.length_eq_zero_iff.mp (by trivial)
  subst this
  rw [List.append_nil]; exact .refl _
 | fuel + 1,k,left,out,h => by
  unfold pickOrder.go
  by_cases c:left = []
  ·subst c
   rw [List.append_nil]; exact .refl _
  ·have hl:nx k % left.length < left.length:=Nat.mod_lt _ (List.length_pos_iff.mpr c)
   rw [List.getElem?_eq_getElem hl]
   dsimp only
   refine (pick_perm nx fuel (k + 1) _ _ (by rw [List.length_eraseIdx,if_pos hl]; trivial)).trans ?_
   rw [Array.toList_push,List.append_assoc]
   exact List.Perm.append_left _ (cons_erase hl)
noncomputable def ord (w:World) (S:Addr) (ep:Nat) (es:Array (Int × Value)):Array (Int × Value):=if w.params.followText "set-order" = true then pickOrder (w.params.setOrder S ep) es else es
theorem ord_perm (w:World) (S:Addr) (ep:Nat) (es:Array (Int × Value)):(ord w S ep es).toList.Perm es.toList:=by
 unfold ord
 split
 ·have:=pick_perm (w.params.setOrder S ep) es.size 0 es.toList #[] (by simp)
  simpa [pickOrder] using this
 ·exact .refl _
noncomputable def sl (w:World) (t:SetTable) (i:Nat):Nat:=if w.params.followText "set-order" = true then 0 else if i = 0 then 0 else t.place.getD (i - 1) 0 + 1
structure Fx (w:World) (o:Obj) (es:Array (Int × Value)) (ep:Nat) (t:SetTable):Prop where
 ex:o.ExactSet
 dt:o.data = .set es ep t
 ok:Ok t es.size
 led:t.led = led0 w
theorem Fx.fits {w:World} {o:Obj} {es:Array (Int × Value)} {ep:Nat} {t:SetTable} (x:Fx w o es ep t):t.fits es.size = true:=by
 unfold SetTable.fits SetTable.fill
 rw [x.ok.size,x.ok.dum]
 have:=x.ok.fit
 simp
 exact this
noncomputable def It (w:World) (S:Addr) (es:Array (Int × Value)) (ep:Nat) (t:SetTable) (I:Addr) (i:Nat) (h:Heap):Prop :=
 ∃ o, h.get? I = some o∧o.cls = .type "set_iterator"∧o.data = .fields #[.int (sl w t i:Nat) 0, .int (i:Nat) 0, .ref S, .int (es.size:Nat) 0, .int (ep:Nat) 0]
section
variable {prog:Program} {w:World} {A:Around} {E:Value -> Shared -> Prop} {s:Shared} {S I:Addr} {o:Obj} {es:Array (Int × Value)} {ep:Nat} {t:SetTable}
theorem It.ty {i:Nat} (x:It w S es ep t I i s.heap):s.TypeIs (.ref I) "set_iterator":=by
 obtain ⟨o,e,c,_⟩:=x
 exact ⟨o,e,c⟩
theorem next_W {i:Nat} {Q:Option (Value × Nat) -> Shared -> Prop} (x:Fx w o es ep t) (ho:s.heap.get? S = some o) (hi:i ≤ es.size)
  (q:Q (((ord w S ep es)[i]?).map fun e => (e.2,sl w t (i + 1))) s):wpAny (model prog w) A (setNext S (sl w t i) i ep) Q E s:=by
 unfold setNext
 refine wpAny_bind (wpAny_setState_of ho x.dt x.fits ?_)
 dsimp only
 unfold setsByText
 refine wpAny_bind (wpAny_bind (wpAny_askSetting (wpAny_pure ?_)))
 show wpAny (model prog w) A (if w.params.followText "set-order" = true then _ else _) Q E s
 by_cases c:w.params.followText "set-order" = true
 ·have e1:ord w S ep es = pickOrder (w.params.setOrder S ep) es:=by unfold ord; rw [if_pos c]
  have e2:∀ k,sl w t k = 0:=fun k => by unfold sl; rw [if_pos c]
  rw [e1,e2] at q
  rw [e2,if_pos c,if_neg (by simp)]
  refine wpAny_bind ?_
  unfold setWalk
  refine wpAny_bind (wpAny_setState_of ho x.dt x.fits ?_)
  dsimp only
  unfold setsByText
  refine wpAny_bind (wpAny_bind (wpAny_askSetting (wpAny_pure ?_)))
  show wpAny (model prog w) A (if w.params.followText "set-order" = true then _ else _) _ E s
  rw [if_pos c]
  refine wpAny_bind (wpAny_askSetting (wpAny_pure ?_))
  exact wpAny_pure q
 ·have e1:ord w S ep es = es:=by unfold ord; rw [if_neg c]
  have e2:sl w t (i + 1) = t.place.getD i 0 + 1:=by unfold sl; rw [if_neg c,if_neg (by trivial)]; rfl
  have e3:SetTable.below t.place (sl w t i) = i:=by
   unfold sl
   rw [if_neg c]
   cases i with
   | zero =>
    rw [if_pos rfl]
    obtain ⟨_,b,_⟩:=below_spec x.ok.up 0
    rcases Nat.eq_zero_or_pos (SetTable.below t.place 0) with z | z
    ·exact z
    ·have:=b 0 z
     trivial
   | succ k =>
    rw [if_neg (by trivial)]
    exact (below_at x.ok.up (by rw [x.ok.size]; trivial)).2
  rw [if_neg c,if_neg (fun z => by
   have z':(!t.plain && decide (es.size > 1)) = true:=z
   rw [x.ok.plain] at z'
   cases z')]
  refine wpAny_bind ?_
  show wpAny (model prog w) A (if (!t.led && !es.isEmpty) = true then _ else pure ()) _ E s
  rw [if_neg (by rw [x.led]; unfold led0; rw [Bool.eq_false_iff.mpr c]; exact Bool.false_ne_true)]
  refine wpAny_pure (wpAny_pure ?_)
  rw [e3]
  rw [e1,e2] at q
  by_cases hl:i < es.size
  ·have hp:t.place[i]? = some (t.place.getD i 0):=by
    have h':i < t.place.size:=by rw [x.ok.size]; exact hl
    rw [Array.getElem?_eq_getElem h']
    simp [Array.getD,h']
   rw [Array.getElem?_eq_getElem hl] at q ⊢
   rw [hp]
   exact q
  ·have:es[i]? = none:=Array.getElem?_eq_none (by trivial)
   rw [this] at q ⊢
   exact q
theorem head_W {i:Nat} {Q:Option Value -> Shared -> Prop} (x:Fx w o es ep t) (ho:s.heap.get? S = some o) (y:It w S es ep t I i s.heap) (hi:i ≤ es.size)
  (q:match (ord w S ep es)[i]? with
   | some e => ∀ h',It w S es ep t I (i + 1) h' -> Heap.SameBut I s.heap h' -> Q (some e.2) { s with heap:=h' }
   | none => A.handled = none∧∀ h',Heap.ExtBut I s.heap h' -> Q none { s with heap:=h' }):wpAny (model prog w) A (pyNext (.ref I)) Q E s:=by
 obtain ⟨oi,gi,ci,di⟩:=id y
 unfold pyNext
 refine wpAny_bind (wpAny_attempt (wpAny_callSpecial?_slot (name:=Str.ofString "__next__") y.ty slot_nx (wpAny_call_entry slot_nx y.ty ent_nx ?_ (args_nx _))))
 show wpAny _ _ (fieldsOf (.ref I) >>= _) _ _ s
 refine wpAny_bind (wpAny_fieldsOf gi di ?_)
 show wpAny _ _ (setEntries S >>= _) _ _ s
 refine wpAny_bind (wpAny_setEntries_of ho x.dt x.fits ?_)
 show wpAny _ _ (if (((es.size:Nat):Int) != ((es.size:Nat):Int)) = true then _ else _) _ _ s
 rw [if_neg (by simp)]
 show wpAny _ _ (setNext S (Int.toNat ((sl w t i:Nat):Int)) (Int.toNat ((i:Nat):Int)) (Int.toNat ((ep:Nat):Int)) >>= _) _ _ s
 rw [Int.toNat_natCast,Int.toNat_natCast,Int.toNat_natCast]
 refine wpAny_bind (next_W x ho hi ?_)
 cases he:(ord w S ep es)[i]? with
 | some e =>
  rw [he] at q
  show wpAny _ _ (setField (.ref I) 0 (rawInt ((sl w t (i + 1):Nat):Int)) >>= _) _ _ s
  refine wpAny_bind (wpAny_setField gi di (by simp) ?_)
  have d1:=Obj.data_mapFields di (·.setIfInBounds 0 (rawInt ((sl w t (i + 1):Nat):Int)))
  have g1:=Heap.get?_update_self (Obj.mapFields (·.setIfInBounds 0 (rawInt ((sl w t (i + 1):Nat):Int)))) gi (Obj.isFreed_of_fields d1)
  have c1:(Obj.mapFields (·.setIfInBounds 0 (rawInt ((sl w t (i + 1):Nat):Int))) oi).cls = .type "set_iterator":=(Obj.cls_mapFields ..).trans ci
  have b1:=Heap.SameBut.update s.heap I (Obj.mapFields (·.setIfInBounds 0 (rawInt ((sl w t (i + 1):Nat):Int))))
  generalize s.heap.update I (Obj.mapFields (·.setIfInBounds 0 (rawInt ((sl w t (i + 1):Nat):Int)))) = h1 at g1 b1 ⊢
  generalize Obj.mapFields (·.setIfInBounds 0 (rawInt ((sl w t (i + 1):Nat):Int))) oi = o1 at d1 g1 c1
  show wpAny _ _ (setField (.ref I) 1 (rawInt ((i:Int) + 1)) >>= _) _ _ _
  refine wpAny_bind (wpAny_setField g1 d1 (by simp) ?_)
  have d2:=Obj.data_mapFields d1 (·.setIfInBounds 1 (rawInt ((i:Int) + 1)))
  have g2:=Heap.get?_update_self (Obj.mapFields (·.setIfInBounds 1 (rawInt ((i:Int) + 1)))) g1 (Obj.isFreed_of_fields d2)
  refine wpAny_pure ⟨e.2,rfl,wpAny_pure (q _ ⟨_,g2,(Obj.cls_mapFields ..).trans c1,?_⟩ (b1.trans (Heap.SameBut.update ..)))⟩
  rw [d2]
  simp [rawInt]
 | none =>
  rw [he] at q
  obtain ⟨hh,q⟩:=q
  show wpAny _ _ (setField (.ref I) 2 Value.none >>= _) _ _ s
  refine wpAny_bind (wpAny_setField gi di (by simp) ?_)
  show wpAny _ _ (newExc (.type "StopIteration") [] >>= _) _ _ _
  refine wpAny_bind ?_
  simp only [newExc,newTuple]
  refine wpAny_bind (wpAny_newObj_type ?_ (by size_fits))
  refine wpAny_bind (m:=firstArgMember _ _) (wpAny_of_eq (a:=Value.none) (by first | rfl | (simp only [firstArgMember]; rfl)) ?_)
  refine wpAny_newObj_type ?_ (by size_fits)
  simp only [raiseNew]
  refine wpAny_bind (wpAny_handled ?_)
  rw [show A.in1.handled = none from hh]
  refine wpAny_bind (wpAny_pure (wpAny_throw ?thr))
  refine wpAny_bind (wpAny_isInstance (T:="StopIteration") (b:=true) ⟨_, Heap.get?_push_size _ rfl, rfl⟩ isSubtype_stop ?_)
  exact wpAny_pure (q _ (((Heap.SameBut.update ..).extBut.push _).push _))
theorem walk_W (hh:A.handled = none) (x:Fx w o es ep t) (ne:S ≠ I) :
  Walks prog w A I [I,S] [I] es.size (fun i v => ∃ e,(ord w S ep es)[i]? = some e∧v = e.2) (fun i h => It w S es ep t I i h∧h.get? S = some o) where
 sub:=fun b hb => by simp at hb; simp [hb]
 frame:=fun i h h' st k => by
  obtain ⟨⟨oi,gi,r⟩,go⟩:=st
  exact ⟨⟨oi,k I (by simp) _ gi,r⟩,k S (by simp) _ go⟩
 item:=fun i s Q E hi st hQ => by
  have hs:(ord w S ep es).size = es.size:=by
   have:=(ord_perm w S ep es).length_eq
   simpa using this
  have hl:i < (ord w S ep es).size:=by trivial
  refine head_W x st.2 st.1 (Nat.le_of_lt hi) ?_
  rw [Array.getElem?_eq_getElem hl]
  intro h' y b
  exact hQ _ h' s.toks ⟨_,by rw [Array.getElem?_eq_getElem hl],rfl⟩ ⟨y,by rw [b.2 S ne]; exact st.2⟩ fun c u hc e => by rw [b.2 c fun z => hc (by simp [z])]; exact e
 done:=fun s Q E st hQ => by
  have hs:(ord w S ep es).size = es.size:=by
   have:=(ord_perm w S ep es).length_eq
   simpa using this
  refine head_W x st.2 st.1 (Nat.le_refl _) ?_
  rw [Array.getElem?_eq_none (by trivial)]
  exact ⟨hh,fun h' b => hQ h' s.toks fun c u hc e => b c u (fun z => hc (by simp [z])) e⟩
 self:=fun i s Q E st q => by
  refine wpAny_pyIter_slot st.1.ty slot_it (wpAny_call_entry slot_it st.1.ty ent_it ?_ (args_it _))
  show wpAny _ _ (ret (.ref I)) _ _ s
  exact wpAny_pure ⟨_, rfl, "set_iterator", _, st.1.ty, slot_nx.lookup, q⟩
theorem ty_W (x:Fx w o es ep t) (ho:s.heap.get? S = some o):s.TypeIs (.ref S) "set":=⟨o, ho, x.ex.1⟩
theorem iter_W {Q:Value -> Shared -> Prop} (x:Fx w o es ep t) (ho:s.heap.get? S = some o)
  (q:Q (.ref s.heap.objs.size) { s with heap:=s.heap.push { cls:=.type "set_iterator", data:=.fields #[.int 0 0, .int 0 0, .ref S, .int (es.size:Nat) 0, .int (ep:Nat) 0] } }):wpAny (model prog w) A (pyIter (.ref S)) Q E s:=by
 refine wpAny_pyIter_slot (ty_W x ho) PySem.F.slot_set_iter (wpAny_call_entry PySem.F.slot_set_iter (ty_W x ho) ent_si ?_ (PySem.F.args_set_iter_1 _))
 have nd:(!w.params.followText "set-order" && (!t.plain && decide (es.size > 1))) = false:=by rw [x.ok.plain]; cases w.params.followText "set-order" <;> rfl
 show wpAny _ _ (Builtin.Frozenset.sizeOf S >>= _) _ _ s
 unfold Builtin.Frozenset.sizeOf
 refine wpAny_bind (wpAny_bind (wpAny_setEntries_of ho x.dt x.fits (wpAny_pure ?_)))
 unfold setDrawn
 refine wpAny_bind (wpAny_bind (wpAny_setState_of ho x.dt x.fits ?_))
 unfold setsByText
 refine wpAny_bind (wpAny_bind (wpAny_askSetting (wpAny_pure (wpAny_pure ?_))))
 show wpAny (model prog w) A.in1 (if (!w.params.followText "set-order" && (!t.plain && decide (es.size > 1))) = true then _ else _) _ _ s
 rw [nd,if_neg Bool.false_ne_true]
 refine wpAny_bind (wpAny_pure ?_)
 refine wpAny_bind (wpAny_setEpoch_of ho x.dt x.fits ?_)
 exact wpAny_bind (wpAny_newObj_type (wpAny_pure ⟨_, rfl, "set_iterator", _, ⟨_, Heap.get?_push_size _ rfl, rfl⟩, slot_nx.lookup, q⟩))
theorem hint_W {r:Addr} {Q:Bool -> Shared -> Prop} (hT:s.TypeIs (.ref r) "set") (h:Q false s):wpAny (model prog w) A (Builtin.List.listLengthHint (.ref r)) Q E s:=by
 unfold Builtin.List.listLengthHint
 refine wpAny_bind (wpAny_specialOf hT PySem.F.slot_set_len.lookup ?_)
 generalize hid:("set.__len__":String) = id0
 wp_delta
 rw [show splitId id0 = some ("set", "__len__") from by subst hid; decide +kernel]
 subst hid
 refine wpAny_bind (wpAny_isInstance (T:="set") (b:=true) hT (by rw [isSubtype_type]; kernel_rfl) ?_)
 refine wpAny_ite_split (fun z => absurd z (by decide)) (fun _ => ?_)
 refine wpAny_ite_split (fun _ => ?_) (fun z => absurd (by decide +kernel) z)
 refine wpAny_bind (wpAny_typeOf hT ?_)
 exact wpAny_pure h
theorem src_W (x:Fx w o es ep t):PySem.W.KdlSrc prog w "set" S S es.size (fun i v => ∃ e, (ord w S ep es)[i]? = some e∧v = e.2) (fun h => h.get? S = some o) where
 type:=fun s ho => ty_W x ho
 there:=fun h ho => ⟨Heap.lt_size ho,Heap.lt_size ho⟩
 keep:=fun h h' ho k => k S (.inl rfl) o ho
 notList:=by decide
 notTuple:=by decide
 hint:=fun A E s Q ho q => hint_W (ty_W x ho) q
 iter:=fun A s hh ho => ⟨_,_,(fun E Q q => iter_W x ho q),walk_W hh x (Nat.ne_of_lt (Heap.lt_size ho)),⟨⟨_,Heap.get?_push_size _ rfl,rfl,by show _ = Data.fields #[.int ((sl w t 0:Nat):Int) 0,_,_,_,_]; rw [show sl w t 0 = 0 by unfold sl; split <;> rfl]; rfl⟩,Heap.get?_push_of_some _ ho⟩⟩
end
end ST
set_option Elab.async false
set_option linter.all false
set_option maxRecDepth 100000
set_option maxHeartbeats 4000000
namespace L2
open PySem PySem.Spec PyProof.Rows PySem.W
section
variable {X:Cx}
noncomputable def rSortS (ns:List Int) (H:Hp) (Q:VK):Prop:=∀ (ns':List Int) (p:Addr),ns'.Pairwise (· < ·) -> (∀ x,x ∈ ns' ↔ x ∈ ns) -> H p = none -> Q (.ref p) (upd H p (.lst (ns'.map V.int)))
noncomputable def tSortS (K:Frag) (te:TE):TE:=fun σ H Q => te σ H fun x H1 => ∃ (a:Addr) (ns:List Int),x = .ref a∧SqL K H1 a (ns.map V.int)∧(∀ z ∈ ns,0 ≤ z∧z ≤ 255)∧rSortS ns H1 Q
theorem lt_of_le_nd:∀ {l:List Int},l.Pairwise (· ≤ ·) -> l.Nodup -> l.Pairwise (· < ·):=fun {l} h nd => (h.and nd).imp fun {a b} ⟨x,y⟩ => by trivial
theorem ints_of:∀ {l:List (Int × Value)},(∀ e ∈ l,ST.Good e) -> IntsAre (l.map (·.2)) (l.map ST.kOf)
 | [],_ => .nil
 | e :: l,h => by
  obtain ⟨k,t,rfl,_⟩:=h e List.mem_cons_self
  exact .cons k t (ints_of fun x hx => h x (List.mem_cons_of_mem _ hx))
theorem sorted_set_end {pins:List (Addr × Obj)} {s:Shared} {σ:St} {H:Hp} {Q:VK} {ns ks:List Int} {S:Addr} (I:Inv X pins σ H s) (hh:X.A.in1.handled = none) (hW:ST.W s.heap S (ST.led0 X.w) ks) (hx:∀ x,x ∈ ks ↔ x ∈ ns)
  (q:rSortS ns H Q):wpAny (model X.prog X.w) X.A (call (.builtin "sorted") [.ref S]) (EP X pins σ Q) X.xe s:=by
 obtain ⟨⟨o,es,ep,t,go,gx,gd,gg,gp,gk,gr,gl⟩,nd,rg⟩:=hW
 have fx:ST.Fx X.w o es ep t:=⟨gx,gd,gk,gl⟩
 have hks:=ST.small_len nd rg
 have lenOf:∀ {vs:List Value} {ms:List Int},IntsAre vs ms -> vs.length = ms.length:=fun {vs ms} h => by
  have:=(intsAre_vals h).length
  rw [List.length_map] at this
  exact this.symm
 have op:=ST.ord_perm X.w S ep es
 have hol:(ST.ord X.w S ep es).size = es.size:=by have:=op.length_eq; simpa using this
 have hes:es.size ≤ 256:=by
  have:=gp.length_eq
  rw [List.length_map,Array.length_toList] at this
  trivial
 have good:∀ e ∈ (ST.ord X.w S ep es).toList,ST.Good e:=fun e he => gg e (op.mem_iff.mp he)
 have hin:=ints_of good
 have kp:((ST.ord X.w S ep es).toList.map ST.kOf).Perm ks:=(op.map _).trans gp
 have big:(256:Nat) ≤ sizeLine:=by decide
 refine TS.sorted_gen (kd:=oneType') (O:=TS.intOrd) (ky:=TS.intKy) (S:=fun p => ∃ n t,p.1 = .int n t) (V:=fun vs => ∃ ms,IntsAre vs ms∧ms.Perm ks) (fun vs ⟨ms,hI,hp⟩ => by rw [lenOf hI,hp.length_eq]; trivial) (fun vs ⟨ms,hI,_⟩ v hv => hI.all v hv) (fun {E R} k => ?_) (fun vs s' ⟨ms,hI,_⟩ h2 _ {_ _ _} qq => kk_ints hI h2 qq) (fun s' _ => TS.cmp_int) (fun h1 h' tk vs out n ⟨ms,hI,hp⟩ k1 k2 e p rr => ?_)
 ·refine kdu_collect (ST.src_W fx) hh go (by trivial) fun h' tk acc kk hacc => k h' tk acc.toList ?_ kk
  have ea:acc.toList = (ST.ord X.w S ep es).toList.map (·.2):=by
   apply List.ext_getElem
   ·rw [List.length_map,Array.length_toList,Array.length_toList,hacc.1,hol]
   ·intro i h1 h2
    have h1':i < acc.size:=by simpa using h1
    obtain ⟨e,e1,e2⟩:=hacc.2 i _ (Array.getElem?_eq_getElem h1')
    rw [List.getElem_map]
    have e3:(ST.ord X.w S ep es).toList[i]? = some e:=by rw [Array.getElem?_toList]; exact e1
    rw [List.getElem?_eq_getElem (by simpa using h2)] at e3
    rw [Option.some.inj e3,← e2]
    simp
  exact ⟨_,by rw [ea]; exact hin,kp⟩
 ·obtain ⟨ns',a1,a2,a3⟩:=TS.rises_ints hI p rr
  have I1:Inv X pins σ H { s with heap:=h1 }:=I.kept (t':=s.toks) k1
  have pp:=a2.trans hp
  refine ⟨.ref h1.objs.size,_,I1.laid (a:=h1.objs.size) (o:=.lst (ns'.map V.int)) (t':=tk) k2 (Nat.le_refl _) ?_,rfl,q ns' _ (lt_of_le_nd a3 (pp.nodup_iff.mpr nd)) (fun x => by rw [pp.mem_iff]; exact hx x) (I1.hok.fresh (Nat.le_refl _))⟩
  exact ⟨by rw [List.length_map,pp.length_eq]; trivial,out.toList,n,intsAre_vals a1,by rw [Array.toArray_toList]; exact e⟩
theorem boot_srt:bootBuiltins "sorted" = some (.builtin "sorted"):=by decide +kernel
theorem boot_set':bootBuiltins "set" = some (.type "set"):=by decide +kernel
theorem pe_sortset {e:Expr} {te:TE} {p1 p2 pos1 pos2:Pos} (hc:X.calm = true) (hg1:Gl X "sorted") (hm1:X.mg "sorted" = none) (hg2:Gl X "set") (hm2:X.mg "set" = none) (he:PE X e te)
  (h1:starEach [.Call (.Name "set" p2) [e] [] pos2] X.env = (false, eval (.Call (.Name "set" p2) [e] [] pos2) X.env) :: starEach [] X.env:=by rfl) (h2:(backTo pos1 (starEach [] X.env)).any (·.1) = false:=by rfl)
  (h3:starEach [e] X.env = (false,eval e X.env) :: starEach [] X.env:=by rfl) (h4:(backTo pos2 (starEach [] X.env)).any (·.1) = false:=by rfl) :
  PE X (.Call (.Name "sorted" p1) [.Call (.Name "set" p2) [e] [] pos2] [] pos1) (tSortS X.K te):=by
 intro pins s σ H Q I h
 have hh:X.A.in1.handled = none:=I.ok.hd hc
 refine wpAny_Call_Name_kw (ld_blt I hg1 hm1 boot_srt ?_ (by decide) (by decide))
 refine PyProof.Rows.callWith_builtin1 ?_ h1 h2
 rw [h1]
 show wpAny _ _ (spliced ((false, eval (.Call (.Name "set" p2) [e] [] pos2) X.env) :: backTo pos1 (starEach [] X.env))) _ _ s
 refine Calls.spliced_cons ?_
 refine wpAny_Call_Name_kw (ld_blt I hg2 hm2 boot_set' ?_ (by decide) (by decide))
 refine PyProof.Rows.callWith_type1 ?_ h3 h4
 rw [h3]
 show wpAny _ _ (spliced ((false,eval e X.env) :: backTo pos2 (starEach [] X.env))) _ _ s
 refine Calls.spliced_cons (thn (he pins s σ H _ I h) fun u s1 ⟨x,H1,I1,r1,q1⟩ => ?_)
 refine Calls.spliced_nil ?_
 obtain ⟨a,ns,rfl,hq,hr,q⟩:=q1
 cases r1
 obtain ⟨its,r',pl,hz⟩:=I1.list hq
 refine ST.call_W (items:=its.toArray) (ns:=ns) hh pl.isList (by simpa using vals_intsAre r') hr fun h' tk ks hW hx hk => ?_
 refine Calls.spliced_nil ?_
 have kk:∀ b o,s1.heap.get? b = some o -> h'.get? b = some o:=fun b o e => hk b o (Heap.lt_size e) e
 exact sorted_set_end (s:={ s1 with heap:=h',toks:=tk }) (I1.kept kk) hh hW hx q
end
end L2
set_option Elab.async false
set_option linter.all false
set_option maxRecDepth 100000
namespace HT
open PySem PyProof.Rows
open AutoSeq1 (wpAny_loadPart')
open MeetsSeq MeetsSeq3 SeqAt
section
variable {prog:Program} {w:World} {A:Around} {E:Value -> Shared -> Prop} {s:Shared}
end
end HT
namespace L2
open PySem PySem.Spec PyProof.Rows PySem.W
section
variable {X:Cx}
end
end L2
set_option Elab.async false
set_option linter.all false
set_option maxRecDepth 100000
namespace L2
open PySem PySem.Spec PyProof.Rows PySem.W PySem.Calls Att
open PySem.Builtin.Int (intBits)
section
variable {X:Cx}
end
end L2
set_option Elab.async false
set_option linter.all false
set_option maxRecDepth 100000
namespace L2
open PySem PySem.Spec PyProof.Rows PySem.W
section
variable {X:Cx}
end
end L2
set_option Elab.async false
set_option linter.all false
set_option maxRecDepth 100000
namespace L2
open PySem PySem.Spec PyProof.Rows PySem.W
section
variable {X:Cx}
end
end L2
namespace PH
open PySem L2 PySem.W
end PH
set_option Elab.async false
set_option linter.all false
set_option maxRecDepth 100000
namespace L2
open PySem PySem.Spec PyProof.Rows PySem.W
section
variable {X:Cx}
end
end L2
namespace L2
open PySem PySem.Spec PyProof.Rows PySem.W
section
variable {prog:Program} {w:World} {A:Around} {E:Value -> Shared -> Prop} {s:Shared}
end
section
variable {X:Cx} {pos:Pos}
end
end L2
set_option Elab.async false
set_option linter.all false
set_option maxRecDepth 100000
set_option maxHeartbeats 4000000
namespace PH
open PySem L2 PySem.W
theorem count_flat {f:Int -> Nat} {x:Int}:∀ {ks:List Int},ks.Nodup -> (flat (ks.map fun k => (k,((f k:Nat):Int)))).count x = if x ∈ ks then f x else 0
 | [],_ => by simp [flat]
 | k :: r,nd => by
  have nd':=List.nodup_cons.mp nd
  have ih:=count_flat (f:=f) (x:=x) nd'.2
  show (List.replicate ((f k:Nat):Int).toNat k ++ flat (r.map fun k => (k,((f k:Nat):Int)))).count x = _
  rw [List.count_append,ih,Int.toNat_natCast,List.count_replicate]
  by_cases e:k = x
  ·subst e
   rw [if_neg nd'.1,if_pos (by simp),if_pos List.mem_cons_self]; rfl
  ·rw [if_neg (by simpa using e)]
   by_cases h:x ∈ r
   ·rw [if_pos h,if_pos (List.mem_cons_of_mem _ h),Nat.zero_add]
   ·rw [if_neg h,if_neg (fun z => by rcases List.mem_cons.mp z with q | q; exact e q.symm; exact h q)]
theorem flat_cnts {ns:List Int} (hb:∀ x ∈ ns,0 ≤ x∧x ≤ 255):(flat (cnts ns)).Perm ns:=by
 rw [List.perm_iff_count]
 intro x
 rw [cnts_ks,count_flat (f:=fun k => ns.count k) (ks_sorted ns).2]
 by_cases h:x ∈ ns
 ·rw [if_pos ((mem_ks hb x).mpr h)]
 ·rw [if_neg (fun z => h ((mem_ks hb x).mp z)),List.count_eq_zero.mpr h]
theorem cnts_rise {ns:List Int} (hb:∀ x ∈ ns,0 ≤ x∧x ≤ 255):RiseC (cnts ns):=by
 rw [cnts_ks]
 refine ⟨?_,fun c hc => ?_⟩
 ·rw [List.map_map]
  have:(ksOf ns).map ((fun c:Int × Int => c.1) ∘ fun k => (k,((ns.count k:Nat):Int))) = ksOf ns:=by
   conv => rhs; rw [← List.map_id (ksOf ns)]
   rfl
  rw [this]
  exact strict (ks_sorted ns).1 (ks_sorted ns).2
 ·obtain ⟨k,hk,rfl⟩:=List.mem_map.mp hc
  have hm:=(mem_ks hb k).mp hk
  have h1:=hb k hm
  have h2:=List.count_pos_iff.mpr hm
  exact ⟨h1.1,h1.2,by show (1:Int) ≤ ((ns.count k:Nat):Int); trivial⟩
theorem cnts_sum {ns:List Int} (hb:∀ x ∈ ns,0 ≤ x∧x ≤ 255):(tms (cnts ns)).sum = ns.length:=by
 rw [← flat_len,(flat_cnts hb).length_eq]
theorem cnts_sumT {ns:List Int} (hb:∀ x ∈ ns,0 ≤ x∧x ≤ 255):sumT (cnts ns) = (ns.length:Int):=by
 rw [sumT_nat (cnts_rise hb).ge,cnts_sum hb]
theorem cnts_tx {ns:List Int} (hb:∀ x ∈ ns,0 ≤ x∧x ≤ 255):mlt 1 0 (tms (cnts ns)) = tx ns:=by
 rw [← tx_flat (cnts_rise hb),tx_perm (flat_cnts hb)]
theorem cnts_have {ns:List Int} (hb:∀ x ∈ ns,0 ≤ x∧x ≤ 255) (hl:ns.length ≤ 400):haveT (cnts ns) = true:=by
 unfold haveT
 rw [areC_of (cnts_rise hb),decide_eq_true (by rw [cnts_sumT hb]; trivial)]; rfl
theorem cnts_few {ns:List Int} (hb:∀ x ∈ ns,0 ≤ x∧x ≤ 255):(cnts ns).length ≤ 256:=by
 rw [cnts_ks,List.length_map]
 refine ST.small_len (ks_sorted ns).2 fun k hk => hb k ((mem_ks hb k).mp hk)
noncomputable def spShare:Sp:=fun vs H Q _ => ∃ (a:Addr) (ns:List Int),vs = [.ref a]∧H a = some (lsI ns)∧ns.length ≤ 400∧(∀ x ∈ ns,0 ≤ x∧x ≤ 255) ∧
 ∀ (T C:Addr) (zs:List (Addr × Int × Int)) (H':Hp),Same H H' -> H' T = some (.tup [.ref C,.int (nm ns:Nat)]) -> H C = none -> Prs H' C zs -> zs.map (·.2) = cnts ns -> Q (.ref T) H'
theorem getD_at {t:List Int} {j:Nat} {x:Int} (h:t[j]? = some x):t.getD j 0 = x:=by
 rw [List.getD_eq_getElem?_getD,h]; rfl
theorem sqMidY {A B:TS} {D:Ends} {σ:St} {H:Hp} (M:St -> Hp -> Prop) (h2:∀ σ' H',M σ' H' -> B D σ' H') (h1:∀ N:St -> Hp -> Prop,(∀ σ' H',M σ' H' -> N σ' H') -> A { D with nx:=N } σ H):tSeq A B D σ H:=h1 _ h2
end PH
namespace PH
theorem firstOne_split:∀ {r:List Int} {d:Nat},isBits r -> firstOne r = some d -> ∃ t,r = List.replicate d 0 ++ 1 :: t
 | [],_,_,h => by cases h
 | b :: r,d,hb,h => by
  unfold firstOne at h
  split at h
  ·rename_i h1
   cases h
   exact ⟨r,by rw [h1]; rfl⟩
  ·rename_i h1
   cases e:firstOne r with
   | none => rw [e] at h; cases h
   | some k =>
    rw [e] at h
    have hk:k + 1 = d:=Option.some.inj h
    obtain ⟨t,ht⟩:=firstOne_split (fun c hc => hb c (List.mem_cons_of_mem _ hc)) e
    refine ⟨t,?_⟩
    have h0:b = 0:=by
     rcases hb b List.mem_cons_self with q | q
     ·exact q
     ·exact absurd q h1
    rw [← hk,h0,ht,List.replicate_succ]; rfl
theorem isBits_drop {bs:List Int} (h:isBits bs) (k:Nat):isBits (bs.drop k):=fun b hb => h b (List.mem_of_mem_drop hb)
theorem isBits_take {bs:List Int} (h:isBits bs) (k:Nat):isBits (bs.take k):=fun b hb => h b (List.mem_of_mem_take hb)
theorem isBits_app {a b:List Int} (h1:isBits a) (h2:isBits b):isBits (a ++ b):=fun x hx => by
 rcases List.mem_append.mp hx with h | h
 ·exact h1 x h
 ·exact h2 x h
theorem readE_back {bs:List Int} (hb:isBits bs) {i:Int} {n:Int} {b:Nat} (h:readE bs i = some (n,b)):1 ≤ n∧(bs.drop i.toNat).take (b - i.toNat) = endb n:=by
 unfold readE at h
 split at h
 ·cases h
 ·cases e:firstOne (bs.drop i.toNat) with
  | none => rw [e] at h; cases h
  | some d =>
   rw [e] at h
   dsimp only at h
   split at h
   ·cases h
   ·rename_i h0 hlen
    obtain ⟨hn,hbb⟩:=Prod.mk.inj (Option.some.inj h)
    have hbr:=isBits_drop hb i.toNat
    obtain ⟨t,ht⟩:=firstOne_split hbr e
    have hdl:(bs.drop i.toNat).length = bs.length - i.toNat:=List.length_drop
    have htl:d ≤ t.length:=by
     rw [ht,List.length_append,List.length_replicate,List.length_cons] at hdl
     trivial
    have hd2:bs.drop (i.toNat + d) = 1 :: t:=by
     rw [← List.drop_drop,ht]
     have:=drop_pre (List.replicate d (0:Int)) (1 :: t)
     rw [List.length_replicate] at this
     exact this
    rw [hd2,List.take_succ_cons] at hn
    have hbt:isBits (t.take d):=isBits_take (fun x hx => hbr x (by rw [ht]; exact List.mem_append_right _ (List.mem_cons_of_mem _ hx))) d
    have hlt:(t.take d).length = d:=by rw [List.length_take]; trivial
    have eo:=endb_one hbt
    rw [hlt] at eo
    have w1:=worth_one (t.take d) hbt
    have p0:(0:Int) < 2 ^ (t.take d).length:=Int.pow_pos (by decide)
    refine ⟨by trivial,?_⟩
    rw [← hn,eo,ht,show b - i.toNat = d + (d + 1) by trivial,List.take_append,List.length_replicate,List.take_of_length_le (by rw [List.length_replicate]; trivial),show d + (d + 1) - d = d + 1 by trivial,List.take_succ_cons]
theorem take_split {α:Type} (l:List α) {a b c:Nat} (h1:a ≤ b) (h2:b ≤ c):(l.drop a).take (c - a) = (l.drop a).take (b - a) ++ (l.drop b).take (c - b):=by
 have e:c - a = (b - a) + (c - b):=by trivial
 rw [e,List.take_add,List.drop_drop,show a + (b - a) = b by trivial]
theorem readN_back {bs:List Int} (hb:isBits bs):∀ (m b:Nat) (ns:List Int) (b':Nat),b ≤ bs.length -> readN m bs b = some (ns,b') -> b ≤ b'∧b' ≤ bs.length∧(∀ n ∈ ns,0 ≤ n)∧ns.length = m∧(bs.drop b).take (b' - b) = flatb ns
 | 0,b,ns,b',hl,h => by
  unfold readN at h
  obtain ⟨rfl,rfl⟩:=Prod.mk.inj (Option.some.inj h)
  exact ⟨Nat.le_refl _,hl,(fun _ z => by cases z),rfl,by rw [Nat.sub_self,List.take_zero]; rfl⟩
 | m + 1,b,ns,b',hl,h => by
  cases e:readE bs b with
  | none => rw [readN_stop e] at h; cases h
  | some nc =>
   obtain ⟨n,c⟩:=nc
   rw [readN_step e] at h
   cases e2:readN m bs c with
   | none => rw [e2] at h; cases h
   | some r =>
    obtain ⟨r,b2⟩:=r
    rw [e2] at h
    obtain ⟨h1,rfl⟩:=Prod.mk.inj (Option.some.inj h)
    obtain ⟨_,l1,l2⟩:=readE_le e
    obtain ⟨g1,g2⟩:=readE_back hb e
    obtain ⟨k1,k2,k3,k4,k5⟩:=readN_back hb m c r b2 l2 e2
    subst h1
    refine ⟨by trivial,k2,fun x hx => ?_,by rw [List.length_cons,k4],?_⟩
    ·rcases List.mem_cons.mp hx with q | q
     ·trivial
     ·exact k3 x q
    ·rw [take_split bs (b:=c) (by trivial) k1,flatb_cons,k5,show n - 1 + 1 = n by trivial]
     rw [Int.toNat_natCast] at g2
     rw [g2]
theorem readRow_back {bs:List Int} (hb:isBits bs) {i:Int} {ns:List Int} {b:Nat} (h:readRow bs i = some (ns,b)):0 ≤ i∧i < b∧b ≤ bs.length∧(∀ n ∈ ns,0 ≤ n)∧(bs.drop i.toNat).take (b - i.toNat) = rowb ns:=by
 unfold readRow at h
 cases e:readE bs i with
 | none => rw [e] at h; cases h
 | some mc =>
  obtain ⟨m,c⟩:=mc
  rw [e] at h
  dsimp only at h
  obtain ⟨i0,l1,l2⟩:=readE_le e
  obtain ⟨g1,g2⟩:=readE_back hb e
  obtain ⟨k1,k2,k3,k4,k5⟩:=readN_back hb _ c ns b l2 h
  refine ⟨i0,by trivial,k2,k3,?_⟩
  rw [take_split bs (b:=c) (by trivial) k1,g2,k5]
  unfold rowb
  rw [show (ns.length:Int) + 1 = m by trivial]
theorem endb_pos {n:Int} (h:1 ≤ n):1 ≤ (endb n).length∧blen n ≤ (endb n).length:=by
 have:=endb_length n
 have:=blen_pos h
 trivial
theorem flatb_ge:∀ {ns:List Int},(∀ n ∈ ns,0 ≤ n) -> ns.length ≤ (flatb ns).length∧∀ n ∈ ns,blen (n + 1) ≤ (flatb ns).length
 | [],_ => ⟨Nat.le_refl _,fun _ z => nomatch z⟩
 | n :: r,h => by
  obtain ⟨a,b⟩:=flatb_ge (ns:=r) fun x hx => h x (List.mem_cons_of_mem _ hx)
  have e:=endb_pos (n:=n + 1) (by have:=h n List.mem_cons_self; trivial)
  rw [flatb_cons,List.length_append,List.length_cons]
  refine ⟨by trivial,fun x hx => ?_⟩
  rcases List.mem_cons.mp hx with q | q
  ·subst q; trivial
  ·have:=b x q; trivial
end PH
set_option Elab.async false
set_option linter.all false
set_option maxRecDepth 100000
namespace L2
open PySem PySem.Spec PyProof.Rows
section
variable {X:Cx}
end
end L2
set_option Elab.async false
set_option linter.all false
set_option maxRecDepth 100000
namespace L2
open PySem PySem.Spec PyProof.Rows PySem.W
section
variable {prog:Program} {w:World} {A:Around} {E:Value -> Shared -> Prop} {s:Shared} {a it:Addr} {es:Array DictEntry} {ep i:Nat}
end
section
variable {X:Cx} {pins:List (Addr × Obj)} {σ:St} {H:Hp} {s:Shared}
end
end L2
set_option Elab.async false
set_option linter.all false
set_option maxRecDepth 100000
namespace L2
open PySem PySem.Spec PyProof.Rows PySem.W
theorem comp_rngSQ {lo c:Int} {n:Nat} {D:Addr} {σ0:St} {H1:Hp} {Qd:Hp -> Prop} {g:TG} {tc:TT} {te:TE} (Pv:Nat -> St -> Hp -> Prop) (h0:Pv 0 σ0 (upd H1 D (.lst [])))
  (hs:∀ i σ' H',i < n -> Pv i σ' H' -> g (.int (lo + i * c)) σ' H' fun σ2 H3 => tc σ2 H3 fun b H4 => if b = true then te σ2 H4 fun v H5 => rAppend (.ref D) [v] H5 fun _ H6 => ∃ m',m' < n - i∧CW n Pv (i + 1) m' σ2 H6 else ∃ m',m' < n - i∧CW n Pv (i + 1) m' σ2 H4)
  (hd:∀ σ' H',Pv n σ' H' -> Qd H') :
  ∃ W:Nat -> Nat -> St -> Hp -> Prop,(∃ m,W 0 m σ0 (upd H1 D (.lst [])))∧∀ i m σ' H',W i m σ' H' -> ((Itrs lo c n).stop i H'∧Qd H') ∨ ((Itrs lo c n).go i H'∧∀ x H2,(Itrs lo c n).yld i H' x H2 -> g x σ' H2 fun σ2 H3 => tc σ2 H3 fun b H4 =>
   if b = true then te σ2 H4 fun v H5 => rAppend (.ref D) [v] H5 fun _ H6 => ∃ m',m' < m∧W (i + 1) m' σ2 H6 else ∃ m',m' < m∧W (i + 1) m' σ2 H4):=by
 refine ⟨CW n Pv,⟨n,rfl,Nat.zero_le _,h0⟩,?_⟩
 rintro i m σ' H' ⟨rfl,hi,p⟩
 by_cases hlt:i < n
 ·refine .inr ⟨hlt,fun x H2 y => ?_⟩
  obtain ⟨e,y⟩:=y
  subst e y
  exact hs i σ' _ hlt p
 ·have e:i = n:=by trivial
  subst e
  exact .inl ⟨Nat.le_refl _,hd σ' H' p⟩
section
variable {X:Cx}
end
end L2
set_option Elab.async false
set_option linter.all false
set_option maxRecDepth 100000
namespace L2
open PySem PySem.Spec PyProof.Rows PySem.W
section
variable {X:Cx}
noncomputable def rNotB:R2:=fun x y H Q => ∃ a b,x = .bl a∧y = .bl b∧Q (.bl (!decide (a = b))) H
theorem op_notB:OpR X (compareOp .IsNot) rNotB:=by
 intro pins s σ H x y v u Q I rx ry h
 obtain ⟨a,b,rfl,rfl,q⟩:=h
 cases rx
 cases ry
 refine wpAny_isNot_plain (by cases a <;> cases b <;> rfl) ⟨.bl _,H,I,?_,q⟩
 cases a <;> cases b <;> rfl
end
end L2
set_option Elab.async false
set_option linter.all false
set_option maxRecDepth 100000
set_option maxHeartbeats 4000000
namespace PH
open PySem L2 PySem.W
theorem nm_inj:∀ {t u:List Int},t.Perm u -> nm t = nm u -> t = u
 | [],u,h,_ => h.symm.eq_nil.symm
 | x :: r,[],h,_ => by cases h.eq_nil
 | x :: r,y :: s,h,e => by
  have hs:∃ l:List Int,l.Pairwise (· ≤ ·)∧l.Perm (x :: r):=by
   refine ⟨(x :: r).mergeSort (fun a b => decide (a ≤ b)),?_,List.mergeSort_perm _ _⟩
   have:=List.pairwise_mergeSort (le:=fun a b:Int => decide (a ≤ b)) (fun a b c h1 h2 => by have:=of_decide_eq_true h1; have:=of_decide_eq_true h2; exact decide_eq_true (by trivial)) (fun a b => by
    by_cases q:a ≤ b
    ·rw [decide_eq_true q]; rfl
    ·rw [decide_eq_true (show b ≤ a by trivial),Bool.or_true]) (x :: r)
   exact this.imp fun {a b} q => of_decide_eq_true q
  obtain ⟨l,hl,hp⟩:=hs
  obtain ⟨h1,_,h3,h4⟩:=read_step hl hp.symm
  obtain ⟨g1,_,g3,g4⟩:=read_step hl (h.symm.trans hp.symm)
  rw [e,g1] at h1
  have exy:=Option.some.inj h1
  subst exy
  have hn:nm r = nm s:=by trivial
  rw [nm_inj (h4.trans g4.symm) hn]
noncomputable def tN:Nat -> List Int -> Nat -> List Int
 | 0,_,_ => []
 | n + 1,l,k => match l[k * l.length / tx l]? with
  | none => []
  | some x => x :: tN n (l.erase x) (k - tx l * l.idxOf x / l.length)
theorem tN_ok:∀ (n:Nat) {l:List Int} {k:Nat},l.length = n -> l.Pairwise (· ≤ ·) -> k < tx l -> (tN n l k).Perm l∧nm (tN n l k) = k
 | 0,l,k,hl,_,hk => by
  have:=List.eq_nil_of_length_eq_zero hl
  subst this
  have:tx [] = 1:=by decide
  rw [this] at hk
  exact ⟨List.Perm.refl _,by show 0 = k; trivial⟩
 | n + 1,l,k,hl,hs,hk => by
  obtain ⟨hj,hst⟩:=share_step hs (by trivial) hk
  obtain ⟨x,hx⟩:∃ x,l[k * l.length / tx l]? = some x:=⟨_,List.getElem?_eq_getElem hj⟩
  obtain ⟨e1,e2,e3⟩:=hst x hx
  have hm:=List.mem_of_getElem? hx
  have ih:=tN_ok n (l:=l.erase x) (k:=k - tx l * l.idxOf x / l.length) (by rw [List.length_erase_of_mem hm]; trivial) (hs.sublist List.erase_sublist) e3
  have ed:tN (n + 1) l k = x :: tN n (l.erase x) (k - tx l * l.idxOf x / l.length):=by
   show (match l[k * l.length / tx l]? with | none => [] | some x => x :: tN n (l.erase x) (k - tx l * l.idxOf x / l.length)) = _
   rw [hx]
  rw [ed]
  have hp:(x :: tN n (l.erase x) (k - tx l * l.idxOf x / l.length)).Perm l:=(ih.1.cons x).trans (List.perm_cons_erase hm).symm
  refine ⟨hp,?_⟩
  have:=(read_step hs hp).2.2.1
  rw [ih.2] at this
  generalize tx l * l.idxOf x / l.length = q at e2 this
  trivial
noncomputable def txN (cs:List (Int × Int)) (k:Nat):List Int:=tN (flat cs).length (flat cs) k
theorem txN_ok {cs:List (Int × Int)} (h:RiseC cs) {k:Nat} (hk:k < mlt 1 0 (tms cs)):(txN cs k).Perm (flat cs)∧nm (txN cs k) = k :=
 tN_ok _ rfl (flat_sorted h) (by rw [tx_flat h]; exact hk)
theorem txN_back {ns:List Int} (hb:∀ x ∈ ns,0 ≤ x∧x ≤ 255):txN (cnts ns) (nm ns) = ns:=by
 have h:=txN_ok (cnts_rise hb) (k:=nm ns) (by rw [cnts_tx hb]; exact nm_lt ns)
 exact nm_inj (h.1.trans (flat_cnts hb)) h.2
theorem have_len {cs:List (Int × Int)} (h:haveT cs = true):cs.length ≤ 256:=by
 have hr:=(have_of h).1
 have nd:(cs.map (·.1)).Nodup:=hr.1.imp fun {a b} w => Int.ne_of_lt w
 have:=ST.small_len nd fun k hk => by
  obtain ⟨c,hc,rfl⟩:=List.mem_map.mp hk
  have:=hr.2 c hc
  exact ⟨this.1,this.2.1⟩
 rwa [List.length_map] at this
theorem have_le {cs:List (Int × Int)} (h:haveT cs = true):∀ c ∈ cs,c.2 ≤ 400:=fun c hc => by
 obtain ⟨hr,hs⟩:=have_of h
 obtain ⟨k,hk⟩:=List.getElem?_of_mem hc
 have h1:=tms_sum_take hk
 have h2:=sumT_nat hr.ge
 trivial
noncomputable def unp (cs:List (Int × Int)):List Int:=cs.flatMap fun c => [c.1,c.2]
theorem unp_snoc (cs:List (Int × Int)) (c:Int × Int):unp (cs ++ [c]) = unp cs ++ [c.1,c.2]:=by
 unfold unp; rw [List.flatMap_append]; rfl
theorem unp_len:∀ cs:List (Int × Int),(unp cs).length = 2 * cs.length
 | [] => rfl
 | c :: r => by
  show ([c.1,c.2] ++ unp r).length = _
  simp only [List.length_append,List.length_cons,List.length_nil,unp_len r]; trivial
theorem unp_get:∀ {cs:List (Int × Int)} {i:Nat} {c:Int × Int},cs[i]? = some c -> (unp cs)[2 * i]? = some c.1∧(unp cs)[2 * i + 1]? = some c.2
 | c :: r,0,d,h => by
  have:=Option.some.inj h
  subst this
  exact ⟨rfl,rfl⟩
 | c :: r,i + 1,d,h => by
  have ih:=unp_get (cs:=r) (i:=i) h
  have e:unp (c :: r) = c.1 :: c.2 :: unp r:=rfl
  rw [e,show 2 * (i + 1) = 2 * i + 1 + 1 by trivial,List.getElem?_cons_succ,List.getElem?_cons_succ,List.getElem?_cons_succ,List.getElem?_cons_succ]
  exact ih
theorem mem_unp {cs:List (Int × Int)} {x:Int} (h:x ∈ unp cs):∃ c ∈ cs,x = c.1 ∨ x = c.2:=by
 obtain ⟨c,hc,hx⟩:=List.mem_flatMap.mp h
 refine ⟨c,hc,?_⟩
 simpa using hx
noncomputable def prd (ns:List Int):List (Int × Int):=(List.range (ns.length / 2)).map fun i => (ns.getD (2 * i) 0,ns.getD (2 * i + 1) 0)
theorem prd_len (ns:List Int):(prd ns).length = ns.length / 2:=by unfold prd; rw [List.length_map,List.length_range]
theorem prd_unp (cs:List (Int × Int)):prd (unp cs) = cs:=by
 unfold prd
 refine List.ext_getElem? fun i => ?_
 rw [List.getElem?_map,unp_len,show 2 * cs.length / 2 = cs.length by trivial]
 by_cases h:i < cs.length
 ·have hc:=List.getElem?_eq_getElem h
  obtain ⟨h1,h2⟩:=unp_get hc
  rw [List.getElem?_range h,Option.map_some,getD_at h1,getD_at h2,hc]
 ·rw [List.getElem?_eq_none (by rw [List.length_range]; trivial),List.getElem?_eq_none (by trivial)]; rfl
noncomputable def enough (m:Nat):Nat:=blen ((m:Int) - 1)
noncomputable def shB (ns:List Int):List Int:=rowb (unp (cnts ns)) ++ lowb (nm ns:Nat) (enough (tx ns))
theorem enough_lt {m:Nat} (h:1 ≤ m) {k:Nat} (hk:k < m):((k:Nat):Int) < 2 ^ enough m:=by
 have:=lt_blen (n:=(m:Int) - 1) (by trivial)
 unfold enough
 trivial
theorem enough_le {m:Nat} (h:1 ≤ m) (h2:m < 2 ^ 3000):enough m ≤ 3000:=by
 unfold enough
 refine blen_le.mpr ?_
 trivial
noncomputable def rdS (bs:List Int) (i:Int):Option (List Int × Nat):=match readRow bs i with
 | none => none
 | some (ns,b) => if ns.length % 2 = 1 then none else if haveT (prd ns) = false then none else
  if bs.length < b + enough (mlt 1 0 (tms (prd ns))) then none else
  if (mlt 1 0 (tms (prd ns)):Int) ≤ worth ((bs.drop b).take (enough (mlt 1 0 (tms (prd ns))))) then none else
  some (txN (prd ns) (worth ((bs.drop b).take (enough (mlt 1 0 (tms (prd ns)))))).toNat,b + enough (mlt 1 0 (tms (prd ns))))
theorem shB_bits (ns:List Int):isBits (shB ns):=by
 unfold shB rowb flatb
 refine isBits_app (isBits_app (endb_bits _) fun x hx => ?_) (lowb_bits _ _)
 obtain ⟨l,hl,hx⟩:=List.mem_flatten.mp hx
 obtain ⟨n,_,rfl⟩:=List.mem_map.mp hl
 exact endb_bits _ x hx
theorem cnts_small {ns:List Int} (hb:∀ x ∈ ns,0 ≤ x∧x ≤ 255) (hl:ns.length ≤ 400):∀ x ∈ unp (cnts ns),0 ≤ x∧x ≤ 400:=fun x hx => by
 obtain ⟨c,hc,h⟩:=mem_unp hx
 have h1:=(cnts_rise hb).2 c hc
 have h2:=have_le (cnts_have hb hl) c hc
 rcases h with rfl | rfl <;> trivial
theorem tx_lt {ns:List Int} (hl:ns.length ≤ 400):tx ns < 2 ^ 3000:=Nat.lt_of_le_of_lt (tx_le ns) (fac_lt hl)
theorem blen9 {n:Int} (h0:0 ≤ n) (h:n < 1024):blen n ≤ 10:=blen_le.mpr (by
   have:(2:Nat) ^ 10 = 1024:=by decide
   trivial)
theorem flatb_small:∀ {ns:List Int},(∀ x ∈ ns,0 ≤ x∧x ≤ 400) -> (flatb ns).length ≤ 20 * ns.length
 | [],_ => Nat.le_refl _
 | n :: r,h => by
  have ih:=flatb_small (ns:=r) fun x hx => h x (List.mem_cons_of_mem _ hx)
  have h1:=h n List.mem_cons_self
  have h2:=blen9 (n:=n + 1) (by trivial) (by trivial)
  rw [flatb_cons,List.length_append,endb_length,List.length_cons]; trivial
theorem shB_len {ns:List Int} (hb:∀ x ∈ ns,0 ≤ x∧x ≤ 255) (hl:ns.length ≤ 400):(shB ns).length ≤ 14000:=by
 have h1:=flatb_small (cnts_small hb hl)
 have h2:=unp_len (cnts ns)
 have h3:=cnts_few hb
 have h4:=enough_le (tx_pos ns) (tx_lt hl)
 have h5:=blen9 (n:=((unp (cnts ns)).length:Int) + 1) (by trivial) (by trivial)
 unfold shB rowb
 rw [List.length_append,List.length_append,endb_length,lowb_length]; trivial
theorem rdS_back {ns:List Int} (hb:∀ x ∈ ns,0 ≤ x∧x ≤ 255) (hl:ns.length ≤ 400) (pre post:List Int):rdS (pre ++ (shB ns ++ post)) (pre.length:Nat) = some (ns,pre.length + (shB ns).length):=by
 have hr:=readRow_row (ns:=unp (cnts ns)) (fun x hx => (cnts_small hb hl x hx).1) pre (lowb (nm ns:Nat) (enough (tx ns)) ++ post)
 unfold rdS
 rw [show pre ++ (shB ns ++ post) = pre ++ (rowb (unp (cnts ns)) ++ (lowb (nm ns:Nat) (enough (tx ns)) ++ post)) by unfold shB; rw [List.append_assoc]]
 rw [hr]
 have hd:(pre ++ (rowb (unp (cnts ns)) ++ (lowb (nm ns:Nat) (enough (tx ns)) ++ post))).drop (pre.length + (rowb (unp (cnts ns))).length) = lowb (nm ns:Nat) (enough (tx ns)) ++ post:=by
  rw [← List.append_assoc,← List.length_append,drop_pre]
 have ht:(lowb (nm ns:Nat) (enough (tx ns)) ++ post).take (enough (tx ns)) = lowb (nm ns:Nat) (enough (tx ns)):=by
  conv => lhs; arg 1; rw [← lowb_length (nm ns:Nat) (enough (tx ns))]
  rw [List.take_left]
 have hw:=worth_lowb (n:=((nm ns:Nat):Int)) (k:=enough (tx ns)) (by trivial) (enough_lt (tx_pos ns) (nm_lt ns))
 show (if (unp (cnts ns)).length % 2 = 1 then none else _) = _
 rw [if_neg (by rw [unp_len]; trivial),prd_unp,if_neg (by rw [cnts_have hb hl]; decide),cnts_tx hb,if_neg,hd,ht,hw,if_neg,Int.toNat_natCast,txN_back hb]
 ·unfold shB
  rw [List.length_append,lowb_length,Nat.add_assoc]
 ·have:=nm_lt ns; trivial
 ·rw [List.length_append,List.length_append,List.length_append,lowb_length]; trivial
theorem rdS_out {bs:List Int} {i:Int} (h:i < 0 ∨ (bs.length:Int) ≤ i):rdS bs i = none:=by
 have:readRow bs i = none:=by
  rcases h with h | h
  ·exact readRow_none (readE_neg h)
  ·exact readRow_none (readE_far h)
 unfold rdS
 rw [this]
theorem rdS_some {bs:List Int} (hb:isBits bs) {i:Int} {t:List Int} {e:Nat} (h:rdS bs i = some (t,e)):(∀ x ∈ t,0 ≤ x∧x ≤ 255)∧t.length ≤ 400∧e ≤ bs.length:=by
 unfold rdS at h
 cases hr:readRow bs i with
 | none => rw [hr] at h; cases h
 | some nb =>
  obtain ⟨ns,b⟩:=nb
  rw [hr] at h
  replace h:(if ns.length % 2 = 1 then none else if haveT (prd ns) = false then none else
  if bs.length < b + enough (mlt 1 0 (tms (prd ns))) then none else
  if (mlt 1 0 (tms (prd ns)):Int) ≤ worth ((bs.drop b).take (enough (mlt 1 0 (tms (prd ns))))) then none else
  some (txN (prd ns) (worth ((bs.drop b).take (enough (mlt 1 0 (tms (prd ns)))))).toNat,b + enough (mlt 1 0 (tms (prd ns))))) = some (t,e):=h
  split at h
  ·cases h
  split at h
  ·cases h
  rename_i _ hh
  have hv:haveT (prd ns) = true:=by cases q:haveT (prd ns) with | true => rfl | false => exact absurd q hh
  split at h
  ·cases h
  split at h
  ·cases h
  rename_i hw
  obtain ⟨h1,h2⟩:=Prod.mk.inj (Option.some.inj h)
  obtain ⟨hri,hsu⟩:=have_of hv
  have w0:=(worth_bound (bs:=(bs.drop b).take (enough (mlt 1 0 (tms (prd ns))))) (isBits_take (isBits_drop hb _) _)).1
  have ok:=txN_ok hri (k:=(worth ((bs.drop b).take (enough (mlt 1 0 (tms (prd ns)))))).toNat) (by trivial)
  rw [h1] at ok
  refine ⟨fun x hx => ?_,?_,by trivial⟩
  ·obtain ⟨c,hc,e⟩:=List.mem_map.mp (mem_flat (ok.1.subset hx))
   have:=hri.2 c hc
   trivial
  ·rw [ok.1.length_eq,flat_len]
   have:=sumT_nat hri.ge
   trivial
theorem rlow_map (n:Int):∀ k:Nat,rlow n k = (List.range k).map fun j => n / 2 ^ j % 2
 | 0 => rfl
 | k + 1 => by rw [rlow_snoc,rlow_map n k,List.range_succ,List.map_append]; rfl
theorem lowb_map (n:Int) (k:Nat):(List.range k).map (fun j => n / 2 ^ (k - 1 - j) % 2) = lowb n k:=by
 unfold lowb
 rw [rlow_map]
 refine List.ext_getElem? fun i => ?_
 by_cases h:i < k
 ·rw [List.getElem?_reverse (by rw [List.length_map,List.length_range]; exact h),List.length_map,List.length_range,List.getElem?_map,List.getElem?_map,List.getElem?_range h,List.getElem?_range (by trivial)]; rfl
 ·rw [List.getElem?_eq_none (by rw [List.length_map,List.length_range]; trivial),List.getElem?_eq_none (by rw [List.length_reverse,List.length_map,List.length_range]; trivial)]
theorem rsz_two {n:Nat} (h:n % 2 = 0):(Builtin.Range.rangeSize 0 (n:Int) 2).toNat = n / 2:=by
 unfold Builtin.Range.rangeSize
 rw [if_pos (by trivial)]
 split <;> trivial
theorem lt900 {n:Nat} (h:n < 1048576):n < 2 ^ 900:=Nat.lt_of_lt_of_le h (by decide +kernel)
theorem enough_nat {m:Nat} (h:1 ≤ m):blen (((m - 1:Nat)):Int) = enough m:=by
 unfold enough
 rw [show (((m - 1:Nat)):Int) = (m:Int) - 1 by trivial]
theorem flatb_two (a b:Int):flatb [a,b] = endb (a + 1) ++ endb (b + 1):=by
 show endb (a + 1) ++ (endb (b + 1) ++ []) = _
 rw [List.append_nil]
noncomputable def spLowW (cN:Addr):Sp:=fun vs H Q E => ∃ (n:Int) (k:Nat),vs = [.int n,.int k]∧k ≤ 3000∧(((n < 0 ∨ 2 ^ k ≤ n)∧E (.ref cN) none H) ∨ ((0 ≤ n∧n < 2 ^ k)∧∀ p,H p = none -> Q (.ref p) (upd H p (lsI (lowb n k)))))
noncomputable def spRowW (K:Frag) (cN:Addr):Sp:=fun vs H Q E => ∃ (a:Addr) (ns:List Int),vs = [.ref a]∧SqL K H a (ns.map V.int)∧ns.length ≤ 540∧(∀ n ∈ ns,0 ≤ n -> blen (n + 1) ≤ 900) ∧
 ((∃ n ∈ ns,n < 0) -> ∀ H',Same H H' -> E (.ref cN) none H')∧((∀ n ∈ ns,0 ≤ n) -> ∀ (p:Addr) (H':Hp),Same H H' -> H p = none -> H' p = some (lsI (rowb ns)) -> Q (.ref p) H')
noncomputable def spAreCW:Sp:=fun vs H Q _ => ∃ (p:Addr) (zs:List (Addr × Int × Int)),vs = [.ref p]∧Prs H p zs∧zs.length ≤ 20000∧∀ H',Same H H' -> Q (.bl (areC (zs.map (·.2)))) H'
noncomputable def spHaveW:Sp:=fun vs H Q _ => ∃ (p:Addr) (zs:List (Addr × Int × Int)),vs = [.ref p]∧Prs H p zs∧zs.length ≤ 20000∧∀ H',Same H H' -> Q (.bl (haveT (zs.map (·.2)))) H'
noncomputable def spTextsW (cB:Addr):Sp:=fun vs H Q E => ∃ (p:Addr) (zs:List (Addr × Int × Int)),vs = [.ref p]∧Prs H p zs∧zs.length ≤ 20000 ∧
 (haveT (zs.map (·.2)) = false -> ∀ H',Same H H' -> E (.ref cB) none H') ∧
 (haveT (zs.map (·.2)) = true -> ∀ H',Same H H' -> Q (.int (mlt 1 0 (tms (zs.map (·.2))):Nat)) H')
noncomputable def spTbsF (cB:Addr):Sp:=fun vs H Q E => ∃ (p:Addr) (zs:List (Addr × Int × Int)) (number:Int),vs = [.ref p,.int number]∧Prs H p zs∧zs.length ≤ 20000 ∧
 ((haveT (zs.map (·.2)) = false ∨ number < 0 ∨ (mlt 1 0 (tms (zs.map (·.2))):Int) ≤ number) -> ∀ H',Same H H' -> E (.ref cB) none H') ∧
 (haveT (zs.map (·.2)) = true -> 0 ≤ number -> number < (mlt 1 0 (tms (zs.map (·.2))):Int) -> ∀ (T:Addr) (H':Hp),Same H H' -> H T = none -> H' T = some (lsI (txN (zs.map (·.2)) number.toNat)) -> Q (.ref T) H')
noncomputable def spUnp:Sp:=fun vs H Q _ => ∃ (p:Addr) (zs:List (Addr × Int × Int)),vs = [.ref p]∧Prs H p zs∧zs.length ≤ 300∧∀ (L:Addr) (H':Hp),Same H H' -> H L = none -> H' L = some (lsI (unp (zs.map (·.2)))) -> Q (.ref L) H'
noncomputable def spPrd (cB:Addr):Sp:=fun vs H Q E => ∃ (a:Addr) (ns:List Int),vs = [.ref a]∧H a = some (lsI ns)∧ns.length ≤ 40000∧(ns.length % 2 = 1 -> E (.ref cB) none H) ∧
 (ns.length % 2 = 0 -> ∀ (p:Addr) (zs:List (Addr × Int × Int)) (H':Hp),Same H H' -> H p = none -> Prs H' p zs -> zs.map (·.2) = prd ns -> Q (.ref p) H')
noncomputable def spEnough:Sp:=fun vs H Q _ => ∃ m:Nat,vs = [.int (m:Nat)]∧1 ≤ m∧Q (.int (enough m:Nat)) H
noncomputable def spShB:Sp:=fun vs H Q _ => ∃ (a:Addr) (ns:List Int),vs = [.ref a]∧H a = some (lsI ns)∧ns.length ≤ 400∧(∀ x ∈ ns,0 ≤ x∧x ≤ 255) ∧
 ∀ (L:Addr) (H':Hp),Same H H' -> H L = none -> H' L = some (lsI (shB ns)) -> Q (.ref L) H'
noncomputable def spRdS (cB:Addr):Sp:=fun vs H Q E => ∃ (a:Addr) (bs:List Int) (i:Int),vs = [.ref a,.int i]∧H a = some (lsI bs)∧isBits bs∧bs.length ≤ 20000∧i ≤ 1000000 ∧
 (rdS bs i = none -> ∀ H',Same H H' -> E (.ref cB) none H') ∧
 (∀ t e,rdS bs i = some (t,e) -> ∀ (T L:Addr) (H':Hp),Same H H' -> H L = none -> H' L = some (lsI t) -> H' T = some (.tup [.ref L,.int (e:Nat)]) -> Q (.ref T) H')
noncomputable def spText54:Sp:=fun vs H Q _ => ∃ (p:Addr) (n:Int) (b:Bool),vs = [.ref p,.bl b]∧PL n p H∧n ≤ 900000∧∀ (T:Addr) (ts:List Int) (H':Hp),Kb p H H' -> PL (n + 1000) p H' -> H T = none -> H' T = some (lsI ts) -> ts.length ≤ 400 -> (∀ x ∈ ts,0 ≤ x∧x ≤ 255) -> Q (.ref T) H'
noncomputable def spLLow:Sp:=fun vs H Q _ => ∃ (n:Int) (k:Nat),vs = [.int n,.int (k:Nat)]∧k ≤ 3000∧∀ (L:Addr) (H':Hp),Same H H' -> H L = none -> H' L = some (lsI (lowb n k)) -> Q (.ref L) H'
noncomputable def spLWide:Sp:=fun vs H Q _ => ∃ n:Nat,vs = [.int (n:Nat)]∧n < 2 ^ 3000∧Q (.int (blen (n:Nat):Nat)) H
noncomputable def spLEnd54:Sp:=fun vs H Q _ => ∃ n:Nat,vs = [.int (n:Nat)]∧1 ≤ n∧n < 2 ^ 900∧∀ (L:Addr) (H':Hp),Same H H' -> H L = none -> H' L = some (lsI (endb (n:Nat))) -> Q (.ref L) H'
noncomputable def spWrt54:Sp:=fun vs H Q _ => ∃ (a q:Addr) (ns:List Int),vs = [.ref a,.ref q]∧H a = some (lsI ns)∧ns.length ≤ 400∧(∀ x ∈ ns,0 ≤ x∧x ≤ 255)∧H q = some (lsI facs) ∧
 ∀ (L:Addr) (H':Hp),Same H H' -> H' L = some (lsI (shB ns)) -> Q (.ref L) H'
noncomputable def spLNum54:Sp:=fun vs H Q _ => ∃ (a:Addr) (bs:List Int) (i:Nat),vs = [.ref a,.int (i:Nat)]∧H a = some (lsI bs)∧isBits bs∧bs.length ≤ 20000∧i ≤ 30000 ∧
 (readE bs (i:Nat) = none -> Q .non H)∧(∀ n b,readE bs (i:Nat) = some (n,b) -> ∀ (t:Addr) (H':Hp),Same H H' -> H t = none -> H' t = some (.tup [.int n,.int (b:Nat)]) -> Q (.ref t) H')
noncomputable def spLRow54:Sp:=fun vs H Q _ => ∃ (a:Addr) (bs:List Int) (i:Nat),vs = [.ref a,.int (i:Nat)]∧H a = some (lsI bs)∧isBits bs∧bs.length ≤ 20000∧i ≤ 30000 ∧
 (readRow bs (i:Nat) = none -> ∀ H',Same H H' -> Q .non H')∧(∀ ns b,readRow bs (i:Nat) = some (ns,b) -> ∀ (t l:Addr) (H':Hp),Same H H' -> H l = none -> H' l = some (lsI ns) -> H' t = some (.tup [.ref l,.int (b:Nat)]) -> Q (.ref t) H')
noncomputable def spIsW:Sp:=fun vs H Q _ => ∃ (p:Addr) (zs:List (Addr × Int × Int)),vs = [.ref p]∧Prs H p zs∧zs.length ≤ 20000∧∀ H',Same H H' -> Q (.bl (haveT (zs.map (·.2)))) H'
noncomputable def spDue54:Sp:=fun vs H Q _ => ∃ (a q:Addr) (bs:List Int) (i:Nat),vs = [.ref a,.int (i:Nat),.ref q]∧H a = some (lsI bs)∧H q = some (lsI facs)∧isBits bs∧bs.length ≤ 20000∧i ≤ 30000 ∧
 (rdS bs (i:Nat) = none -> ∀ H',Same H H' -> Q .non H') ∧
 (∀ t e,rdS bs (i:Nat) = some (t,e) -> ∀ (T L:Addr) (H':Hp),Same H H' -> H' L = some (lsI t) -> H' T = some (.tup [.ref L,.int (e:Nat)]) -> Q (.ref T) H')
noncomputable def spLRd54:Sp:=fun vs H Q _ => ∃ (a:Addr) (bs:List Int) (i:Int),vs = [.ref a,.int i]∧H a = some (lsI bs)∧isBits bs∧bs.length ≤ 20000∧i ≤ 1000000 ∧
 (rdS bs i = none -> ∀ H',Same H H' -> Q (.bl true) H') ∧
 (∀ t e,rdS bs i = some (t,e) -> ∀ (T L:Addr) (H':Hp),Same H H' -> H' L = some (lsI t) -> H' T = some (.tup [.ref L,.int (e:Nat)]) -> Q (.ref T) H')
noncomputable def spBent:Sp:=fun vs H Q _ => ∃ (a p:Addr) (n:Int) (bs:List Int),vs = [.ref a,.ref p]∧a ≠ p∧H a = some (lsI bs)∧isBits bs∧bs.length ≤ 15000∧PL n p H∧n ≤ 900000 ∧
 ∀ (L:Addr) (rs:List Int) (H':Hp),Kb p H H' -> PL (n + 100) p H' -> H L = none -> H' L = some (lsI rs) -> isBits rs -> rs.length ≤ 15100 -> Q (.ref L) H'
end PH
set_option Elab.async false
set_option linter.all false
set_option maxRecDepth 100000
set_option maxHeartbeats 4000000
namespace K54
open PySem L2 PySem.W PH
noncomputable def top (i:Nat):Stmt:=PySem.Challenge.pw_packhall_k54_whole_shares_as_bits.main.body.getD i (.Pass ⟨0,0,0,0⟩)
noncomputable abbrev s_low:Stmt:=top 10
noncomputable abbrev s_num:Stmt:=top 11
noncomputable abbrev s_end:Stmt:=top 12
noncomputable abbrev s_first:Stmt:=top 13
noncomputable abbrev s_read:Stmt:=top 14
noncomputable abbrev s_row:Stmt:=top 15
noncomputable abbrev s_rdrow:Stmt:=top 16
noncomputable abbrev s_whole:Stmt:=top 20
noncomputable abbrev s_unp:Stmt:=top 21
noncomputable abbrev s_prd:Stmt:=top 22
noncomputable abbrev s_counts:Stmt:=top 24
noncomputable abbrev s_rise:Stmt:=top 25
noncomputable abbrev s_arec:Stmt:=top 26
noncomputable abbrev s_pair:Stmt:=top 28
noncomputable abbrev s_have:Stmt:=top 29
noncomputable abbrev s_orders:Stmt:=top 30
noncomputable abbrev s_texts:Stmt:=top 31
noncomputable abbrev s_share:Stmt:=top 32
noncomputable abbrev s_inord:Stmt:=top 33
noncomputable abbrev s_tbs:Stmt:=top 34
noncomputable abbrev s_eno:Stmt:=top 35
noncomputable abbrev s_shb:Stmt:=top 36
noncomputable abbrev s_rds:Stmt:=top 37
noncomputable abbrev s_pool:Stmt:=top 39
noncomputable abbrev s_take:Stmt:=top 40
noncomputable abbrev s_prod:Stmt:=top 41
noncomputable abbrev s_many:Stmt:=top 42
noncomputable abbrev s_text:Stmt:=top 43
noncomputable abbrev s_llow:Stmt:=top 44
noncomputable abbrev s_lwide:Stmt:=top 45
noncomputable abbrev s_lend:Stmt:=top 46
noncomputable abbrev s_wrt:Stmt:=top 47
noncomputable abbrev s_lnum:Stmt:=top 48
noncomputable abbrev s_lrow:Stmt:=top 49
noncomputable abbrev s_is:Stmt:=top 50
noncomputable abbrev s_due:Stmt:=top 51
noncomputable abbrev s_lrd:Stmt:=top 52
noncomputable abbrev s_bent:Stmt:=top 53
noncomputable abbrev s_law:Stmt:=top 54
noncomputable abbrev sLow:Stmt:=top 10
noncomputable abbrev sNum:Stmt:=top 11
noncomputable abbrev sEnd:Stmt:=top 12
noncomputable abbrev sFirst:Stmt:=top 13
noncomputable abbrev sRead:Stmt:=top 14
section
variable {P:Program} {w:World} {K:PySem.W.Frag} {mg:Str -> Option Value} {base:Heap}
theorem scLow:FnScope ["n", "k", "bits", "left"] ["n", "k"] (defScope sLow):=⟨rfl, rfl, rfl, by decide +kernel, rfl, by decide +kernel, by decide +kernel⟩
theorem ok_low {f cN:Addr} {fd:FuncData} (F:Fun K "low_bits" "low_bits" sLow f fd) (xN:Ex K mg "NoNumber" cN) (ml:mg "len" = none):FnOk P w K mg base (CXW P w) 1 f fd ["n", "k"] (spLowW cN):=by
 refine F.okX scLow (fun vs H Q E h => ?_) (fun cdv A outer s H vs Q E hr h => ?_)
 ·obtain ⟨n,k,rfl,_⟩:=h
  rfl
 ·obtain ⟨n,k,rfl,hk,h⟩:=h
  refine ⟨_,pss_cons (ps_if (PW.pt (pw_or (pt_cmpR op_lt (pv 0) pe_int (nomark _)) (pw_or1 (pt_cmpR op_gt (pe_bm0 PySem.F.plainAttrs_int PySem.F.slot_int_bit_length PySem.F.type_int_bit_length mt_bitlen (pv 0)) (pv 1) (nomark _)))))
    (pss_one (ps_raise PySem.F.excBase_ValueError xN.ex xN.mg rfl)) pss_nil)
   (pss_cons (ps_set (i:=2) scLow.nd rfl (Or.inl rfl) (pe_lst pa_nil))
   (pss_cons (ps_set (i:=3) scLow.nd rfl (Or.inl rfl) (pv 0))
   (pss_cons (ps_while pown (pt_cmpR op_lt (pe_callB call_len_seq rfl ml PySem.boot_len (pa_cons (pv 2) pa_nil)) (pv 1) (nomark _))
    (pss_cons (ps_expr (pe_bm PySem.F.plainAttrs_list PySem.F.slot_list_append PySem.F.type_list_append mt_append (pv 2) (pa_cons (pe_op op_mod (pv 3) pe_int) pa_nil)))
    (pss_one (ps_set (i:=3) scLow.nd rfl (Or.inl rfl) (pe_op op_fdiv (pv 3) pe_int)))))
   (pss_cons (ps_expr (pe_bm0 PySem.F.plainAttrs_list PySem.F.slot_list_reverse PySem.F.type_list_reverse mt_reverse (pv 2)))
   (pss_one (ps_ret (pv 2))))))),?_⟩
  rcases h with ⟨hb,hE⟩ | ⟨⟨h0,h1⟩,hQ⟩
  ·refine ⟨_,rfl,_,_,rfl,rfl,_,rfl,?_⟩
   refine ite2 (fun c => ?_) (fun c => ?_)
   ·exact iteT hE
   ·have c':¬ n < 0:=fun z => c (decide_eq_true z)
    refine ⟨_,rfl,rfl,n,rfl,rfl,_,rfl,_,_,rfl,rfl,_,rfl,?_⟩
    rw [bits_over (by trivial),decide_eq_true (by trivial)]
    exact iteT hE
  refine ⟨_,rfl,_,_,rfl,rfl,_,rfl,?_⟩
  rw [decide_eq_false (by trivial)]
  refine iteF ?_
  refine ⟨_,rfl,rfl,n,rfl,rfl,_,rfl,_,_,rfl,rfl,_,rfl,?_⟩
  rw [bits_over h0,decide_eq_false (by trivial)]
  refine iteF ?_
  refine ⟨(by show 0 ≤ sizeLine; decide),fun p hp => ?_⟩
  refine ⟨_,rfl,?_⟩
  refine ⟨fun m σ H' => ∃ i:Nat,i ≤ k∧m = k - i∧σ = [some (.int n),some (.int k),some (.ref p),some (.int (n / 2 ^ i))]∧H' = upd H p (lsI (rlow n i)),⟨k,0,Nat.zero_le _,rfl,?_,rfl⟩,?_⟩
  ·show _ = [some (V.int n),some (V.int k),some (V.ref p),some (V.int (n / 2 ^ 0))]
   rw [Int.pow_zero,Int.ediv_one]; rfl
  rintro m σ H' ⟨i,hi,rfl,rfl,rfl⟩
  refine ⟨_,rfl,p,_,rfl,.inl (SqL.of upd_same),_,rfl,_,_,rfl,rfl,_,rfl,?_⟩
  rw [List.length_map,rlow_length]
  refine ite2 (fun c => ?_) (fun c => ?_)
  ·have c':i < k:=by have:=of_decide_eq_true c; trivial
   refine ⟨fun σ' H'' => ∃ m',m' < k - i∧∃ i:Nat,i ≤ k∧m' = k - i∧σ' = [some (.int n),some (.int k),some (.ref p),some (.int (n / 2 ^ i))]∧H'' = upd H p (lsI (rlow n i)),fun σ' H'' z => z,?_⟩
   refine ⟨_,rfl,.inl ⟨rfl,_,SqL.of upd_same⟩,_,rfl,_,_,rfl,rfl,(by show (0:Int) < 2; decide),p,_,_,rfl,rfl,upd_same,fits_lt (by rw [List.length_map,rlow_length]; trivial),?_⟩
   refine ⟨_,rfl,_,_,rfl,rfl,⟨by decide,by decide⟩,?_⟩
   refine ⟨k - (i + 1),by trivial,i + 1,c',rfl,?_,?_⟩
   ·rw [← div_pow_succ]; rfl
   ·rw [upd_upd]; unfold lsI; rw [rlow_snoc,List.map_append]; rfl
  ·have c':i = k:=by
    have:¬ ((i:Nat):Int) < (k:Int):=fun z => c (decide_eq_true z)
    trivial
   subst c'
   refine ⟨_,rfl,.inl ⟨rfl,_,SqL.of upd_same⟩,p,_,rfl,rfl,upd_same,?_⟩
   refine ⟨_,rfl,?_⟩
   rw [upd_upd,← List.map_reverse]
   exact hQ p hp
theorem scNum:FnScope ["bits", "number", "bit"] ["bits"] (defScope sNum):=⟨rfl, rfl, rfl, by decide +kernel, rfl, by decide +kernel, by decide +kernel⟩
theorem ok_num {f:Addr} {fd:FuncData} (F:Fun K "number_of" "number_of" sNum f fd):FnOk P w K mg base (CXW P w) 1 f fd ["bits"] (spWorth K):=by
 refine F.okN scNum (fun vs H Q E h => ?_) (fun cdv A outer s H vs Q E hr h => ?_)
 ·obtain ⟨a,bs,rfl,_⟩:=h
  rfl
 ·obtain ⟨a,bs,rfl,hS,k⟩:=h
  refine ⟨_,pss_cons (ps_set (i:=1) scNum.nd rfl (Or.inl rfl) pe_int)
   (pss_cons (ps_for PassesOwn.never rfl (pi_list (pv 0)) (pg_name (i:=2) scNum.nd rfl (Or.inl rfl)) (pss_one (ps_set (i:=1) scNum.nd rfl (Or.inl rfl) (pe_op op_add (pe_op op_mul pe_int (pv 1)) (pv 2)))))
   (pss_one (ps_ret (pv 1)))),?_⟩
  refine ⟨_,rfl,a,rfl,⟨_,hS⟩,for_list (K:=K) (a:=a) (xs:=bs.map V.int) (fun i σ H2 => ∃ v,σ = [some (.ref a),some (.int (horner (bs.take i))),v]∧H2 = H) ⟨none,rfl,rfl⟩ (fun i σ H2 _ ⟨_,_,e⟩ => by rw [e]; exact hS) ?_ ?_⟩
  ·rintro i y σ H2 hi ⟨v,rfl,rfl⟩
   obtain ⟨z,rfl,hz⟩:=int_at hi
   refine ⟨_,rfl,_,_,rfl,rfl,.inl ⟨by decide,by decide⟩,_,rfl,_,_,rfl,rfl,?_⟩
   exact ⟨_,by rw [take_at hz,horner_snoc]; rfl,rfl⟩
  ·rintro σ H2 ⟨v,rfl,rfl⟩
   refine ⟨_,rfl,?_⟩
   rw [List.length_map,List.take_length,worth_eq]
   exact k
theorem scEnd:FnScope ["n", "many"] ["n"] (defScope sEnd):=⟨rfl, rfl, rfl, by decide +kernel, rfl, by decide +kernel, by decide +kernel⟩
theorem ok_end {f g cN:Addr} {fd gd:FuncData} (F:Fun K "ending_bits" "ending_bits" sEnd f fd) (xN:Ex K mg "NoNumber" cN) (G:FnOk P w K mg base (CXW P w) 1 g gd ["n", "k"] (spLowW cN)) (bG:Binds K gd ["n", "k"] []) (kG:keepIn K (.ref g) = true) (mG:mg "low_bits" = some (.ref g)) :
  FnOk P w K mg base (CXW P w) 2 f fd ["n"] (spEnd cN):=by
 refine F.okX scEnd (fun vs H Q E h => ?_) (fun cdv A outer s H vs Q E hr h => ?_)
 ·obtain ⟨n,rfl,_⟩:=h
  rfl
 ·obtain ⟨n,rfl,h⟩:=h
  refine ⟨_,pss_cons (ps_if (pt_cmpR op_lt (pv 0) pe_int (nomark _)) (pss_one (ps_raise PySem.F.excBase_ValueError xN.ex xN.mg rfl)) pss_nil)
   (pss_cons (ps_set (i:=1) scEnd.nd rfl (Or.inl rfl) (pe_bm0 PySem.F.plainAttrs_int PySem.F.slot_int_bit_length PySem.F.type_int_bit_length mt_bitlen (pv 0)))
   (pss_one (ps_ret (pe_op op_cat (pe_op op_rep (pe_lst (pa_cons pe_int pa_nil)) (pe_op op_sub (pv 1) pe_int)) (pe_call G hr rfl mG kG bG .nil passW (pa_cons (pv 0) (pa_cons (pv 1) pa_nil))))))),?_⟩
  refine ⟨_,rfl,_,_,rfl,rfl,_,rfl,?_⟩
  rcases h with ⟨h1,hE⟩ | ⟨h1,h9,k⟩
  ·rw [decide_eq_true h1]
   exact iteT hE
  ·rw [decide_eq_false (by trivial)]
   refine iteF ?_
   have bp:=blen_pos h1
   refine ⟨_,rfl,rfl,n,rfl,rfl,?_⟩
   refine ⟨(by show 1 ≤ sizeLine; decide),fun p1 hp1 => ?_⟩
   have et:(((blen n:Nat):Int) - 1).toNat = blen n - 1:=by trivial
   refine ⟨_,rfl,_,_,rfl,rfl,p1,((blen n:Nat):Int) - 1,[.int 0],rfl,rfl,upd_same,by trivial,by trivial,Nat.le_of_lt (fits_lt (by rw [List.length_singleton,et]; trivial)),fun p2 hp2 => ?_⟩
   refine ⟨_,rfl,_,rfl,n,blen n,rfl,by trivial,.inr ⟨⟨by trivial,lt_blen (by trivial)⟩,fun p3 hp3 => ?_⟩⟩
   refine ⟨p2,p3,_,_,rfl,rfl,by rw [upd_ne (ne_of_none upd_same hp3),upd_same],upd_same,fits ?_,fun p4 hp4 => ?_⟩
   ·rw [et,rep_ints,List.length_map,List.length_map,List.length_replicate,lowb_length]; trivial
   have s3:=(same_new hp1 (.lst [.int 0])).trans ((same_new hp2 (.lst (List.replicate (((blen n:Nat):Int) - 1).toNat [V.int 0]).flatten)).trans (same_new hp3 (lsI (lowb n (blen n)))))
   refine k p4 _ (s3.trans (same_new hp4 _)) (s3.free hp4) ?_
   rw [upd_same,et,rep_ints,← List.map_append]; rfl
theorem scFirst:FnScope ["bits", "at", "place"] ["bits", "at"] (defScope sFirst):=⟨rfl, rfl, rfl, by decide +kernel, rfl, by decide +kernel, by decide +kernel⟩
theorem ok_first {f cB:Addr} {fd:FuncData} (F:Fun K "first_one" "first_one" sFirst f fd) (xB:Ex K mg "Broken" cB) (B:Bl mg):FnOk P w K mg base (CXW P w) 1 f fd ["bits", "at"] (spFirst K cB):=by
 refine F.okX scFirst (fun vs H Q E h => ?_) (fun cdv A outer s H vs Q E hr h => ?_)
 ·obtain ⟨a,bs,i,rfl,_⟩:=h
  rfl
 ·obtain ⟨a,bs,i,rfl,hS,hl,hi6,h⟩:=h
  refine ⟨_,pss_cons (ps_if (pt_cmpR op_lt (pv 1) pe_int (nomark _)) (pss_one (ps_raise PySem.F.excBase_ValueError xB.ex xB.mg rfl)) pss_nil)
   (pss_cons (ps_for pown rfl (pi_range2 rfl B.range (pa_cons (pv 1) (pa_cons (pe_callB call_len_seq rfl B.len PySem.boot_len (pa_cons (pv 0) pa_nil)) pa_nil))) (pg_name (i:=2) scFirst.nd rfl (Or.inl rfl))
    (pss_one (ps_if (pt_cmpR op_eq (pe_ix ix_list (pv 0) (pv 2) (fun _ _ => rfl)) pe_int (nomark _)) (pss_one (ps_ret (pv 2))) pss_nil)))
   (pss_one (ps_raise PySem.F.excBase_ValueError xB.ex xB.mg rfl))),?_⟩
  refine ⟨_,rfl,_,_,rfl,rfl,_,rfl,?_⟩
  rcases h with ⟨h0,hE⟩ | ⟨h0,h⟩
  ·rw [decide_eq_true h0]
   exact iteT hE
  ·rw [decide_eq_false (by trivial)]
   refine iteF ?_
   have hbl:(bs.map V.int).length = bs.length:=List.length_map _
   refine ⟨_,rfl,_,rfl,a,_,rfl,.inl hS,_,_,rfl,⟨by trivial,by trivial,by trivial,by rw [hbl]; trivial⟩,for_range (fun j σ H2 => ∃ v,σ = [some (.ref a),some (.int i),v]∧H2 = H∧firstOne (bs.drop i.toNat) = (firstOne (bs.drop (i.toNat + j))).map (j + ·)) ⟨none,rfl,rfl,?_⟩ ?_ ?_⟩
   ·rw [Nat.add_zero]
    cases firstOne (bs.drop i.toNat) with
    | none => rfl
    | some d => rw [Option.map_some,Nat.zero_add]
   ·rintro j σ H2 hj ⟨v,rfl,rfl,he⟩
    rw [hbl] at hj
    have hlt:i.toNat + j < bs.length:=by trivial
    have hz:bs[i.toNat + j]? = some bs[i.toNat + j]:=List.getElem?_eq_getElem hlt
    have hat:atI (bs.map V.int) (i + (j:Int)) = some (.int bs[i.toNat + j]):=by
     rw [show i + (j:Int) = ((i.toNat + j:Nat):Int) by trivial]
     exact atI_nat (by rw [List.getElem?_map,hz]; rfl)
    refine ⟨_,rfl,_,rfl,a,_,_,_,rfl,rfl,hS,hat,rfl,_,rfl,?_⟩
    rw [firstOne_step hz] at he
    refine ite2 (fun c => ?_) (fun c => ?_)
    ·have c':bs[i.toNat + j] = 1:=by injection of_decide_eq_true c
     rw [if_pos c'] at he
     refine ⟨_,rfl,?_⟩
     rw [he] at h
     rw [show i + (j:Int) = ((i.toNat + (j + 0):Nat):Int) by trivial]
     exact h
    ·have c':¬ bs[i.toNat + j] = 1:=fun z => c (by rw [z]; rfl)
     rw [if_neg c'] at he
     refine ⟨_,rfl,rfl,?_⟩
     rw [he,← Nat.add_assoc]
     cases firstOne (bs.drop (i.toNat + j + 1)) with
     | none => rfl
     | some d =>
      rw [Option.map_some,Option.map_some,Option.map_some]
      congr 1; trivial
   ·rintro σ H2 ⟨v,rfl,rfl,he⟩
    have he2:firstOne (bs.drop i.toNat) = none:=by
     rw [he,firstOne_end (k:=i.toNat + (((bs.map V.int).length:Int) - i).toNat) (by rw [hbl]; trivial)]; rfl
    rw [he2] at h
    exact h
theorem scRead:FnScope ["bits", "at", "one", "behind"] ["bits", "at"] (defScope sRead):=⟨rfl, rfl, rfl, by decide +kernel, rfl, by decide +kernel, by decide +kernel⟩
theorem ok_read {f fF fN cB:Addr} {fd dF dN:FuncData} (F:Fun K "read_ending" "read_ending" sRead f fd) (xB:Ex K mg "Broken" cB) (B:Bl mg)
  (GF:FnOk P w K mg base (CXW P w) 1 fF dF ["bits", "at"] (spFirst K cB)) (bF:Binds K dF ["bits", "at"] []) (kF:keepIn K (.ref fF) = true) (mF:mg "first_one" = some (.ref fF))
  (GN:FnOk P w K mg base (CXW P w) 1 fN dN ["bits"] (spWorth K)) (bN:Binds K dN ["bits"] []) (kN:keepIn K (.ref fN) = true) (mN:mg "number_of" = some (.ref fN)):FnOk P w K mg base (CXW P w) 2 f fd ["bits", "at"] (spRead K cB):=by
 refine F.okX scRead (fun vs H Q E h => ?_) (fun cdv A outer s H vs Q E hr h => ?_)
 ·obtain ⟨a,bs,i,rfl,_⟩:=h
  rfl
 ·obtain ⟨a,bs,i,rfl,hS,hl,hi6,h⟩:=h
  refine ⟨_,pss_cons (ps_set (i:=2) scRead.nd rfl (Or.inl rfl) (pe_call GF hr rfl mF kF bF .nil passW (pa_cons (pv 0) (pa_cons (pv 1) pa_nil))))
   (pss_cons (ps_set (i:=3) scRead.nd rfl (Or.inl rfl) (pe_op op_add (pe_op op_add (pv 2) (pe_op op_sub (pv 2) (pv 1))) pe_int))
   (pss_cons (ps_if (pt_cmpR op_gt (pv 3) (pe_callB call_len_seq rfl B.len PySem.boot_len (pa_cons (pv 0) pa_nil)) (nomark _)) (pss_one (ps_raise PySem.F.excBase_ValueError xB.ex xB.mg rfl)) pss_nil)
   (pss_one (ps_ret (pe_tup (pa_cons (pe_call GN hr rfl mN kN bN .nil passW (pa_cons (pe_slice sl_list (pv 0) (po_some (pv 2)) (po_some (pv 3))) pa_nil)) (pa_cons (pv 3) pa_nil))))))),?_⟩
  have hbl:(bs.map V.int).length = bs.length:=List.length_map _
  unfold readE at h
  by_cases h0:i < 0
  ·rw [if_pos h0] at h
   exact ⟨_,rfl,_,rfl,a,bs,i,rfl,hS,hl,hi6,.inl ⟨h0,h⟩⟩
  rw [if_neg h0] at h
  refine ⟨_,rfl,_,rfl,a,bs,i,rfl,hS,hl,hi6,.inr ⟨by trivial,?_⟩⟩
  cases e:firstOne (bs.drop i.toNat) with
  | none =>
   rw [e] at h
   exact h
  | some d =>
   rw [e] at h
   have hd:=firstOne_lt e
   rw [List.length_drop] at hd
   have eb:((i.toNat + d:Nat):Int) + (((i.toNat + d:Nat):Int) - i) + 1 = ((i.toNat + d + d + 1:Nat):Int):=by trivial
   refine ⟨_,rfl,_,rfl,_,rfl,_,_,rfl,rfl,_,_,rfl,rfl,_,_,rfl,rfl,?_⟩
   refine ⟨_,rfl,_,rfl,a,_,rfl,.inl hS,_,_,rfl,rfl,_,rfl,?_⟩
   rw [hbl,eb]
   by_cases h1:bs.length < i.toNat + d + d + 1
   ·dsimp only at h
    rw [if_pos h1] at h
    rw [decide_eq_true (by trivial)]
    exact iteT h
   ·dsimp only at h
    rw [if_neg h1] at h
    rw [decide_eq_false (by trivial)]
    refine iteF ?_
    refine ⟨_,rfl,_,rfl,_,rfl,_,rfl,_,rfl,a,_,rfl,hS,fun p hp => ?_⟩
    have ec:cutV (bs.map V.int) (some (((i.toNat + d:Nat):Int))) (some ((((i.toNat + d:Nat):Int) + (((i.toNat + d:Nat):Int) - i) + 1))) = ((bs.drop (i.toNat + d)).take (d + 1)).map V.int:=by
     rw [eb,cut_two]; congr 2; trivial
    refine ⟨p,(bs.drop (i.toNat + d)).take (d + 1),rfl,SqL.of (by rw [upd_same,ec]),?_⟩
    refine ⟨_,rfl,(by show 2 ≤ sizeLine; decide),fun t ht => ?_⟩
    refine h t _ ((same_new hp _).trans (same_new ht _)) ((same_new hp _).free ht) ?_
    rw [upd_same,← eb]
theorem sc_row:FnScope ["numbers", "bits", "number"] ["numbers"] (defScope s_row):=⟨rfl, rfl, rfl, by decide +kernel, rfl, by decide +kernel, by decide +kernel⟩
theorem ok_row {f c_NoNumber f_end:Addr} {fd d_end:FuncData} (F:Fun K "row_bits" "row_bits" s_row f fd) (B:Bls mg) 
  (G_end:FnOk P w K mg base (CXW P w) 2 f_end d_end ["n"] (spEnd c_NoNumber)) (b_end:Binds K d_end ["n"] []) (k_end:keepIn K (.ref f_end) = true) (m_end:mg "ending_bits" = some (.ref f_end)):FnOk P w K mg base (CXW P w) 3 f fd ["numbers"] (spRowW K c_NoNumber):=by
 refine F.okX sc_row (fun vs H Q E h => ?_) (fun cdv A outer s H vs Q E hr h => ?_)
 ·obtain ⟨a,ns,rfl,_⟩:=h
  rfl
 ·obtain ⟨a,ns,rfl,hS,h5,hbn,hE,hQ⟩:=h
  refine ⟨_,(pss_cons (ps_set (i:=1) sc_row.nd rfl (Or.inl rfl) (pe_call G_end hr rfl m_end k_end b_end .nil passW (pa_cons (pe_op op_add (pe_callB call_len_seq rfl B.len PySem.boot_len (pa_cons (pv 0) pa_nil)) pe_int) pa_nil)))
   (pss_cons (ps_for pown rfl (pi_list (pv 0)) (pg_name (i:=2) sc_row.nd rfl (Or.inl rfl))
    (pss_one (ps_expr (pe_bm PySem.F.plainAttrs_list PySem.F.slot_list_extend PySem.F.type_list_extend mt_extend (pv 1) (pa_cons (pe_call G_end hr rfl m_end k_end b_end .nil passW (pa_cons (pe_op op_add (pv 2) pe_int) pa_nil)) pa_nil)))))
   (pss_one (ps_ret (pv 1))))),?_⟩
  have hbl:=len_lsI ns
  refine ⟨_,rfl,a,_,rfl,.inl hS,_,_,rfl,rfl,_,rfl,.inr ⟨by trivial,blen_small (by trivial) (by trivial),fun p H1 s1 hp hp1 => ?_⟩⟩
  have e0:(((ns.map V.int).length:Nat):Int) + 1 = (ns.length:Int) + 1:=by rw [hbl]
  rw [e0] at hp1
  have hb1:=blen_small (n:=(ns.length:Int) + 1) (by trivial) (by trivial)
  have hl1:=endb_length ((ns.length:Int) + 1)
  refine ⟨_,rfl,a,rfl,⟨_,s1.seq hS⟩,for_list (K:=K) (a:=a) (xs:=ns.map V.int) (fun i σ H2 => ∃ v,σ = [some (.ref a),some (.ref p),v]∧H2 p = some (lsI (endb ((ns.length:Int) + 1) ++ flatb (ns.take i)))∧Same H H2∧(∀ n ∈ ns.take i,0 ≤ n)∧(flatb (ns.take i)).length ≤ 1799 * i)
   ⟨none,rfl,by rw [hp1,List.take_zero]; show _ = some (lsI (_ ++ [])); rw [List.append_nil],s1,by rw [List.take_zero]; exact (fun _ z => by cases z),by rw [List.take_zero]; exact Nat.zero_le _⟩ (fun i σ H2 _ ⟨_,_,_,e,_⟩ => e.seq hS) ?_ ?_⟩
  ·rintro i y σ H2 hi ⟨v,rfl,hp2,s2,hn,hfl⟩
   obtain ⟨z,rfl,hz⟩:=int_at hi
   have hil:i < ns.length:=(List.getElem?_eq_some_iff.mp hz).1
   have hzm:z ∈ ns:=List.mem_of_getElem? hz
   refine ⟨_,rfl,.inl ⟨rfl,_,SqL.of hp2⟩,_,rfl,_,_,rfl,rfl,z + 1,rfl,?_⟩
   by_cases h0:z < 0
   ·exact .inl ⟨by trivial,hE ⟨z,hzm,h0⟩ _ s2⟩
   ·have hbz:=hbn z hzm (by trivial)
    refine .inr ⟨by trivial,hbz,fun q H3 s3 hq hq3 => ?_⟩
    have hl2:=endb_length (z + 1)
    refine ⟨p,q,_,_,rfl,rfl,s3 _ _ hp2,hq3,fits ?_,?_⟩
    ·rw [List.length_map,List.length_map,List.length_append]; trivial
    ·refine ⟨_,rfl,?_,same_upd (s2.trans s3) _ hp,?_,?_⟩
     ·rw [upd_same,lsI_app,flatb_take hz,List.append_assoc]
     ·rw [take_at hz]
      intro n hm
      rcases List.mem_append.mp hm with hm | hm
      ·exact hn n hm
      ·have:n = z:=by simpa using hm
       trivial
     ·rw [flatb_take hz,List.length_append]; trivial
  ·rintro σ H2 ⟨v,rfl,hp2,s2,hn,hfl⟩
   rw [hbl,List.take_length] at hp2 hn
   refine ⟨_,rfl,?_⟩
   exact hQ hn p H2 s2 hp hp2
theorem sc_rdrow:FnScope ["bits", "at", "head", "many", "behind", "numbers", "found"] ["bits", "at"] (defScope s_rdrow):=⟨rfl, rfl, rfl, by decide +kernel, rfl, by decide +kernel, by decide +kernel⟩
theorem ok_rdrow {f c_Broken f_read:Addr} {fd d_read:FuncData} (F:Fun K "read_row" "read_row" s_rdrow f fd) (B:Bls mg) 
  (G_read:FnOk P w K mg base (CXW P w) 2 f_read d_read ["bits", "at"] (spRead K c_Broken)) (b_read:Binds K d_read ["bits", "at"] []) (k_read:keepIn K (.ref f_read) = true) (m_read:mg "read_ending" = some (.ref f_read)):FnOk P w K mg base (CXW P w) 3 f fd ["bits", "at"] (spRdRow K c_Broken):=by
 refine F.okX sc_rdrow (fun vs H Q E h => ?_) (fun cdv A outer s H vs Q E hr h => ?_)
 ·obtain ⟨a,bs,i,rfl,_⟩:=h
  rfl
 ·obtain ⟨a,bs,i,rfl,hS,hl,hi6,h⟩:=h
  refine ⟨_,(pss_cons (ps_set (i:=2) sc_rdrow.nd rfl (Or.inl rfl) (pe_call G_read hr rfl m_read k_read b_read .nil passW (pa_cons (pv 0) (pa_cons (pv 1) pa_nil))))
   (pss_cons (ps_set (i:=3) sc_rdrow.nd rfl (Or.inl rfl) (pe_op op_sub (pe_ix ix_tup (pv 2) pe_int (fun _ _ => rfl)) pe_int))
   (pss_cons (ps_set (i:=4) sc_rdrow.nd rfl (Or.inl rfl) (pe_ix ix_tup (pv 2) pe_int (fun _ _ => rfl)))
   (pss_cons (ps_set (i:=5) sc_rdrow.nd rfl (Or.inl rfl) (pe_lst pa_nil))
   (pss_cons (ps_while pown (pt_cmpR op_lt (pe_callB call_len_seq rfl B.len PySem.boot_len (pa_cons (pv 5) pa_nil)) (pv 3) (nomark _))
    (pss_cons (ps_set (i:=6) sc_rdrow.nd rfl (Or.inl rfl) (pe_call G_read hr rfl m_read k_read b_read .nil passW (pa_cons (pv 0) (pa_cons (pv 4) pa_nil))))
    (pss_cons (ps_expr (pe_bm PySem.F.plainAttrs_list PySem.F.slot_list_append PySem.F.type_list_append mt_append (pv 5) (pa_cons (pe_op op_sub (pe_ix ix_tup (pv 6) pe_int (fun _ _ => rfl)) pe_int) pa_nil)))
    (pss_one (ps_set (i:=4) sc_rdrow.nd rfl (Or.inl rfl) (pe_ix ix_tup (pv 6) pe_int (fun _ _ => rfl)))))))
   (pss_one (ps_ret (pe_tup (pa_cons (pv 5) (pa_cons (pv 4) pa_nil)))))))))),?_⟩
  refine ⟨_,rfl,_,rfl,a,bs,i,rfl,hS,hl,hi6,?_⟩
  cases e:readE bs i with
  | none =>
   rw [readRow_none e] at h
   exact h H (Same.refl H)
  | some mb =>
   obtain ⟨mm,b⟩:=mb
   obtain ⟨i0,ib,bl⟩:=readE_le e
   intro t H1 s1 ht ht1
   refine ⟨_,rfl,t,_,_,_,rfl,rfl,SqT.of ht1,rfl,_,_,rfl,rfl,?_⟩
   refine ⟨_,rfl,t,_,_,_,rfl,rfl,SqT.of ht1,rfl,?_⟩
   refine ⟨(by show 0 ≤ sizeLine; decide),fun nl hnl => ?_⟩
   have hnt:t ≠ nl:=ne_of_none ht1 hnl
   have e0:readRow bs i = readN (mm - 1).toNat bs b:=by unfold readRow; rw [e]
   refine ⟨fun m σ H' => ∃ (xs:List Int) (bb:Nat) (fv:Option V),m = bs.length - bb∧σ = [some (.ref a),some (.int i),some (.ref t),some (.int (mm - 1)),some (.int bb),some (.ref nl),fv]∧H' nl = some (lsI xs)∧Same H1 H'∧bb ≤ bs.length∧xs.length ≤ bb∧xs.length ≤ (mm - 1).toNat∧readRow bs i = (readN ((mm - 1).toNat - xs.length) bs bb).map fun r => (xs ++ r.1,r.2),
    ⟨bs.length - b,[],b,none,rfl,rfl,upd_same,same_new hnl _,bl,Nat.zero_le _,Nat.zero_le _,?_⟩,?_⟩
   ·rw [e0]
    show _ = (readN (mm - 1).toNat bs b).map _
    cases readN (mm - 1).toNat bs b with
    | none => rfl
    | some r => rfl
   rintro m σ H' ⟨xs,bb,fv,rfl,rfl,hnl',s2,hbb,hxb,hxm,hrr⟩
   refine ⟨_,rfl,nl,_,rfl,.inl (SqL.of hnl'),_,rfl,_,_,rfl,rfl,_,rfl,?_⟩
   rw [len_lsI]
   have hH1:Same H H':=s1.trans s2
   refine ite2 (fun c => ?_) (fun c => ?_)
   ·have c':(xs.length:Int) < mm - 1:=of_decide_eq_true c
    obtain ⟨k,hk⟩:∃ k,(mm - 1).toNat - xs.length = k + 1:=⟨(mm - 1).toNat - xs.length - 1,by trivial⟩
    rw [hk] at hrr
    refine ⟨fun σ' H'' => ∃ m',m' < bs.length - bb∧∃ (xs:List Int) (bb:Nat) (fv:Option V),m' = bs.length - bb∧σ' = [some (.ref a),some (.int i),some (.ref t),some (.int (mm - 1)),some (.int bb),some (.ref nl),fv]∧H'' nl = some (lsI xs)∧Same H1 H''∧bb ≤ bs.length∧xs.length ≤ bb∧xs.length ≤ (mm - 1).toNat∧readRow bs i = (readN ((mm - 1).toNat - xs.length) bs bb).map fun r => (xs ++ r.1,r.2),fun σ' H'' z => z,?_⟩
    refine ⟨_,rfl,_,rfl,a,bs,(bb:Int),rfl,hH1.seq hS,hl,by trivial,?_⟩
    cases e2:readE bs bb with
    | none =>
     rw [readN_stop e2] at hrr
     rw [hrr] at h
     exact h H' hH1
    | some nb =>
     obtain ⟨n',b'⟩:=nb
     obtain ⟨_,lt2,le2⟩:=readE_le e2
     intro t2 H3 s3 ht2 ht3
     have hn3:=s3 _ _ hnl'
     have hnt2:nl ≠ t2:=ne_of_none hnl' ht2
     have z1:H1 nl = none:=hnl
     refine ⟨_,rfl,.inl ⟨rfl,_,SqL.of hn3⟩,_,rfl,t2,_,_,_,rfl,rfl,SqT.of ht3,rfl,_,_,rfl,rfl,nl,_,_,rfl,rfl,hn3,fits_lt (by rw [len_lsI]; trivial),?_⟩
     refine ⟨_,rfl,t2,_,_,_,rfl,rfl,SqT.of (by rw [upd_ne hnt2.symm]; exact ht3),rfl,?_⟩
     refine ⟨bs.length - b',by trivial,xs ++ [n' - 1],b',_,rfl,rfl,?_,same_upd (s2.trans s3) _ hnl,le2,?_,?_,?_⟩
     ·rw [upd_same,lsI_app1]
     ·rw [List.length_append,List.length_singleton]; trivial
     ·rw [List.length_append,List.length_singleton]; trivial
     ·rw [hrr,readN_step e2,List.length_append,List.length_singleton,show (mm - 1).toNat - (xs.length + 1) = k by trivial]
      cases readN k bs b' with
      | none => rfl
      | some r => simp
   ·have c':¬ (xs.length:Int) < mm - 1:=fun z => c (decide_eq_true z)
    rw [show (mm - 1).toNat - xs.length = 0 by trivial] at hrr
    have hrr2:readRow bs i = some (xs,bb):=by rw [hrr]; show some (xs ++ [],bb) = _; rw [List.append_nil]
    rw [hrr2] at h
    refine ⟨_,rfl,_,rfl,(by show 2 ≤ sizeLine; decide),fun tt htt => ?_⟩
    exact h nl tt _ (hH1.trans (same_new htt _)) (s1.free hnl) (hH1.free htt) (ne_of_none hnl' htt) (by rw [upd_ne (ne_of_none hnl' htt)]; exact hnl') upd_same
end
end K54
set_option Elab.async false
set_option linter.all false
set_option maxRecDepth 100000
set_option maxHeartbeats 4000000
namespace K54
open PySem L2 PySem.W PH
section
variable {P:Program} {w:World} {K:PySem.W.Frag} {mg:Str -> Option Value} {base:Heap}
theorem sc_whole:FnScope ["thing"] ["thing"] (defScope s_whole):=⟨rfl, rfl, rfl, by decide +kernel, rfl, by decide +kernel, by decide +kernel⟩
theorem ok_whole {f:Addr} {fd:FuncData} (F:Fun K "is_whole" "is_whole" s_whole f fd) (B:Bls mg):FnOk P w K mg base (CXW P w) 1 f fd ["thing"] (spWhole):=by
 refine F.okN sc_whole (fun vs H Q E h => ?_) (fun cdv A outer s H vs Q E hr h => ?_)
 ·obtain ⟨n,rfl,_⟩:=h
  rfl
 ·obtain ⟨n,rfl,q⟩:=h
  refine ⟨_, (pss_one (ps_ret (pe_and (pe_callB (r:=rIsi K) call_isi rfl B.isi boot_isi (pa_cons (pv 0) (pa_cons (pe_bltn (v:=.ty "int") rfl B.int boot_int' rfl) pa_nil))) (pe_one (pe_not (pe_callB (r:=rIsi K) call_isi rfl B.isi boot_isi (pa_cons (pv 0) (pa_cons (pe_bltn (v:=.ty "bool") rfl B.bool boot_bool' rfl) pa_nil)))))))), ?_⟩
  refine ⟨_,rfl,_,_,_,_,true,rfl,.of (.int n),rfl,kit_refl _ _,_,rfl,?_⟩
  refine iteT ?_
  refine ⟨_,rfl,_,_,_,_,false,rfl,.of (.int n),rfl,kit_ib _,_,rfl,?_⟩
  exact q
theorem sc_unp:FnScope ["pairs", "numbers", "one", "two"] ["pairs"] (defScope s_unp):=⟨rfl, rfl, rfl, by decide +kernel, rfl, by decide +kernel, by decide +kernel⟩
theorem ok_unp {f:Addr} {fd:FuncData} (F:Fun K "unpaired" "unpaired" s_unp f fd) (B:Bls mg):FnOk P w K mg base (CXW P w) 1 f fd ["pairs"] (spUnp):=by
 refine F.okN sc_unp (fun vs H Q E h => ?_) (fun cdv A outer s H vs Q E hr h => ?_)
 ·obtain ⟨p,zs,rfl,_⟩:=h
  rfl
 ·obtain ⟨p,zs,rfl,prZ,hzl,hQ⟩:=h
  refine ⟨_,(pss_cons (ps_set (i:=1) sc_unp.nd rfl (Or.inl rfl) (pe_lst pa_nil))
   (pss_cons (ps_for PassesOwn.never rfl (pi_list (pv 0)) (pg_tup rfl (pgs_cons (pg_name (i:=2) sc_unp.nd rfl (Or.inl rfl)) (pgs_cons (pg_name (i:=3) sc_unp.nd rfl (Or.inl rfl)) pgs_nil)))
    (pss_one (ps_expr (pe_bm PySem.F.plainAttrs_list PySem.F.slot_list_extend PySem.F.type_list_extend mt_extend (pv 1) (pa_cons (pe_lst (pa_cons (pv 2) (pa_cons (pv 3) pa_nil))) pa_nil)))))
   (pss_one (ps_ret (pv 1))))),?_⟩
  generalize hcs:zs.map (·.2) = cs at hQ
  have hcl:cs.length = zs.length:=by rw [← hcs,List.length_map]
  refine ⟨(by show 0 ≤ sizeLine; decide),fun L hL => ?_⟩
  have s0:=same_new hL (.lst [])
  refine ⟨_,rfl,p,rfl,⟨_,SqL.of (s0 _ _ prZ.at_)⟩,for_list (K:=K) (a:=p) (xs:=zs.map fun z => V.ref z.1) (fun i σ H2 => ∃ (v2 v3:Option V),σ = [some (.ref p),some (.ref L),v2,v3]∧H2 L = some (lsI (unp (cs.take i)))∧Same H H2)
   ⟨none,none,rfl,upd_same,s0⟩ (fun i σ H2 _ ⟨_,_,_,_,e⟩ => SqL.of (e _ _ prZ.at_)) ?_ ?_⟩
  ·rintro i y σ H2 hi ⟨v2,v3,rfl,hL2,sm⟩
   have hlt:=(List.getElem?_eq_some_iff.mp hi).1
   rw [List.length_map] at hlt
   obtain ⟨z,hz,rfl⟩:=ref_at hi
   have hck:cs[i]? = some z.2:=by rw [← hcs,List.getElem?_map,hz]; rfl
   refine ⟨z.1,_,rfl,SqT.of (sm _ _ (prZ.each z (List.mem_of_getElem? hz))),rfl,_,_,rfl,_,_,rfl,rfl,?_⟩
   refine ⟨_,rfl,.inl ⟨rfl,_,SqL.of hL2⟩,_,rfl,_,rfl,(by show 2 ≤ sizeLine; decide),fun l1 hl1 => ?_⟩
   have s1:=same_new hl1 (.lst [V.int z.2.1,V.int z.2.2])
   refine ⟨L,l1,_,_,rfl,rfl,s1 _ _ hL2,upd_same,fits (by rw [List.length_map,unp_len,List.length_take]; show _ + 2 ≤ _; trivial),?_⟩
   refine ⟨_,_,rfl,?_,same_upd (sm.trans s1) _ hL⟩
   rw [upd_same,take_at hck,unp_snoc]
   unfold lsI
   rw [List.map_append]; rfl
  ·rintro σ H2 ⟨v2,v3,rfl,hL2,sm⟩
   rw [List.length_map,← hcl,List.take_length] at hL2
   refine ⟨_,rfl,?_⟩
   exact hQ L H2 sm hL hL2
end
end K54
set_option Elab.async false
set_option linter.all false
set_option maxRecDepth 100000
set_option maxHeartbeats 4000000
namespace K54
open PySem L2 PySem.W PH
section
variable {P:Program} {w:World} {K:PySem.W.Frag} {mg:Str -> Option Value} {base:Heap}
theorem sc_prd:FnScope ["numbers"] ["numbers"] (defScope s_prd):=⟨rfl, rfl, rfl, by decide +kernel, rfl, by decide +kernel, by decide +kernel⟩
theorem ok_prd {f c_Broken:Addr} {fd:FuncData} (F:Fun K "paired" "paired" s_prd f fd) (B:Bls mg) (X_Broken:Ex K mg "Broken" c_Broken) (m_Broken:mg "Broken" = some (.ref c_Broken)):FnOk P w K mg base (CXW P w) 1 f fd ["numbers"] (spPrd c_Broken):=by
 refine F.okX sc_prd (fun vs H Q E h => ?_) (fun cdv A outer s H vs Q E hr h => ?_)
 ·obtain ⟨a,ns,rfl,_⟩:=h
  rfl
 ·obtain ⟨a,ns,rfl,ha,hl,hE,hQ⟩:=h
  refine ⟨_,(pss_cons (ps_if (pt_cmpR op_eq (pe_op op_mod (pe_callB call_len_seq rfl B.len PySem.boot_len (pa_cons (pv 0) pa_nil)) pe_int) pe_int (nomark _))
    (pss_one (ps_raise PySem.F.excBase_ValueError X_Broken.ex X_Broken.mg rfl))
    pss_nil)
   (pss_one (ps_ret (pe_comp (N:=["at", "numbers"]) (js:=[none, some 0]) (g:=(gName 0)) (tc:=tTrue) (te:=(tTup (tCons (tOp (rIxL K) (tVar 1) (tVar 0)) (tCons (tOp (rIxL K) (tVar 1) (tOp (rI0 fun i j => .int (i + j)) (tVar 0) (tC (.int 1)))) tNil)))) rfl (comp_scope (osc:=defScope s_prd) (XN:=["numbers"]) rfl rfl rfl (by decide +kernel)) (pi_range3 rfl B.range (pa_cons pe_int (pa_cons (pe_callB call_len_seq rfl B.len PySem.boot_len (pa_cons (pv 0) pa_nil)) (pa_cons pe_int pa_nil)))) (fun _ _ _ _ => pg_name (i:=0) (show (["at", "numbers"]:List Str).Nodup by decide +kernel) rfl (Or.inl rfl)) (fun _ _ _ _ => pif_nil) (fun _ _ _ _ => (pe_tup (pa_cons (pe_ix ix_list (pv 1) (pv 0) (fun _ _ => rfl)) (pa_cons (pe_ix ix_list (pv 1) (pe_op op_add (pv 0) pe_int) (fun _ _ => rfl)) pa_nil)))))))), ?_⟩
  refine ⟨_,rfl,a,_,rfl,.inl (SqL.of ha),_,_,rfl,rfl,(by show (0:Int) < 2; decide),rfl,_,rfl,?_⟩
  rw [List.length_map]
  rcases Nat.mod_two_eq_zero_or_one ns.length with h2 | h2
  rotate_left
  ·rw [decide_eq_true (show V.int (((ns.length:Nat):Int) % 2) = V.int 1 from congrArg V.int (by trivial))]
   refine iteT ?_
   exact hE h2
  rw [decide_eq_false (show ¬ V.int (((ns.length:Nat):Int) % 2) = V.int 1 from fun z => by have:=V.int.inj z; trivial)]
  refine iteF ?_
  refine ⟨_,rfl,a,_,rfl,.inl (SqL.of ha),0,((ns.length:Nat):Int),2,by rw [List.length_map],⟨by decide,by decide⟩,small_step (by decide) (by decide) (by trivial) (by trivial) (by decide) (by decide),fun D hD => ?_⟩
  rw [rsz_two h2]
  refine comp_rngSQ (fun i σ' H' => ∃ (v:Option V) (zs:List (Addr × Int × Int)),σ' = [v,some (.ref a)]∧Prs H' D zs∧zs.map (·.2) = (prd ns).take i∧(∀ z ∈ zs,z.1 ≠ D)∧Same H H')
   ⟨none,[],rfl,⟨upd_same,(fun _ z => by cases z)⟩,by rw [List.take_zero]; rfl,(fun _ z => by cases z),same_new hD _⟩ ?_ ?_
  ·rintro i σ' H' hi ⟨v,zs,rfl,prs,hzs,hzD,sm⟩
   rw [show (0:Int) + (i:Int) * 2 = ((2 * i:Nat):Int) by trivial]
   obtain ⟨x,hx⟩:∃ x,ns[2 * i]? = some x:=⟨_,List.getElem?_eq_getElem (by trivial)⟩
   obtain ⟨y,hy⟩:∃ x,ns[2 * i + 1]? = some x:=⟨_,List.getElem?_eq_getElem (by trivial)⟩
   have ha':=sm _ _ ha
   have hzl:zs.length = i:=by
    have:=congrArg List.length hzs
    rw [List.length_map,List.length_take,prd_len] at this
    trivial
   have hpk:(prd ns)[i]? = some (x,y):=by
    unfold prd
    rw [List.getElem?_map,List.getElem?_range (by trivial),Option.map_some,getD_at hx,getD_at hy]
   refine nameT ?_
   refine ⟨_,rfl,_,rfl,a,_,_,_,rfl,rfl,SqL.of ha',at_ints hx,_,rfl,_,rfl,_,_,rfl,rfl,a,_,((2 * i + 1:Nat):Int),_,rfl,rfl,SqL.of ha',at_ints hy,(by show 2 ≤ sizeLine; decide),fun t htf => ?_⟩
   have ntD:t ≠ D:=(ne_of_none prs.at_ htf).symm
   refine ⟨D,_,_,rfl,rfl,(same_new htf _) _ _ prs.at_,fits_lt (by rw [List.length_map]; trivial),?_⟩
   have st:=same_new htf (.tup [.int x,.int y])
   refine CW.next hi ⟨_,zs ++ [(t,x,y)],rfl,⟨?_,fun z hz => ?_⟩,?_,fun z hz => ?_,?_⟩
   ·rw [upd_same,List.map_append]; rfl
   ·rcases List.mem_append.mp hz with hz | hz
    ·rw [upd_ne (hzD z hz)]; exact st _ _ (prs.each z hz)
    ·have:z = (t,x,y):=by simpa using hz
     subst this
     rw [upd_ne ntD,upd_same]
   ·rw [List.map_append,hzs,take_at hpk]; rfl
   ·rcases List.mem_append.mp hz with hz | hz
    ·exact hzD z hz
    ·have:z = (t,x,y):=by simpa using hz
     subst this
     exact ntD
   ·exact same_upd (sm.trans st) _ hD
  rintro σ' H2 ⟨v,zs,rfl,prs,hzs,hzD,sm⟩
  rw [List.take_of_length_le (by rw [prd_len]; trivial)] at hzs
  exact hQ h2 D zs H2 sm hD prs hzs
end
end K54
set_option Elab.async false
set_option linter.all false
set_option maxRecDepth 100000
set_option maxHeartbeats 4000000
namespace K54
open PySem L2 PySem.W PH
section
variable {P:Program} {w:World} {K:PySem.W.Frag} {mg:Str -> Option Value} {base:Heap}
theorem sc_counts:FnScope ["text", "times", "sign"] ["text"] (defScope s_counts):=⟨rfl, rfl, rfl, by decide +kernel, rfl, by decide +kernel, by decide +kernel⟩
theorem ok_counts {f:Addr} {fd:FuncData} (F:Fun K "counts_of" "counts_of" s_counts f fd) (B:Bls mg):FnOk P w K mg base (CXW P w) 1 f fd ["text"] (spCounts K):=by
 refine F.okN sc_counts (fun vs H Q E h => ?_) (fun cdv A outer s H vs Q E hr h => ?_)
 ·obtain ⟨a,ns,rfl,_⟩:=h
  rfl
 ·obtain ⟨a,ns,rfl,hS,h5,hb,hQ⟩:=h
  refine ⟨_,(pss_cons (ps_set (i:=1) sc_counts.nd rfl (Or.inr rfl) pe_dnewK)
   (pss_cons (ps_for PassesOwn.never rfl (pi_list (pv 0)) (pg_name (i:=2) sc_counts.nd rfl (Or.inl rfl))
    (pss_one (ps_dput (hu_of hr) (pv 1) (pv 2) (pe_op op_add (pe_dget2 (hu_of hr) (pv 1) (pv 2) pe_int ⟨rfl,rfl,rfl,rfl⟩) pe_int) rfl)))
   (pss_one (ps_ret (pe_comp (N:=["sign", "times"]) (js:=[none, some 1]) (g:=(gName 0)) (tc:=tTrue) (te:=(tTup (tCons (tVar 0) (tCons (tDGet (tVar 1) (tVar 0)) tNil)))) rfl (comp_scope (osc:=defScope s_counts) (XN:=["text", "times", "sign"]) rfl rfl rfl (by decide +kernel)) (pi_list (pe_callB (call_sortedD rfl) rfl B.sorted boot_sorted' (pa_cons (pv 1) pa_nil))) (fun _ _ _ _ => pg_name (i:=0) (show (["sign", "times"]:List Str).Nodup by decide +kernel) rfl (Or.inl rfl)) (fun _ _ _ _ => pif_nil) (fun _ _ _ _ => (pe_tup (pa_cons (pv 0) (pa_cons (pe_dget (hu_of hr) (pv 1) (pv 0) (fun _ _ => rfl)) pa_nil))))))))), ?_⟩
  have hbl:=len_lsI ns
  refine fun dt hdt => ?_
  have hS1:=(same_new hdt (.dK [])).seq hS
  refine ⟨_,rfl,a,rfl,⟨_,hS1⟩,for_list (K:=K) (a:=a) (xs:=ns.map V.int) (fun i σ H2 => ∃ (v:Option V) (ks:List Int),σ = [some (.ref a),some (.ref dt),v]∧H2 = upd H dt (.dK (cntD ks (ns.take i)))∧ks.Nodup∧(∀ k,k ∈ ks ↔ k ∈ ns.take i)∧ks.length ≤ i)
   ⟨none,[],rfl,rfl,List.nodup_nil,(fun k => by rw [List.take_zero]),Nat.le_refl _⟩ (fun i σ H2 _ ⟨_,_,_,e,_⟩ => by rw [e]; exact (same_new hdt _).seq hS) ?_ ?_⟩
  ·rintro i y σ H2 hi ⟨v,ks,rfl,rfl,nd,hm,hkl⟩
   obtain ⟨z,rfl,hz⟩:=int_at hi
   have hil:i < ns.length:=(List.getElem?_eq_some_iff.mp hz).1
   have hg:=DGet.k (k:=Sum.inl z) (show upd H dt (.dK (cntD ks (ns.take i))) dt = some (.dK (cntD ks (ns.take i))) from upd_same)
   rw [valV_cntD] at hg
   refine ⟨_,rfl,dt,rfl,.inl ⟨_,.inl upd_same⟩,_,rfl,_,hg,((ns.take i).count z:Int),1,?_,rfl,?_⟩
   ·show ((if z ∈ ks then some (V.int ((ns.take i).count z:Int)) else none).getD (.int 0)) = .int ((ns.take i).count z:Int)
    by_cases h:z ∈ ks
    ·rw [if_pos h]; rfl
    ·rw [if_neg h]
     have:(ns.take i).count z = 0:=List.count_eq_zero.mpr fun q => h ((hm z).mpr q)
     rw [this]; rfl
   refine ⟨_,rfl,_,rfl,dt,_,rfl,DPut.k (k:=Sum.inl z) upd_same (fits_lt (by unfold cntD; rw [List.length_map]; trivial)),?_⟩
   rw [put_cntD hm,← take_at hz,upd_upd]
   refine ⟨_,if z ∈ ks then ks else ks ++ [z],rfl,rfl,?_,fun k => ?_,?_⟩
   ·by_cases h:z ∈ ks
    ·rw [if_pos h]; exact nd
    ·rw [if_neg h]; exact nd_snoc nd h
   ·rw [take_at hz,List.mem_append,List.mem_singleton,← hm]
    by_cases h:z ∈ ks
    ·rw [if_pos h]
     constructor
     ·exact .inl
     ·rintro (q | q)
      ·exact q
      ·rw [q]; exact h
    ·rw [if_neg h,List.mem_append,List.mem_singleton]
   ·by_cases h:z ∈ ks
    ·rw [if_pos h]; trivial
    ·rw [if_neg h,List.length_append,List.length_singleton]; trivial
  ·rintro σ H2 ⟨v,ks,rfl,rfl,nd,hm,hkl⟩
   rw [hbl,List.take_length] at hm ⊢
   rw [hbl] at hkl
   have hdd:upd H dt (.dK (cntD ks ns)) dt = some (.dK (cntD ks ns)):=upd_same
   refine ⟨_,rfl,dt,_,ks,rfl,.inl hdd,cntD_keys ks ns,fun ks' ps hp hsr hps => ?_⟩
   have hk':=sorted_keys hb nd hm hp hsr
   subst hk'
   have s1:=(same_new hdt (.dK (cntD ks ns))).trans (same_new hps (.lst ((ksOf ns).map V.int)))
   have hps1:upd (upd H dt (.dK (cntD ks ns))) ps (.lst ((ksOf ns).map V.int)) ps = some (lsI (ksOf ns)):=upd_same
   have hdt1:upd (upd H dt (.dK (cntD ks ns))) ps (.lst ((ksOf ns).map V.int)) dt = some (.dK (cntD ks ns)):=by rw [upd_ne (ne_of_none hdd hps)]; exact hdd
   generalize upd (upd H dt (.dK (cntD ks ns))) ps (.lst ((ksOf ns).map V.int)) = H3 at s1 hps1 hdt1 ⊢
   refine ⟨ps,rfl,⟨_,SqL.of hps1⟩,fun D hD => ?_⟩
   have nD1:=ne_of_none hps1 hD
   have nD2:=ne_of_none hdt1 hD
   have hlk:(ksOf ns).length ≤ 5000:=by rw [hp.length_eq]; trivial
   refine comp_lst (K:=K) (a:=ps) (xs:=(ksOf ns).map V.int) (fun i σ' H' => ∃ (v:Option V) (zs:List (Addr × Int × Int)),σ' = [v,some (.ref dt)]∧Prs H' D zs∧zs.map (·.2) = ((ksOf ns).take i).map (fun k => (k,(ns.count k:Int)))∧(∀ z ∈ zs,z.1 ≠ D)∧Same H3 H')
    ⟨none,[],rfl,⟨upd_same,(fun _ z => by cases z)⟩,by rw [List.take_zero]; rfl,(fun _ z => by cases z),same_new hD _⟩ (fun i σ' H' _ ⟨_,_,_,_,_,_,e⟩ => SqL.of (e _ _ hps1)) ?_ ?_
   ·rintro i x σ' H' hi ⟨v,zs,rfl,prs,hzs,hzD,sm⟩
    obtain ⟨k,rfl,hk⟩:=int_at hi
    have hlt:i < ((ksOf ns).map V.int).length:=(List.getElem?_eq_some_iff.mp hi).1
    have hkm:k ∈ ks:=(hm k).mpr ((mem_ks hb k).mp (List.mem_of_getElem? hk))
    have hg:=DGet.k (k:=Sum.inl k) (sm _ _ hdt1)
    rw [valV_cntD,if_pos hkm] at hg
    refine nameT ?_
    refine ⟨_,rfl,_,rfl,_,rfl,dt,_,rfl,hg,(by show 2 ≤ sizeLine; decide),fun t ht => ?_⟩
    have hzl:zs.length = i:=by
     have:=congrArg List.length hzs
     rw [List.length_map,List.length_map,List.length_take] at this
     rw [List.length_map] at hlt
     trivial
    have ntD:t ≠ D:=(ne_of_none prs.at_ ht).symm
    refine ⟨D,_,_,rfl,rfl,(same_new ht _) _ _ prs.at_,fits_lt (by rw [List.length_map]; rw [List.length_map] at hlt; trivial),?_⟩
    have st:=same_new ht (.tup [.int k,.int (ns.count k:Int)])
    refine CW.next hlt ⟨_,zs ++ [(t,k,(ns.count k:Int))],rfl,⟨?_,fun z hz => ?_⟩,?_,fun z hz => ?_,?_⟩
    ·rw [upd_same,List.map_append]; rfl
    ·rcases List.mem_append.mp hz with hz | hz
     ·rw [upd_ne (hzD z hz)]; exact st _ _ (prs.each z hz)
     ·have:z = (t,k,(ns.count k:Int)):=by simpa using hz
      subst this
      rw [upd_ne ntD,upd_same]
    ·rw [List.map_append,hzs,take_at hk,List.map_append]; rfl
    ·rcases List.mem_append.mp hz with hz | hz
     ·exact hzD z hz
     ·have:z = (t,k,(ns.count k:Int)):=by simpa using hz
      subst this
      exact ntD
    ·exact same_upd (sm.trans st) _ hD
   ·rintro σ' H' ⟨v,zs,rfl,prs,hzs,hzD,sm⟩
    refine hQ D zs H' (s1.trans sm) (s1.free hD) prs ?_
    rw [hzs,List.length_map,List.take_length,cnts_ks]
end
end K54
set_option Elab.async false
set_option linter.all false
set_option maxRecDepth 100000
set_option maxHeartbeats 4000000
namespace K54
open PySem L2 PySem.W PH
section
variable {P:Program} {w:World} {K:PySem.W.Frag} {mg:Str -> Option Value} {base:Heap}
theorem sc_rise:FnScope ["pairs", "ahead", "sign", "number"] ["pairs"] (defScope s_rise):=⟨rfl, rfl, rfl, by decide +kernel, rfl, by decide +kernel, by decide +kernel⟩
theorem ok_rise {f:Addr} {fd:FuncData} (F:Fun K "signs_rise" "signs_rise" s_rise f fd) (B:Bls mg) (m_LS:LS mg):FnOk P w K mg base (CXW P w) 1 f fd ["pairs"] (spRise):=by
 refine F.okN sc_rise (fun vs H Q E h => ?_) (fun cdv A outer s H vs Q E hr h => ?_)
 ·obtain ⟨p,zs,rfl,_⟩:=h
  rfl
 ·obtain ⟨p,zs,rfl,prZ,q⟩:=h
  obtain ⟨u_LS,m_u,r_u⟩:=m_LS
  refine ⟨_,(pss_cons (ps_set (i:=1) sc_rise.nd rfl (Or.inl rfl) (pe_un un_neg pe_int))
   (pss_cons (ps_for PassesOwn.never rfl (pi_list (pv 0)) (pg_tup rfl (pgs_cons (pg_name (i:=2) sc_rise.nd rfl (Or.inl rfl)) (pgs_cons (pg_name (i:=3) sc_rise.nd rfl (Or.inl rfl)) pgs_nil)))
    (pss_cons (ps_if (PW.pt (pw_or (pt_cmpR op_le (pv 2) (pv 1) (nomark _)) (pw_or1 (pt_cmpR op_gt (pv 2) (pe_glob (v:=.int 255) rfl m_u r_u) (nomark _)))))
     (pss_one (ps_ret pe_bl))
     pss_nil)
    (pss_one (ps_set (i:=1) sc_rise.nd rfl (Or.inl rfl) (pv 2)))))
   (pss_one (ps_ret pe_bl)))),?_⟩
  generalize hcs:zs.map (·.2) = cs at q
  have hF:riseB (-1) cs = false -> Q (.bl false) H:=fun e => by rwa [e] at q
  refine ⟨1,rfl,?_⟩
  refine ⟨_,rfl,p,rfl,⟨_,SqL.of prZ.at_⟩,for_list (K:=K) (a:=p) (xs:=zs.map fun z => V.ref z.1) (fun k σ H2 => ∃ (ah:Int) (v2 v3:Option V),σ = [some (.ref p),some (.int ah),v2,v3]∧H2 = H∧riseB (-1) cs = riseB ah (cs.drop k))
   ⟨-1,none,none,rfl,rfl,by rw [List.drop_zero]⟩ (fun k σ H2 _ ⟨_,_,_,_,e,_⟩ => by rw [e]; exact SqL.of prZ.at_) ?_ ?_⟩
  ·rintro k y σ H2 hi ⟨ah,v2,v3,rfl,rfl,hr⟩
   obtain ⟨z,hz,rfl⟩:=ref_at hi
   have hck:cs[k]? = some z.2:=by rw [← hcs,List.getElem?_map,hz]; rfl
   rw [riseB_step hck] at hr
   refine ⟨z.1,_,rfl,SqT.of (prZ.each z (List.mem_of_getElem? hz)),rfl,_,_,rfl,_,_,rfl,rfl,?_⟩
   refine ⟨_,rfl,_,rfl,_,_,rfl,rfl,_,rfl,?_⟩
   by_cases h1:z.2.1 ≤ ah
   ·rw [decide_eq_true h1]
    refine iteT (iteT ?_)
    exact hF (by rw [hr,decide_eq_false (show ¬ ah < z.2.1 by trivial)]; rfl)
   rw [decide_eq_false h1]
   refine iteF ?_
   refine ⟨_,rfl,_,_,rfl,rfl,_,rfl,?_⟩
   by_cases h2:255 < z.2.1
   ·rw [decide_eq_true h2]
    refine iteT ?_
    exact hF (by rw [hr,decide_eq_false (show ¬ z.2.1 ≤ 255 by trivial),Bool.and_false]; rfl)
   rw [decide_eq_false h2]
   refine iteF ?_
   refine ⟨_,rfl,?_⟩
   exact ⟨z.2.1,_,_,rfl,rfl,by rw [hr,decide_eq_true (show ah < z.2.1 by trivial),decide_eq_true (show z.2.1 ≤ 255 by trivial)]; rfl⟩
  ·rintro σ H2 ⟨ah,v2,v3,rfl,rfl,hr⟩
   rw [hr,List.drop_of_length_le (by rw [← hcs,List.length_map,List.length_map]; exact Nat.le_refl _)] at q
   exact q
theorem sc_arec:FnScope ["counts"] ["counts"] (defScope s_arec):=⟨rfl, rfl, rfl, by decide +kernel, rfl, by decide +kernel, by decide +kernel⟩
theorem ok_arec {f f_rise:Addr} {fd d_rise:FuncData} (F:Fun K "are_counts" "are_counts" s_arec f fd) (B:Bls mg) 
  (G_rise:FnOk P w K mg base (CXW P w) 1 f_rise d_rise ["pairs"] (spRise)) (b_rise:Binds K d_rise ["pairs"] []) (k_rise:keepIn K (.ref f_rise) = true) (m_rise:mg "signs_rise" = some (.ref f_rise)):FnOk P w K mg base (CXW P w) 2 f fd ["counts"] (spAreCW):=by
 refine F.okN sc_arec (fun vs H Q E h => ?_) (fun cdv A outer s H vs Q E hr h => ?_)
 ·obtain ⟨p,zs,rfl,_⟩:=h
  rfl
 ·obtain ⟨p,zs,rfl,prZ,hzl,hQ⟩:=h
  refine ⟨_, (pss_one (ps_ret (pe_and (pe_call G_rise hr rfl m_rise k_rise b_rise .nil passN (pa_cons (pv 0) pa_nil)) (pe_one (pe_callB (call_allL rfl) rfl B.all boot_all' (pa_cons (pe_comp (N:=["sign", "times"]) (js:=[none, none]) (g:=(gTup K 2 (gCons (gName 0) (gCons (gName 1) gNil)))) (tc:=tTrue) (te:=(tOp (rI0 fun i j => .bl (decide (j ≤ i))) (tVar 1) (tC (.int 1)))) rfl (comp_scope (osc:=defScope s_arec) (XN:=["counts"]) rfl rfl rfl (by decide +kernel)) (pi_list (pv 0)) (fun _ _ _ _ => (pg_tup rfl (pgs_cons (pg_name (i:=0) (show (["sign", "times"]:List Str).Nodup by decide +kernel) rfl (Or.inl rfl)) (pgs_cons (pg_name (i:=1) (show (["sign", "times"]:List Str).Nodup by decide +kernel) rfl (Or.inl rfl)) pgs_nil)))) (fun _ _ _ _ => pif_nil) (fun _ _ _ _ => (pe_cmpR op_ge (pv 1) pe_int (nomark _)))) pa_nil)))))), ?_⟩
  generalize hcs:zs.map (·.2) = cs at hQ
  refine ⟨_,rfl,p,zs,rfl,prZ,_,rfl,?_⟩
  rw [hcs]
  cases hb:riseB (-1) cs with
  | false =>
   refine iteF ?_
   have:=hQ H (Same.refl _)
   unfold areC at this
   rw [hb] at this
   exact this
  | true =>
   refine iteT ?_
   refine ⟨_,rfl,p,rfl,⟨_,SqL.of prZ.at_⟩,fun D hD => ?_⟩
   refine comp_lstQ (K:=K) (a:=p) (xs:=zs.map fun z => V.ref z.1) (fun i σ' H' => ∃ (x y:Option V) (bs:List Bool),σ' = [x,y]∧H' D = some (.lst (bs.map V.bl))∧bs = (cs.take i).map (fun c => decide (1 ≤ c.2))∧Same H H')
    ⟨none,none,[],rfl,upd_same,by rw [List.take_zero]; rfl,same_new hD _⟩ (fun i σ' H' _ ⟨_,_,_,_,_,_,e⟩ => SqL.of (e _ _ prZ.at_)) ?_ ?_
   ·rintro i v σ' H' hi ⟨x,y,bs,rfl,hB,hbs,sm⟩
    obtain ⟨z,hz,rfl⟩:=ref_at hi
    have hlt:i < (zs.map fun z => V.ref z.1).length:=(List.getElem?_eq_some_iff.mp hi).1
    have hck:cs[i]? = some z.2:=by rw [← hcs,List.getElem?_map,hz]; rfl
    refine ⟨z.1,_,rfl,SqT.of (sm _ _ (prZ.each z (List.mem_of_getElem? hz))),rfl,_,_,rfl,_,_,rfl,rfl,?_⟩
    refine trueT ?_
    refine ⟨_,rfl,_,_,rfl,rfl,?_⟩
    have hbl:bs.length ≤ i:=by rw [hbs,List.length_map,List.length_take]; trivial
    refine ⟨D,_,_,rfl,rfl,hB,fits_lt (by rw [List.length_map]; rw [List.length_map] at hlt; trivial),?_⟩
    refine CW.next hlt ⟨_,_,bs ++ [decide (1 ≤ z.2.2)],rfl,by rw [upd_same,List.map_append]; rfl,?_,same_upd sm _ hD⟩
    rw [hbs,take_at hck,List.map_append]
    rfl
   ·rintro σ' H' ⟨x,y,bs,rfl,hB,hbs,sm⟩
    refine ⟨D,bs,rfl,SqL.of hB,?_⟩
    have:=hQ H' sm
    unfold areC at this
    rw [hb,Bool.true_and] at this
    rw [hbs,List.take_of_length_le (by rw [← hcs,List.length_map,List.length_map]; exact Nat.le_refl _),List.all_map]
    exact this
theorem sc_pair:FnScope ["thing"] ["thing"] (defScope s_pair):=⟨rfl, rfl, rfl, by decide +kernel, rfl, by decide +kernel, by decide +kernel⟩
theorem ok_pair {f f_whole:Addr} {fd d_whole:FuncData} (F:Fun K "is_pair" "is_pair" s_pair f fd) (B:Bls mg) 
  (G_whole:FnOk P w K mg base (CXW P w) 1 f_whole d_whole ["thing"] (spWhole)) (b_whole:Binds K d_whole ["thing"] []) (k_whole:keepIn K (.ref f_whole) = true) (m_whole:mg "is_whole" = some (.ref f_whole)):FnOk P w K mg base (CXW P w) 2 f fd ["thing"] (spPair):=by
 refine F.okN sc_pair (fun vs H Q E h => ?_) (fun cdv A outer s H vs Q E hr h => ?_)
 ·obtain ⟨t,a,b,rfl,_⟩:=h
  rfl
 ·obtain ⟨t,a,b,rfl,ht,q⟩:=h
  refine ⟨_, (pss_one (ps_ret (pe_and (pe_callB (r:=rIsi K) call_isi rfl B.isi boot_isi (pa_cons (pv 0) (pa_cons (pe_bltn (v:=.ty "tuple") rfl B.tuple boot_tuple' rfl) pa_nil))) (pe_and (pe_cmpR op_eq (pe_callB call_len_seq rfl B.len PySem.boot_len (pa_cons (pv 0) pa_nil)) pe_int (nomark _)) (pe_and (pe_call G_whole hr rfl m_whole k_whole b_whole .nil passN (pa_cons (pe_ix ix_tup (pv 0) pe_int (fun _ _ => rfl)) pa_nil)) (pe_one (pe_call G_whole hr rfl m_whole k_whole b_whole .nil passN (pa_cons (pe_ix ix_tup (pv 0) pe_int (fun _ _ => rfl)) pa_nil)))))))), ?_⟩
  have hs:SqT K H t [.int a,.int b]:=SqT.of ht
  refine ⟨_,rfl,_,_,_,_,true,rfl,.of (.tup ht),rfl,kit_refl _ _,_,rfl,?_⟩
  refine iteT ?_
  refine ⟨_,rfl,t,_,rfl,.inr hs,rfl,_,rfl,?_⟩
  refine iteT ?_
  refine ⟨_,rfl,t,_,_,_,rfl,rfl,hs,rfl,a,rfl,_,rfl,?_⟩
  refine iteT ?_
  refine ⟨_,rfl,t,_,_,_,rfl,rfl,hs,rfl,b,rfl,?_⟩
  exact q
theorem sc_have:FnScope ["counts"] ["counts"] (defScope s_have):=⟨rfl, rfl, rfl, by decide +kernel, rfl, by decide +kernel, by decide +kernel⟩
theorem ok_have {f f_arec f_pair:Addr} {fd d_arec d_pair:FuncData} (F:Fun K "have_texts" "have_texts" s_have f fd) (B:Bls mg) (m_MS:MS mg) (n_sum:mg "sum" = none) 
  (G_arec:FnOk P w K mg base (CXW P w) 2 f_arec d_arec ["counts"] (spAreCW)) (b_arec:Binds K d_arec ["counts"] []) (k_arec:keepIn K (.ref f_arec) = true) (m_arec:mg "are_counts" = some (.ref f_arec)) 
  (G_pair:FnOk P w K mg base (CXW P w) 2 f_pair d_pair ["thing"] (spPair)) (b_pair:Binds K d_pair ["thing"] []) (k_pair:keepIn K (.ref f_pair) = true) (m_pair:mg "is_pair" = some (.ref f_pair)):FnOk P w K mg base (CXW P w) 3 f fd ["counts"] (spHaveW):=by
 refine F.okN sc_have (fun vs H Q E h => ?_) (fun cdv A outer s H vs Q E hr h => ?_)
 ·obtain ⟨p,zs,rfl,_⟩:=h
  rfl
 ·obtain ⟨p,zs,rfl,prZ,hzl,hQ⟩:=h
  obtain ⟨u_MS,m_v,r_v⟩:=m_MS
  refine ⟨_, (pss_cons (ps_if (PW.pt (pw_or (pt_not (pt_val (pe_callB (r:=rIsi K) call_isi rfl B.isi boot_isi (pa_cons (pv 0) (pa_cons (pe_bltn (v:=.ty "list") rfl B.list boot_list' rfl) pa_nil))))) (pw_or1 (pt_not (pt_val (pe_callB (call_allL rfl) rfl B.all boot_all' (pa_cons (pe_comp (N:=["thing"]) (js:=[none]) (g:=(gName 0)) (tc:=tTrue) (te:=(tCall (spPair) [] E0 (tCons (tVar 0) tNil))) rfl (comp_scope (osc:=defScope s_have) (XN:=["counts"]) rfl rfl rfl (by decide +kernel)) (pi_list (pv 0)) (fun _ _ _ _ => pg_name (i:=0) (show (["thing"]:List Str).Nodup by decide +kernel) rfl (Or.inl rfl)) (fun _ _ _ _ => pif_nil) (fun _ _ _ _ => (pe_call G_pair hr rfl m_pair k_pair b_pair .nil passN (pa_cons (pv 0) pa_nil)))) pa_nil)))))))
    (pss_one (ps_ret pe_bl))
    pss_nil)
   (pss_one (ps_ret (pe_and (pe_call G_arec hr rfl m_arec k_arec b_arec .nil passN (pa_cons (pv 0) pa_nil)) (pe_one (pe_cmpR op_le (pe_callB (call_sum rfl) rfl n_sum boot_sum' (pa_cons (pe_comp (N:=["sign", "times"]) (js:=[none, none]) (g:=(gTup K 2 (gCons (gName 0) (gCons (gName 1) gNil)))) (tc:=tTrue) (te:=(tVar 1)) rfl (comp_scope (osc:=defScope s_have) (XN:=["counts"]) rfl rfl rfl (by decide +kernel)) (pi_list (pv 0)) (fun _ _ _ _ => (pg_tup rfl (pgs_cons (pg_name (i:=0) (show (["sign", "times"]:List Str).Nodup by decide +kernel) rfl (Or.inl rfl)) (pgs_cons (pg_name (i:=1) (show (["sign", "times"]:List Str).Nodup by decide +kernel) rfl (Or.inl rfl)) pgs_nil)))) (fun _ _ _ _ => pif_nil) (fun _ _ _ _ => (pv 1))) pa_nil)) (pe_glob (v:=.int 400) rfl m_v r_v) (nomark _))))))), ?_⟩
  generalize hcs:zs.map (·.2) = cs at hQ
  have hcl:cs.length = zs.length:=by rw [← hcs,List.length_map]
  refine ⟨_,rfl,_,_,_,_,true,rfl,.of (.lst prZ.at_),rfl,kit_refl _ _,_,rfl,?_⟩
  refine iteF ?_
  refine ⟨_,rfl,p,rfl,⟨_,SqL.of prZ.at_⟩,fun D hD => ?_⟩
  refine comp_lstQ (K:=K) (a:=p) (xs:=zs.map fun z => V.ref z.1) (fun i σ' H' => ∃ (x:Option V) (bs:List Bool),σ' = [x]∧H' D = some (.lst (bs.map V.bl))∧bs = List.replicate i true∧Same H H')
   ⟨none,[],rfl,upd_same,rfl,same_new hD _⟩ (fun i σ' H' _ ⟨_,_,_,_,_,e⟩ => SqL.of (e _ _ prZ.at_)) ?_ ?_
  ·rintro i v σ' H' hi ⟨x,bs,rfl,hB,hbs,sm⟩
   obtain ⟨z,hz,rfl⟩:=ref_at hi
   have hlt:i < (zs.map fun z => V.ref z.1).length:=(List.getElem?_eq_some_iff.mp hi).1
   have hbl:bs.length = i:=by rw [hbs,List.length_replicate]
   refine nameT ?_
   refine ⟨_,rfl,z.1,z.2.1,z.2.2,rfl,sm _ _ (prZ.each z (List.mem_of_getElem? hz)),?_⟩
   refine ⟨D,_,_,rfl,rfl,hB,fits_lt (by rw [List.length_map]; rw [List.length_map] at hlt; trivial),?_⟩
   refine CW.next hlt ⟨_,bs ++ [true],rfl,by rw [upd_same,List.map_append]; rfl,?_,same_upd sm _ hD⟩
   rw [hbs,← List.replicate_succ']
  rintro σ' H1 ⟨x,bs,rfl,hB,hbs,sm1⟩
  refine ⟨D,bs,rfl,SqL.of hB,_,rfl,?_⟩
  have hall:bs.all id = true:=by rw [hbs]; exact List.all_eq_true.mpr fun b hb => (List.mem_replicate.mp hb).2
  rw [hall]
  refine iteF ?_
  refine ⟨_,rfl,p,zs,rfl,prZ.same sm1,hzl,fun H2 s2 => ?_⟩
  have sm2:=sm1.trans s2
  rw [hcs]
  refine ⟨_,rfl,?_⟩
  cases hb:areC cs with
  | false =>
   refine iteF ?_
   have:=hQ H2 sm2
   unfold haveT at this
   rw [hb] at this
   exact this
  | true =>
   refine iteT ?_
   have prZ2:=prZ.same sm2
   refine ⟨_,rfl,p,rfl,⟨_,SqL.of prZ2.at_⟩,fun D2 hD2 => ?_⟩
   refine comp_lstQ (K:=K) (a:=p) (xs:=zs.map fun z => V.ref z.1) (fun i σ' H' => ∃ (x y:Option V) (ls:List Int),σ' = [x,y]∧H' D2 = some (lsI ls)∧ls = (cs.take i).map (·.2)∧Same H2 H')
    ⟨none,none,[],rfl,upd_same,by rw [List.take_zero]; rfl,same_new hD2 _⟩ (fun i σ' H' _ ⟨_,_,_,_,_,_,e⟩ => SqL.of (e _ _ prZ2.at_)) ?_ ?_
   ·rintro i v σ' H' hi ⟨x,y,ls,rfl,hB,hls,sm⟩
    obtain ⟨z,hz,rfl⟩:=ref_at hi
    have hlt:i < (zs.map fun z => V.ref z.1).length:=(List.getElem?_eq_some_iff.mp hi).1
    have hck:cs[i]? = some z.2:=by rw [← hcs,List.getElem?_map,hz]; rfl
    have hbl:ls.length ≤ i:=by rw [hls,List.length_map,List.length_take]; trivial
    refine ⟨z.1,_,rfl,SqT.of (sm _ _ (prZ2.each z (List.mem_of_getElem? hz))),rfl,_,_,rfl,_,_,rfl,rfl,?_⟩
    refine trueT ?_
    refine ⟨_,rfl,D2,_,_,rfl,rfl,hB,fits_lt (by rw [List.length_map]; rw [List.length_map] at hlt; trivial),?_⟩
    refine CW.next hlt ⟨_,_,ls ++ [z.2.2],rfl,by rw [upd_same]; unfold lsI; rw [List.map_append]; rfl,?_,same_upd sm _ hD2⟩
    rw [hls,take_at hck,List.map_append]
    rfl
   rintro σ' H3 ⟨x,y,ls,rfl,hB,hls,sm3⟩
   rw [List.length_map,← hcl,List.take_length] at hls
   refine ⟨D2,ls,rfl,SqL.of hB,_,_,rfl,rfl,?_⟩
   have:=hQ H3 (sm2.trans sm3)
   unfold haveT sumT at this
   rw [hb,Bool.true_and] at this
   rw [hls]
   exact this
end
end K54
set_option Elab.async false
set_option linter.all false
set_option maxRecDepth 100000
set_option maxHeartbeats 4000000
namespace K54
open PySem L2 PySem.W PH
section
variable {P:Program} {w:World} {K:PySem.W.Frag} {mg:Str -> Option Value} {base:Heap}
theorem sc_orders:FnScope ["counts", "orders", "placed", "sign", "times", "k"] ["counts"] (defScope s_orders):=⟨rfl, rfl, rfl, by decide +kernel, rfl, by decide +kernel, by decide +kernel⟩
theorem ok_orders {f:Addr} {fd:FuncData} (F:Fun K "orders_of" "orders_of" s_orders f fd) (B:Bls mg):FnOk P w K mg base (CXW P w) 1 f fd ["counts"] (spOrders):=by
 refine F.okN sc_orders (fun vs H Q E h => ?_) (fun cdv A outer s H vs Q E hr h => ?_)
 ·obtain ⟨p,zs,rfl,_⟩:=h
  rfl
 ·obtain ⟨p,zs,rfl,prZ,hzl,hge,hsum,q⟩:=h
  refine ⟨_,(pss_cons (ps_set (i:=1) sc_orders.nd rfl (Or.inl rfl) pe_int)
   (pss_cons (ps_set (i:=2) sc_orders.nd rfl (Or.inl rfl) pe_int)
   (pss_cons (ps_for PassesOwn.never rfl (pi_list (pv 0)) (pg_tup rfl (pgs_cons (pg_name (i:=3) sc_orders.nd rfl (Or.inl rfl)) (pgs_cons (pg_name (i:=4) sc_orders.nd rfl (Or.inl rfl)) pgs_nil)))
    (pss_one (ps_for PassesOwn.never rfl (pi_range2 rfl B.range (pa_cons pe_int (pa_cons (pe_op op_add (pv 4) pe_int) pa_nil))) (pg_name (i:=5) sc_orders.nd rfl (Or.inl rfl))
     (pss_cons (ps_set (i:=2) sc_orders.nd rfl (Or.inl rfl) (pe_op op_add (pv 2) pe_int))
     (pss_one (ps_set (i:=1) sc_orders.nd rfl (Or.inl rfl) (pe_op op_fdiv (pe_op op_mul (pv 1) (pv 2)) (pv 5))))))))
   (pss_one (ps_ret (pv 1)))))),?_⟩
  generalize hcs:zs.map (·.2) = cs at hge hsum q
  have hcl:cs.length = zs.length:=by rw [← hcs,List.length_map]
  have hS:=sumT_nat hge
  refine ⟨_,rfl,p,rfl,⟨_,SqL.of prZ.at_⟩,for_list (K:=K) (a:=p) (xs:=zs.map fun z => V.ref z.1) (fun i σ H2 => ∃ (v3 v4 v5:Option V),σ = [some (.ref p),some (.int (mlt 1 0 (tms (cs.take i)):Nat)),some (.int ((tms (cs.take i)).sum:Nat)),v3,v4,v5]∧H2 = H)
   ⟨none,none,none,rfl,rfl⟩ (fun i σ H2 _ ⟨_,_,_,_,e⟩ => by rw [e]; exact SqL.of prZ.at_) ?_ ?_⟩
  ·rintro i y σ H2 hi ⟨v3,v4,v5,rfl,rfl⟩
   obtain ⟨z,hz,rfl⟩:=ref_at hi
   have hck:cs[i]? = some z.2:=by rw [← hcs,List.getElem?_map,hz]; rfl
   have hz1:=hge _ (List.mem_of_getElem? hck)
   have hst:=tms_sum_take hck
   obtain ⟨t,ht⟩:∃ t:Nat,z.2.2 = (t:Int):=⟨z.2.2.toNat,by trivial⟩
   have htn:z.2.2.toNat = t:=by trivial
   rw [htn] at hst
   refine ⟨z.1,_,rfl,SqT.of (prZ.each z (List.mem_of_getElem? hz)),rfl,_,_,rfl,_,_,rfl,rfl,?_⟩
   rw [ht]
   refine ⟨_,rfl,_,_,rfl,rfl,_,_,rfl,⟨by trivial,by trivial,by trivial,by trivial⟩,?_⟩
   rw [show ((t:Int) + 1 - 1).toNat = t by trivial]
   generalize hM:mlt 1 0 (tms (cs.take i)) = M
   generalize hs:(tms (cs.take i)).sum = s at hst
   refine for_range (n:=t) (fun k σ H3 => ∃ (v5:Option V),σ = [some (.ref p),some (.int (M * ch (s + k) k:Nat)),some (.int ((s + k:Nat):Int)),some (.int z.2.1),some (.int (t:Int)),v5]∧H3 = H2)
    ⟨v5,by rw [show ch (s + 0) 0 = 1 by cases s <;> rfl,Nat.mul_one]; rfl,rfl⟩ ?_ ?_
   ·rintro k σ H3 hk ⟨w5,rfl,rfl⟩
    refine ⟨_,rfl,_,_,rfl,rfl,?_⟩
    refine gNx (v':=V.int ((s + k + 1:Nat):Int)) (by show V.int ((s + k + 1:Nat):Int) = V.int (((s + k:Nat):Int) + 1); rfl) ?_
    refine ⟨_,rfl,_,rfl,_,_,rfl,rfl,.inr ⟨by trivial,by trivial⟩,_,rfl,_,_,rfl,rfl,⟨by trivial,by trivial⟩,?_⟩
    rw [show (1:Int) + (k:Int) = ((k + 1:Nat):Int) by trivial]
    refine gNx (v':=V.int (M * ch (s + (k + 1)) (k + 1):Nat)) (by rw [← step_ch]) ?_
    exact ⟨_,rfl,rfl⟩
   ·rintro σ H3 ⟨w5,rfl,rfl⟩
    rw [mlt_take hck,sum_take hck,htn,hM,hs]
    exact ⟨_,_,_,rfl,rfl⟩
  ·rintro σ H2 ⟨v3,v4,v5,rfl,rfl⟩
   rw [List.length_map,← hcl,List.take_length]
   refine ⟨_,rfl,?_⟩
   exact q
theorem sc_texts:FnScope ["counts"] ["counts"] (defScope s_texts):=⟨rfl, rfl, rfl, by decide +kernel, rfl, by decide +kernel, by decide +kernel⟩
theorem ok_texts {f c_Broken f_have f_orders:Addr} {fd d_have d_orders:FuncData} (F:Fun K "texts_with" "texts_with" s_texts f fd) (B:Bls mg) (X_Broken:Ex K mg "Broken" c_Broken) (m_Broken:mg "Broken" = some (.ref c_Broken)) 
  (G_have:FnOk P w K mg base (CXW P w) 3 f_have d_have ["counts"] (spHaveW)) (b_have:Binds K d_have ["counts"] []) (k_have:keepIn K (.ref f_have) = true) (m_have:mg "have_texts" = some (.ref f_have)) 
  (G_orders:FnOk P w K mg base (CXW P w) 1 f_orders d_orders ["counts"] (spOrders)) (b_orders:Binds K d_orders ["counts"] []) (k_orders:keepIn K (.ref f_orders) = true) (m_orders:mg "orders_of" = some (.ref f_orders)):FnOk P w K mg base (CXW P w) 4 f fd ["counts"] (spTextsW c_Broken):=by
 refine F.okX sc_texts (fun vs H Q E h => ?_) (fun cdv A outer s H vs Q E hr h => ?_)
 ·obtain ⟨p,zs,rfl,_⟩:=h
  rfl
 ·obtain ⟨p,zs,rfl,prZ,hzl,hE,hQ⟩:=h
  refine ⟨_,(pss_cons (ps_if (pt_not (pt_val (pe_call G_have hr rfl m_have k_have b_have .nil passW (pa_cons (pv 0) pa_nil))))
    (pss_one (ps_raise PySem.F.excBase_ValueError X_Broken.ex X_Broken.mg rfl))
    pss_nil)
   (pss_one (ps_ret (pe_call G_orders (hr.mono (show 1 ≤ 3 by decide)) rfl m_orders k_orders b_orders .nil passW (pa_cons (pv 0) pa_nil))))),?_⟩
  refine ⟨_,rfl,p,zs,rfl,prZ,hzl,fun H1 s1 => ⟨_,rfl,?_⟩⟩
  cases hb:haveT (zs.map (·.2)) with
  | false =>
   refine iteT ?_
   exact hE hb H1 s1
  | true =>
   refine iteF ?_
   have hb':=hb
   unfold haveT at hb'
   rw [Bool.and_eq_true] at hb'
   have hge:∀ c ∈ zs.map (·.2),1 ≤ c.2:=fun c hc => by
    have:=hb'.1
    unfold areC at this
    rw [Bool.and_eq_true] at this
    exact of_decide_eq_true (List.all_eq_true.mp this.2 c hc)
   refine ⟨_,rfl,p,zs,rfl,prZ.same s1,by have:=have_len hb; rw [List.length_map] at this; trivial,hge,of_decide_eq_true hb'.2,?_⟩
   exact hQ hb H1 s1
end
end K54
set_option Elab.async false
set_option linter.all false
set_option maxRecDepth 100000
set_option maxHeartbeats 4000000
namespace K54
open PySem L2 PySem.W PH
section
variable {P:Program} {w:World} {K:PySem.W.Frag} {mg:Str -> Option Value} {base:Heap}
theorem sc_share:FnScope ["text", "counts", "left", "texts", "number", "sign", "many"] ["text"] (defScope s_share):=⟨rfl, rfl, rfl, by decide +kernel, rfl, by decide +kernel, by decide +kernel⟩
theorem ok_share {f f_counts f_orders:Addr} {fd d_counts d_orders:FuncData} (F:Fun K "share_of" "share_of" s_share f fd) (B:Bls mg) 
  (G_counts:FnOk P w K mg base (CXW P w) 1 f_counts d_counts ["text"] (spCounts K)) (b_counts:Binds K d_counts ["text"] []) (k_counts:keepIn K (.ref f_counts) = true) (m_counts:mg "counts_of" = some (.ref f_counts)) 
  (G_orders:FnOk P w K mg base (CXW P w) 1 f_orders d_orders ["counts"] (spOrders)) (b_orders:Binds K d_orders ["counts"] []) (k_orders:keepIn K (.ref f_orders) = true) (m_orders:mg "orders_of" = some (.ref f_orders)):FnOk P w K mg base (CXW P w) 2 f fd ["text"] (spShare):=by
 refine F.okN sc_share (fun vs H Q E h => ?_) (fun cdv A outer s H vs Q E hr h => ?_)
 ·obtain ⟨a,ns,rfl,_⟩:=h
  rfl
 ·obtain ⟨a,ns,rfl,ha,hl4,hb,hQ⟩:=h
  refine ⟨_,(pss_cons (ps_set (i:=1) sc_share.nd rfl (Or.inl rfl) (pe_call G_counts hr rfl m_counts k_counts b_counts .nil passN (pa_cons (pv 0) pa_nil)))
   (pss_cons (ps_set (i:=2) sc_share.nd rfl (Or.inl rfl) (pe_callB call_sortedL rfl B.sorted boot_sorted' (pa_cons (pv 0) pa_nil)))
   (pss_cons (ps_set (i:=3) sc_share.nd rfl (Or.inl rfl) (pe_call G_orders hr rfl m_orders k_orders b_orders .nil passN (pa_cons (pv 1) pa_nil)))
   (pss_cons (ps_set (i:=4) sc_share.nd rfl (Or.inl rfl) pe_int)
   (pss_cons (ps_for PassesOwn.never rfl (pi_list (pv 0)) (pg_name (i:=5) sc_share.nd rfl (Or.inl rfl))
    (pss_cons (ps_set (i:=6) sc_share.nd rfl (Or.inl rfl) (pe_callB call_len_seq rfl B.len PySem.boot_len (pa_cons (pv 2) pa_nil)))
    (pss_cons (ps_set (i:=4) sc_share.nd rfl (Or.inl rfl) (pe_op op_add (pv 4) (pe_op op_fdiv (pe_op op_mul (pv 3) (pe_bm PySem.F.plainAttrs_list PySem.F.slot_list_index PySem.F.type_list_index mt_index (pv 2) (pa_cons (pv 5) pa_nil))) (pv 6))))
    (pss_cons (ps_set (i:=3) sc_share.nd rfl (Or.inl rfl) (pe_op op_fdiv (pe_op op_mul (pv 3) (pe_bm PySem.F.plainAttrs_list PySem.F.slot_list_count PySem.F.type_list_count mt_count (pv 2) (pa_cons (pv 5) pa_nil))) (pv 6)))
    (pss_one (ps_expr (pe_bm PySem.F.plainAttrs_list PySem.F.slot_list_remove PySem.F.type_list_remove mt_remove (pv 2) (pa_cons (pv 5) pa_nil))))))))
   (pss_one (ps_ret (pe_tup (pa_cons (pv 1) (pa_cons (pv 4) pa_nil)))))))))),?_⟩
  have hri:=cnts_rise hb
  refine ⟨_,rfl,a,ns,rfl,SqL.of ha,by trivial,hb,fun C zs H1 s1 hC prC hzs => ?_⟩
  have ha1:=s1 _ _ ha
  have hzl:zs.length ≤ 256:=by have:=cnts_few hb; rw [← hzs,List.length_map] at this; exact this
  refine ⟨_,rfl,a,ns,rfl,SqL.of ha1,fun l0 L hp0 hs0 hL => ?_⟩
  have u2:=same_new hL (.lst (l0.map V.int))
  have hL2:upd H1 L (.lst (l0.map V.int)) L = some (lsI l0):=upd_same
  generalize upd H1 L (.lst (l0.map V.int)) = H2 at u2 hL2 ⊢
  have prC2:=prC.same u2
  refine ⟨_,rfl,C,zs,rfl,prC2,by trivial,by rw [hzs]; exact hri.ge,by rw [hzs,cnts_sumT hb]; trivial,?_⟩
  rw [hzs,cnts_tx hb,← tx_perm hp0]
  refine ⟨_,rfl,a,rfl,⟨_,SqL.of (u2 _ _ ha1)⟩,for_list (K:=K) (a:=a) (xs:=ns.map V.int) (fun i σ H' => ∃ (l:List Int) (k:Nat) (v5 v6:Option V),σ = [some (.ref a),some (.ref C),some (.ref L),some (.int (tx l:Nat)),some (.int (k:Nat)),v5,v6]∧l.Pairwise (· ≤ ·)∧l.Perm (ns.drop i)∧k + nm (ns.drop i) = nm ns∧H' L = some (lsI l)∧Same H1 H')
   ⟨l0,0,none,none,rfl,hs0,by rw [List.drop_zero]; exact hp0,by rw [List.drop_zero,Nat.zero_add],hL2,u2⟩ (fun i σ H' _ ⟨_,_,_,_,_,_,_,_,_,e⟩ => SqL.of (e _ _ ha1)) ?_ ?_⟩
  ·rintro i y σ H' hi ⟨l,k,v5,v6,rfl,hsl,hpl,hk,hL',sm⟩
   obtain ⟨x,rfl,hx⟩:=int_at hi
   have hd:ns.drop i = x :: ns.drop (i + 1):=by
    obtain ⟨h1,h2⟩:=List.getElem?_eq_some_iff.mp hx
    rw [← h2,← List.drop_eq_getElem_cons h1]
   rw [hd] at hpl hk
   obtain ⟨hxx,e1,e2,pr'⟩:=read_step hsl hpl.symm
   have hxm:x ∈ l:=hpl.symm.subset List.mem_cons_self
   obtain ⟨pre,post,hl,hpre,her,hix⟩:=erase_at hxm
   have hl0:0 < l.length:=List.length_pos_of_mem hxm
   have hl4:l.length ≤ 400:=by
    have:=hpl.length_eq
    rw [← hd,List.length_drop] at this
    trivial
   refine ⟨_,rfl,L,_,rfl,.inl (SqL.of hL'),?_⟩
   refine gNx (v':=V.int (l.length:Nat)) (by rw [List.length_map]) ?_
   have hS4:SqL K H' L ((pre ++ x :: post).map V.int):=by rw [← hl]; exact SqL.of hL'
   refine ⟨_,rfl,_,rfl,_,rfl,.inl ⟨rfl,_,SqL.of hL'⟩,_,rfl,L,pre,x,post,rfl,rfl,hS4,hpre,_,_,rfl,rfl,.inr ⟨?_,?_⟩,_,rfl,_,_,rfl,rfl,⟨by trivial,by trivial⟩,_,_,rfl,rfl,?_⟩
   ·show -(2 ^ 64) < ((pre.length:Nat):Int)
    trivial
   ·show ((pre.length:Nat):Int) < 2 ^ 64
    have:pre.length ≤ l.length:=by rw [hl,List.length_append]; trivial
    trivial
   have er:(k:Int) + (tx l:Int) * (pre.length:Int) / (l.length:Int) = ((k + tx l * l.idxOf x / l.length:Nat):Int):=by
    rw [Int.natCast_add,Int.natCast_ediv,Int.natCast_mul,hix]
   refine gNx (v':=V.int ((k + tx l * l.idxOf x / l.length:Nat):Int)) (by rw [← er]) ?_
   refine ⟨_,rfl,_,rfl,.inl ⟨rfl,_,SqL.of hL'⟩,_,rfl,L,l,x,rfl,rfl,SqL.of hL',_,_,rfl,rfl,.inr ⟨?_,?_⟩,_,rfl,_,_,rfl,rfl,⟨by trivial,by trivial⟩,?_⟩
   ·show -(2 ^ 64) < ((l.count x:Nat):Int)
    trivial
   ·show ((l.count x:Nat):Int) < 2 ^ 64
    have:=List.count_le_length (a:=x) (l:=l)
    trivial
   have et:(tx l:Int) * (l.count x:Int) / (l.length:Int) = ((tx (l.erase x):Nat):Int):=by
    rw [← e1,Int.natCast_ediv,Int.natCast_mul]
   refine gNx (v':=V.int ((tx (l.erase x):Nat):Int)) (by rw [← et]) ?_
   refine ⟨_,rfl,.inl ⟨rfl,_,SqL.of hL'⟩,_,rfl,L,pre,x,post,rfl,rfl,by rw [← hl]; exact hL',hpre,?_⟩
   rw [← her]
   refine ⟨l.erase x,k + tx l * l.idxOf x / l.length,_,_,rfl,hsl.sublist List.erase_sublist,pr'.symm,?_,upd_same,same_upd sm _ hL⟩
   generalize tx l * l.idxOf x / l.length = q at e2 ⊢
   trivial
  ·rintro σ H' ⟨l,k,v5,v6,rfl,hsl,hpl,hk,hL',sm⟩
   rw [List.length_map,List.drop_length] at hk
   have hk':k = nm ns:=hk
   subst hk'
   refine ⟨_,rfl,_,rfl,(by show 2 ≤ sizeLine; decide),fun T hT => ?_⟩
   have sT:=sm.trans (same_new hT (.tup [.ref C,.int (nm ns:Nat)]))
   exact hQ T C zs _ (s1.trans sT) upd_same hC (prC.same sT) hzs
end
end K54
set_option Elab.async false
set_option linter.all false
set_option maxRecDepth 100000
set_option maxHeartbeats 4000000
namespace K54
open PySem L2 PySem.W PH
section
variable {P:Program} {w:World} {K:PySem.W.Frag} {mg:Str -> Option Value} {base:Heap}
theorem sc_inord:FnScope ["counts", "signs", "sign", "times"] ["counts"] (defScope s_inord):=⟨rfl, rfl, rfl, by decide +kernel, rfl, by decide +kernel, by decide +kernel⟩
theorem ok_inord {f:Addr} {fd:FuncData} (F:Fun K "signs_in_order" "signs_in_order" s_inord f fd) (B:Bls mg):FnOk P w K mg base (CXW P w) 1 f fd ["counts"] (spInOrd):=by
 refine F.okN sc_inord (fun vs H Q E h => ?_) (fun cdv A outer s H vs Q E hr h => ?_)
 ·obtain ⟨p,zs,rfl,_⟩:=h
  rfl
 ·obtain ⟨p,zs,rfl,prZ,hzl,hge,hsum,hQ⟩:=h
  refine ⟨_,(pss_cons (ps_set (i:=1) sc_inord.nd rfl (Or.inl rfl) (pe_lst pa_nil))
   (pss_cons (ps_for PassesOwn.never rfl (pi_list (pv 0)) (pg_tup rfl (pgs_cons (pg_name (i:=2) sc_inord.nd rfl (Or.inl rfl)) (pgs_cons (pg_name (i:=3) sc_inord.nd rfl (Or.inl rfl)) pgs_nil)))
    (pss_one (ps_expr (pe_bm PySem.F.plainAttrs_list PySem.F.slot_list_extend PySem.F.type_list_extend mt_extend (pv 1) (pa_cons (pe_op op_rep (pe_lst (pa_cons (pv 2) pa_nil)) (pv 3)) pa_nil)))))
   (pss_one (ps_ret (pv 1))))),?_⟩
  generalize hcs:zs.map (·.2) = cs at hge hsum hQ
  have hcl:cs.length = zs.length:=by rw [← hcs,List.length_map]
  have hSn:=sumT_nat hge
  refine ⟨(by show 0 ≤ sizeLine; decide),fun L hL => ?_⟩
  have s0:=same_new hL (.lst [])
  refine ⟨_,rfl,p,rfl,⟨_,SqL.of (s0 _ _ prZ.at_)⟩,for_list (K:=K) (a:=p) (xs:=zs.map fun z => V.ref z.1) (fun i σ H2 => ∃ (v2 v3:Option V),σ = [some (.ref p),some (.ref L),v2,v3]∧H2 L = some (lsI (flat (cs.take i)))∧Same H H2)
   ⟨none,none,rfl,upd_same,s0⟩ (fun i σ H2 _ ⟨_,_,_,_,e⟩ => SqL.of (e _ _ prZ.at_)) ?_ ?_⟩
  ·rintro i y σ H2 hi ⟨v2,v3,rfl,hL2,sm⟩
   obtain ⟨z,hz,rfl⟩:=ref_at hi
   have hck:cs[i]? = some z.2:=by rw [← hcs,List.getElem?_map,hz]; rfl
   have hz1:=hge _ (List.mem_of_getElem? hck)
   have hst:=tms_sum_take hck
   refine ⟨z.1,_,rfl,SqT.of (sm _ _ (prZ.each z (List.mem_of_getElem? hz))),rfl,_,_,rfl,_,_,rfl,rfl,?_⟩
   refine ⟨_,rfl,.inl ⟨rfl,_,SqL.of hL2⟩,_,rfl,(by show 1 ≤ sizeLine; decide),fun l1 hl1 => ?_⟩
   have s1:=same_new hl1 (.lst [V.int z.2.1])
   refine ⟨_,rfl,l1,_,_,rfl,rfl,upd_same,by trivial,by trivial,?_,fun l2 hl2 => ?_⟩
   ·have:1 * z.2.2.toNat ≤ 400:=by trivial
    exact Nat.le_trans this (by decide)
   rw [rep_ints]
   have s2:=s1.trans (same_new hl2 (.lst ((List.replicate z.2.2.toNat z.2.1).map V.int)))
   refine ⟨L,l2,_,_,rfl,rfl,s2 _ _ hL2,upd_same,fits (by rw [List.length_map,List.length_map,List.length_replicate,flat_len]; trivial),?_⟩
   refine ⟨_,_,rfl,?_,same_upd (sm.trans s2) _ hL⟩
   rw [upd_same,take_at hck,flat_snoc]
   unfold lsI
   rw [List.map_append]
  ·rintro σ H2 ⟨v2,v3,rfl,hL2,sm⟩
   rw [List.length_map,← hcl,List.take_length] at hL2
   refine ⟨_,rfl,?_⟩
   exact hQ L H2 sm hL hL2
end
end K54
set_option Elab.async false
set_option linter.all false
set_option maxRecDepth 100000
set_option maxHeartbeats 4000000
namespace K54
open PySem L2 PySem.W PH
section
variable {P:Program} {w:World} {K:PySem.W.Frag} {mg:Str -> Option Value} {base:Heap}
theorem sc_tbs:FnScope ["counts", "number", "texts", "left", "text", "rest", "many", "sign"] ["counts", "number"] (defScope s_tbs):=⟨rfl, rfl, rfl, by decide +kernel, rfl, by decide +kernel, by decide +kernel⟩
theorem ok_tbs {f c_Broken f_whole f_texts f_inord:Addr} {fd d_whole d_texts d_inord:FuncData} (F:Fun K "text_by_share" "text_by_share" s_tbs f fd) (B:Bls mg) (X_Broken:Ex K mg "Broken" c_Broken) (m_Broken:mg "Broken" = some (.ref c_Broken)) 
  (G_whole:FnOk P w K mg base (CXW P w) 1 f_whole d_whole ["thing"] (spWhole)) (b_whole:Binds K d_whole ["thing"] []) (k_whole:keepIn K (.ref f_whole) = true) (m_whole:mg "is_whole" = some (.ref f_whole)) 
  (G_texts:FnOk P w K mg base (CXW P w) 4 f_texts d_texts ["counts"] (spTextsW c_Broken)) (b_texts:Binds K d_texts ["counts"] []) (k_texts:keepIn K (.ref f_texts) = true) (m_texts:mg "texts_with" = some (.ref f_texts)) 
  (G_inord:FnOk P w K mg base (CXW P w) 1 f_inord d_inord ["counts"] (spInOrd)) (b_inord:Binds K d_inord ["counts"] []) (k_inord:keepIn K (.ref f_inord) = true) (m_inord:mg "signs_in_order" = some (.ref f_inord)):FnOk P w K mg base (CXW P w) 5 f fd ["counts", "number"] (spTbsF c_Broken):=by
 refine F.okX sc_tbs (fun vs H Q E h => ?_) (fun cdv A outer s H vs Q E hr h => ?_)
 ·obtain ⟨p,zs,number,rfl,_⟩:=h
  rfl
 ·obtain ⟨p,zs,number,rfl,prZ,hzl,hE,hQ⟩:=h
  refine ⟨_,(pss_cons (ps_set (i:=2) sc_tbs.nd rfl (Or.inl rfl) (pe_call G_texts hr rfl m_texts k_texts b_texts .nil passW (pa_cons (pv 0) pa_nil)))
   (pss_cons (ps_if (PW.pt (pw_or (pt_not (pt_val (pe_call G_whole (hr.mono (show 1 ≤ 4 by decide)) rfl m_whole k_whole b_whole .nil passW (pa_cons (pv 1) pa_nil)))) (pw_or (pt_cmpR op_lt (pv 1) pe_int (nomark _)) (pw_or1 (pt_cmpR op_ge (pv 1) (pv 2) (nomark _))))))
    (pss_one (ps_raise PySem.F.excBase_ValueError X_Broken.ex X_Broken.mg rfl))
    pss_nil)
   (pss_cons (ps_set (i:=3) sc_tbs.nd rfl (Or.inl rfl) (pe_call G_inord (hr.mono (show 1 ≤ 4 by decide)) rfl m_inord k_inord b_inord .nil passW (pa_cons (pv 0) pa_nil)))
   (pss_cons (ps_set (i:=4) sc_tbs.nd rfl (Or.inl rfl) (pe_lst pa_nil))
   (pss_cons (ps_set (i:=5) sc_tbs.nd rfl (Or.inl rfl) (pv 1))
   (pss_cons (ps_while pown (pt_cmpR op_gt (pe_callB call_len_seq rfl B.len PySem.boot_len (pa_cons (pv 3) pa_nil)) pe_int (nomark _))
    (pss_cons (ps_set (i:=6) sc_tbs.nd rfl (Or.inl rfl) (pe_callB call_len_seq rfl B.len PySem.boot_len (pa_cons (pv 3) pa_nil)))
    (pss_cons (ps_set (i:=7) sc_tbs.nd rfl (Or.inl rfl) (pe_ix ix_list (pv 3) (pe_op op_fdivG (pe_op op_mul (pv 5) (pv 6)) (pv 2)) (fun _ _ => rfl)))
    (pss_cons (ps_set (i:=5) sc_tbs.nd rfl (Or.inl rfl) (pe_op op_sub (pv 5) (pe_op op_fdiv (pe_op op_mul (pv 2) (pe_bm PySem.F.plainAttrs_list PySem.F.slot_list_index PySem.F.type_list_index mt_index (pv 3) (pa_cons (pv 7) pa_nil))) (pv 6))))
    (pss_cons (ps_set (i:=2) sc_tbs.nd rfl (Or.inl rfl) (pe_op op_fdiv (pe_op op_mul (pv 2) (pe_bm PySem.F.plainAttrs_list PySem.F.slot_list_count PySem.F.type_list_count mt_count (pv 3) (pa_cons (pv 7) pa_nil))) (pv 6)))
    (pss_cons (ps_expr (pe_bm PySem.F.plainAttrs_list PySem.F.slot_list_remove PySem.F.type_list_remove mt_remove (pv 3) (pa_cons (pv 7) pa_nil)))
    (pss_one (ps_expr (pe_bm PySem.F.plainAttrs_list PySem.F.slot_list_append PySem.F.type_list_append mt_append (pv 4) (pa_cons (pv 7) pa_nil))))))))))
   (pss_one (ps_ret (pv 4))))))))),?_⟩
  generalize hcs:zs.map (·.2) = cs at hE hQ
  have hcl:zs.length = cs.length:=by rw [← hcs,List.length_map]
  refine ⟨_,rfl,p,zs,rfl,prZ,hzl,(fun hf H1 s1 => hE (.inl (by rw [← hcs]; exact hf)) H1 s1),fun hb H1 s1 => ?_⟩
  rw [hcs] at hb ⊢
  obtain ⟨hri,hsu⟩:=have_of hb
  have hSn:=sumT_nat hri.ge
  refine ⟨_,rfl,number,rfl,_,rfl,?_⟩
  refine iteF ?_
  refine ⟨_,rfl,_,_,rfl,rfl,_,rfl,?_⟩
  by_cases h0:number < 0
  ·rw [decide_eq_true h0]
   refine iteT (iteT ?_)
   exact hE (.inr (.inl h0)) H1 s1
  rw [decide_eq_false h0]
  refine iteF ?_
  refine ⟨_,rfl,_,rfl,_,_,rfl,rfl,_,rfl,?_⟩
  by_cases h1:(mlt 1 0 (tms cs):Int) ≤ number
  ·rw [decide_eq_true h1]
   refine iteT ?_
   exact hE (.inr (.inr h1)) H1 s1
  rw [decide_eq_false h1]
  refine iteF ?_
  have ok:=txN_ok hri (k:=number.toNat) (by trivial)
  generalize ht:txN cs number.toNat = t at ok hQ
  obtain ⟨hpm,hnm⟩:=ok
  have en:number = ((nm t:Nat):Int):=by trivial
  subst en
  have hzl:zs.length ≤ 300:=by have:=have_len hb; rw [← hcl] at this; trivial
  replace hQ:=hQ hb (by trivial) (by trivial)
  clear hE
  have prZ1:=prZ.same s1
  refine ⟨_,rfl,p,zs,rfl,prZ1,hzl,by rw [hcs]; exact hri.ge,by rw [hcs]; exact hsu,fun L H2 s2 hL hL2 => ?_⟩
  rw [hcs] at hL2
  refine ⟨(by show 0 ≤ sizeLine; decide),fun T hT => ?_⟩
  have s3:=same_new hT (.lst [])
  have nLT:L ≠ T:=ne_of_none hL2 hT
  refine ⟨_,rfl,?_⟩
  have sH:Same H (upd H2 T (.lst [])):=s1.trans (s2.trans s3)
  have hLH:H L = none:=s1.free hL
  have hTH:H T = none:=(s1.trans s2).free hT
  have fin:=hQ T
  clear hQ
  refine ⟨fun m σ H' => ∃ (l ts r:List Int) (v6 v7:Option V),m = l.length∧σ = [some (.ref p),some (.int (nm t:Nat)),some (.int (tx l:Nat)),some (.ref L),some (.ref T),some (.int (nm r:Nat)),v6,v7]∧l.Pairwise (· ≤ ·)∧r.Perm l∧ts ++ r = t∧l.length + ts.length = (tms cs).sum∧H' L = some (lsI l)∧H' T = some (lsI ts)∧Same H H',
   ⟨_,flat cs,[],t,none,none,rfl,?_,flat_sorted hri,hpm,rfl,by rw [flat_len]; rfl,s3 _ _ hL2,upd_same,sH⟩,?_⟩
  ·rw [tx_flat hri]; rfl
  rintro m σ H4 ⟨l,ts,r,v6,v7,rfl,rfl,hsl,hpr,htr,hlen,hL4,hT4,sm⟩
  refine ⟨_,rfl,L,_,rfl,.inl (SqL.of hL4),_,_,rfl,rfl,_,rfl,?_⟩
  rw [List.length_map]
  cases r with
  | nil =>
   have hl:l = []:=hpr.symm.eq_nil
   subst hl
   refine iteF ?_
   refine ⟨_,rfl,?_⟩
   rw [List.append_nil] at htr
   subst htr
   exact fin H4 sm hTH hT4
  | cons x r =>
   have hxm:x ∈ l:=hpr.subset List.mem_cons_self
   have hl0:0 < l.length:=List.length_pos_of_mem hxm
   rw [decide_eq_true (show (0:Int) < ((l.length:Nat):Int) by trivial)]
   refine iteT ?_
   have hl4:l.length ≤ 400:=by trivial
   obtain ⟨hx,e1,e2,pr'⟩:=read_step hsl hpr
   obtain ⟨pre,post,hl,hpre,her,hix⟩:=erase_at hxm
   have hTp:=tx_pos l
   have hTl:tx l < 2 ^ 3000:=Nat.lt_of_le_of_lt (tx_le l) (fac_lt hl4)
   refine ⟨fun σ' H'' => ∃ m',m' < l.length∧∃ (l ts r:List Int) (v6 v7:Option V),m' = l.length∧σ' = [some (.ref p),some (.int (nm t:Nat)),some (.int (tx l:Nat)),some (.ref L),some (.ref T),some (.int (nm r:Nat)),v6,v7]∧l.Pairwise (· ≤ ·)∧r.Perm l∧ts ++ r = t∧l.length + ts.length = (tms cs).sum∧H'' L = some (lsI l)∧H'' T = some (lsI ts)∧Same H H'',fun σ' H'' z => z,?_⟩
   refine ⟨_,rfl,L,_,rfl,.inl (SqL.of hL4),?_⟩
   refine gNx (v':=V.int (l.length:Nat)) (by rw [List.length_map]) ?_
   generalize hrest:nm (x :: r) = rest at hx e2 ⊢
   refine ⟨_,rfl,_,rfl,_,rfl,_,_,rfl,rfl,.inr ⟨by trivial,by trivial⟩,_,rfl,_,_,rfl,rfl,⟨?_,?_⟩,?_⟩
   ·show (0:Int) < (tx l:Nat)
    trivial
   ·show ((tx l:Nat):Int) < ((2 ^ 3000:Nat):Int)
    exact Int.ofNat_lt.mpr hTl
   refine ⟨L,_,((rest * l.length / tx l:Nat):Int),_,rfl,?_,SqL.of hL4,at_ints hx,?_⟩
   ·show V.int ((rest:Int) * (l.length:Int) / (tx l:Int)) = V.int ((rest * l.length / tx l:Nat):Int)
    rw [Int.natCast_ediv,Int.natCast_mul]
   have hS4:SqL K H4 L ((pre ++ x :: post).map V.int):=by rw [← hl]; exact SqL.of hL4
   refine ⟨_,rfl,_,rfl,_,rfl,.inl ⟨rfl,_,SqL.of hL4⟩,_,rfl,L,pre,x,post,rfl,rfl,hS4,hpre,_,_,rfl,rfl,.inr ⟨?_,?_⟩,_,rfl,_,_,rfl,rfl,⟨by trivial,by trivial⟩,_,_,rfl,rfl,?_⟩
   ·show -(2 ^ 64) < ((pre.length:Nat):Int)
    trivial
   ·show ((pre.length:Nat):Int) < 2 ^ 64
    have:pre.length ≤ l.length:=by rw [hl,List.length_append]; trivial
    trivial
   have er:(rest:Int) - (tx l:Int) * (pre.length:Int) / (l.length:Int) = ((nm r:Nat):Int):=by
    rw [← hix,← Int.natCast_mul,← Int.natCast_ediv]
    generalize tx l * l.idxOf x / l.length = q at e2 ⊢
    trivial
   refine gNx (v':=V.int ((nm r:Nat):Int)) (by rw [← er]) ?_
   refine ⟨_,rfl,_,rfl,.inl ⟨rfl,_,SqL.of hL4⟩,_,rfl,L,l,x,rfl,rfl,SqL.of hL4,_,_,rfl,rfl,.inr ⟨?_,?_⟩,_,rfl,_,_,rfl,rfl,⟨by trivial,by trivial⟩,?_⟩
   ·show -(2 ^ 64) < ((l.count x:Nat):Int)
    trivial
   ·show ((l.count x:Nat):Int) < 2 ^ 64
    have:=List.count_le_length (a:=x) (l:=l)
    trivial
   have et:(tx l:Int) * (l.count x:Int) / (l.length:Int) = ((tx (l.erase x):Nat):Int):=by
    rw [← e1,Int.natCast_ediv,Int.natCast_mul]
   refine gNx (v':=V.int ((tx (l.erase x):Nat):Int)) (by rw [← et]) ?_
   refine ⟨_,rfl,.inl ⟨rfl,_,SqL.of hL4⟩,_,rfl,L,pre,x,post,rfl,rfl,by rw [← hl]; exact hL4,hpre,?_⟩
   rw [← her]
   have hT5:upd H4 L (.lst ((l.erase x).map V.int)) T = some (lsI ts):=by rw [upd_ne nLT.symm]; exact hT4
   refine ⟨_,rfl,.inl ⟨rfl,_,SqL.of hT5⟩,_,rfl,T,_,_,rfl,rfl,hT5,fits_lt (by rw [List.length_map]; trivial),?_⟩
   have hle:=List.length_erase_of_mem hxm
   refine ⟨_,?_,l.erase x,ts ++ [x],r,_,_,rfl,rfl,hsl.sublist List.erase_sublist,pr',by rw [List.append_assoc]; exact htr,by rw [List.length_append,List.length_singleton]; trivial,by rw [upd_ne nLT,upd_same]; rfl,by rw [upd_same,lsI_app1],same_upd (same_upd sm _ hLH) _ hTH⟩
   trivial
end
end K54
set_option Elab.async false
set_option linter.all false
set_option maxRecDepth 100000
set_option maxHeartbeats 4000000
namespace K54
open PySem L2 PySem.W PH
section
variable {P:Program} {w:World} {K:PySem.W.Frag} {mg:Str -> Option Value} {base:Heap}
theorem sc_eno:FnScope ["texts"] ["texts"] (defScope s_eno):=⟨rfl, rfl, rfl, by decide +kernel, rfl, by decide +kernel, by decide +kernel⟩
theorem ok_eno {f:Addr} {fd:FuncData} (F:Fun K "bits_enough" "bits_enough" s_eno f fd) (B:Bls mg):FnOk P w K mg base (CXW P w) 1 f fd ["texts"] (spEnough):=by
 refine F.okN sc_eno (fun vs H Q E h => ?_) (fun cdv A outer s H vs Q E hr h => ?_)
 ·obtain ⟨m,rfl,_⟩:=h
  rfl
 ·obtain ⟨m,rfl,hm,q⟩:=h
  refine ⟨_,(pss_one (ps_ret (pe_bm0 PySem.F.plainAttrs_int PySem.F.slot_int_bit_length PySem.F.type_int_bit_length mt_bitlen (pe_op op_sub (pv 0) pe_int)))),?_⟩
  refine ⟨_,rfl,_,_,rfl,rfl,rfl,(m:Int) - 1,rfl,rfl,?_⟩
  exact q
theorem sc_shb:FnScope ["text", "share"] ["text"] (defScope s_shb):=⟨rfl, rfl, rfl, by decide +kernel, rfl, by decide +kernel, by decide +kernel⟩
theorem ok_shb {f c_NoNumber f_low f_row f_unp f_orders f_share f_eno:Addr} {fd d_low d_row d_unp d_orders d_share d_eno:FuncData} (F:Fun K "share_bits" "share_bits" s_shb f fd) (B:Bls mg) 
  (G_low:FnOk P w K mg base (CXW P w) 1 f_low d_low ["n", "k"] (spLowW c_NoNumber)) (b_low:Binds K d_low ["n", "k"] []) (k_low:keepIn K (.ref f_low) = true) (m_low:mg "low_bits" = some (.ref f_low)) 
  (G_row:FnOk P w K mg base (CXW P w) 3 f_row d_row ["numbers"] (spRowW K c_NoNumber)) (b_row:Binds K d_row ["numbers"] []) (k_row:keepIn K (.ref f_row) = true) (m_row:mg "row_bits" = some (.ref f_row)) 
  (G_unp:FnOk P w K mg base (CXW P w) 1 f_unp d_unp ["pairs"] (spUnp)) (b_unp:Binds K d_unp ["pairs"] []) (k_unp:keepIn K (.ref f_unp) = true) (m_unp:mg "unpaired" = some (.ref f_unp)) 
  (G_orders:FnOk P w K mg base (CXW P w) 1 f_orders d_orders ["counts"] (spOrders)) (b_orders:Binds K d_orders ["counts"] []) (k_orders:keepIn K (.ref f_orders) = true) (m_orders:mg "orders_of" = some (.ref f_orders)) 
  (G_share:FnOk P w K mg base (CXW P w) 2 f_share d_share ["text"] (spShare)) (b_share:Binds K d_share ["text"] []) (k_share:keepIn K (.ref f_share) = true) (m_share:mg "share_of" = some (.ref f_share)) 
  (G_eno:FnOk P w K mg base (CXW P w) 1 f_eno d_eno ["texts"] (spEnough)) (b_eno:Binds K d_eno ["texts"] []) (k_eno:keepIn K (.ref f_eno) = true) (m_eno:mg "bits_enough" = some (.ref f_eno)):FnOk P w K mg base (CXW P w) 4 f fd ["text"] (spShB):=by
 refine F.okX sc_shb (fun vs H Q E h => ?_) (fun cdv A outer s H vs Q E hr h => ?_)
 ·obtain ⟨a,ns,rfl,_⟩:=h
  rfl
 ·obtain ⟨a,ns,rfl,ha,hl4,hb,hQ⟩:=h
  refine ⟨_,(pss_cons (ps_set (i:=1) sc_shb.nd rfl (Or.inl rfl) (pe_call G_share (hr.mono (show 2 ≤ 3 by decide)) rfl m_share k_share b_share .nil passW (pa_cons (pv 0) pa_nil)))
   (pss_one (ps_ret (pe_op op_cat (pe_call G_row hr rfl m_row k_row b_row .nil passW (pa_cons (pe_call G_unp (hr.mono (show 1 ≤ 3 by decide)) rfl m_unp k_unp b_unp .nil passW (pa_cons (pe_ix ix_tup (pv 1) pe_int (fun _ _ => rfl)) pa_nil)) pa_nil)) (pe_call G_low (hr.mono (show 1 ≤ 3 by decide)) rfl m_low k_low b_low .nil passW (pa_cons (pe_ix ix_tup (pv 1) pe_int (fun _ _ => rfl)) (pa_cons (pe_call G_eno (hr.mono (show 1 ≤ 3 by decide)) rfl m_eno k_eno b_eno .nil passW (pa_cons (pe_call G_orders (hr.mono (show 1 ≤ 3 by decide)) rfl m_orders k_orders b_orders .nil passW (pa_cons (pe_ix ix_tup (pv 1) pe_int (fun _ _ => rfl)) pa_nil)) pa_nil)) pa_nil))))))),?_⟩
  refine ⟨_,rfl,a,ns,rfl,ha,hl4,hb,fun T C zs H1 s1 hT hC prC hzs => ?_⟩
  have hzl:zs.length ≤ 256:=by have:=cnts_few hb; rw [← hzs,List.length_map] at this; exact this
  have hsm:=cnts_small hb hl4
  refine ⟨_,rfl,T,_,0,_,rfl,rfl,SqT.of hT,rfl,C,zs,rfl,prC,by trivial,fun U H2 s2 hUn hU => ?_⟩
  rw [hzs] at hU
  refine ⟨U,_,rfl,SqL.of hU,by rw [unp_len,← hzs,List.length_map]; trivial,(fun n hn h0 => blen_small (by trivial) (by have:=hsm n hn; trivial)),(fun ⟨n,hn,h0⟩ => by have:=hsm n hn; trivial),fun _ R H3 s3 hRn hR => ?_⟩
  have t3:=s2.trans s3
  have hT3:=t3 _ _ hT
  have prC3:=prC.same t3
  have htl:=tx_lt hl4
  have htp:=tx_pos ns
  have hel:=enough_le htp htl
  refine ⟨_,rfl,T,_,1,_,rfl,rfl,SqT.of hT3,rfl,_,rfl,T,_,0,_,rfl,rfl,SqT.of hT3,rfl,C,zs,rfl,prC3,by trivial,by rw [hzs]; exact (cnts_rise hb).ge,by rw [hzs,cnts_sumT hb]; trivial,tx ns,by rw [hzs,cnts_tx hb]; rfl,htp,?_⟩
  refine ⟨_,enough (tx ns),rfl,hel,.inr ⟨⟨by trivial,enough_lt htp (nm_lt ns)⟩,fun W hW => ?_⟩⟩
  have u4:=same_new hW (lsI (lowb (nm ns:Nat) (enough (tx ns))))
  have hbl:=shB_len hb hl4
  unfold shB at hbl
  rw [List.length_append] at hbl
  refine ⟨R,W,_,_,rfl,rfl,u4 _ _ hR,upd_same,fits (by rw [List.length_map,List.length_map]; trivial),fun L hL => ?_⟩
  rw [lsI_app]
  have t4:=s1.trans (t3.trans u4)
  exact hQ L _ (t4.trans (same_new hL _)) (t4.free hL) upd_same
end
end K54
set_option Elab.async false
set_option linter.all false
set_option maxRecDepth 100000
set_option maxHeartbeats 4000000
namespace K54
open PySem L2 PySem.W PH
section
variable {P:Program} {w:World} {K:PySem.W.Frag} {mg:Str -> Option Value} {base:Heap}
theorem sc_rds:FnScope ["bits", "at", "head", "counts", "behind"] ["bits", "at"] (defScope s_rds):=⟨rfl, rfl, rfl, by decide +kernel, rfl, by decide +kernel, by decide +kernel⟩
theorem ok_rds {f c_Broken f_num f_rdrow f_prd f_texts f_tbs f_eno:Addr} {fd d_num d_rdrow d_prd d_texts d_tbs d_eno:FuncData} (F:Fun K "read_share" "read_share" s_rds f fd) (B:Bls mg) (X_Broken:Ex K mg "Broken" c_Broken) (m_Broken:mg "Broken" = some (.ref c_Broken)) 
  (G_num:FnOk P w K mg base (CXW P w) 1 f_num d_num ["bits"] (spWorth K)) (b_num:Binds K d_num ["bits"] []) (k_num:keepIn K (.ref f_num) = true) (m_num:mg "number_of" = some (.ref f_num)) 
  (G_rdrow:FnOk P w K mg base (CXW P w) 3 f_rdrow d_rdrow ["bits", "at"] (spRdRow K c_Broken)) (b_rdrow:Binds K d_rdrow ["bits", "at"] []) (k_rdrow:keepIn K (.ref f_rdrow) = true) (m_rdrow:mg "read_row" = some (.ref f_rdrow)) 
  (G_prd:FnOk P w K mg base (CXW P w) 1 f_prd d_prd ["numbers"] (spPrd c_Broken)) (b_prd:Binds K d_prd ["numbers"] []) (k_prd:keepIn K (.ref f_prd) = true) (m_prd:mg "paired" = some (.ref f_prd)) 
  (G_texts:FnOk P w K mg base (CXW P w) 4 f_texts d_texts ["counts"] (spTextsW c_Broken)) (b_texts:Binds K d_texts ["counts"] []) (k_texts:keepIn K (.ref f_texts) = true) (m_texts:mg "texts_with" = some (.ref f_texts)) 
  (G_tbs:FnOk P w K mg base (CXW P w) 5 f_tbs d_tbs ["counts", "number"] (spTbsF c_Broken)) (b_tbs:Binds K d_tbs ["counts", "number"] []) (k_tbs:keepIn K (.ref f_tbs) = true) (m_tbs:mg "text_by_share" = some (.ref f_tbs)) 
  (G_eno:FnOk P w K mg base (CXW P w) 1 f_eno d_eno ["texts"] (spEnough)) (b_eno:Binds K d_eno ["texts"] []) (k_eno:keepIn K (.ref f_eno) = true) (m_eno:mg "bits_enough" = some (.ref f_eno)):FnOk P w K mg base (CXW P w) 6 f fd ["bits", "at"] (spRdS c_Broken):=by
 refine F.okX sc_rds (fun vs H Q E h => ?_) (fun cdv A outer s H vs Q E hr h => ?_)
 ·obtain ⟨a,bs,i,rfl,_⟩:=h
  rfl
 ·obtain ⟨a,bs,i,rfl,ha,hbits,hbl2,hi6,hE,hQ⟩:=h
  refine ⟨_,(pss_cons (ps_set (i:=2) sc_rds.nd rfl (Or.inl rfl) (pe_call G_rdrow (hr.mono (show 3 ≤ 5 by decide)) rfl m_rdrow k_rdrow b_rdrow .nil passW (pa_cons (pv 0) (pa_cons (pv 1) pa_nil))))
   (pss_cons (ps_set (i:=3) sc_rds.nd rfl (Or.inl rfl) (pe_call G_prd (hr.mono (show 1 ≤ 5 by decide)) rfl m_prd k_prd b_prd .nil passW (pa_cons (pe_ix ix_tup (pv 2) pe_int (fun _ _ => rfl)) pa_nil)))
   (pss_cons (ps_set (i:=4) sc_rds.nd rfl (Or.inl rfl) (pe_op op_add (pe_ix ix_tup (pv 2) pe_int (fun _ _ => rfl)) (pe_call G_eno (hr.mono (show 1 ≤ 5 by decide)) rfl m_eno k_eno b_eno .nil passW (pa_cons (pe_call G_texts (hr.mono (show 4 ≤ 5 by decide)) rfl m_texts k_texts b_texts .nil passW (pa_cons (pv 3) pa_nil)) pa_nil))))
   (pss_cons (ps_if (pt_cmpR op_gt (pv 4) (pe_callB call_len_seq rfl B.len PySem.boot_len (pa_cons (pv 0) pa_nil)) (nomark _))
    (pss_one (ps_raise PySem.F.excBase_ValueError X_Broken.ex X_Broken.mg rfl))
    pss_nil)
   (pss_one (ps_ret (pe_tup (pa_cons (pe_call G_tbs hr rfl m_tbs k_tbs b_tbs .nil passW (pa_cons (pv 3) (pa_cons (pe_call G_num (hr.mono (show 1 ≤ 5 by decide)) rfl m_num k_num b_num .nil passW (pa_cons (pe_slice sl_list (pv 0) (po_some (pe_ix ix_tup (pv 2) pe_int (fun _ _ => rfl))) (po_some (pv 4))) pa_nil)) pa_nil))) (pa_cons (pv 4) pa_nil))))))))),?_⟩
  have hS:=SqL.of (K:=K) ha
  refine ⟨_,rfl,_,rfl,a,bs,i,rfl,hS,by trivial,hi6,?_⟩
  cases hr:readRow bs i with
  | none => exact fun H1 s1 => hE (by unfold rdS; rw [hr]) H1 s1
  | some nb =>
   obtain ⟨ns,b⟩:=nb
   intro l t H1 s1 hln htn hlt hl1 ht1
   obtain ⟨i0,ib,hbl,hn0,hrow⟩:=readRow_back hbits hr
   have hnl:ns.length ≤ 20000:=by
    have h1:=(flatb_ge hn0).1
    have h2:=congrArg List.length hrow
    unfold rowb at h2
    rw [List.length_append,List.length_take,List.length_drop] at h2
    trivial
   have eS:rdS bs i = (if ns.length % 2 = 1 then none else if haveT (prd ns) = false then none else
    if bs.length < b + enough (mlt 1 0 (tms (prd ns))) then none else
    if (mlt 1 0 (tms (prd ns)):Int) ≤ worth ((bs.drop b).take (enough (mlt 1 0 (tms (prd ns))))) then none else
    some (txN (prd ns) (worth ((bs.drop b).take (enough (mlt 1 0 (tms (prd ns)))))).toNat,b + enough (mlt 1 0 (tms (prd ns))))):=by unfold rdS; rw [hr]
   rw [eS] at hE hQ
   refine ⟨_,rfl,t,_,0,_,rfl,rfl,SqT.of ht1,rfl,l,ns,rfl,hl1,by trivial,(fun h2 => hE (by rw [if_pos h2]) H1 s1),fun h2 p zs H2 s2 hp prZ hzs => ?_⟩
   have n2:¬ ns.length % 2 = 1:=by trivial
   rw [if_neg n2] at hE hQ
   have hzl:zs.length ≤ 20000:=by
    have:=congrArg List.length hzs
    rw [List.length_map,prd_len] at this
    trivial
   have ht2:=s2 _ _ ht1
   have t2:=s1.trans s2
   refine ⟨_,rfl,t,_,1,_,rfl,rfl,SqT.of ht2,rfl,_,rfl,p,zs,rfl,prZ,hzl,(fun hh H3 s3 => hE (by rw [hzs] at hh; rw [if_pos hh]) H3 (t2.trans s3)),fun hh H3 s3 => ?_⟩
   rw [hzs] at hh ⊢
   rw [if_neg (by rw [hh]; decide)] at hE hQ
   obtain ⟨hri,hsu⟩:=have_of hh
   have hm1:1 ≤ mlt 1 0 (tms (prd ns)):=by rw [← tx_flat hri]; exact tx_pos _
   generalize hM:mlt 1 0 (tms (prd ns)) = M at hm1 hE hQ ⊢
   refine ⟨M,rfl,hm1,_,_,rfl,rfl,?_⟩
   refine gNx (v':=V.int ((b + enough M:Nat):Int)) (by rfl) ?_
   have t3:=t2.trans s3
   have ha3:=t3 _ _ ha
   refine ⟨_,rfl,_,rfl,a,_,rfl,.inl (SqL.of ha3),_,_,rfl,rfl,_,rfl,?_⟩
   rw [List.length_map]
   by_cases hlen:bs.length < b + enough M
   ·rw [decide_eq_true (show ((bs.length:Nat):Int) < ((b + enough M:Nat):Int) by trivial)]
    refine iteT ?_
    exact hE (by rw [if_pos hlen]) _ t3
   rw [decide_eq_false (show ¬ ((bs.length:Nat):Int) < ((b + enough M:Nat):Int) by trivial)]
   rw [if_neg hlen] at hE hQ
   refine iteF ?_
   have ht3:=s3 _ _ ht2
   refine ⟨_,rfl,_,rfl,_,rfl,t,_,1,_,rfl,rfl,SqT.of ht3,rfl,_,rfl,_,rfl,_,rfl,a,_,rfl,SqL.of ha3,fun W hW => ?_⟩
   have ec:HO.lst (cutV (bs.map V.int) (some (b:Int)) (some ((b + enough M:Nat):Int))) = lsI ((bs.drop b).take (enough M)):=by rw [cut_two,show b + enough M - b = enough M by trivial]; rfl
   try simp only []
   rw [ec]
   have w0:=(worth_bound (bs:=(bs.drop b).take (enough M)) (isBits_take (isBits_drop hbits _) _)).1
   generalize (bs.drop b).take (enough M) = ws at w0 hE hQ ⊢
   have u4:=same_new hW (lsI ws)
   have hW4:upd H3 W (lsI ws) W = some (lsI ws):=upd_same
   generalize upd H3 W (lsI ws) = H4 at u4 hW4 ⊢
   have t4:=t3.trans u4
   refine ⟨W,ws,rfl,SqL.of hW4,p,zs,worth ws,rfl,prZ.same (s3.trans u4),hzl,(fun hbad H5 s5 => ?_),fun _ _ hlt2 X H5 s5 hXn hX => ?_⟩
   ·rw [hzs] at hbad
    rcases hbad with h | h | h
    ·rw [hh] at h; cases h
    ·trivial
    ·rw [hM] at h
     exact hE (by rw [if_pos h]) H5 (t4.trans s5)
   ·rw [hzs] at hX hlt2
    rw [hM] at hlt2
    rw [if_neg (by trivial)] at hQ
    have t5:=t4.trans s5
    refine ⟨_,rfl,(by show 2 ≤ sizeLine; decide),fun T hT => ?_⟩
    have u6:=same_new hT (.tup [.ref X,.int ((b + enough M:Nat):Int)])
    exact hQ _ _ rfl T X _ (t5.trans u6) (t4.free hXn) (u6 _ _ hX) upd_same
end
end K54
set_option Elab.async false
set_option linter.all false
set_option maxRecDepth 100000
set_option maxHeartbeats 4000000
namespace K54
open PySem L2 PySem.W PH
section
variable {P:Program} {w:World} {K:PySem.W.Frag} {mg:Str -> Option Value} {base:Heap}
theorem sc_pool:FnScope ["script", "k", "cell"] ["script", "k"] (defScope s_pool):=⟨rfl, rfl, rfl, by decide +kernel, rfl, by decide +kernel, by decide +kernel⟩
theorem ok_pool {f:Addr} {fd:FuncData} (F:Fun K "_law_pool" "_law_pool" s_pool f fd) (B:Bls mg):FnOk P w K mg base (CXW P w) 1 f fd ["script", "k"] (spPool K):=by
 refine F.okN sc_pool (fun vs H Q E h => ?_) (fun cdv A outer s H vs Q E hr h => ?_)
 ·obtain ⟨a,ns,k,rfl,_⟩:=h
  rfl
 ·obtain ⟨a,ns,k,rfl,hS,hk,hQ⟩:=h
  refine ⟨_,(pss_cons (ps_set (i:=2) sc_pool.nd rfl (Or.inl rfl) pe_int)
   (pss_cons (ps_if (pt_cmpR op_lt (pv 1) (pe_callB call_len_seq rfl B.len PySem.boot_len (pa_cons (pv 0) pa_nil)) (nomark _))
    (pss_one (ps_set (i:=2) sc_pool.nd rfl (Or.inl rfl) (pe_ix ix_list (pv 0) (pv 1) (fun _ _ => rfl))))
    pss_nil)
   (pss_one (ps_ret (pe_lst (pa_cons (pe_op op_fdiv (pv 2) pe_int) (pa_cons (pe_op op_mod (pv 2) pe_int) (pa_cons (pe_op op_mul pe_int (pv 1)) pa_nil)))))))),?_⟩
  refine ⟨_,rfl,_,rfl,a,_,rfl,.inl hS,_,_,rfl,rfl,_,rfl,?_⟩
  refine ite2 (fun c => ?_) (fun c => ?_)
  ·have hlt:k < ns.length:=by
    have:=of_decide_eq_true c
    rw [List.length_map] at this
    trivial
   obtain ⟨x,hx⟩:∃ x,ns[k]? = some x:=⟨_,List.getElem?_eq_getElem hlt⟩
   refine ⟨_,rfl,_,rfl,a,_,_,.int x,rfl,rfl,hS,at_ints hx,?_⟩
   refine ⟨_,rfl,_,_,rfl,rfl,⟨by decide,by decide⟩,_,rfl,_,_,rfl,rfl,(by show (0:Int) < 2; decide),_,rfl,_,_,rfl,rfl,.inl ⟨by decide,by decide⟩,(by show 3 ≤ sizeLine; decide),fun l hl => ?_⟩
   exact hQ l _ hl (same_new hl _) ⟨_,_,7 * (k:Int),upd_same,by trivial,by trivial⟩
  ·refine ⟨_,rfl,_,_,rfl,rfl,⟨by decide,by decide⟩,_,rfl,_,_,rfl,rfl,(by show (0:Int) < 2; decide),_,rfl,_,_,rfl,rfl,.inl ⟨by decide,by decide⟩,(by show 3 ≤ sizeLine; decide),fun l hl => ?_⟩
   exact hQ l _ hl (same_new hl _) ⟨_,_,7 * (k:Int),upd_same,by trivial,by trivial⟩
theorem sc_take:FnScope ["pool", "many", "found", "step", "mark"] ["pool", "many"] (defScope s_take):=⟨rfl, rfl, rfl, by decide +kernel, rfl, by decide +kernel, by decide +kernel⟩
theorem ok_take {f:Addr} {fd:FuncData} (F:Fun K "_law_take" "_law_take" s_take f fd) (B:Bls mg):FnOk P w K mg base (CXW P w) 1 f fd ["pool", "many"] (spTake):=by
 refine F.okN sc_take (fun vs H Q E h => ?_) (fun cdv A outer s H vs Q E hr h => ?_)
 ·obtain ⟨p,n,many,rfl,_⟩:=h
  rfl
 ·obtain ⟨p,n,many,rfl,pl,hn,h0,h1,k⟩:=h
  refine ⟨_,(pss_cons (ps_if (pt_cmpR op_eq (pe_ix ix_list (pv 0) pe_int (fun _ _ => rfl)) pe_int (nomark _))
    (pss_cons (ps_set (i:=2) sc_take.nd rfl (Or.inl rfl) (pe_op op_mod (pe_ix ix_list (pv 0) pe_int (fun _ _ => rfl)) (pv 1)))
    (pss_cons (ps_asg (pe_op op_fdiv (pe_ix ix_list (pv 0) pe_int (fun _ _ => rfl)) (pv 1)) (pg_sub (pv 0) pe_int set_list))
    (pss_one (ps_ret (pv 2)))))
    pss_nil)
   (pss_cons (ps_asg (pe_op op_add (pe_ix ix_list (pv 0) pe_int (fun _ _ => rfl)) pe_int) (pg_sub (pv 0) pe_int set_list))
   (pss_cons (ps_set (i:=3) sc_take.nd rfl (Or.inl rfl) (pe_ix ix_list (pv 0) pe_int (fun _ _ => rfl)))
   (pss_cons (ps_set (i:=4) sc_take.nd rfl (Or.inl rfl) (pe_op op_mul (pe_op op_add (pe_op op_mod (pe_ix ix_list (pv 0) pe_int (fun _ _ => rfl)) pe_int) pe_int) (pe_op op_add (pe_op op_mul pe_int (pv 3)) pe_int)))
   (pss_cons (ps_set (i:=4) sc_take.nd rfl (Or.inl rfl) (pe_op op_add (pv 4) (pe_op op_mul (pe_op op_mul pe_int (pv 3)) (pv 3))))
   (pss_cons (ps_set (i:=4) sc_take.nd rfl (Or.inl rfl) (pe_op op_mod (pe_op op_mul (pv 4) (pv 4)) pe_int))
   (pss_one (ps_ret (pe_op op_mod (pe_op op_fdiv (pe_op op_mod (pe_op op_mul (pv 4) (pe_op op_add (pv 4) pe_int)) pe_int) pe_int) (pv 1)))))))))),?_⟩
  obtain ⟨a,b,c,hp,hc0,hc1⟩:=pl
  refine ⟨_,rfl,p,_,_,_,rfl,rfl,SqL.of hp,rfl,rfl,_,rfl,?_⟩
  refine ite2 (fun _ => ?_) (fun _ => ?_)
  ·refine ⟨_,rfl,p,_,_,_,rfl,rfl,SqL.of hp,rfl,_,rfl,_,_,rfl,rfl,h0,?_⟩
   refine ⟨_,rfl,p,_,_,_,rfl,rfl,SqL.of hp,rfl,_,rfl,_,_,rfl,rfl,⟨h0,h1⟩,_,rfl,p,_,_,_,rfl,rfl,hp,rfl,?_⟩
   refine ⟨_,rfl,?_⟩
   exact k _ _ (Int.emod_nonneg _ (by trivial)) (Int.emod_lt_of_pos _ h0) ⟨_,_,c,upd_same,hc0,by trivial⟩ (Kb.put _ _ _)
  ·have hp2:upd H p (deckO a b (c + 1)) p = some (deckO a b (c + 1)):=upd_same
   refine ⟨_,rfl,p,_,_,_,rfl,rfl,SqL.of hp,rfl,_,_,rfl,rfl,_,rfl,p,_,_,_,rfl,rfl,hp,rfl,?_⟩
   refine ⟨_,rfl,p,_,_,_,rfl,rfl,SqL.of hp2,rfl,?_⟩
   have u0:0 ≤ a % 9999999833 + 401:=by have:=Int.emod_nonneg a (show (9999999833:Int) ≠ 0 by decide); trivial
   have u1:a % 9999999833 + 401 ≤ 10000001000:=by have:=Int.emod_lt_of_pos a (show (0:Int) < 9999999833 by decide); trivial
   refine ⟨_,rfl,p,_,_,_,rfl,rfl,SqL.of hp2,rfl,_,_,rfl,rfl,(by show (0:Int) < 9999999833; decide),_,_,rfl,rfl,_,rfl,_,_,rfl,rfl,.inl ⟨by decide,by decide⟩,_,_,rfl,rfl,_,_,rfl,rfl,.inl ⟨?_,?_⟩,?_⟩
   ·show -(2 ^ 64) < a % 9999999833 + 401
    trivial
   ·show a % 9999999833 + 401 < 2 ^ 64
    trivial
   obtain ⟨m1,e1,b10,b11⟩:∃ m1:Int,m1 = (a % 9999999833 + 401) * (7 * (c + 1) + 19)∧0 ≤ m1∧m1 ≤ 10000001000 * 8000000:=by
    have:=mul_bd u0 u1 (show 0 ≤ 7 * (c + 1) + 19 by trivial) (show 7 * (c + 1) + 19 ≤ 8000000 by trivial)
    exact ⟨_,rfl,this.1,this.2⟩
   refine gNx (v':=V.int m1) (by rw [e1]) ?_
   refine ⟨_,rfl,_,rfl,_,_,rfl,rfl,.inl ⟨by decide,by decide⟩,_,rfl,_,_,rfl,rfl,.inr ⟨?_,?_⟩,_,_,rfl,rfl,?_⟩
   ·show -(2 ^ 64) < c + 1
    trivial
   ·show c + 1 < 2 ^ 64
    trivial
   obtain ⟨m2,e2,b20,b21⟩:∃ m2:Int,m2 = m1 + 3001 * (c + 1) * (c + 1)∧0 ≤ m2∧m2 ≤ 10000001000 * 8000000 + 3001000000 * 2000000 * 2:=by
    have:=mul_bd (u:=3001 * (c + 1)) (U:=3001000000 * 2) (v:=c + 1) (V:=2000000) (by trivial) (by trivial) (by trivial) (by trivial)
    exact ⟨_,rfl,by trivial,by trivial⟩
   refine gNx (v':=V.int m2) (by rw [e2]) ?_
   refine ⟨_,rfl,_,rfl,_,_,rfl,rfl,.inl ⟨?_,?_⟩,_,_,rfl,rfl,(by show (0:Int) < 99999999829; decide),?_⟩
   ·show -(2 ^ 64) < m2
    trivial
   ·show m2 < 2 ^ 64
    trivial
   obtain ⟨m3,e3,b30,b31⟩:∃ m3:Int,m3 = m2 * m2 % 99999999829∧0 ≤ m3∧m3 < 99999999829:=⟨_,rfl,Int.emod_nonneg _ (by decide),Int.emod_lt_of_pos _ (by decide)⟩
   refine gNx (v':=V.int m3) (by rw [e3]) ?_
   refine ⟨_,rfl,_,rfl,_,_,rfl,rfl,_,_,rfl,rfl,.inl ⟨?_,?_⟩,_,_,rfl,rfl,(by show (0:Int) < 99999999821; decide),_,_,rfl,rfl,⟨by decide,by decide⟩,_,rfl,_,_,rfl,rfl,h0,?_⟩
   ·show -(2 ^ 64) < m3
    trivial
   ·show m3 < 2 ^ 64
    trivial
   exact k _ _ (Int.emod_nonneg _ (by trivial)) (Int.emod_lt_of_pos _ h0) ⟨_,_,_,hp2,by trivial,by trivial⟩ (Kb.put _ _ _)
end
end K54
set_option Elab.async false
set_option linter.all false
set_option maxRecDepth 100000
set_option maxHeartbeats 4000000
namespace K54
open PySem L2 PySem.W PH
section
variable {P:Program} {w:World} {K:PySem.W.Frag} {mg:Str -> Option Value} {base:Heap}
theorem sc_prod:FnScope ["most", "products", "one"] ["most"] (defScope s_prod):=⟨rfl, rfl, rfl, by decide +kernel, rfl, by decide +kernel, by decide +kernel⟩
theorem ok_prod {f:Addr} {fd:FuncData} (F:Fun K "_law_products" "_law_products" s_prod f fd) (B:Bls mg):FnOk P w K mg base (CXW P w) 1 f fd ["most"] (spProd):=by
 refine F.okN sc_prod (fun vs H Q E h => ?_) (fun cdv A outer s H vs Q E hr h => ?_)
 ·obtain ⟨rfl,_⟩:=h
  rfl
 ·obtain ⟨rfl,hQ⟩:=h
  refine ⟨_,(pss_cons (ps_set (i:=1) sc_prod.nd rfl (Or.inl rfl) (pe_lst (pa_cons pe_int pa_nil)))
   (pss_cons (ps_for PassesOwn.never rfl (pi_range2 rfl B.range (pa_cons pe_int (pa_cons (pe_op op_add (pv 0) pe_int) pa_nil))) (pg_name (i:=2) sc_prod.nd rfl (Or.inl rfl))
    (pss_one (ps_expr (pe_bm PySem.F.plainAttrs_list PySem.F.slot_list_append PySem.F.type_list_append mt_append (pv 1) (pa_cons (pe_op op_mul (pe_ix ix_list (pv 1) (pe_un un_neg pe_int) (fun _ _ => rfl)) (pv 2)) pa_nil)))))
   (pss_one (ps_ret (pv 1))))),?_⟩
  refine ⟨(by show 1 ≤ sizeLine; decide),fun P hP => ?_⟩
  have hP1:upd H P (.lst [V.int 1]) P = some (lsI ((List.range (0 + 1)).map fun i => (fac i:Int))):=upd_same
  refine ⟨_,rfl,_,_,rfl,rfl,_,_,rfl,⟨by decide,by decide,by decide,by decide⟩,?_⟩
  refine for_range (n:=400) (fun i σ H' => ∃ (v2:Option V),σ = [some (.int 400),some (.ref P),v2]∧H' P = some (lsI ((List.range (i + 1)).map fun i => (fac i:Int)))∧Same H H')
   ⟨none,rfl,hP1,same_new hP _⟩ ?_ ?_
  ·rintro i σ H' hi ⟨v2,rfl,hP',sm⟩
   have hlast:atI (((List.range (i + 1)).map fun i => (fac i:Int)).map V.int) (-1) = some (.int (fac i:Int)):=by
    rw [List.range_succ,List.map_append,List.map_append]
    exact atI_last _ _
   refine ⟨_,rfl,.inl ⟨rfl,_,SqL.of hP'⟩,_,rfl,1,rfl,P,_,_,_,rfl,rfl,SqL.of hP',hlast,_,rfl,_,_,rfl,rfl,.inr ⟨?_,?_⟩,?_⟩
   ·show -(2 ^ 64) < 1 + (i:Int)
    trivial
   ·show 1 + (i:Int) < 2 ^ 64
    trivial
   refine ⟨P,_,_,rfl,rfl,hP',fits_lt (by rw [List.length_map,List.length_map,List.length_range]; trivial),?_⟩
   refine ⟨_,rfl,?_,same_upd sm _ hP⟩
   rw [upd_same]
   unfold lsI
   rw [List.range_succ (n:=i + 1),List.map_append,List.map_append]
   show some (HO.lst (_ ++ [V.int ((fac i:Int) * (1 + (i:Int)))])) = some (HO.lst (_ ++ [V.int (fac (i + 1):Int)]))
   rw [show (fac i:Int) * (1 + (i:Int)) = ((fac (i + 1):Nat):Int) by
    show _ = ((fac i * (i + 1):Nat):Int)
    rw [Int.natCast_mul,Int.add_comm]; rfl]
  ·rintro σ H' ⟨v2,rfl,hP',sm⟩
   refine ⟨_,rfl,?_⟩
   exact hQ P H' sm hP hP'
theorem sc_many:FnScope ["counts", "products", "many", "sign", "times"] ["counts", "products"] (defScope s_many):=⟨rfl, rfl, rfl, by decide +kernel, rfl, by decide +kernel, by decide +kernel⟩
theorem ok_many {f:Addr} {fd:FuncData} (F:Fun K "_law_many" "_law_many" s_many f fd) (B:Bls mg) (n_sum:mg "sum" = none):FnOk P w K mg base (CXW P w) 1 f fd ["counts", "products"] (spMany):=by
 refine F.okN sc_many (fun vs H Q E h => ?_) (fun cdv A outer s H vs Q E hr h => ?_)
 ·obtain ⟨p,q,zs,rfl,_⟩:=h
  rfl
 ·obtain ⟨p,q,zs,rfl,prZ,hq,hzl,hge,hsum,hQ⟩:=h
  refine ⟨_, (pss_cons (ps_set (i:=2) sc_many.nd rfl (Or.inl rfl) (pe_ix ix_list (pv 1) (pe_callB (call_sum rfl) rfl n_sum boot_sum' (pa_cons (pe_comp (N:=["sign", "times"]) (js:=[none, none]) (g:=(gTup K 2 (gCons (gName 0) (gCons (gName 1) gNil)))) (tc:=tTrue) (te:=(tVar 1)) rfl (comp_scope (osc:=defScope s_many) (XN:=["counts", "products", "many", "sign", "times"]) rfl rfl rfl (by decide +kernel)) (pi_list (pv 0)) (fun _ _ _ _ => (pg_tup rfl (pgs_cons (pg_name (i:=0) (show (["sign", "times"]:List Str).Nodup by decide +kernel) rfl (Or.inl rfl)) (pgs_cons (pg_name (i:=1) (show (["sign", "times"]:List Str).Nodup by decide +kernel) rfl (Or.inl rfl)) pgs_nil)))) (fun _ _ _ _ => pif_nil) (fun _ _ _ _ => (pv 1))) pa_nil)) (fun _ _ => rfl)))
   (pss_cons (ps_for PassesOwn.never rfl (pi_list (pv 0)) (pg_tup rfl (pgs_cons (pg_name (i:=3) sc_many.nd rfl (Or.inl rfl)) (pgs_cons (pg_name (i:=4) sc_many.nd rfl (Or.inl rfl)) pgs_nil)))
    (pss_one (ps_set (i:=2) sc_many.nd rfl (Or.inl rfl) (pe_op op_fdivG (pv 2) (pe_ix ix_list (pv 1) (pv 4) (fun _ _ => rfl))))))
   (pss_one (ps_ret (pv 2))))),?_⟩
  generalize hcs:zs.map (·.2) = cs at hge hsum hQ
  have hcl:cs.length = zs.length:=by rw [← hcs,List.length_map]
  have hS:=sumT_nat hge
  refine ⟨_,rfl,_,rfl,p,rfl,⟨_,SqL.of prZ.at_⟩,fun D2 hD2 => ?_⟩
  refine comp_lstQ (K:=K) (a:=p) (xs:=zs.map fun z => V.ref z.1) (fun i σ' H' => ∃ (x y:Option V) (ls:List Int),σ' = [x,y]∧H' D2 = some (lsI ls)∧ls = (cs.take i).map (·.2)∧Same H H')
   ⟨none,none,[],rfl,upd_same,by rw [List.take_zero]; rfl,same_new hD2 _⟩ (fun i σ' H' _ ⟨_,_,_,_,_,_,e⟩ => SqL.of (e _ _ prZ.at_)) ?_ ?_
  ·rintro i v σ' H' hi ⟨x,y,ls,rfl,hB,hls,sm⟩
   obtain ⟨z,hz,rfl⟩:=ref_at hi
   have hlt:i < (zs.map fun z => V.ref z.1).length:=(List.getElem?_eq_some_iff.mp hi).1
   have hck:cs[i]? = some z.2:=by rw [← hcs,List.getElem?_map,hz]; rfl
   have hbl:ls.length ≤ i:=by rw [hls,List.length_map,List.length_take]; trivial
   refine ⟨z.1,_,rfl,SqT.of (sm _ _ (prZ.each z (List.mem_of_getElem? hz))),rfl,_,_,rfl,_,_,rfl,rfl,?_⟩
   refine trueT ?_
   refine ⟨_,rfl,D2,_,_,rfl,rfl,hB,fits_lt (by rw [List.length_map]; rw [List.length_map] at hlt; trivial),?_⟩
   refine CW.next hlt ⟨_,_,ls ++ [z.2.2],rfl,by rw [upd_same]; unfold lsI; rw [List.map_append]; rfl,?_,same_upd sm _ hD2⟩
   rw [hls,take_at hck,List.map_append]
   rfl
  rintro σ' H3 ⟨x,y,ls,rfl,hB,hls,sm3⟩
  rw [List.length_map,← hcl,List.take_length] at hls
  have els:ls.sum = (((tms cs).sum:Nat):Int):=by rw [hls]; exact hS
  refine ⟨D2,ls,rfl,SqL.of hB,q,_,_,_,rfl,rfl,SqL.of (sm3 _ _ hq),(by rw [els]; exact at_ints (facs_at (by trivial))),?_⟩
  refine ⟨_,rfl,p,rfl,⟨_,SqL.of (sm3 _ _ prZ.at_)⟩,for_list (K:=K) (a:=p) (xs:=zs.map fun z => V.ref z.1) (fun i σ H2 => ∃ (v3 v4:Option V),σ = [some (.ref p),some (.ref q),some (.int (dvs (fac (tms cs).sum) (tms (cs.take i)):Nat)),v3,v4]∧H2 = H3)
   ⟨none,none,rfl,rfl⟩ (fun i σ H2 _ ⟨_,_,_,e⟩ => by rw [e]; exact SqL.of (sm3 _ _ prZ.at_)) ?_ ?_⟩
  ·rintro i y σ H2 hi ⟨v3,v4,rfl,rfl⟩
   obtain ⟨z,hz,rfl⟩:=ref_at hi
   have hck:cs[i]? = some z.2:=by rw [← hcs,List.getElem?_map,hz]; rfl
   have hz1:=hge _ (List.mem_of_getElem? hck)
   have hst:=tms_sum_take hck
   obtain ⟨t,ht⟩:∃ t:Nat,z.2.2 = (t:Int):=⟨z.2.2.toNat,by trivial⟩
   have htn:z.2.2.toNat = t:=by trivial
   rw [htn] at hst
   have ht4:t ≤ 400:=by trivial
   refine ⟨z.1,_,rfl,SqT.of (sm3 _ _ (prZ.each z (List.mem_of_getElem? hz))),rfl,_,_,rfl,_,_,rfl,rfl,?_⟩
   rw [ht]
   refine ⟨_,rfl,_,rfl,_,rfl,q,_,_,_,rfl,rfl,SqL.of (sm3 _ _ hq),at_ints (facs_at ht4),_,_,rfl,rfl,⟨?_,?_⟩,?_⟩
   ·show 0 < (fac t:Int)
    have:=fac_pos t
    trivial
   ·show (fac t:Int) < ((2 ^ 3000:Nat):Int)
    exact Int.ofNat_lt.mpr (fac_lt ht4)
   refine gNx (v':=V.int (dvs (fac (tms cs).sum) (tms (cs.take (i + 1))):Nat)) (by rw [dvs_take hck,htn]; rfl) ?_
   exact ⟨_,_,rfl,rfl⟩
  ·rintro σ H2 ⟨v3,v4,rfl,rfl⟩
   rw [List.length_map,← hcl,List.take_length,many_eq]
   refine ⟨_,rfl,?_⟩
   exact hQ H2 sm3
end
end K54
set_option Elab.async false
set_option linter.all false
set_option maxRecDepth 100000
set_option maxHeartbeats 4000000
namespace K54
open PySem L2 PySem.W PH
section
variable {P:Program} {w:World} {K:PySem.W.Frag} {mg:Str -> Option Value} {base:Heap}
theorem sc_text:FnScope ["pool", "first", "some", "start", "long"] ["pool", "first"] (defScope s_text):=⟨rfl, rfl, rfl, by decide +kernel, rfl, by decide +kernel, by decide +kernel⟩
theorem ok_text {f f_take:Addr} {fd d_take:FuncData} (F:Fun K "_law_text" "_law_text" s_text f fd) (B:Bls mg) 
  (G_take:FnOk P w K mg base (CXW P w) 1 f_take d_take ["pool", "many"] (spTake)) (b_take:Binds K d_take ["pool", "many"] []) (k_take:keepIn K (.ref f_take) = true) (m_take:mg "_law_take" = some (.ref f_take)):FnOk P w K mg base (CXW P w) 2 f fd ["pool", "first"] (spText54):=by
 refine F.okN sc_text (fun vs H Q E h => ?_) (fun cdv A outer s H vs Q E hr h => ?_)
 ·obtain ⟨p,n,b,rfl,_⟩:=h
  rfl
 ·obtain ⟨p,n,b,rfl,pl,hn,hQ⟩:=h
  refine ⟨_,(pss_cons (ps_set (i:=2) sc_text.nd rfl (Or.inr rfl) (pe_ix ix_list (pe_lst (pa_cons pe_int (pa_cons pe_int (pa_cons pe_int (pa_cons pe_int pa_nil))))) (pe_call G_take hr rfl m_take k_take b_take .nil passN (pa_cons (pv 0) (pa_cons pe_int pa_nil))) (fun _ _ => rfl)))
   (pss_cons (ps_set (i:=3) sc_text.nd rfl (Or.inr rfl) (pe_call G_take hr rfl m_take k_take b_take .nil passN (pa_cons (pv 0) (pa_cons pe_int pa_nil))))
   (pss_cons (ps_set (i:=4) sc_text.nd rfl (Or.inl rfl) (pe_ix ix_list (pe_lst (pa_cons (pe_call G_take hr rfl m_take k_take b_take .nil passN (pa_cons (pv 0) (pa_cons pe_int pa_nil))) (pa_cons (pe_call G_take hr rfl m_take k_take b_take .nil passN (pa_cons (pv 0) (pa_cons pe_int pa_nil))) pa_nil))) (pe_callTy call_int1 rfl B.int boot_int' (pa_cons (pe_cmpR op_eq (pe_call G_take hr rfl m_take k_take b_take .nil passN (pa_cons (pv 0) (pa_cons pe_int pa_nil))) pe_int (nomark _)) pa_nil)) (fun _ _ => rfl)))
   (pss_cons (ps_if (PW.pt (pw_and (pt_cmpR op_eq (pe_call G_take hr rfl m_take k_take b_take .nil passN (pa_cons (pv 0) (pa_cons pe_int pa_nil))) pe_int (nomark _)) (pw_and1 (PW.pt (pw_or (pt_val (pv 1)) (pw_or1 (pt_cmpR op_lt (pv 2) pe_int (nomark _))))))))
    (pss_cons (ps_set (i:=2) sc_text.nd rfl (Or.inr rfl) (pe_ix ix_list (pe_lst (pa_cons (pv 2) (pa_cons (pe_ix ix_list (pe_lst (pa_cons (pv 2) (pa_cons pe_int (pa_cons pe_int (pa_cons pe_int pa_nil))))) (pe_call G_take hr rfl m_take k_take b_take .nil passN (pa_cons (pv 0) (pa_cons pe_int pa_nil))) (fun _ _ => rfl)) pa_nil))) (pe_callTy call_int1 rfl B.int boot_int' (pa_cons (pv 1) pa_nil)) (fun _ _ => rfl)))
    (pss_one (ps_set (i:=4) sc_text.nd rfl (Or.inl rfl) (pe_op op_add pe_int (pe_call G_take hr rfl m_take k_take b_take .nil passN (pa_cons (pv 0) (pa_cons pe_int pa_nil)))))))
    pss_nil)
   (pss_one (ps_ret (pe_comp (N:=["k", "pool", "some", "start"]) (js:=[none, some 0, some 2, some 3]) (g:=(gName 0)) (tc:=tTrue) (te:=(tOp (rI (fun _ j => 0 < j) fun i j => .int (i % j)) (tOp (rI0 fun i j => .int (i + j)) (tOp (rI CMul fun i j => .int (i * j)) (tCall (spTake) [] E0 (tCons (tVar 1) (tCons (tVar 2) tNil))) (tC (.int 37))) (tVar 3)) (tC (.int 256)))) rfl (comp_scope (osc:=defScope s_text) (XN:=["pool", "first", "some", "start", "long"]) rfl rfl rfl (by decide +kernel)) (pi_range1 rfl B.range (pa_cons (pv 4) pa_nil)) (fun _ _ _ _ => pg_name (i:=0) (show (["k", "pool", "some", "start"]:List Str).Nodup by decide +kernel) rfl (Or.inl rfl)) (fun _ _ _ _ => pif_nil) (fun _ _ _ _ => (pe_op op_mod (pe_op op_add (pe_op op_mul (pe_call G_take hr rfl m_take k_take b_take .nil passN (pa_cons (pv 1) (pa_cons (pv 2) pa_nil))) pe_int) (pv 3)) pe_int))))))))), ?_⟩
  refine ⟨(by show 4 ≤ sizeLine; decide),fun l1 hl1 => ?_⟩
  have nl1:l1 ≠ p:=(pl.ne hl1).symm
  have u1:=same_new hl1 (.lst [V.int 1,V.int 2,V.int 4,V.int 256])
  have e1:upd H l1 (.lst [V.int 1,V.int 2,V.int 4,V.int 256]) l1 = some (.lst [V.int 1,V.int 2,V.int 4,V.int 256]):=upd_same
  have pl1:=pl.same u1
  have kb1:Kb p H (upd H l1 (.lst [V.int 1,V.int 2,V.int 4,V.int 256])):=Kb.of u1
  generalize upd H l1 (.lst [V.int 1,V.int 2,V.int 4,V.int 256]) = H1 at u1 e1 pl1 kb1 ⊢
  refine ⟨_,rfl,p,n,4,rfl,pl1,(by trivial),(by decide),(by decide),fun ix H2 ix0 ix1 pl2 kb2 => ?_⟩
  obtain ⟨sm,hsm,sm0,sm1⟩:∃ x:Int,atI [V.int 1,V.int 2,V.int 4,V.int 256] ix = some (.int x)∧1 ≤ x∧x ≤ 256:=by
   have hr:ix = 0 ∨ ix = 1 ∨ ix = 2 ∨ ix = 3:=by trivial
   rcases hr with rfl | rfl | rfl | rfl
   ·exact ⟨1,rfl,by trivial,by trivial⟩
   ·exact ⟨2,rfl,by trivial,by trivial⟩
   ·exact ⟨4,rfl,by trivial,by trivial⟩
   ·exact ⟨256,rfl,by trivial,by trivial⟩
  refine ⟨l1,_,_,_,rfl,rfl,SqL.of (kb2 _ _ nl1 e1),hsm,?_⟩
  refine ⟨_,rfl,p,n + 1,256,rfl,pl2,(by trivial),(by decide),(by decide),fun st H3 st0 st1 pl3 kb3 => ?_⟩
  refine ⟨_,rfl,p,n + 1 + 1,31,rfl,pl3,(by trivial),(by decide),(by decide),fun r H4 r0 r1 pl4 kb4 => ?_⟩
  refine ⟨_,rfl,p,n + 1 + 1 + 1,101,rfl,pl4,(by trivial),(by decide),(by decide),fun s H5 s0 s1 pl5 kb5 => ?_⟩
  refine ⟨(by show 2 ≤ sizeLine; decide),fun l2 hl2 => ?_⟩
  have nl2:l2 ≠ p:=(pl5.ne hl2).symm
  have u6:=same_new hl2 (.lst [V.int r,V.int s])
  have e6:upd H5 l2 (.lst [V.int r,V.int s]) l2 = some (.lst [V.int r,V.int s]):=upd_same
  have pl6:=pl5.same u6
  have kb6:=(kb1.trans (kb2.trans (kb3.trans (kb4.trans kb5)))).trans (Kb.of u6)
  generalize upd H5 l2 (.lst [V.int r,V.int s]) = H6 at u6 e6 pl6 kb6 ⊢
  refine ⟨_,rfl,p,n + 1 + 1 + 1 + 1,4,rfl,pl6,(by trivial),(by decide),(by decide),fun w H7 w0 w1 pl7 kb7 => ⟨rfl,.inr ⟨_,rfl,?_⟩⟩⟩
  obtain ⟨m,hm,hm0,hm4⟩:∃ m:Int,atI [V.int r,V.int s] (if decide (V.int w = V.int 0) = true then 1 else 0) = some (.int m)∧0 ≤ m∧m ≤ 400:=by
   by_cases h:decide (V.int w = V.int 0) = true
   ·rw [if_pos h]
    exact ⟨s,rfl,by trivial,by trivial⟩
   ·rw [if_neg h]
    exact ⟨r,rfl,by trivial,by trivial⟩
  refine ⟨l2,_,_,_,rfl,rfl,SqL.of (kb7 _ _ nl2 e6),hm,?_⟩
  have kb7:=kb6.trans kb7
  try dsimp only
  refine sqMidY (fun σ' H' => ∃ (sm:Int) (lg:Nat),σ' = [some (.ref p),some (.bl b),some (.int sm),some (.int st),some (.int (lg:Nat))]∧1 ≤ sm∧sm ≤ 256∧lg ≤ 400∧PL (n + 10) p H'∧Kb p H H') ?_ ?_
  rotate_left
  ·intro N hN
   have no:∀ H',PL (n + 10) p H' -> Kb p H H' -> N [some (.ref p),some (.bl b),some (.int sm),some (.int st),some (.int m)] H':=fun H' pl' kb' => hN _ _ ⟨sm,m.toNat,by rw [show ((m.toNat:Nat):Int) = m by trivial],sm0,sm1,by trivial,pl',kb'⟩
   refine ⟨_,rfl,p,n + 1 + 1 + 1 + 1 + 1,32,rfl,pl7,(by trivial),(by decide),(by decide),fun x H8 x0 x1 pl8 kb8 => ⟨rfl,_,rfl,?_⟩⟩
   have kb8:=kb7.trans kb8
   have hix:∀ ix:Int,0 ≤ ix -> ix < 4 -> ∃ y:Int,atI [V.int sm,V.int 16,V.int 64,V.int 256] ix = some (.int y)∧1 ≤ y∧y ≤ 256:=fun ix i0 i1 => by
    have hr:ix = 0 ∨ ix = 1 ∨ ix = 2 ∨ ix = 3:=by trivial
    rcases hr with rfl | rfl | rfl | rfl
    ·exact ⟨sm,rfl,by trivial,by trivial⟩
    ·exact ⟨16,rfl,by trivial,by trivial⟩
    ·exact ⟨64,rfl,by trivial,by trivial⟩
    ·exact ⟨256,rfl,by trivial,by trivial⟩
   refine ite2 (fun hx0 => ?_) (fun hx0 => ?_)
   rotate_left
   ·refine iteF ?_
    exact no _ (pl8.mono (by trivial)) kb8
   refine ⟨_,rfl,_,rfl,?_⟩
   cases b with
   | true =>
    refine iteT ?_
    refine ⟨_,rfl,_,rfl,(by show 4 ≤ sizeLine; decide),fun l3 hl3 => ?_⟩
    have nl3:l3 ≠ p:=(pl8.ne hl3).symm
    have u9:=same_new hl3 (.lst [V.int sm,V.int 16,V.int 64,V.int 256])
    have e9:upd H8 l3 (.lst [V.int sm,V.int 16,V.int 64,V.int 256]) l3 = some (.lst [V.int sm,V.int 16,V.int 64,V.int 256]):=upd_same
    have pl9:=pl8.same u9
    have kb9:=kb8.trans (Kb.of u9)
    generalize upd H8 l3 (.lst [V.int sm,V.int 16,V.int 64,V.int 256]) = H9 at u9 e9 pl9 kb9 ⊢
    refine ⟨_,rfl,p,n + 1 + 1 + 1 + 1 + 1 + 1,4,rfl,pl9,(by trivial),(by decide),(by decide),fun iy Ha iy0 iy1 pla kba => ?_⟩
    obtain ⟨y,hy,y0,y1⟩:=hix iy iy0 iy1
    refine ⟨l3,_,_,_,rfl,rfl,SqL.of (kba _ _ nl3 e9),hy,(by show 2 ≤ sizeLine; decide),fun l4 hl4 => ?_⟩
    have ub:=same_new hl4 (.lst [V.int sm,V.int y])
    have eb:upd Ha l4 (.lst [V.int sm,V.int y]) l4 = some (.lst [V.int sm,V.int y]):=upd_same
    have plb:=pla.same ub
    have kbb:=kb9.trans (kba.trans (Kb.of ub))
    generalize upd Ha l4 (.lst [V.int sm,V.int y]) = Hb at ub eb plb kbb ⊢
    refine ⟨_,rfl,.inr ⟨_,rfl,?_⟩⟩
    refine ⟨l4,_,_,_,rfl,rfl,SqL.of eb,rfl,?_⟩
    refine ⟨_,rfl,p,n + 1 + 1 + 1 + 1 + 1 + 1 + 1,300,rfl,plb,(by trivial),(by decide),(by decide),fun u Hc u0 u1 plc kbc => ?_⟩
    refine ⟨_,_,rfl,rfl,?_⟩
    exact hN _ _ ⟨y,(101 + u).toNat,by rw [show (((101 + u).toNat:Nat):Int) = 101 + u by trivial]; rfl,by trivial,by trivial,by trivial,plc.mono (by trivial),kbb.trans kbc⟩
   | false =>
    refine iteF ?_
    refine ⟨_,rfl,_,_,rfl,rfl,_,rfl,?_⟩
    by_cases h9:sm < 9
    ·rw [decide_eq_true h9]
     refine iteT ?_
     refine ⟨_,rfl,_,rfl,(by show 4 ≤ sizeLine; decide),fun l3 hl3 => ?_⟩
     have nl3:l3 ≠ p:=(pl8.ne hl3).symm
     have u9:=same_new hl3 (.lst [V.int sm,V.int 16,V.int 64,V.int 256])
     have e9:upd H8 l3 (.lst [V.int sm,V.int 16,V.int 64,V.int 256]) l3 = some (.lst [V.int sm,V.int 16,V.int 64,V.int 256]):=upd_same
     have pl9:=pl8.same u9
     have kb9:=kb8.trans (Kb.of u9)
     generalize upd H8 l3 (.lst [V.int sm,V.int 16,V.int 64,V.int 256]) = H9 at u9 e9 pl9 kb9 ⊢
     refine ⟨_,rfl,p,n + 1 + 1 + 1 + 1 + 1 + 1,4,rfl,pl9,(by trivial),(by decide),(by decide),fun iy Ha iy0 iy1 pla kba => ?_⟩
     obtain ⟨y,hy,y0,y1⟩:=hix iy iy0 iy1
     refine ⟨l3,_,_,_,rfl,rfl,SqL.of (kba _ _ nl3 e9),hy,(by show 2 ≤ sizeLine; decide),fun l4 hl4 => ?_⟩
     have ub:=same_new hl4 (.lst [V.int sm,V.int y])
     have eb:upd Ha l4 (.lst [V.int sm,V.int y]) l4 = some (.lst [V.int sm,V.int y]):=upd_same
     have plb:=pla.same ub
     have kbb:=kb9.trans (kba.trans (Kb.of ub))
     generalize upd Ha l4 (.lst [V.int sm,V.int y]) = Hb at ub eb plb kbb ⊢
     refine ⟨_,rfl,.inr ⟨_,rfl,?_⟩⟩
     refine ⟨l4,_,_,_,rfl,rfl,SqL.of eb,rfl,?_⟩
     refine ⟨_,rfl,p,n + 1 + 1 + 1 + 1 + 1 + 1 + 1,300,rfl,plb,(by trivial),(by decide),(by decide),fun u Hc u0 u1 plc kbc => ?_⟩
     refine ⟨_,_,rfl,rfl,?_⟩
     exact hN _ _ ⟨sm,(101 + u).toNat,by rw [show (((101 + u).toNat:Nat):Int) = 101 + u by trivial]; rfl,by trivial,by trivial,by trivial,plc.mono (by trivial),kbb.trans kbc⟩
    ·rw [decide_eq_false h9]
     refine iteF ?_
     exact no _ (pl8.mono (by trivial)) kb8
  rintro σ' H8 ⟨sm,lg,rfl,sm0,sm1,hlg,pl8,kb8⟩
  refine ⟨_,rfl,(lg:Int),rfl,by trivial,by trivial,fun D hD => ?_⟩
  rw [Int.toNat_natCast]
  have nD:D ≠ p:=(pl8.ne hD).symm
  have hDH:H D = none:=kb8.free' pl8 hD
  refine comp_rngQ (fun i σ' H' => ∃ (v0:Option V) (ks:List Int),σ' = [v0,some (.ref p),some (.int sm),some (.int st)]∧H' D = some (lsI ks)∧ks.length = i∧(∀ x ∈ ks,0 ≤ x∧x ≤ 255)∧PL (n + 10 + (i:Int)) p H'∧Kb p H H')
   ⟨none,[],rfl,upd_same,rfl,(fun _ z => by cases z),(pl8.same (same_new hD _)).mono (by trivial),kb8.trans (Kb.of (same_new hD _))⟩ ?_ ?_
  ·rintro i σ' H' hi ⟨v0,ks,rfl,hD',hkl,hkb,pl',kb'⟩
   refine nameT ?_
   refine ⟨_,rfl,_,rfl,p,n + 10 + (i:Int),sm,rfl,pl',by trivial,by trivial,by trivial,fun z H9 z0 z1 pl9 kb9 => ?_⟩
   refine ⟨_,_,rfl,rfl,.inl ⟨by trivial,by trivial⟩,_,rfl,_,_,rfl,rfl,_,_,rfl,rfl,(by show (0:Int) < 256; decide),D,_,_,rfl,rfl,kb9 _ _ nD hD',fits_lt (by rw [List.length_map]; trivial),?_⟩
   refine CW.next hi ⟨_,ks ++ [(z * 37 + st) % 256],rfl,by rw [upd_same,lsI_app1],by rw [List.length_append,List.length_singleton]; trivial,(fun y hy => ?_),(pl9.up nD.symm).mono (by trivial),(kb'.trans kb9).new _ hDH⟩
   rcases List.mem_append.mp hy with hy | hy
   ·exact hkb y hy
   ·rw [List.mem_singleton.mp hy]; trivial
  rintro σ' H9 ⟨v0,ks,rfl,hD9,hkl,hkb,pl9,kb9⟩
  exact hQ D ks H9 kb9 (pl9.mono (by trivial)) hDH hD9 (by trivial) hkb
end
end K54
set_option Elab.async false
set_option linter.all false
set_option maxRecDepth 100000
set_option maxHeartbeats 4000000
namespace K54
open PySem L2 PySem.W PH
section
variable {P:Program} {w:World} {K:PySem.W.Frag} {mg:Str -> Option Value} {base:Heap}
theorem sc_llow:FnScope ["number", "wide"] ["number", "wide"] (defScope s_llow):=⟨rfl, rfl, rfl, by decide +kernel, rfl, by decide +kernel, by decide +kernel⟩
theorem ok_llow {f:Addr} {fd:FuncData} (F:Fun K "_law_low" "_law_low" s_llow f fd) (B:Bls mg):FnOk P w K mg base (CXW P w) 1 f fd ["number", "wide"] (spLLow):=by
 refine F.okN sc_llow (fun vs H Q E h => ?_) (fun cdv A outer s H vs Q E hr h => ?_)
 ·obtain ⟨n,k,rfl,_⟩:=h
  rfl
 ·obtain ⟨n,k,rfl,hk,hQ⟩:=h
  refine ⟨_, (pss_one (ps_ret (pe_comp (N:=["place", "number"]) (js:=[none, some 0]) (g:=(gName 0)) (tc:=tTrue) (te:=(tOp (rI (fun _ j => 0 < j) fun i j => .int (i % j)) (tOp (rI CDivG fun i j => .int (i / j)) (tVar 1) (tOp (rI CPow fun i j => .int (i * 2 ^ j.toNat)) (tC (.int 1)) (tVar 0))) (tC (.int 2)))) rfl (comp_scope (osc:=defScope s_llow) (XN:=["number", "wide"]) rfl rfl rfl (by decide +kernel)) (pi_range3 rfl B.range (pa_cons (pe_op op_sub (pv 1) pe_int) (pa_cons (pe_un un_neg pe_int) (pa_cons (pe_un un_neg pe_int) pa_nil)))) (fun _ _ _ _ => pg_name (i:=0) (show (["place", "number"]:List Str).Nodup by decide +kernel) rfl (Or.inl rfl)) (fun _ _ _ _ => pif_nil) (fun _ _ _ _ => (pe_op op_mod (pe_op op_fdivG (pv 1) (pe_op op_shl pe_int (pv 0))) pe_int))))), ?_⟩
  refine ⟨_,rfl,_,_,rfl,rfl,1,rfl,1,rfl,_,_,_,rfl,⟨by decide,by decide⟩,PH.small_down (by trivial) (by trivial) (by trivial) (by trivial),fun D hD => ?_⟩
  rw [PH.size_down]
  refine comp_rngSQ (fun i σ' H' => ∃ (v:Option V),σ' = [v,some (.int n)]∧H' D = some (lsI ((List.range i).map fun j => n / 2 ^ (k - 1 - j) % 2))∧Same H H')
   ⟨none,rfl,upd_same,same_new hD _⟩ ?_ ?_
  ·rintro i σ' H' hi ⟨v,rfl,hD',sm⟩
   obtain ⟨j,hj⟩:∃ j,j = k - 1 - i:=⟨_,rfl⟩
   rw [show (k:Int) - 1 + (i:Int) * (-1) = (j:Int) by trivial]
   refine nameT ?_
   refine ⟨_,rfl,_,rfl,_,_,rfl,rfl,⟨by trivial,by trivial,by decide⟩,_,_,rfl,rfl,⟨?_,?_⟩,_,_,rfl,rfl,(by show (0:Int) < 2; decide),D,_,_,rfl,rfl,hD',fits_lt (by rw [List.length_map,List.length_map,List.length_range]; trivial),?_⟩
   ·show (0:Int) < 1 * 2 ^ (j:Int).toNat
    rw [Int.one_mul]; exact Int.pow_pos (by decide)
   ·show (1:Int) * 2 ^ (j:Int).toNat < ((2 ^ 3000:Nat):Int)
    rw [Int.one_mul,Int.toNat_natCast]
    have:(2:Nat) ^ j < 2 ^ 3000:=Nat.pow_lt_pow_right (by decide) (by trivial)
    have e:((2 ^ j:Nat):Int) = (2:Int) ^ j:=by norm_cast
    rw [← e]
    exact Int.ofNat_lt.mpr this
   ·refine CW.next hi ⟨_,rfl,?_,same_upd sm _ hD⟩
    rw [upd_same,List.range_succ,List.map_append]
    show some (HO.lst (_ ++ [V.int (n / (1 * 2 ^ (j:Int).toNat) % 2)])) = some (lsI (_ ++ [n / 2 ^ (k - 1 - i) % 2]))
    rw [Int.one_mul,Int.toNat_natCast,hj,lsI_app1]
  rintro σ' H2 ⟨v,rfl,hD2,sm⟩
  rw [lowb_map] at hD2
  exact hQ D H2 sm hD hD2
end
end K54
set_option Elab.async false
set_option linter.all false
set_option maxRecDepth 100000
set_option maxHeartbeats 4000000
namespace K54
open PySem L2 PySem.W PH
section
variable {P:Program} {w:World} {K:PySem.W.Frag} {mg:Str -> Option Value} {base:Heap}
theorem sc_lwide:FnScope ["number", "wide"] ["number"] (defScope s_lwide):=⟨rfl, rfl, rfl, by decide +kernel, rfl, by decide +kernel, by decide +kernel⟩
theorem ok_lwide {f:Addr} {fd:FuncData} (F:Fun K "_law_wide" "_law_wide" s_lwide f fd) (B:Bls mg):FnOk P w K mg base (CXW P w) 1 f fd ["number"] (spLWide):=by
 refine F.okN sc_lwide (fun vs H Q E h => ?_) (fun cdv A outer s H vs Q E hr h => ?_)
 ·obtain ⟨n,rfl,_⟩:=h
  rfl
 ·obtain ⟨n,rfl,hn,q⟩:=h
  refine ⟨_,(pss_cons (ps_set (i:=1) sc_lwide.nd rfl (Or.inl rfl) pe_int)
   (pss_cons (ps_while PassesOwn.never (pt_cmpR op_ge (pv 0) (pe_op op_shl pe_int (pv 1)) (nomark _))
    (pss_one (ps_set (i:=1) sc_lwide.nd rfl (Or.inl rfl) (pe_op op_add (pv 1) pe_int))))
   (pss_one (ps_ret (pv 1))))),?_⟩
  refine ⟨fun m σ H' => ∃ w:Nat,w ≤ blen (n:Nat)∧m = blen (n:Nat) - w∧σ = [some (.int (n:Nat)),some (.int (w:Nat))]∧H' = H,⟨_,0,Nat.zero_le _,rfl,rfl,rfl⟩,?_⟩
  have hb3:blen (n:Nat) ≤ 3000:=blen_le.mpr (by rw [Int.natAbs_natCast]; exact hn)
  rintro m σ H' ⟨w,hw,rfl,rfl,rfl⟩
  refine ⟨_,rfl,_,rfl,_,_,rfl,rfl,⟨by trivial,by trivial,by decide⟩,_,_,rfl,rfl,_,rfl,?_⟩
  have ew:(1:Int) * 2 ^ (w:Int).toNat = ((2 ^ w:Nat):Int):=by rw [Int.one_mul,Int.toNat_natCast]; norm_cast
  have hbi:=blen_le (n:=((n:Nat):Int)) (m:=w)
  rw [Int.natAbs_natCast] at hbi
  refine ite2 (fun c => ?_) (fun c => ?_)
  ·have c':(1:Int) * 2 ^ (w:Int).toNat ≤ ((n:Nat):Int):=of_decide_eq_true c
   rw [ew] at c'
   have hlt:w < blen (n:Nat):=Nat.lt_of_not_le fun z => by have:=hbi.mp z; trivial
   refine ⟨fun σ' H'' => ∃ m',m' < blen (n:Nat) - w∧∃ w:Nat,w ≤ blen (n:Nat)∧m' = blen (n:Nat) - w∧σ' = [some (.int (n:Nat)),some (.int (w:Nat))]∧H'' = H',fun σ' H'' z => z,?_⟩
   refine ⟨_,rfl,_,_,rfl,rfl,?_⟩
   refine ⟨_,?_,w + 1,hlt,rfl,rfl,rfl⟩
   trivial
  ·have c':¬ (1:Int) * 2 ^ (w:Int).toNat ≤ ((n:Nat):Int):=fun z => c (decide_eq_true z)
   rw [ew] at c'
   have hle:blen (n:Nat) ≤ w:=hbi.mpr (by trivial)
   have e:w = blen (n:Nat):=by trivial
   subst e
   refine ⟨_,rfl,?_⟩
   exact q
end
end K54
set_option Elab.async false
set_option linter.all false
set_option maxRecDepth 100000
set_option maxHeartbeats 4000000
namespace K54
open PySem L2 PySem.W PH
section
variable {P:Program} {w:World} {K:PySem.W.Frag} {mg:Str -> Option Value} {base:Heap}
theorem sc_lend:FnScope ["number", "wide"] ["number"] (defScope s_lend):=⟨rfl, rfl, rfl, by decide +kernel, rfl, by decide +kernel, by decide +kernel⟩
theorem ok_lend {f f_llow f_lwide:Addr} {fd d_llow d_lwide:FuncData} (F:Fun K "_law_ending" "_law_ending" s_lend f fd) (B:Bls mg) 
  (G_llow:FnOk P w K mg base (CXW P w) 1 f_llow d_llow ["number", "wide"] (spLLow)) (b_llow:Binds K d_llow ["number", "wide"] []) (k_llow:keepIn K (.ref f_llow) = true) (m_llow:mg "_law_low" = some (.ref f_llow)) 
  (G_lwide:FnOk P w K mg base (CXW P w) 1 f_lwide d_lwide ["number"] (spLWide)) (b_lwide:Binds K d_lwide ["number"] []) (k_lwide:keepIn K (.ref f_lwide) = true) (m_lwide:mg "_law_wide" = some (.ref f_lwide)):FnOk P w K mg base (CXW P w) 2 f fd ["number"] (spLEnd54):=by
 refine F.okN sc_lend (fun vs H Q E h => ?_) (fun cdv A outer s H vs Q E hr h => ?_)
 ·obtain ⟨n,rfl,_⟩:=h
  rfl
 ·obtain ⟨n,rfl,h1,h9,hQ⟩:=h
  refine ⟨_,(pss_cons (ps_set (i:=1) sc_lend.nd rfl (Or.inl rfl) (pe_call G_lwide hr rfl m_lwide k_lwide b_lwide .nil passN (pa_cons (pv 0) pa_nil)))
   (pss_one (ps_ret (pe_op op_cat (pe_op op_rep (pe_lst (pa_cons pe_int pa_nil)) (pe_op op_sub (pv 1) pe_int)) (pe_call G_llow hr rfl m_llow k_llow b_llow .nil passN (pa_cons (pv 0) (pa_cons (pv 1) pa_nil))))))),?_⟩
  have hb9:blen (n:Nat) ≤ 900:=blen_le.mpr (by rw [Int.natAbs_natCast]; exact h9)
  have hb1:1 ≤ blen (n:Nat):=blen_pos (by trivial)
  refine ⟨_,rfl,n,rfl,Nat.lt_trans h9 (Nat.pow_lt_pow_right (by decide) (by decide)),?_⟩
  refine ⟨(by show 1 ≤ sizeLine; decide),fun l1 hl1 => ?_⟩
  have u1:=same_new hl1 (.lst [V.int 0])
  have et:(((blen (n:Nat):Nat):Int) - 1).toNat = blen (n:Nat) - 1:=by trivial
  refine ⟨_,rfl,_,_,rfl,rfl,l1,((blen (n:Nat):Nat):Int) - 1,[.int 0],rfl,rfl,upd_same,by trivial,by trivial,fits (by rw [List.length_singleton,et]; trivial),fun l2 hl2 => ?_⟩
  rw [et,rep_ints]
  have u2:=u1.trans (same_new hl2 (.lst ((List.replicate (blen (n:Nat) - 1) 0).map V.int)))
  have e2:upd (upd H l1 (.lst [V.int 0])) l2 (.lst ((List.replicate (blen (n:Nat) - 1) 0).map V.int)) l2 = some (lsI (List.replicate (blen (n:Nat) - 1) 0)):=upd_same
  generalize upd (upd H l1 (.lst [V.int 0])) l2 (.lst ((List.replicate (blen (n:Nat) - 1) 0).map V.int)) = H2 at u2 e2 ⊢
  refine ⟨_,rfl,_,rfl,(n:Nat),blen (n:Nat),rfl,by trivial,fun L H3 s3 hLn hL => ?_⟩
  refine ⟨l2,L,_,_,rfl,rfl,s3 _ _ e2,hL,fits (by rw [List.length_map,List.length_map,List.length_replicate,lowb_length]; trivial),fun R hR => ?_⟩
  rw [lsI_app]
  have t3:=u2.trans s3
  exact hQ R _ (t3.trans (same_new hR _)) (t3.free hR) upd_same
end
end K54
set_option Elab.async false
set_option linter.all false
set_option maxRecDepth 100000
set_option maxHeartbeats 4000000
namespace K54
open PySem L2 PySem.W PH
section
variable {P:Program} {w:World} {K:PySem.W.Frag} {mg:Str -> Option Value} {base:Heap}
theorem sc_wrt:FnScope ["text", "products", "counts", "found", "sign", "times"] ["text", "products"] (defScope s_wrt):=⟨rfl, rfl, rfl, by decide +kernel, rfl, by decide +kernel, by decide +kernel⟩
theorem ok_wrt {f f_share f_many f_llow f_lwide f_lend:Addr} {fd d_share d_many d_llow d_lwide d_lend:FuncData} (F:Fun K "_law_written" "_law_written" s_wrt f fd) (B:Bls mg) (n_set:mg "set" = none) 
  (G_share:FnOk P w K mg base (CXW P w) 2 f_share d_share ["text"] (spShare)) (b_share:Binds K d_share ["text"] []) (k_share:keepIn K (.ref f_share) = true) (m_share:mg "share_of" = some (.ref f_share)) 
  (G_many:FnOk P w K mg base (CXW P w) 1 f_many d_many ["counts", "products"] (spMany)) (b_many:Binds K d_many ["counts", "products"] []) (k_many:keepIn K (.ref f_many) = true) (m_many:mg "_law_many" = some (.ref f_many)) 
  (G_llow:FnOk P w K mg base (CXW P w) 1 f_llow d_llow ["number", "wide"] (spLLow)) (b_llow:Binds K d_llow ["number", "wide"] []) (k_llow:keepIn K (.ref f_llow) = true) (m_llow:mg "_law_low" = some (.ref f_llow)) 
  (G_lwide:FnOk P w K mg base (CXW P w) 1 f_lwide d_lwide ["number"] (spLWide)) (b_lwide:Binds K d_lwide ["number"] []) (k_lwide:keepIn K (.ref f_lwide) = true) (m_lwide:mg "_law_wide" = some (.ref f_lwide)) 
  (G_lend:FnOk P w K mg base (CXW P w) 2 f_lend d_lend ["number"] (spLEnd54)) (b_lend:Binds K d_lend ["number"] []) (k_lend:keepIn K (.ref f_lend) = true) (m_lend:mg "_law_ending" = some (.ref f_lend)):FnOk P w K mg base (CXW P w) 3 f fd ["text", "products"] (spWrt54):=by
 refine F.okN sc_wrt (fun vs H Q E h => ?_) (fun cdv A outer s H vs Q E hr h => ?_)
 ·obtain ⟨a,q,ts,rfl,_⟩:=h
  rfl
 ·obtain ⟨a,q,ts,rfl,ha,hl4,hb,hq,hQ⟩:=h
  refine ⟨_, (pss_cons (ps_setC (iy:=2) (N:=["sign", "text"]) (js:=[none, some 0]) (g:=(gName 0)) (tc:=tTrue) (te:=(tTup (tCons (tVar 0) (tCons (tBM K "list" (rCount K) (tVar 1) (tCons (tVar 0) tNil)) tNil)))) sc_wrt.nd rfl rfl rfl (comp_scope (osc:=defScope s_wrt) (XN:=["text", "products", "counts", "found", "sign", "times"]) rfl rfl rfl (by decide +kernel)) (pi_list (pe_sortset rfl rfl B.sorted rfl n_set (pv 0))) (fun _ _ _ _ => pg_name (i:=0) (show (["sign", "text"]:List Str).Nodup by decide +kernel) rfl (Or.inl rfl)) (fun _ _ _ _ => pif_nil) (fun _ _ _ _ => (pe_tup (pa_cons (pv 0) (pa_cons (pe_bm PySem.F.plainAttrs_list PySem.F.slot_list_count PySem.F.type_list_count mt_count (pv 1) (pa_cons (pv 0) pa_nil)) pa_nil)))))
   (pss_cons (ps_set (i:=3) sc_wrt.nd rfl (Or.inl rfl) (pe_call G_lend hr rfl m_lend k_lend b_lend .nil passN (pa_cons (pe_op op_add (pe_op op_mul pe_int (pe_callB call_len_seq rfl B.len PySem.boot_len (pa_cons (pv 2) pa_nil))) pe_int) pa_nil)))
   (pss_cons (ps_for PassesOwn.never rfl (pi_list (pv 2)) (pg_tup rfl (pgs_cons (pg_name (i:=4) sc_wrt.nd rfl (Or.inl rfl)) (pgs_cons (pg_name (i:=5) sc_wrt.nd rfl (Or.inl rfl)) pgs_nil)))
    (pss_one (ps_set (i:=3) sc_wrt.nd rfl (Or.inl rfl) (pe_op op_cat (pe_op op_cat (pv 3) (pe_call G_lend hr rfl m_lend k_lend b_lend .nil passN (pa_cons (pe_op op_add (pv 4) pe_int) pa_nil))) (pe_call G_lend hr rfl m_lend k_lend b_lend .nil passN (pa_cons (pe_op op_add (pv 5) pe_int) pa_nil))))))
   (pss_one (ps_ret (pe_op op_cat (pv 3) (pe_call G_llow (hr.mono (show 1 ≤ 2 by decide)) rfl m_llow k_llow b_llow .nil passN (pa_cons (pe_ix ix_tup (pe_call G_share hr rfl m_share k_share b_share .nil passN (pa_cons (pe_callTy call_list_of rfl B.list boot_list' (pa_cons (pv 0) pa_nil)) pa_nil)) pe_int (fun _ _ => rfl)) (pa_cons (pe_call G_lwide (hr.mono (show 1 ≤ 2 by decide)) rfl m_lwide k_lwide b_lwide .nil passN (pa_cons (pe_op op_sub (pe_call G_many (hr.mono (show 1 ≤ 2 by decide)) rfl m_many k_many b_many .nil passN (pa_cons (pv 2) (pa_cons (pv 1) pa_nil))) pe_int) pa_nil)) pa_nil))))))))),?_⟩
  refine ⟨_,rfl,a,ts,rfl,SqL.of ha,hb,fun sg q5 hup hmem hq5 => ?_⟩
  have hsg:sg = ksOf ts:=sorted_keys hb (hup.imp fun {a b} w => Int.ne_of_lt w) hmem (List.Perm.refl _) (hup.imp fun {a b} w => Int.le_of_lt w)
  subst hsg
  have u1:=same_new hq5 (.lst ((ksOf ts).map V.int))
  have e5:upd H q5 (.lst ((ksOf ts).map V.int)) q5 = some (lsI (ksOf ts)):=upd_same
  generalize upd H q5 (.lst ((ksOf ts).map V.int)) = H1 at u1 e5 ⊢
  have ha1:=u1 _ _ ha
  have hkl:(ksOf ts).length ≤ 256:=by have:=cnts_few hb; rw [cnts_ks,List.length_map] at this; exact this
  refine ⟨q5,rfl,⟨_,SqL.of e5⟩,fun D hD => ?_⟩
  refine comp_lstQ (K:=K) (a:=q5) (xs:=(ksOf ts).map V.int) (fun i σ' H' => ∃ (v:Option V) (zs:List (Addr × Int × Int)),σ' = [v,some (.ref a)]∧Prs H' D zs∧zs.map (·.2) = ((ksOf ts).take i).map (fun k => (k,((ts.count k:Nat):Int)))∧(∀ z ∈ zs,z.1 ≠ D)∧Same H1 H')
   ⟨none,[],rfl,⟨upd_same,(fun _ z => by cases z)⟩,by rw [List.take_zero]; rfl,(fun _ z => by cases z),same_new hD _⟩ (fun i σ' H' _ ⟨_,_,_,_,_,_,e⟩ => SqL.of (e _ _ e5)) ?_ ?_
  ·rintro i x σ' H' hi ⟨v,zs,rfl,prs,hzs,hzD,sm⟩
   obtain ⟨k,rfl,hk⟩:=int_at hi
   have hlt:i < ((ksOf ts).map V.int).length:=(List.getElem?_eq_some_iff.mp hi).1
   refine nameT ?_
   refine ⟨_,rfl,_,rfl,.inl ⟨rfl,_,SqL.of (sm _ _ ha1)⟩,_,rfl,a,ts,k,rfl,rfl,SqL.of (sm _ _ ha1),(by show 2 ≤ sizeLine; decide),fun t ht => ?_⟩
   have hzl:zs.length = i:=by
    have:=congrArg List.length hzs
    rw [List.length_map,List.length_map,List.length_take] at this
    rw [List.length_map] at hlt
    trivial
   have ntD:t ≠ D:=(ne_of_none prs.at_ ht).symm
   refine ⟨D,_,_,rfl,rfl,(same_new ht _) _ _ prs.at_,fits_lt (by rw [List.length_map]; rw [List.length_map] at hlt; trivial),?_⟩
   have st:=same_new ht (.tup [.int k,.int (ts.count k:Nat)])
   refine CW.next hlt ⟨_,zs ++ [(t,k,((ts.count k:Nat):Int))],rfl,⟨?_,fun z hz => ?_⟩,?_,fun z hz => ?_,?_⟩
   ·rw [upd_same,List.map_append]; rfl
   ·rcases List.mem_append.mp hz with hz | hz
    ·rw [upd_ne (hzD z hz)]; exact st _ _ (prs.each z hz)
    ·have:z = (t,k,((ts.count k:Nat):Int)):=by simpa using hz
     subst this
     rw [upd_ne ntD,upd_same]
   ·rw [List.map_append,hzs,take_at hk,List.map_append]; rfl
   ·rcases List.mem_append.mp hz with hz | hz
    ·exact hzD z hz
    ·have:z = (t,k,((ts.count k:Nat):Int)):=by simpa using hz
     subst this
     exact ntD
   ·exact same_upd (sm.trans st) _ hD
  rintro σ' H2 ⟨v,zs,rfl,prC,hzs,hzD,s2⟩
  rw [List.length_map,List.take_length,← cnts_ks] at hzs
  have t2:=u1.trans s2
  have hzl:zs.length ≤ 256:=by have:=cnts_few hb; rw [← hzs,List.length_map] at this; exact this
  have hsm:=cnts_small hb hl4
  have ha2:=t2 _ _ ha
  have hq2:=t2 _ _ hq
  have hrc:=cnts_rise hb
  generalize hcs:cnts ts = cs at hzs hrc
  have hcl:cs.length = zs.length:=by rw [← hzs,List.length_map]
  refine ⟨_,rfl,D,_,rfl,.inl (SqL.of prC.at_),_,_,rfl,rfl,.inl ⟨by trivial,by trivial⟩,_,_,rfl,rfl,2 * zs.length + 1,congrArg (fun y => [V.int y]) (by rw [List.length_map]; trivial),by trivial,lt900 (by trivial),fun F0 H3 s3 hFn hF => ?_⟩
  have el:((2 * zs.length + 1:Nat):Int) = ((unp cs).length:Int) + 1:=by rw [unp_len,hcl]; trivial
  rw [el] at hF
  have hel:=endb_length (((unp cs).length:Int) + 1)
  have heb:=blen9 (n:=((unp cs).length:Int) + 1) (by trivial) (by rw [← el]; trivial)
  generalize hE0:endb (((unp cs).length:Int) + 1) = E0 at hF hel
  refine ⟨_,rfl,D,rfl,⟨_,SqL.of (s3 _ _ prC.at_)⟩,for_list (K:=K) (a:=D) (xs:=zs.map fun z => V.ref z.1) (fun i σ H' => ∃ (F:Addr) (v4 v5:Option V),σ = [some (.ref a),some (.ref q),some (.ref D),some (.ref F),v4,v5]∧H' F = some (lsI (E0 ++ flatb (unp (cs.take i))))∧Same H2 H')
   ⟨F0,none,none,rfl,by rw [List.take_zero]; show _ = some (lsI (E0 ++ [])); rw [List.append_nil]; exact hF,s3⟩ (fun i σ H' _ ⟨_,_,_,_,_,e⟩ => SqL.of (e _ _ prC.at_)) ?_ ?_⟩
  ·rintro i y σ H' hi ⟨F,v4,v5,rfl,hF',sm⟩
   have hlt:=(List.getElem?_eq_some_iff.mp hi).1
   rw [List.length_map] at hlt
   obtain ⟨z,hz,rfl⟩:=ref_at hi
   have hck:cs[i]? = some z.2:=by rw [← hzs,List.getElem?_map,hz]; rfl
   have hz1:=hrc.2 z.2 (List.mem_of_getElem? hck)
   have hz2:0 ≤ z.2.2∧z.2.2 ≤ 400:=hsm z.2.2 (by rw [hcs]; exact List.mem_flatMap.mpr ⟨z.2,List.mem_of_getElem? hck,by simp⟩)
   have hfl:=flatb_small (ns:=unp (cs.take i)) fun x hx => hsm x (by
    rw [hcs]
    obtain ⟨c,hc,hx⟩:=List.mem_flatMap.mp hx
    exact List.mem_flatMap.mpr ⟨c,List.mem_of_mem_take hc,hx⟩)
   rw [unp_len,List.length_take] at hfl
   have b1:=blen9 (n:=z.2.1 + 1) (by trivial) (by trivial)
   have b2:=blen9 (n:=z.2.2 + 1) (by trivial) (by trivial)
   have l1:=endb_length (z.2.1 + 1)
   have l2:=endb_length (z.2.2 + 1)
   have ez1:(((z.2.1 + 1).toNat:Nat):Int) = z.2.1 + 1:=by trivial
   have ez2:(((z.2.2 + 1).toNat:Nat):Int) = z.2.2 + 1:=by trivial
   refine ⟨z.1,_,rfl,SqT.of (sm _ _ (prC.each z (List.mem_of_getElem? hz))),rfl,_,_,rfl,_,_,rfl,rfl,?_⟩
   refine ⟨_,rfl,_,rfl,_,_,rfl,rfl,(z.2.1 + 1).toNat,congrArg (fun y => [V.int y]) ez1.symm,by trivial,lt900 (by trivial),fun G H4 s4 hGn hG => ?_⟩
   rw [ez1] at hG
   refine ⟨F,G,_,_,rfl,rfl,s4 _ _ hF',hG,fits (by rw [List.length_map,List.length_map,List.length_append]; trivial),fun X hX => ?_⟩
   rw [lsI_app]
   have u5:=same_new hX (lsI ((E0 ++ flatb (unp (cs.take i))) ++ endb (z.2.1 + 1)))
   have e5:upd H4 X (lsI ((E0 ++ flatb (unp (cs.take i))) ++ endb (z.2.1 + 1))) X = some (lsI ((E0 ++ flatb (unp (cs.take i))) ++ endb (z.2.1 + 1))):=upd_same
   generalize upd H4 X (lsI ((E0 ++ flatb (unp (cs.take i))) ++ endb (z.2.1 + 1))) = H5 at u5 e5 ⊢
   refine ⟨_,rfl,_,_,rfl,rfl,(z.2.2 + 1).toNat,congrArg (fun y => [V.int y]) ez2.symm,by trivial,lt900 (by trivial),fun G2 H6 s6 hG2n hG2 => ?_⟩
   rw [ez2] at hG2
   refine ⟨X,G2,_,_,rfl,rfl,s6 _ _ e5,hG2,fits (by rw [List.length_map,List.length_map,List.length_append,List.length_append]; trivial),fun Y hY => ?_⟩
   rw [lsI_app]
   refine ⟨Y,_,_,rfl,?_,(sm.trans (s4.trans (u5.trans s6))).trans (same_new hY _)⟩
   rw [upd_same,take_at hck,unp_snoc,flatb_append,flatb_two]
   simp only [List.append_assoc]
  rintro σ H4 ⟨F,v4,v5,rfl,hF4,s4⟩
  rw [List.length_map,← hcl,List.take_length] at hF4
  have t4:=t2.trans s4
  refine ⟨_,rfl,_,rfl,a,_,rfl,.inl (SqL.of (t4 _ _ ha)),fun c5 hc5 => ?_⟩
  have u5:=same_new hc5 (.lst (ts.map V.int))
  have e5':upd H4 c5 (.lst (ts.map V.int)) c5 = some (lsI ts):=upd_same
  generalize upd H4 c5 (.lst (ts.map V.int)) = H5 at u5 e5' ⊢
  refine ⟨c5,ts,rfl,e5',hl4,hb,fun T C2 ys H6 s6 hT hC2 prY hys => ?_⟩
  refine ⟨T,_,1,_,rfl,rfl,SqT.of hT,rfl,?_⟩
  have t46:=u5.trans s6
  have t6:=t4.trans t46
  have htx:=cnts_tx hb
  rw [hcs] at htx
  have htl:=tx_lt hl4
  have htp:=tx_pos ts
  have hsT:=cnts_sumT hb
  rw [hcs] at hsT
  refine ⟨_,rfl,_,rfl,D,q,zs,rfl,prC.same (s4.trans t46),t6 _ _ hq,by trivial,by rw [hzs]; exact hrc.ge,by rw [hzs,hsT]; trivial,fun H7 s7 => ?_⟩
  rw [hzs,htx]
  refine ⟨_,_,rfl,rfl,tx ts - 1,congrArg (fun y => [V.int y]) (by trivial),by trivial,?_⟩
  rw [enough_nat htp]
  refine ⟨_,enough (tx ts),rfl,enough_le htp htl,fun W H8 s8 hWn hW => ?_⟩
  have t48:=t46.trans (s7.trans s8)
  have hbl:=shB_len hb hl4
  unfold shB rowb at hbl
  rw [hcs,hE0,List.length_append] at hbl
  refine ⟨F,W,_,_,rfl,rfl,t48 _ _ hF4,hW,fits (by rw [List.length_map,List.length_map]; trivial),fun L hL => ?_⟩
  rw [lsI_app]
  refine hQ L _ ((t4.trans t48).trans (same_new hL _)) ?_
  rw [upd_same]
  unfold shB rowb
  rw [hcs,hE0]
end
end K54
set_option Elab.async false
set_option linter.all false
set_option maxRecDepth 100000
set_option maxHeartbeats 4000000
namespace K54
open PySem L2 PySem.W PH
section
variable {P:Program} {w:World} {K:PySem.W.Frag} {mg:Str -> Option Value} {base:Heap}
theorem sc_lnum:FnScope ["bits", "at", "wide", "number", "bit"] ["bits", "at"] (defScope s_lnum):=⟨rfl, rfl, rfl, by decide +kernel, rfl, by decide +kernel, by decide +kernel⟩
theorem ok_lnum {f:Addr} {fd:FuncData} (F:Fun K "_law_number" "_law_number" s_lnum f fd) (B:Bls mg):FnOk P w K mg base (CXW P w) 1 f fd ["bits", "at"] (spLNum54):=by
 refine F.okN sc_lnum (fun vs H Q E h => ?_) (fun cdv A outer s H vs Q E hr h => ?_)
 ·obtain ⟨a,bs,i,rfl,_⟩:=h
  rfl
 ·obtain ⟨a,bs,i,rfl,ha,hbits,hl,hi3,hN,hQ⟩:=h
  refine ⟨_,(pss_cons (ps_set (i:=2) sc_lnum.nd rfl (Or.inl rfl) pe_int)
   (pss_cons (ps_while PassesOwn.never (PW.pt (pw_and (pt_cmpR op_lt (pv 1) (pe_callB call_len_seq rfl B.len PySem.boot_len (pa_cons (pv 0) pa_nil)) (nomark _)) (pw_and1 (pt_cmpR op_eq (pe_ix ix_list (pv 0) (pv 1) (fun _ _ => rfl)) pe_int (nomark _)))))
    (pss_cons (ps_set (i:=2) sc_lnum.nd rfl (Or.inl rfl) (pe_op op_add (pv 2) pe_int))
    (pss_one (ps_set (i:=1) sc_lnum.nd rfl (Or.inl rfl) (pe_op op_add (pv 1) pe_int)))))
   (pss_cons (ps_if (pt_cmpR op_gt (pe_op op_add (pv 1) (pv 2)) (pe_callB call_len_seq rfl B.len PySem.boot_len (pa_cons (pv 0) pa_nil)) (nomark _))
    (pss_one (ps_ret pe_non))
    pss_nil)
   (pss_cons (ps_set (i:=3) sc_lnum.nd rfl (Or.inl rfl) pe_int)
   (pss_cons (ps_for PassesOwn.never rfl (pi_list (pe_slice sl_list (pv 0) (po_some (pv 1)) (po_some (pe_op op_add (pv 1) (pv 2))))) (pg_name (i:=4) sc_lnum.nd rfl (Or.inl rfl))
    (pss_one (ps_set (i:=3) sc_lnum.nd rfl (Or.inl rfl) (pe_op op_add (pe_op op_mul pe_int (pv 3)) (pv 4)))))
   (pss_one (ps_ret (pe_tup (pa_cons (pv 3) (pa_cons (pe_op op_add (pv 1) (pv 2)) pa_nil)))))))))),?_⟩
  refine sqMidY (fun σ' H' => σ' = [some (.ref a),some (.int (i:Nat)),some (.int 1),none,none]∧H' = H) ?_ ?_
  rotate_left
  ·exact fun N hN => hN _ _ ⟨rfl,rfl⟩
  rintro σ' H0 ⟨rfl,rfl⟩
  try dsimp only
  refine sqMidY (fun σ' H' => ∃ (j:Nat),σ' = [some (.ref a),some (.int ((i + j:Nat):Int)),some (.int ((1 + j:Nat):Int)),none,none]∧H' = H0∧i + j ≤ 60000∧((firstOne (bs.drop i) = none∧bs.length ≤ i + j) ∨ firstOne (bs.drop i) = some j)) ?_ ?_
  rotate_left
  ·intro N hN
   refine ⟨fun m σ H' => ∃ j:Nat,m = bs.length - (i + j)∧σ = [some (.ref a),some (.int ((i + j:Nat):Int)),some (.int ((1 + j:Nat):Int)),none,none]∧H' = H0∧(j = 0 ∨ i + j ≤ bs.length)∧firstOne (bs.drop i) = (firstOne (bs.drop (i + j))).map (· + j),⟨_,0,rfl,rfl,rfl,.inl rfl,?_⟩,?_⟩
   ·rw [Nat.add_zero]
    cases firstOne (bs.drop i) with
    | none => rfl
    | some d => rfl
   rintro m σ H' ⟨j,rfl,rfl,rfl,hj,hfo⟩
   refine ⟨_,rfl,_,rfl,a,_,rfl,.inl (SqL.of ha),_,_,rfl,rfl,_,rfl,?_⟩
   rw [List.length_map]
   by_cases hlt:i + j < bs.length
   rotate_left
   ·rw [decide_eq_false (show ¬ ((i + j:Nat):Int) < ((bs.length:Nat):Int) by trivial)]
    refine iteF ?_
    rw [firstOne_end (k:=i + j) (by trivial)] at hfo
    exact iteF (hN _ _ ⟨j,rfl,rfl,by trivial,.inl ⟨hfo,by trivial⟩⟩)
   rw [decide_eq_true (show ((i + j:Nat):Int) < ((bs.length:Nat):Int) by trivial)]
   refine iteT ?_
   obtain ⟨z,hz⟩:∃ z,bs[i + j]? = some z:=⟨_,List.getElem?_eq_getElem hlt⟩
   refine ⟨_,rfl,_,rfl,a,_,_,_,rfl,rfl,SqL.of ha,at_ints hz,rfl,_,rfl,?_⟩
   rw [firstOne_step hz] at hfo
   rcases hbits z (List.mem_of_getElem? hz) with rfl | rfl
   ·refine iteT ?_
    refine ⟨fun σ' H'' => ∃ m',m' < bs.length - (i + j)∧∃ j:Nat,m' = bs.length - (i + j)∧σ' = [some (.ref a),some (.int ((i + j:Nat):Int)),some (.int ((1 + j:Nat):Int)),none,none]∧H'' = H'∧(j = 0 ∨ i + j ≤ bs.length)∧firstOne (bs.drop i) = (firstOne (bs.drop (i + j))).map (· + j),fun σ' H'' z => z,?_⟩
    refine ⟨_,rfl,_,_,rfl,rfl,?_⟩
    refine ⟨_,rfl,_,_,rfl,rfl,?_⟩
    refine ⟨_,?_,j + 1,rfl,rfl,rfl,.inr (by trivial),?_⟩
    ·trivial
    ·rw [hfo,if_neg (by decide),show i + (j + 1) = i + j + 1 by trivial]
     cases firstOne (bs.drop (i + j + 1)) with
     | none => rfl
     | some d => show some (d + 1 + j) = some (d + (j + 1)); congr 1; trivial
   ·refine iteF ?_
    rw [if_pos rfl] at hfo
    refine hN _ _ ⟨j,rfl,rfl,by trivial,.inr ?_⟩
    rw [hfo]; show some (0 + j) = some j; rw [Nat.zero_add]
  rintro σ' H' ⟨j,rfl,rfl,hj6,hj⟩
  refine ⟨_,rfl,_,rfl,_,_,rfl,rfl,_,rfl,a,_,rfl,.inl (SqL.of ha),_,_,rfl,rfl,_,rfl,?_⟩
  rw [List.length_map]
  have eN:∀ c:Prop,[Decidable c] -> True:=fun _ _ => trivial
  by_cases hlen:bs.length < i + j + (1 + j)
  ·rw [decide_eq_true (show ((bs.length:Nat):Int) < ((i + j:Nat):Int) + ((1 + j:Nat):Int) by trivial)]
   refine iteT ?_
   refine hN ?_
   unfold readE
   rw [if_neg (by trivial),Int.toNat_natCast]
   rcases hj with ⟨h,_⟩ | h
   ·rw [h]
   ·rw [h]
    show (if bs.length < i + j + j + 1 then none else _) = none
    rw [if_pos (by trivial)]
  rw [decide_eq_false (show ¬ ((bs.length:Nat):Int) < ((i + j:Nat):Int) + ((1 + j:Nat):Int) by trivial)]
  refine iteF ?_
  have hf:firstOne (bs.drop i) = some j:=by
   rcases hj with ⟨_,h⟩ | h
   ·trivial
   ·exact h
  have eR:readE bs (i:Nat) = some (worth ((bs.drop (i + j)).take (j + 1)),i + j + j + 1):=by
   unfold readE
   rw [if_neg (by trivial),Int.toNat_natCast,hf]
   show (if bs.length < i + j + j + 1 then none else _) = _
   rw [if_neg (by trivial)]
  refine ⟨_,rfl,_,rfl,_,rfl,_,rfl,_,rfl,_,_,rfl,rfl,_,rfl,a,_,rfl,SqL.of ha,fun W hW => ?_⟩
  have ec:HO.lst (cutV (bs.map V.int) (some ((i + j:Nat):Int)) (some (((i + j:Nat):Int) + ((1 + j:Nat):Int)))) = lsI ((bs.drop (i + j)).take (j + 1)):=by
   rw [show ((i + j:Nat):Int) + ((1 + j:Nat):Int) = ((i + j + (j + 1):Nat):Int) by trivial,cut_two,show i + j + (j + 1) - (i + j) = j + 1 by trivial]; rfl
  try dsimp -proj only
  rw [ec]
  generalize (bs.drop (i + j)).take (j + 1) = ws at eR ⊢
  have u1:=same_new hW (lsI ws)
  have e1:upd H' W (lsI ws) W = some (lsI ws):=upd_same
  generalize upd H' W (lsI ws) = H1 at u1 e1 ⊢
  refine ⟨W,rfl,⟨_,SqL.of e1⟩,for_list (K:=K) (a:=W) (xs:=ws.map V.int) (fun k σ H2 => ∃ (v4:Option V),σ = [some (.ref a),some (.int ((i + j:Nat):Int)),some (.int ((1 + j:Nat):Int)),some (.int (worth (ws.take k))),v4]∧H2 = H1)
   ⟨none,by rw [List.take_zero]; rfl,rfl⟩ (fun k σ H2 _ ⟨_,_,e⟩ => by rw [e]; exact SqL.of e1) ?_ ?_⟩
  ·rintro k y σ H2 hk ⟨v4,rfl,rfl⟩
   obtain ⟨z,rfl,hz⟩:=int_at hk
   refine ⟨_,rfl,_,_,rfl,rfl,.inl ⟨by trivial,by trivial⟩,_,rfl,_,_,rfl,rfl,?_⟩
   refine ⟨some (.int z),?_,rfl⟩
   rw [take_at hz,worth_snoc,show worth (ws.take k) + worth (ws.take k) + z = 2 * worth (ws.take k) + z by trivial]
   rfl
  rintro σ H2 ⟨v4,rfl,rfl⟩
  rw [List.length_map,List.take_length]
  refine ⟨_,rfl,_,rfl,_,rfl,_,_,rfl,rfl,(by show 2 ≤ sizeLine; decide),fun t ht => ?_⟩
  refine hQ _ _ eR t _ (u1.trans (same_new ht _)) (u1.free ht) ?_
  rw [upd_same]
  show some (HO.tup [_,V.int (((i + j:Nat):Int) + ((1 + j:Nat):Int))]) = _
  rw [show ((i + j:Nat):Int) + ((1 + j:Nat):Int) = ((i + j + j + 1:Nat):Int) by trivial]
end
end K54
set_option Elab.async false
set_option linter.all false
set_option maxRecDepth 100000
set_option maxHeartbeats 4000000
namespace K54
open PySem L2 PySem.W PH
section
variable {P:Program} {w:World} {K:PySem.W.Frag} {mg:Str -> Option Value} {base:Heap}
theorem sc_lrow:FnScope ["bits", "at", "first", "row", "next_one"] ["bits", "at"] (defScope s_lrow):=⟨rfl, rfl, rfl, by decide +kernel, rfl, by decide +kernel, by decide +kernel⟩
theorem ok_lrow {f f_lnum:Addr} {fd d_lnum:FuncData} (F:Fun K "_law_row" "_law_row" s_lrow f fd) (B:Bls mg) 
  (G_lnum:FnOk P w K mg base (CXW P w) 1 f_lnum d_lnum ["bits", "at"] (spLNum54)) (b_lnum:Binds K d_lnum ["bits", "at"] []) (k_lnum:keepIn K (.ref f_lnum) = true) (m_lnum:mg "_law_number" = some (.ref f_lnum)):FnOk P w K mg base (CXW P w) 2 f fd ["bits", "at"] (spLRow54):=by
 refine F.okN sc_lrow (fun vs H Q E h => ?_) (fun cdv A outer s H vs Q E hr h => ?_)
 ·obtain ⟨a,bs,i,rfl,_⟩:=h
  rfl
 ·obtain ⟨a,bs,i,rfl,ha,hbits,hl,hi3,hN,hQ⟩:=h
  refine ⟨_,(pss_cons (ps_set (i:=2) sc_lrow.nd rfl (Or.inl rfl) (pe_call G_lnum hr rfl m_lnum k_lnum b_lnum .nil passN (pa_cons (pv 0) (pa_cons (pv 1) pa_nil))))
   (pss_cons (ps_if (pt_cmp (pc_isN (pv 2)))
    (pss_one (ps_ret pe_non))
    pss_nil)
   (pss_cons (ps_set (i:=3) sc_lrow.nd rfl (Or.inl rfl) (pe_lst pa_nil))
   (pss_cons (ps_set (i:=1) sc_lrow.nd rfl (Or.inl rfl) (pe_ix ix_tup (pv 2) pe_int (fun _ _ => rfl)))
   (pss_cons (ps_while PassesOwn.never (pt_cmpR op_lt (pe_callB call_len_seq rfl B.len PySem.boot_len (pa_cons (pv 3) pa_nil)) (pe_op op_sub (pe_ix ix_tup (pv 2) pe_int (fun _ _ => rfl)) pe_int) (nomark _))
    (pss_cons (ps_set (i:=4) sc_lrow.nd rfl (Or.inl rfl) (pe_call G_lnum hr rfl m_lnum k_lnum b_lnum .nil passN (pa_cons (pv 0) (pa_cons (pv 1) pa_nil))))
    (pss_cons (ps_if (pt_cmp (pc_isN (pv 4)))
     (pss_one (ps_ret pe_non))
     pss_nil)
    (pss_cons (ps_expr (pe_bm PySem.F.plainAttrs_list PySem.F.slot_list_append PySem.F.type_list_append mt_append (pv 3) (pa_cons (pe_op op_sub (pe_ix ix_tup (pv 4) pe_int (fun _ _ => rfl)) pe_int) pa_nil)))
    (pss_one (ps_set (i:=1) sc_lrow.nd rfl (Or.inl rfl) (pe_ix ix_tup (pv 4) pe_int (fun _ _ => rfl))))))))
   (pss_one (ps_ret (pe_tup (pa_cons (pv 3) (pa_cons (pv 1) pa_nil)))))))))),?_⟩
  try dsimp only
  refine sqMidY (fun σ' H' => ∃ v:V,σ' = [some (.ref a),some (.int (i:Nat)),some v,none,none]∧Same H H'∧((v = .non∧readE bs (i:Nat) = none) ∨ ∃ (t:Addr) (mm:Int) (b:Nat),v = .ref t∧readE bs (i:Nat) = some (mm,b)∧H' t = some (.tup [.int mm,.int (b:Nat)]))) ?_ ?_
  rotate_left
  ·intro N hNx
   exact ⟨_,rfl,_,rfl,a,bs,i,rfl,ha,hbits,hl,hi3,(fun h => hNx _ _ ⟨_,rfl,Same.refl _,.inl ⟨rfl,h⟩⟩),fun mm b h t H' s htn ht => hNx _ _ ⟨_,rfl,s,.inr ⟨t,mm,b,rfl,h,ht⟩⟩⟩
  rintro σ' H1 ⟨v,rfl,s1,hv⟩
  rcases hv with ⟨rfl,hno⟩ | ⟨t,mm,b,rfl,e,ht1⟩
  ·refine ⟨_,rfl,_,rfl,?_⟩
   refine iteT ?_
   exact hN (readRow_none hno) H1 s1
  refine ⟨_,rfl,_,rfl,?_⟩
  refine iteF ?_
  obtain ⟨i0,ib,bl⟩:=readE_le e
  refine ⟨(by show 0 ≤ sizeLine; decide),fun nl hnl => ?_⟩
  have hnt:t ≠ nl:=ne_of_none ht1 hnl
  have ht2:upd H1 nl (.lst []) t = some (.tup [.int mm,.int (b:Nat)]):=by rw [upd_ne hnt]; exact ht1
  refine ⟨_,rfl,t,_,1,_,rfl,rfl,SqT.of ht2,rfl,?_⟩
  have e0:readRow bs (i:Nat) = readN (mm - 1).toNat bs b:=by unfold readRow; rw [e]
  refine ⟨fun m σ H' => ∃ (xs:List Int) (bb:Nat) (fv:Option V),m = bs.length - bb∧σ = [some (.ref a),some (.int bb),some (.ref t),some (.ref nl),fv]∧H' nl = some (lsI xs)∧Same H1 H'∧bb ≤ bs.length∧xs.length ≤ bb∧xs.length ≤ (mm - 1).toNat∧readRow bs (i:Nat) = (readN ((mm - 1).toNat - xs.length) bs bb).map fun r => (xs ++ r.1,r.2),
   ⟨bs.length - b,[],b,none,rfl,rfl,upd_same,same_new hnl _,bl,Nat.zero_le _,Nat.zero_le _,?_⟩,?_⟩
  ·rw [e0]
   show _ = (readN (mm - 1).toNat bs b).map _
   cases readN (mm - 1).toNat bs b with
   | none => rfl
   | some r => rfl
  rintro m σ H' ⟨xs,bb,fv,rfl,rfl,hnl',s2,hbb,hxb,hxm,hrr⟩
  refine ⟨_,rfl,nl,_,rfl,.inl (SqL.of hnl'),_,rfl,t,_,0,_,rfl,rfl,SqT.of (s2 _ _ ht1),rfl,_,_,rfl,rfl,_,_,rfl,rfl,_,rfl,?_⟩
  rw [len_lsI]
  have hH1:Same H H':=s1.trans s2
  refine ite2 (fun c => ?_) (fun c => ?_)
  ·have c':(xs.length:Int) < mm - 1:=of_decide_eq_true c
   obtain ⟨k,hk⟩:∃ k,(mm - 1).toNat - xs.length = k + 1:=⟨(mm - 1).toNat - xs.length - 1,by trivial⟩
   rw [hk] at hrr
   refine ⟨fun σ' H'' => ∃ m',m' < bs.length - bb∧∃ (xs:List Int) (bb:Nat) (fv:Option V),m' = bs.length - bb∧σ' = [some (.ref a),some (.int bb),some (.ref t),some (.ref nl),fv]∧H'' nl = some (lsI xs)∧Same H1 H''∧bb ≤ bs.length∧xs.length ≤ bb∧xs.length ≤ (mm - 1).toNat∧readRow bs (i:Nat) = (readN ((mm - 1).toNat - xs.length) bs bb).map fun r => (xs ++ r.1,r.2),fun σ' H'' z => z,?_⟩
   try dsimp only
   refine sqMidY (fun σ' H'' => ∃ v:V,σ' = [some (.ref a),some (.int bb),some (.ref t),some (.ref nl),some v]∧Same H' H''∧((v = .non∧readE bs (bb:Nat) = none) ∨ ∃ (t2:Addr) (n':Int) (b':Nat),v = .ref t2∧readE bs (bb:Nat) = some (n',b')∧H'' t2 = some (.tup [.int n',.int (b':Nat)]))) ?_ ?_
   rotate_left
   ·intro N hNx
    exact ⟨_,rfl,_,rfl,a,bs,bb,rfl,hH1 _ _ ha,hbits,hl,by trivial,(fun h => hNx _ _ ⟨_,rfl,Same.refl _,.inl ⟨rfl,h⟩⟩),fun mm b h t H' s htn ht => hNx _ _ ⟨_,rfl,s,.inr ⟨t,mm,b,rfl,h,ht⟩⟩⟩
   rintro σ' H3 ⟨v,rfl,s3,hv⟩
   rcases hv with ⟨rfl,hno⟩ | ⟨t2,n',b',rfl,e2,ht3⟩
   ·refine ⟨_,rfl,_,rfl,?_⟩
    refine iteT ?_
    rw [readN_stop hno] at hrr
    exact hN hrr H3 (hH1.trans s3)
   refine ⟨_,rfl,_,rfl,?_⟩
   refine iteF ?_
   obtain ⟨_,lt2,le2⟩:=readE_le e2
   have hn3:=s3 _ _ hnl'
   have hnt2:nl ≠ t2:=fun z => by rw [← z,hn3] at ht3; cases ht3
   refine ⟨_,rfl,.inl ⟨rfl,_,SqL.of hn3⟩,_,rfl,t2,_,0,_,rfl,rfl,SqT.of ht3,rfl,_,_,rfl,rfl,nl,_,_,rfl,rfl,hn3,fits_lt (by rw [len_lsI]; trivial),?_⟩
   refine ⟨_,rfl,t2,_,1,_,rfl,rfl,SqT.of (by rw [upd_ne hnt2.symm]; exact ht3),rfl,?_⟩
   refine ⟨bs.length - b',by trivial,xs ++ [n' - 1],b',_,rfl,rfl,?_,same_upd (s2.trans s3) _ hnl,le2,?_,?_,?_⟩
   ·rw [upd_same,lsI_app1]
   ·rw [List.length_append,List.length_singleton]; trivial
   ·rw [List.length_append,List.length_singleton]; trivial
   ·rw [hrr,readN_step e2,List.length_append,List.length_singleton,show (mm - 1).toNat - (xs.length + 1) = k by trivial]
    cases readN k bs b' with
    | none => rfl
    | some r => simp
  ·have c':¬ (xs.length:Int) < mm - 1:=fun z => c (decide_eq_true z)
   rw [show (mm - 1).toNat - xs.length = 0 by trivial] at hrr
   have hrr2:readRow bs (i:Nat) = some (xs,bb):=by rw [hrr]; show some (xs ++ [],bb) = _; rw [List.append_nil]
   refine ⟨_,rfl,_,rfl,(by show 2 ≤ sizeLine; decide),fun tt htt => ?_⟩
   exact hQ _ _ hrr2 tt nl _ (hH1.trans (same_new htt _)) (s1.free hnl) (by rw [upd_ne (ne_of_none hnl' htt)]; exact hnl') upd_same
end
end K54
set_option Elab.async false
set_option linter.all false
set_option maxRecDepth 100000
set_option maxHeartbeats 4000000
namespace K54
open PySem L2 PySem.W PH
section
variable {P:Program} {w:World} {K:PySem.W.Frag} {mg:Str -> Option Value} {base:Heap}
theorem sc_is:FnScope ["counts", "last", "sign", "times"] ["counts"] (defScope s_is):=⟨rfl, rfl, rfl, by decide +kernel, rfl, by decide +kernel, by decide +kernel⟩
theorem ok_is {f:Addr} {fd:FuncData} (F:Fun K "_law_is" "_law_is" s_is f fd) (B:Bls mg) (n_sum:mg "sum" = none):FnOk P w K mg base (CXW P w) 1 f fd ["counts"] (spIsW):=by
 refine F.okN sc_is (fun vs H Q E h => ?_) (fun cdv A outer s H vs Q E hr h => ?_)
 ·obtain ⟨p,zs,rfl,_⟩:=h
  rfl
 ·obtain ⟨p,zs,rfl,prZ,hzl,hQ⟩:=h
  refine ⟨_,(pss_cons (ps_set (i:=1) sc_is.nd rfl (Or.inl rfl) (pe_un un_neg pe_int))
   (pss_cons (ps_for PassesOwn.never rfl (pi_list (pv 0)) (pg_tup rfl (pgs_cons (pg_name (i:=2) sc_is.nd rfl (Or.inl rfl)) (pgs_cons (pg_name (i:=3) sc_is.nd rfl (Or.inl rfl)) pgs_nil)))
    (pss_cons (ps_if (PW.pt (pw_or (pt_cmpR op_le (pv 2) (pv 1) (nomark _)) (pw_or (pt_cmpR op_gt (pv 2) pe_int (nomark _)) (pw_or (pt_cmpR op_lt (pv 3) pe_int (nomark _)) (pw_or1 (pt_cmpR op_gt (pv 3) pe_int (nomark _)))))))
     (pss_one (ps_ret pe_bl))
     pss_nil)
    (pss_one (ps_set (i:=1) sc_is.nd rfl (Or.inl rfl) (pv 2)))))
   (pss_one (ps_ret (pe_cmpR op_le (pe_callB (call_sum rfl) rfl n_sum boot_sum' (pa_cons (pe_comp (N:=["sign", "times"]) (js:=[none, none]) (g:=(gTup K 2 (gCons (gName 0) (gCons (gName 1) gNil)))) (tc:=tTrue) (te:=(tVar 1)) rfl (comp_scope (osc:=defScope s_is) (XN:=["counts", "last", "sign", "times"]) rfl rfl rfl (by decide +kernel)) (pi_list (pv 0)) (fun _ _ _ _ => (pg_tup rfl (pgs_cons (pg_name (i:=0) (show (["sign", "times"]:List Str).Nodup by decide +kernel) rfl (Or.inl rfl)) (pgs_cons (pg_name (i:=1) (show (["sign", "times"]:List Str).Nodup by decide +kernel) rfl (Or.inl rfl)) pgs_nil)))) (fun _ _ _ _ => pif_nil) (fun _ _ _ _ => (pv 1))) pa_nil)) pe_int (nomark _)))))), ?_⟩
  generalize hcs:zs.map (·.2) = cs at hQ
  have hcl:cs.length = zs.length:=by rw [← hcs,List.length_map]
  refine ⟨1,rfl,_,rfl,p,rfl,⟨_,SqL.of prZ.at_⟩,for_list (K:=K) (a:=p) (xs:=zs.map fun z => V.ref z.1) (fun i σ H2 => ∃ (ah:Int) (v2 v3:Option V),σ = [some (.ref p),some (.int ah),v2,v3]∧haveT cs = (riseB ah (cs.drop i) && (cs.drop i).all (fun c => decide (1 ≤ c.2)) && decide (sumT cs ≤ 400))∧H2 = H)
   ⟨-1,none,none,rfl,by rw [List.drop_zero]; rfl,rfl⟩ (fun i σ H2 _ ⟨_,_,_,_,_,e⟩ => by rw [e]; exact SqL.of prZ.at_) ?_ ?_⟩
  ·rintro i y σ H2 hi ⟨ah,v2,v3,rfl,hhv,rfl⟩
   obtain ⟨z,hz,rfl⟩:=ref_at hi
   have hck:cs[i]? = some z.2:=by rw [← hcs,List.getElem?_map,hz]; rfl
   have hal:(cs.drop i).all (fun c => decide (1 ≤ c.2)) = (decide (1 ≤ z.2.2) && (cs.drop (i + 1)).all (fun c => decide (1 ≤ c.2))):=by
    obtain ⟨h1,h2⟩:=List.getElem?_eq_some_iff.mp hck
    rw [List.drop_eq_getElem_cons h1,h2]; rfl
   have hF0:haveT cs = false -> Q (.bl false) H2:=fun e => by
    have:=hQ _ (Same.refl H2)
    rwa [e] at this
   rw [riseB_step hck,hal] at hhv
   have hF:(decide (ah < z.2.1) && decide (z.2.1 ≤ 255) && decide (1 ≤ z.2.2)) = false -> Q (.bl false) H2:=fun e => by
    refine hF0 ?_
    rw [hhv]
    revert e
    generalize decide (ah < z.2.1) = b1
    generalize decide (z.2.1 ≤ 255) = b2
    generalize decide (1 ≤ z.2.2) = b3
    cases b1 <;> cases b2 <;> cases b3 <;> simp
   refine ⟨z.1,_,rfl,SqT.of (prZ.each z (List.mem_of_getElem? hz)),rfl,_,_,rfl,_,_,rfl,rfl,?_⟩
   refine ⟨_,rfl,_,rfl,_,_,rfl,rfl,_,rfl,?_⟩
   by_cases h1:z.2.1 ≤ ah
   ·rw [decide_eq_true h1]
    refine iteT (iteT ?_)
    exact hF (by rw [decide_eq_false (show ¬ ah < z.2.1 by trivial)]; rfl)
   rw [decide_eq_false h1]
   refine iteF ?_
   refine ⟨_,rfl,_,_,rfl,rfl,_,rfl,?_⟩
   by_cases h2:255 < z.2.1
   ·rw [decide_eq_true h2]
    refine iteT (iteT ?_)
    exact hF (by rw [decide_eq_false (show ¬ z.2.1 ≤ 255 by trivial),Bool.and_false]; rfl)
   rw [decide_eq_false h2]
   refine iteF ?_
   refine ⟨_,rfl,_,_,rfl,rfl,_,rfl,?_⟩
   by_cases h3:z.2.2 < 1
   ·rw [decide_eq_true h3]
    refine iteT (iteT ?_)
    exact hF (by rw [decide_eq_false (show ¬ 1 ≤ z.2.2 by trivial),Bool.and_false])
   rw [decide_eq_false h3]
   refine iteF ?_
   refine ⟨_,rfl,_,_,rfl,rfl,_,rfl,?_⟩
   by_cases h4:400 < z.2.2
   ·rw [decide_eq_true h4]
    refine iteT ?_
    refine hF0 ?_
    cases hq:haveT cs with
    | false => rfl
    | true =>
     have:=have_le hq z.2 (List.mem_of_getElem? hck)
     trivial
   rw [decide_eq_false h4]
   refine iteF ?_
   refine ⟨_,rfl,z.2.1,_,_,rfl,?_,rfl⟩
   rw [hhv,decide_eq_true (show ah < z.2.1 by trivial),decide_eq_true (show z.2.1 ≤ 255 by trivial),decide_eq_true (show 1 ≤ z.2.2 by trivial)]; rfl
  ·rintro σ H2 ⟨ah,v2,v3,rfl,hhv,rfl⟩
   rw [List.length_map,← hcl,List.drop_length] at hhv
   refine ⟨_,rfl,p,rfl,⟨_,SqL.of prZ.at_⟩,fun D2 hD2 => ?_⟩
   refine comp_lstQ (K:=K) (a:=p) (xs:=zs.map fun z => V.ref z.1) (fun i σ' H' => ∃ (x y:Option V) (ls:List Int),σ' = [x,y]∧H' D2 = some (lsI ls)∧ls = (cs.take i).map (·.2)∧Same H2 H')
    ⟨none,none,[],rfl,upd_same,by rw [List.take_zero]; rfl,same_new hD2 _⟩ (fun i σ' H' _ ⟨_,_,_,_,_,_,e⟩ => SqL.of (e _ _ prZ.at_)) ?_ ?_
   ·rintro i v σ' H' hi ⟨x,y,ls,rfl,hB,hls,sm⟩
    obtain ⟨z,hz,rfl⟩:=ref_at hi
    have hlt:i < (zs.map fun z => V.ref z.1).length:=(List.getElem?_eq_some_iff.mp hi).1
    have hck:cs[i]? = some z.2:=by rw [← hcs,List.getElem?_map,hz]; rfl
    have hbl:ls.length ≤ i:=by rw [hls,List.length_map,List.length_take]; trivial
    refine ⟨z.1,_,rfl,SqT.of (sm _ _ (prZ.each z (List.mem_of_getElem? hz))),rfl,_,_,rfl,_,_,rfl,rfl,?_⟩
    refine trueT ?_
    refine ⟨_,rfl,D2,_,_,rfl,rfl,hB,fits_lt (by rw [List.length_map]; rw [List.length_map] at hlt; trivial),?_⟩
    refine CW.next hlt ⟨_,_,ls ++ [z.2.2],rfl,by rw [upd_same]; unfold lsI; rw [List.map_append]; rfl,?_,same_upd sm _ hD2⟩
    rw [hls,take_at hck,List.map_append]
    rfl
   rintro σ' H3 ⟨x,y,ls,rfl,hB,hls,sm3⟩
   rw [List.length_map,← hcl,List.take_length] at hls
   refine ⟨D2,ls,rfl,SqL.of hB,_,_,rfl,rfl,?_⟩
   have:=hQ H3 sm3
   rw [hhv] at this
   rw [hls]
   exact this
end
end K54
set_option Elab.async false
set_option linter.all false
set_option maxRecDepth 100000
set_option maxHeartbeats 4000000
namespace K54
open PySem L2 PySem.W PH
section
variable {P:Program} {w:World} {K:PySem.W.Frag} {mg:Str -> Option Value} {base:Heap}
theorem sc_due:FnScope ["bits", "at", "products", "told", "counts", "many", "behind", "number", "bit"] ["bits", "at", "products"] (defScope s_due):=⟨rfl, rfl, rfl, by decide +kernel, rfl, by decide +kernel, by decide +kernel⟩
theorem ok_due {f c_Broken f_tbs f_many f_lwide f_lrow f_is:Addr} {fd d_tbs d_many d_lwide d_lrow d_is:FuncData} (F:Fun K "_law_due" "_law_due" s_due f fd) (B:Bls mg) 
  (G_tbs:FnOk P w K mg base (CXW P w) 5 f_tbs d_tbs ["counts", "number"] (spTbsF c_Broken)) (b_tbs:Binds K d_tbs ["counts", "number"] []) (k_tbs:keepIn K (.ref f_tbs) = true) (m_tbs:mg "text_by_share" = some (.ref f_tbs)) 
  (G_many:FnOk P w K mg base (CXW P w) 1 f_many d_many ["counts", "products"] (spMany)) (b_many:Binds K d_many ["counts", "products"] []) (k_many:keepIn K (.ref f_many) = true) (m_many:mg "_law_many" = some (.ref f_many)) 
  (G_lwide:FnOk P w K mg base (CXW P w) 1 f_lwide d_lwide ["number"] (spLWide)) (b_lwide:Binds K d_lwide ["number"] []) (k_lwide:keepIn K (.ref f_lwide) = true) (m_lwide:mg "_law_wide" = some (.ref f_lwide)) 
  (G_lrow:FnOk P w K mg base (CXW P w) 2 f_lrow d_lrow ["bits", "at"] (spLRow54)) (b_lrow:Binds K d_lrow ["bits", "at"] []) (k_lrow:keepIn K (.ref f_lrow) = true) (m_lrow:mg "_law_row" = some (.ref f_lrow)) 
  (G_is:FnOk P w K mg base (CXW P w) 1 f_is d_is ["counts"] (spIsW)) (b_is:Binds K d_is ["counts"] []) (k_is:keepIn K (.ref f_is) = true) (m_is:mg "_law_is" = some (.ref f_is)):FnOk P w K mg base (CXW P w) 6 f fd ["bits", "at", "products"] (spDue54):=by
 refine F.okN sc_due (fun vs H Q E h => ?_) (fun cdv A outer s H vs Q E hr h => ?_)
 ·obtain ⟨a,q,bs,i,rfl,_⟩:=h
  rfl
 ·obtain ⟨a,q,bs,i,rfl,ha,hq,hbits,hl,hi3,hN,hQ⟩:=h
  refine ⟨_,(pss_cons (ps_set (i:=3) sc_due.nd rfl (Or.inr rfl) (pe_call G_lrow (hr.mono (show 2 ≤ 5 by decide)) rfl m_lrow k_lrow b_lrow .nil passN (pa_cons (pv 0) (pa_cons (pv 1) pa_nil))))
   (pss_cons (ps_if (PW.pt (pw_or (pt_cmp (pc_isN (pv 3))) (pw_or1 (pt_cmpR op_eq (pe_op op_mod (pe_callB call_len_seq rfl B.len PySem.boot_len (pa_cons (pe_ix ix_tup (pv 3) pe_int (fun _ _ => rfl)) pa_nil)) pe_int) pe_int (nomark _)))))
    (pss_one (ps_ret pe_non))
    pss_nil)
   (pss_cons (ps_setC (iy:=4) (N:=["k", "told"]) (js:=[none, some 3]) (g:=(gName 0)) (tc:=tTrue) (te:=(tTup (tCons (tOp (rIxL K) (tOp (rIxT K) (tVar 1) (tC (.int 0))) (tVar 0)) (tCons (tOp (rIxL K) (tOp (rIxT K) (tVar 1) (tC (.int 0))) (tOp (rI0 fun i j => .int (i + j)) (tVar 0) (tC (.int 1)))) tNil)))) sc_due.nd rfl rfl rfl (comp_scope (osc:=defScope s_due) (XN:=["bits", "at", "products", "told", "counts", "many", "behind", "number", "bit"]) rfl rfl rfl (by decide +kernel)) (pi_range3 rfl B.range (pa_cons pe_int (pa_cons (pe_callB call_len_seq rfl B.len PySem.boot_len (pa_cons (pe_ix ix_tup (pv 3) pe_int (fun _ _ => rfl)) pa_nil)) (pa_cons pe_int pa_nil)))) (fun _ _ _ _ => pg_name (i:=0) (show (["k", "told"]:List Str).Nodup by decide +kernel) rfl (Or.inl rfl)) (fun _ _ _ _ => pif_nil) (fun _ _ _ _ => (pe_tup (pa_cons (pe_ix ix_list (pe_ix ix_tup (pv 1) pe_int (fun _ _ => rfl)) (pv 0) (fun _ _ => rfl)) (pa_cons (pe_ix ix_list (pe_ix ix_tup (pv 1) pe_int (fun _ _ => rfl)) (pe_op op_add (pv 0) pe_int) (fun _ _ => rfl)) pa_nil)))))
   (pss_cons (ps_if (pt_not (pt_val (pe_call G_is (hr.mono (show 1 ≤ 5 by decide)) rfl m_is k_is b_is .nil passN (pa_cons (pv 4) pa_nil))))
    (pss_one (ps_ret pe_non))
    pss_nil)
   (pss_cons (ps_set (i:=5) sc_due.nd rfl (Or.inl rfl) (pe_call G_many (hr.mono (show 1 ≤ 5 by decide)) rfl m_many k_many b_many .nil passN (pa_cons (pv 4) (pa_cons (pv 2) pa_nil))))
   (pss_cons (ps_set (i:=6) sc_due.nd rfl (Or.inl rfl) (pe_op op_add (pe_ix ix_tup (pv 3) pe_int (fun _ _ => rfl)) (pe_call G_lwide (hr.mono (show 1 ≤ 5 by decide)) rfl m_lwide k_lwide b_lwide .nil passN (pa_cons (pe_op op_sub (pv 5) pe_int) pa_nil))))
   (pss_cons (ps_if (pt_cmpR op_gt (pv 6) (pe_callB call_len_seq rfl B.len PySem.boot_len (pa_cons (pv 0) pa_nil)) (nomark _))
    (pss_one (ps_ret pe_non))
    pss_nil)
   (pss_cons (ps_set (i:=7) sc_due.nd rfl (Or.inl rfl) pe_int)
   (pss_cons (ps_for PassesOwn.never rfl (pi_list (pe_slice sl_list (pv 0) (po_some (pe_ix ix_tup (pv 3) pe_int (fun _ _ => rfl))) (po_some (pv 6)))) (pg_name (i:=8) sc_due.nd rfl (Or.inl rfl))
    (pss_one (ps_set (i:=7) sc_due.nd rfl (Or.inl rfl) (pe_op op_add (pe_op op_mul pe_int (pv 7)) (pv 8)))))
   (pss_cons (ps_if (pt_cmpR op_ge (pv 7) (pv 5) (nomark _))
    (pss_one (ps_ret pe_non))
    pss_nil)
   (pss_one (ps_ret (pe_tup (pa_cons (pe_call G_tbs hr rfl m_tbs k_tbs b_tbs .nil passN (pa_cons (pv 4) (pa_cons (pv 7) pa_nil))) (pa_cons (pv 6) pa_nil))))))))))))))),?_⟩
  try dsimp only
  refine sqMidY (fun σ' H' => ∃ v:V,σ' = [some (.ref a),some (.int (i:Nat)),some (.ref q),some v,none,none,none,none,none]∧Same H H'∧((v = .non∧readRow bs (i:Nat) = none) ∨ ∃ (t l:Addr) (ns:List Int) (b:Nat),v = .ref t∧readRow bs (i:Nat) = some (ns,b)∧H' l = some (lsI ns)∧H' t = some (.tup [.ref l,.int (b:Nat)]))) ?_ ?_
  rotate_left
  ·intro N hNx
   exact ⟨_,rfl,_,rfl,a,bs,i,rfl,ha,hbits,hl,hi3,(fun h H' s => hNx _ _ ⟨_,rfl,s,.inl ⟨rfl,h⟩⟩),fun ns b h t l H' s _ hl' ht => hNx _ _ ⟨_,rfl,s,.inr ⟨t,l,ns,b,rfl,h,hl',ht⟩⟩⟩
  rintro σ' H1 ⟨v,rfl,s1,hv⟩
  rcases hv with ⟨rfl,hno⟩ | ⟨t,l,ns,b,rfl,hr,hl1,ht1⟩
  ·refine ⟨_,rfl,_,rfl,?_⟩
   refine iteT (iteT ?_)
   exact hN (by unfold rdS; rw [hno]) H1 s1
  obtain ⟨i0,ib,hbl,hn0,hrow⟩:=readRow_back hbits hr
  have hnl:ns.length ≤ 20000:=by
   have h1:=(flatb_ge hn0).1
   have h2:=congrArg List.length hrow
   unfold rowb at h2
   rw [List.length_append,List.length_take,List.length_drop] at h2
   trivial
  have eS:rdS bs (i:Nat) = (if ns.length % 2 = 1 then none else if haveT (prd ns) = false then none else
   if bs.length < b + enough (mlt 1 0 (tms (prd ns))) then none else
   if (mlt 1 0 (tms (prd ns)):Int) ≤ worth ((bs.drop b).take (enough (mlt 1 0 (tms (prd ns))))) then none else
   some (txN (prd ns) (worth ((bs.drop b).take (enough (mlt 1 0 (tms (prd ns)))))).toNat,b + enough (mlt 1 0 (tms (prd ns))))):=by unfold rdS; rw [hr]
  rw [eS] at hN hQ
  refine ⟨_,rfl,_,rfl,?_⟩
  refine iteF ?_
  refine ⟨_,rfl,t,_,0,_,rfl,rfl,SqT.of ht1,rfl,l,_,rfl,.inl (SqL.of hl1),_,_,rfl,rfl,(by show (0:Int) < 2; decide),rfl,_,rfl,?_⟩
  rw [List.length_map]
  rcases Nat.mod_two_eq_zero_or_one ns.length with h2 | h2
  rotate_left
  ·rw [decide_eq_true (show V.int (((ns.length:Nat):Int) % 2) = V.int 1 from congrArg V.int (by trivial))]
   refine iteT ?_
   exact hN (by rw [if_pos h2]) H1 s1
  rw [decide_eq_false (show ¬ V.int (((ns.length:Nat):Int) % 2) = V.int 1 from fun z => by have:=V.int.inj z; trivial)]
  refine iteF ?_
  have n2:¬ ns.length % 2 = 1:=by trivial
  rw [if_neg n2] at hN hQ
  refine ⟨_,rfl,t,_,0,_,rfl,rfl,SqT.of ht1,rfl,l,_,rfl,.inl (SqL.of hl1),0,((ns.length:Nat):Int),2,by rw [List.length_map],⟨by decide,by decide⟩,small_step (by decide) (by decide) (by trivial) (by trivial) (by decide) (by decide),fun D hD => ?_⟩
  rw [rsz_two h2]
  refine comp_rngSQ (fun i σ' H' => ∃ (v:Option V) (zs:List (Addr × Int × Int)),σ' = [v,some (.ref t)]∧Prs H' D zs∧zs.map (·.2) = (prd ns).take i∧(∀ z ∈ zs,z.1 ≠ D)∧Same H1 H')
   ⟨none,[],rfl,⟨upd_same,(fun _ z => by cases z)⟩,by rw [List.take_zero]; rfl,(fun _ z => by cases z),same_new hD _⟩ ?_ ?_
  ·rintro i σ' H' hi ⟨v,zs,rfl,prs,hzs,hzD,sm⟩
   rw [show (0:Int) + (i:Int) * 2 = ((2 * i:Nat):Int) by trivial]
   obtain ⟨x,hx⟩:∃ x,ns[2 * i]? = some x:=⟨_,List.getElem?_eq_getElem (by trivial)⟩
   obtain ⟨y,hy⟩:∃ x,ns[2 * i + 1]? = some x:=⟨_,List.getElem?_eq_getElem (by trivial)⟩
   have ha':=sm _ _ hl1
   have hzl:zs.length = i:=by
    have:=congrArg List.length hzs
    rw [List.length_map,List.length_take,prd_len] at this
    trivial
   have hpk:(prd ns)[i]? = some (x,y):=by
    unfold prd
    rw [List.getElem?_map,List.getElem?_range (by trivial),Option.map_some,getD_at hx,getD_at hy]
   refine nameT ?_
   have ht':=sm _ _ ht1
   refine ⟨_,rfl,t,_,0,_,rfl,rfl,SqT.of ht',rfl,_,rfl,l,_,_,_,rfl,rfl,SqL.of ha',at_ints hx,_,rfl,t,_,0,_,rfl,rfl,SqT.of ht',rfl,_,rfl,_,_,rfl,rfl,l,_,((2 * i + 1:Nat):Int),_,rfl,rfl,SqL.of ha',at_ints hy,(by show 2 ≤ sizeLine; decide),fun t htf => ?_⟩
   have ntD:t ≠ D:=(ne_of_none prs.at_ htf).symm
   refine ⟨D,_,_,rfl,rfl,(same_new htf _) _ _ prs.at_,fits_lt (by rw [List.length_map]; trivial),?_⟩
   have st:=same_new htf (.tup [.int x,.int y])
   refine CW.next hi ⟨_,zs ++ [(t,x,y)],rfl,⟨?_,fun z hz => ?_⟩,?_,fun z hz => ?_,?_⟩
   ·rw [upd_same,List.map_append]; rfl
   ·rcases List.mem_append.mp hz with hz | hz
    ·rw [upd_ne (hzD z hz)]; exact st _ _ (prs.each z hz)
    ·have:z = (t,x,y):=by simpa using hz
     subst this
     rw [upd_ne ntD,upd_same]
   ·rw [List.map_append,hzs,take_at hpk]; rfl
   ·rcases List.mem_append.mp hz with hz | hz
    ·exact hzD z hz
    ·have:z = (t,x,y):=by simpa using hz
     subst this
     exact ntD
   ·exact same_upd (sm.trans st) _ hD
  rintro σ' H2 ⟨v,zs,rfl,prZ,hzs,hzD,s2⟩
  rw [List.take_of_length_le (by rw [prd_len]; trivial)] at hzs
  have hzl:zs.length ≤ 20000:=by
   have:=congrArg List.length hzs
   rw [List.length_map,prd_len] at this
   trivial
  have t2:=s1.trans s2
  refine ⟨_,rfl,D,zs,rfl,prZ,hzl,fun H3 s3 => ⟨_,rfl,?_⟩⟩
  rw [hzs]
  have t3:=t2.trans s3
  cases hh:haveT (prd ns) with
  | false =>
   refine iteT ?_
   exact hN (by rw [if_pos hh]) H3 t3
  | true =>
   refine iteF ?_
   rw [if_neg (by rw [hh]; decide)] at hN hQ
   obtain ⟨hri,hsu⟩:=have_of hh
   have hm1:1 ≤ mlt 1 0 (tms (prd ns)):=by rw [← tx_flat hri]; exact tx_pos _
   have hmlt:=mlt_lt hri hsu
   have hz3:zs.length ≤ 256:=by have:=have_len hh; rw [← hzs,List.length_map] at this; exact this
   have prZ3:=prZ.same s3
   refine ⟨_,rfl,_,rfl,D,q,zs,rfl,prZ3,t3 _ _ hq,by trivial,by rw [hzs]; exact hri.ge,by rw [hzs]; exact hsu,fun H4 s4 => ?_⟩
   rw [hzs]
   generalize hM:mlt 1 0 (tms (prd ns)) = M at hm1 hmlt hN hQ ⊢
   have t4:=t3.trans s4
   have ht4:=(s2.trans (s3.trans s4)) _ _ ht1
   refine ⟨_,rfl,t,_,1,_,rfl,rfl,SqT.of ht4,rfl,_,rfl,_,_,rfl,rfl,M - 1,congrArg (fun y => [V.int y]) (by trivial),by trivial,?_⟩
   rw [enough_nat hm1]
   refine ⟨_,_,rfl,rfl,?_⟩
   refine gNx (v':=V.int ((b + enough M:Nat):Int)) (by rfl) ?_
   have ha4:=t4 _ _ ha
   refine ⟨_,rfl,_,rfl,a,_,rfl,.inl (SqL.of ha4),_,_,rfl,rfl,_,rfl,?_⟩
   rw [List.length_map]
   by_cases hlen:bs.length < b + enough M
   ·rw [decide_eq_true (show ((bs.length:Nat):Int) < ((b + enough M:Nat):Int) by trivial)]
    refine iteT ?_
    exact hN (by rw [if_pos hlen]) _ t4
   rw [decide_eq_false (show ¬ ((bs.length:Nat):Int) < ((b + enough M:Nat):Int) by trivial)]
   rw [if_neg hlen] at hN hQ
   refine iteF ?_
   refine ⟨_,rfl,_,rfl,t,_,1,_,rfl,rfl,SqT.of ht4,rfl,_,rfl,_,rfl,_,rfl,a,_,rfl,SqL.of ha4,fun W hW => ?_⟩
   have ec:HO.lst (cutV (bs.map V.int) (some (b:Int)) (some ((b + enough M:Nat):Int))) = lsI ((bs.drop b).take (enough M)):=by rw [cut_two,show b + enough M - b = enough M by trivial]; rfl
   try dsimp -proj only
   rw [ec]
   have w0:=(worth_bound (bs:=(bs.drop b).take (enough M)) (isBits_take (isBits_drop hbits _) _)).1
   generalize (bs.drop b).take (enough M) = ws at w0 hN hQ ⊢
   have u5:=same_new hW (lsI ws)
   have e5:upd H4 W (lsI ws) W = some (lsI ws):=upd_same
   generalize upd H4 W (lsI ws) = H5 at u5 e5 ⊢
   have t5:=t4.trans u5
   refine ⟨W,rfl,⟨_,SqL.of e5⟩,for_list (K:=K) (a:=W) (xs:=ws.map V.int) (fun k σ H2 => ∃ (v8:Option V),σ = [some (.ref a),some (.int (i:Nat)),some (.ref q),some (.ref t),some (.ref D),some (.int (M:Nat)),some (.int ((b + enough M:Nat):Int)),some (.int (worth (ws.take k))),v8]∧H2 = H5)
    ⟨none,by rw [List.take_zero]; rfl,rfl⟩ (fun k σ H2 _ ⟨_,_,e⟩ => by rw [e]; exact SqL.of e5) ?_ ?_⟩
   ·rintro k y σ H2 hk ⟨v4,rfl,rfl⟩
    obtain ⟨z,rfl,hz⟩:=int_at hk
    refine ⟨_,rfl,_,_,rfl,rfl,.inl ⟨by trivial,by trivial⟩,_,rfl,_,_,rfl,rfl,?_⟩
    refine ⟨some (.int z),?_,rfl⟩
    rw [take_at hz,worth_snoc,show worth (ws.take k) + worth (ws.take k) + z = 2 * worth (ws.take k) + z by trivial]
    rfl
   rintro σ H6 ⟨v8,rfl,rfl⟩
   rw [List.length_map,List.take_length]
   refine ⟨_,rfl,_,rfl,_,_,rfl,rfl,_,rfl,?_⟩
   by_cases hw:(M:Int) ≤ worth ws
   ·rw [decide_eq_true hw]
    refine iteT ?_
    exact hN (by rw [if_pos hw]) _ t5
   rw [decide_eq_false hw]
   rw [if_neg hw] at hQ
   refine iteF ?_
   refine ⟨_,rfl,_,rfl,D,zs,worth ws,rfl,prZ3.same (s4.trans u5),hzl,(fun hbad => ?_),fun _ _ _ X H7 s7 hXn hX => ?_⟩
   ·rw [hzs,hM] at hbad
    rcases hbad with h | h | h
    ·rw [hh] at h; cases h
    ·trivial
    ·trivial
   ·rw [hzs] at hX
    refine ⟨_,rfl,(by show 2 ≤ sizeLine; decide),fun T hT => ?_⟩
    have u8:=same_new hT (.tup [.ref X,.int ((b + enough M:Nat):Int)])
    exact hQ _ _ rfl T X _ (t5.trans (s7.trans u8)) (u8 _ _ hX) upd_same
end
end K54
set_option Elab.async false
set_option linter.all false
set_option maxRecDepth 100000
set_option maxHeartbeats 4000000
namespace K54
open PySem L2 PySem.W PH
section
variable {P:Program} {w:World} {K:PySem.W.Frag} {mg:Str -> Option Value} {base:Heap}
theorem sc_lrd:FnScope ["bits", "at", "caught", "found", "e", "whole", "kinds"] ["bits", "at"] (defScope s_lrd):=⟨rfl, rfl, rfl, by decide +kernel, rfl, by decide +kernel, by decide +kernel⟩
theorem ok_lrd {f c_Broken c_NoCode c_NoName c_NoNumber c_NoPlace c_NoRow c_NoText c_PackError f_rds:Addr} {fd d_rds:FuncData} (F:Fun K "_law_read" "_law_read" s_lrd f fd) (B:Bls mg) (X_Broken:Ex K mg "Broken" c_Broken) (X_PackError:Ex K mg "PackError" c_PackError) (m_Broken:mg "Broken" = some (.ref c_Broken)) (m_NoCode:mg "NoCode" = some (.ref c_NoCode)) (m_NoName:mg "NoName" = some (.ref c_NoName)) (m_NoNumber:mg "NoNumber" = some (.ref c_NoNumber)) (m_NoPlace:mg "NoPlace" = some (.ref c_NoPlace)) (m_NoRow:mg "NoRow" = some (.ref c_NoRow)) (m_NoText:mg "NoText" = some (.ref c_NoText)) (m_PackError:mg "PackError" = some (.ref c_PackError)) (r_Broken:ExR K c_PackError c_Broken c_NoCode c_NoName c_NoNumber c_NoPlace c_NoRow c_NoText) (k_Broken:ExK K c_Broken c_NoNumber c_NoPlace c_NoCode c_NoName c_NoRow c_NoText) 
  (G_rds:FnOk P w K mg base (CXW P w) 6 f_rds d_rds ["bits", "at"] (spRdS c_Broken)) (b_rds:Binds K d_rds ["bits", "at"] []) (k_rds:keepIn K (.ref f_rds) = true) (m_rds:mg "read_share" = some (.ref f_rds)):FnOk P w K mg base (CXW P w) 7 f fd ["bits", "at"] (spLRd54):=by
 refine F.okN sc_lrd (fun vs H Q E h => ?_) (fun cdv A outer s H vs Q E hr h => ?_)
 ·obtain ⟨a,bs,i,rfl,_⟩:=h
  rfl
 ·obtain ⟨a,bs,i,rfl,ha,hbits,hl,hi6,hN,hQ⟩:=h
  refine ⟨_,(pss_cons (ps_set (i:=2) sc_lrd.nd rfl (Or.inl rfl) pe_non)
   (pss_cons (ps_set (i:=3) sc_lrd.nd rfl (Or.inl rfl) pe_non)
   (pss_cons (ps_try (i:=4) (tb:=fun E' => tAsg (tCall (spRdS c_Broken) [] E' (tCons (tVar 0) (tCons (tVar 1) tNil))) (gName 3)) rfl rfl sc_lrd.nd rfl rfl rfl X_PackError.mg X_PackError.cl
    (fun pins σ xe' E' hp => psa_set (i:=3) sc_lrd.nd rfl (Or.inl rfl) (pea_call G_rds hr rfl m_rds k_rds b_rds .nil hp (pa_cons (pv 0) (pa_cons (pv 1) pa_nil))))
    (fun a => (pss_one (ps_set (i:=2) sc_lrd.nd rfl (Or.inl rfl) (pv 4)))))
   (pss_cons (ps_if (pt_cmp (pc_isN (pv 2)))
    (pss_cons (ps_set (i:=5) sc_lrd.nd rfl (Or.inl rfl) (pe_op op_cat (pe_ix ix_tup (pv 3) pe_int (fun _ _ => rfl)) (pe_lst (pa_cons (pe_ix ix_tup (pv 3) pe_int (fun _ _ => rfl)) pa_nil))))
    (pss_one (ps_ret (pe_ix ix_list (pe_lst (pa_cons (pv 3) (pa_cons pe_bl pa_nil))) (pe_callTy call_int1 rfl B.int boot_int' (pa_cons (pe_cmpR (op_neL (units_of hr)) (pe_comp (N:=["one"]) (js:=[none]) (g:=(gName 0)) (tc:=(tOr (tNot (tB (tCB (rIsi K) (tCons (tVar 0) (tCons (tC (.ty "int")) tNil))))) (tB (tCB (rIsi K) (tCons (tVar 0) (tCons (tC (.ty "bool")) tNil)))))) (te:=(tVar 0)) rfl (comp_scope (osc:=defScope s_lrd) (XN:=["bits", "at", "caught", "found", "e", "whole", "kinds"]) rfl rfl rfl (by decide +kernel)) (pi_list (pv 5)) (fun _ _ _ _ => pg_name (i:=0) (show (["one"]:List Str).Nodup by decide +kernel) rfl (Or.inl rfl)) (fun _ _ _ _ => (pif_one (PW.pt (pw_or (pt_not (pt_val (pe_callB (r:=rIsi K) call_isi rfl B.isi boot_isi (pa_cons (pv 0) (pa_cons (pe_bltn (v:=.ty "int") rfl B.int boot_int' rfl) pa_nil))))) (pw_or1 (pt_val (pe_callB (r:=rIsi K) call_isi rfl B.isi boot_isi (pa_cons (pv 0) (pa_cons (pe_bltn (v:=.ty "bool") rfl B.bool boot_bool' rfl) pa_nil))))))))) (fun _ _ _ _ => (pv 0))) (pe_lst pa_nil) (nomark _)) pa_nil)) (fun _ _ => rfl)))))
    pss_nil)
   (pss_cons (ps_set (i:=6) sc_lrd.nd rfl (Or.inl rfl) (pe_lst (pa_cons (pe_callB (r:=rIsi K) call_isi rfl B.isi boot_isi (pa_cons (pv 2) (pa_cons (pe_glob (v:=.ref c_NoCode) rfl m_NoCode rfl) pa_nil))) (pa_cons (pe_callB (r:=rIsi K) call_isi rfl B.isi boot_isi (pa_cons (pv 2) (pa_cons (pe_glob (v:=.ref c_NoName) rfl m_NoName rfl) pa_nil))) (pa_cons (pe_callB (r:=rIsi K) call_isi rfl B.isi boot_isi (pa_cons (pv 2) (pa_cons (pe_glob (v:=.ref c_NoNumber) rfl m_NoNumber rfl) pa_nil))) pa_nil)))))
   (pss_cons (ps_set (i:=6) sc_lrd.nd rfl (Or.inl rfl) (pe_op op_cat (pv 6) (pe_lst (pa_cons (pe_callB (r:=rIsi K) call_isi rfl B.isi boot_isi (pa_cons (pv 2) (pa_cons (pe_glob (v:=.ref c_NoPlace) rfl m_NoPlace rfl) pa_nil))) (pa_cons (pe_callB (r:=rIsi K) call_isi rfl B.isi boot_isi (pa_cons (pv 2) (pa_cons (pe_glob (v:=.ref c_NoRow) rfl m_NoRow rfl) pa_nil))) (pa_cons (pe_callB (r:=rIsi K) call_isi rfl B.isi boot_isi (pa_cons (pv 2) (pa_cons (pe_glob (v:=.ref c_NoText) rfl m_NoText rfl) pa_nil))) pa_nil))))))
   (pss_one (ps_ret (pe_and (pe_callB (r:=rIsi K) call_isi rfl B.isi boot_isi (pa_cons (pv 2) (pa_cons (pe_glob (v:=.ref c_Broken) rfl m_Broken rfl) pa_nil))) (pe_and (pe_callB (r:=rIsi K) call_isi rfl B.isi boot_isi (pa_cons (pv 2) (pa_cons (pe_bltn (v:=.ty "ValueError") rfl B.ve boot_VE rfl) pa_nil))) (pe_one (pe_cmpR op_notIn_seq pe_bl (pv 6) (by with_unfolding_all rfl))))))))))))), ?_⟩
  refine ⟨_,rfl,_,rfl,a,bs,i,rfl,ha,hbits,hl,hi6,(fun hno H1 s1 => ?_),fun t e hr T L H1 s1 hLn hL hT => ?_⟩
  ·refine ⟨c_Broken,rfl,X_Broken.cl,r_Broken.m,fun x hx => ?_⟩
   have s3:=s1.trans (same_new hx (excO x c_Broken))
   have hxx:upd H1 x (excO x c_Broken) x = some (excO x c_Broken):=upd_same
   generalize upd H1 x (excO x c_Broken) = H3 at s3 hxx ⊢
   refine ⟨_,rfl,?_⟩
   refine ⟨_,rfl,_,rfl,?_⟩
   refine iteF ?_
   refine ⟨_,rfl,_,_,_,_,false,rfl,.exc X_Broken.cl hxx,rfl,k_Broken.k3,_,rfl,_,_,_,_,false,rfl,.exc X_Broken.cl hxx,rfl,k_Broken.k4,_,rfl,_,_,_,_,false,rfl,.exc X_Broken.cl hxx,rfl,k_Broken.k1,(by show 3 ≤ sizeLine; decide),fun l1 hl1 => ?_⟩
   have s4:=same_new hl1 (.lst [V.bl false,.bl false,.bl false])
   have e1:upd H3 l1 (.lst [V.bl false,.bl false,.bl false]) l1 = some (.lst [V.bl false,.bl false,.bl false]):=upd_same
   have hx4:=s4 _ _ hxx
   generalize upd H3 l1 (.lst [V.bl false,.bl false,.bl false]) = H4 at s4 e1 hx4 ⊢
   refine ⟨_,rfl,_,rfl,_,_,_,_,false,rfl,.exc X_Broken.cl hx4,rfl,k_Broken.k2,_,rfl,_,_,_,_,false,rfl,.exc X_Broken.cl hx4,rfl,k_Broken.k5,_,rfl,_,_,_,_,false,rfl,.exc X_Broken.cl hx4,rfl,k_Broken.k6,(by show 3 ≤ sizeLine; decide),fun l2 hl2 => ?_⟩
   have s5:=same_new hl2 (.lst [V.bl false,.bl false,.bl false])
   have e2:upd H4 l2 (.lst [V.bl false,.bl false,.bl false]) l2 = some (.lst [V.bl false,.bl false,.bl false]):=upd_same
   have hx5:=s5 _ _ hx4
   generalize upd H4 l2 (.lst [V.bl false,.bl false,.bl false]) = H5 at s5 e2 hx5 ⊢
   refine ⟨l1,l2,_,_,rfl,rfl,s5 _ _ e1,e2,(by show 6 ≤ sizeLine; decide),fun D hD => ?_⟩
   have s6:=same_new hD (.lst ([V.bl false,.bl false,.bl false] ++ [V.bl false,.bl false,.bl false]))
   have e3:upd H5 D (.lst ([V.bl false,.bl false,.bl false] ++ [V.bl false,.bl false,.bl false])) D = some (.lst [V.bl false,.bl false,.bl false,.bl false,.bl false,.bl false]):=upd_same
   have hx6:=s6 _ _ hx5
   generalize upd H5 D (.lst ([V.bl false,.bl false,.bl false] ++ [V.bl false,.bl false,.bl false])) = H6 at s6 e3 hx6 ⊢
   refine ⟨_,rfl,_,_,_,_,true,rfl,.exc X_Broken.cl hx6,rfl,kit_refl _ _,_,rfl,?_⟩
   refine iteT ?_
   refine ⟨_,rfl,_,_,_,_,true,rfl,.exc X_Broken.cl hx6,rfl,r_Broken.v,_,rfl,?_⟩
   refine iteT ?_
   refine ⟨_,rfl,D,_,rfl,.inl (SqL.of e3),rfl,rfl,?_⟩
   exact hN hno _ (s3.trans (s4.trans (s5.trans s6)))
  ·obtain ⟨htb,htl,hel⟩:=rdS_some hbits hr
   refine ⟨_,rfl,_,rfl,?_⟩
   refine iteT ?_
   refine ⟨_,rfl,T,_,0,_,rfl,rfl,SqT.of hT,rfl,_,rfl,T,_,1,_,rfl,rfl,SqT.of hT,rfl,(by show 1 ≤ sizeLine; decide),fun l1 hl1 => ?_⟩
   have u2:=same_new hl1 (.lst [V.int (e:Nat)])
   have e2:upd H1 l1 (.lst [V.int (e:Nat)]) l1 = some (lsI [((e:Nat):Int)]):=upd_same
   generalize upd H1 l1 (.lst [V.int (e:Nat)]) = H2 at u2 e2 ⊢
   refine ⟨L,l1,_,_,rfl,rfl,u2 _ _ hL,e2,fits (by rw [List.length_map]; show _ + 1 ≤ _; trivial),fun W hW => ?_⟩
   rw [lsI_app]
   have u3:=same_new hW (lsI (t ++ [((e:Nat):Int)]))
   have e3:upd H2 W (lsI (t ++ [((e:Nat):Int)])) W = some (lsI (t ++ [((e:Nat):Int)])):=upd_same
   generalize upd H2 W (lsI (t ++ [((e:Nat):Int)])) = H3 at u3 e3 ⊢
   refine ⟨_,rfl,(by show 2 ≤ sizeLine; decide),fun l4 hl4 => ?_⟩
   have u4:=same_new hl4 (.lst [V.ref T,V.bl false])
   have e4:upd H3 l4 (.lst [V.ref T,V.bl false]) l4 = some (.lst [V.ref T,V.bl false]):=upd_same
   generalize upd H3 l4 (.lst [V.ref T,V.bl false]) = H4 at u4 e4 ⊢
   have e34:=u4 _ _ e3
   refine ⟨_,rfl,W,rfl,⟨_,SqL.of e34⟩,fun D1 hD1 => ?_⟩
   refine comp_lstQ (K:=K) (a:=W) (xs:=(t ++ [((e:Nat):Int)]).map V.int) (fun i σ' H' => ∃ (v0:Option V),σ' = [v0]∧H' D1 = some (lsI [])∧Same H4 H')
    ⟨none,rfl,upd_same,same_new hD1 _⟩ (fun i σ' H' _ ⟨_,_,_,e⟩ => SqL.of (e _ _ e34)) ?_ ?_
   ·rintro i v σ' H' hi ⟨v0,rfl,hD',sm⟩
    have hlt:=(List.getElem?_eq_some_iff.mp hi).1
    obtain ⟨z,rfl,hz⟩:=int_at hi
    refine ⟨_,rfl,_,_,_,_,true,rfl,.of (.int _),rfl,kit_refl _ _,_,rfl,?_⟩
    refine iteF ?_
    refine ⟨_,rfl,_,_,_,_,false,rfl,.of (.int _),rfl,kit_ib _,_,rfl,?_⟩
    refine iteF ?_
    exact CW.next hlt ⟨_,rfl,hD',sm⟩
   rintro σ' H5 ⟨v0,rfl,hD5,s5⟩
   refine ⟨(by show 0 ≤ sizeLine; decide),fun e0 he0 => ?_⟩
   have ue:=same_new he0 (.lst [])
   have ee:upd H5 e0 (.lst []) e0 = some (lsI []):=upd_same
   generalize upd H5 e0 (.lst []) = H6 at ue ee ⊢
   refine ⟨D1,e0,[],[],rfl,rfl,SqL.of (ue _ _ hD5),SqL.of ee,.inr ⟨_,rfl,?_⟩⟩
   have t16:=u2.trans (u3.trans (u4.trans (s5.trans ue)))
   refine ⟨l4,_,_,_,rfl,rfl,SqL.of ((s5.trans ue) _ _ e4),rfl,?_⟩
   exact hQ t e hr T L H6 (s1.trans t16) (t16 _ _ hL) (t16 _ _ hT)
end
end K54
set_option Elab.async false
set_option linter.all false
set_option maxRecDepth 100000
set_option maxHeartbeats 4000000
namespace K54
open PySem L2 PySem.W PH
section
variable {P:Program} {w:World} {K:PySem.W.Frag} {mg:Str -> Option Value} {base:Heap}
theorem sc_bent:FnScope ["bits", "pool", "at", "bit", "way"] ["bits", "pool"] (defScope s_bent):=⟨rfl, rfl, rfl, by decide +kernel, rfl, by decide +kernel, by decide +kernel⟩
theorem ok_bent {f f_take:Addr} {fd d_take:FuncData} (F:Fun K "_law_bent" "_law_bent" s_bent f fd) (B:Bls mg) 
  (G_take:FnOk P w K mg base (CXW P w) 1 f_take d_take ["pool", "many"] (spTake)) (b_take:Binds K d_take ["pool", "many"] []) (k_take:keepIn K (.ref f_take) = true) (m_take:mg "_law_take" = some (.ref f_take)):FnOk P w K mg base (CXW P w) 2 f fd ["bits", "pool"] (spBent):=by
 refine F.okN sc_bent (fun vs H Q E h => ?_) (fun cdv A outer s H vs Q E hr h => ?_)
 ·obtain ⟨a,p,n,bs,rfl,_⟩:=h
  rfl
 ·obtain ⟨a,p,n,bs,rfl,nap,ha,hbits,hbl,pl,hn,hQ⟩:=h
  refine ⟨_,(pss_cons (ps_set (i:=2) sc_bent.nd rfl (Or.inl rfl) (pe_call G_take hr rfl m_take k_take b_take .nil passN (pa_cons (pv 1) (pa_cons (pe_op op_add (pe_callB call_len_seq rfl B.len PySem.boot_len (pa_cons (pv 0) pa_nil)) pe_int) pa_nil))))
   (pss_cons (ps_set (i:=3) sc_bent.nd rfl (Or.inl rfl) (pe_call G_take hr rfl m_take k_take b_take .nil passN (pa_cons (pv 1) (pa_cons pe_int pa_nil))))
   (pss_cons (ps_set (i:=4) sc_bent.nd rfl (Or.inl rfl) (pe_call G_take hr rfl m_take k_take b_take .nil passN (pa_cons (pv 1) (pa_cons pe_int pa_nil))))
   (pss_cons (ps_if (pt_cmpR op_eq (pv 4) pe_int (nomark _))
    (pss_one (ps_ret (pe_op op_cat (pe_op op_cat (pe_slice sl_list (pv 0) po_none (po_some (pv 2))) (pe_lst (pa_cons (pv 3) pa_nil))) (pe_slice sl_list (pv 0) (po_some (pv 2)) po_none))))
    pss_nil)
   (pss_cons (ps_if (pt_cmpR op_eq (pv 4) pe_int (nomark _))
    (pss_one (ps_ret (pe_op op_cat (pe_slice sl_list (pv 0) po_none (po_some (pv 2))) (pe_slice sl_list (pv 0) (po_some (pe_op op_add (pv 2) pe_int)) po_none))))
    pss_nil)
   (pss_cons (ps_if (pt_cmpR op_eq (pv 4) pe_int (nomark _))
    (pss_one (ps_ret (pe_op op_cat (pe_op op_cat (pe_slice sl_list (pv 0) po_none (po_some (pv 2))) (pe_comp (N:=["one"]) (js:=[none]) (g:=(gName 0)) (tc:=tTrue) (te:=(tOp (rI0 fun i j => .int (i - j)) (tC (.int 1)) (tVar 0))) rfl (comp_scope (osc:=defScope s_bent) (XN:=["bits", "pool", "at", "bit", "way"]) rfl rfl rfl (by decide +kernel)) (pi_list (pe_slice sl_list (pv 0) (po_some (pv 2)) (po_some (pe_op op_add (pv 2) pe_int)))) (fun _ _ _ _ => pg_name (i:=0) (show (["one"]:List Str).Nodup by decide +kernel) rfl (Or.inl rfl)) (fun _ _ _ _ => pif_nil) (fun _ _ _ _ => (pe_op op_sub pe_int (pv 0))))) (pe_slice sl_list (pv 0) (po_some (pe_op op_add (pv 2) pe_int)) po_none))))
    pss_nil)
   (pss_cons (ps_if (pt_cmpR op_eq (pv 4) pe_int (nomark _))
    (pss_one (ps_ret (pe_slice sl_list (pv 0) po_none (po_some (pv 2)))))
    pss_nil)
   (pss_one (ps_ret (pe_comp (N:=["k", "pool"]) (js:=[none, some 1]) (g:=(gName 0)) (tc:=tTrue) (te:=(tCB rInt1 (tCons (tOp rEq (tCall (spTake) [] E0 (tCons (tVar 1) (tCons (tC (.int 3)) tNil))) (tC (.int 0))) tNil))) rfl (comp_scope (osc:=defScope s_bent) (XN:=["bits", "pool", "at", "bit", "way"]) rfl rfl rfl (by decide +kernel)) (pi_range1 rfl B.range (pa_cons (pe_call G_take hr rfl m_take k_take b_take .nil passN (pa_cons (pv 1) (pa_cons pe_int pa_nil))) pa_nil)) (fun _ _ _ _ => pg_name (i:=0) (show (["k", "pool"]:List Str).Nodup by decide +kernel) rfl (Or.inl rfl)) (fun _ _ _ _ => pif_nil) (fun _ _ _ _ => (pe_callTy call_int1 rfl B.int boot_int' (pa_cons (pe_cmpR op_eq (pe_call G_take hr rfl m_take k_take b_take .nil passN (pa_cons (pv 1) (pa_cons pe_int pa_nil))) pe_int (nomark _)) pa_nil))))))))))))), ?_⟩
  refine ⟨_,rfl,_,rfl,a,_,rfl,.inl (SqL.of ha),_,_,rfl,rfl,p,n,((bs.length:Nat):Int) + 1,by rw [List.length_map]; rfl,pl,by trivial,by trivial,by trivial,fun k0 H1 k00 k01 pl1 kb1 => ?_⟩
  obtain ⟨k,rfl⟩:∃ k:Nat,k0 = (k:Int):=⟨k0.toNat,by trivial⟩
  have hkl:k ≤ bs.length:=by trivial
  refine ⟨_,rfl,p,n + 1,2,rfl,pl1,(by trivial),(by decide),(by decide),fun bt H2 bt0 bt1 pl2 kb2 => ?_⟩
  refine ⟨_,rfl,p,n + 1 + 1,5,rfl,pl2,(by trivial),(by decide),(by decide),fun w H3 w0 w1 pl3 kb3 => ?_⟩
  have kb3:=kb1.trans (kb2.trans kb3)
  have ha3:=kb3 _ _ nap ha
  have fin:∀ (L:Addr) (rs:List Int) (H':Hp),Same H3 H' -> H3 L = none -> H' L = some (lsI rs) -> isBits rs -> rs.length ≤ 15100 -> Q (.ref L) H':=fun L rs H' s hLn hL hb hl' =>
   hQ L rs H' (kb3.trans (Kb.of s)) ((pl3.same s).mono (by trivial)) (kb3.free' pl3 hLn) hL hb hl'
  have btk:=isBits_take hbits k
  have bdr:=isBits_drop hbits
  have ltk:(bs.take k).length = k:=by rw [List.length_take]; trivial
  have ldr:∀ j,(bs.drop j).length = bs.length - j:=fun j => List.length_drop
  refine ⟨_,rfl,rfl,_,rfl,?_⟩
  refine ite2 (fun c => ?_) (fun c => ?_)
  ·clear c
   refine ⟨_,rfl,_,rfl,_,rfl,a,_,rfl,SqL.of ha3,fun q1 hq1 => ?_⟩
   have ecq1:HO.lst (cutV (bs.map V.int) none (some ((k:Nat):Int))) = lsI (bs.take k):=by rw [cut_to (α:=Int)]; rfl
   try dsimp -proj only
   rw [ecq1]
   have uq1:=same_new hq1 (lsI (bs.take k))
   have eq1:upd H3 q1 (lsI (bs.take k)) q1 = some (lsI (bs.take k)):=upd_same
   generalize upd H3 q1 (lsI (bs.take k)) = H4 at uq1 eq1 ⊢
   refine ⟨_,rfl,(by show 1 ≤ sizeLine; decide),fun q2 hq2 => ?_⟩
   have uq2:=same_new hq2 (.lst [V.int bt])
   have eq2:upd H4 q2 (.lst [V.int bt]) q2 = some (lsI [bt]):=upd_same
   generalize upd H4 q2 (.lst [V.int bt]) = H5 at uq2 eq2 ⊢
   refine ⟨q1,q2,_,_,rfl,rfl,uq2 _ _ eq1,eq2,fits (by rw [List.length_map]; show _ + 1 ≤ _; trivial),fun q3 hq3 => ?_⟩
   rw [lsI_app]
   have uq3:=same_new hq3 (lsI (bs.take k ++ [bt]))
   have eq3:upd H5 q3 (lsI (bs.take k ++ [bt])) q3 = some (lsI (bs.take k ++ [bt])):=upd_same
   generalize upd H5 q3 (lsI (bs.take k ++ [bt])) = H6 at uq3 eq3 ⊢
   have t6:=uq1.trans (uq2.trans uq3)
   refine ⟨_,rfl,_,rfl,_,rfl,a,_,rfl,SqL.of (t6 _ _ ha3),fun q4 hq4 => ?_⟩
   have ecq4:HO.lst (cutV (bs.map V.int) (some ((k:Nat):Int)) none) = lsI (bs.drop k):=by rw [cut_from]; rfl
   try dsimp -proj only
   rw [ecq4]
   have uq4:=same_new hq4 (lsI (bs.drop k))
   have eq4:upd H6 q4 (lsI (bs.drop k)) q4 = some (lsI (bs.drop k)):=upd_same
   generalize upd H6 q4 (lsI (bs.drop k)) = H7 at uq4 eq4 ⊢
   have l4:=ldr k
   refine ⟨q3,q4,_,_,rfl,rfl,uq4 _ _ eq3,eq4,fits (by rw [List.length_map,List.length_map,List.length_append,List.length_singleton]; trivial),fun q5 hq5 => ?_⟩
   rw [lsI_app]
   have t7:=t6.trans uq4
   refine fin q5 _ _ (t7.trans (same_new hq5 _)) (t7.free hq5) upd_same (isBits_app (isBits_app btk fun x hx => ?_) (bdr k)) (by rw [List.length_append,List.length_append,List.length_singleton]; trivial)
   rw [List.mem_singleton.mp hx]; trivial
  refine ⟨_,rfl,rfl,_,rfl,?_⟩
  refine ite2 (fun c => ?_) (fun c => ?_)
  ·clear c
   refine ⟨_,rfl,_,rfl,_,rfl,a,_,rfl,SqL.of ha3,fun q1 hq1 => ?_⟩
   have ecq1:HO.lst (cutV (bs.map V.int) none (some ((k:Nat):Int))) = lsI (bs.take k):=by rw [cut_to (α:=Int)]; rfl
   try dsimp -proj only
   rw [ecq1]
   have uq1:=same_new hq1 (lsI (bs.take k))
   have eq1:upd H3 q1 (lsI (bs.take k)) q1 = some (lsI (bs.take k)):=upd_same
   generalize upd H3 q1 (lsI (bs.take k)) = H4 at uq1 eq1 ⊢
   refine ⟨_,rfl,_,rfl,_,_,rfl,rfl,_,rfl,a,_,rfl,SqL.of (uq1 _ _ ha3),fun q4 hq4 => ?_⟩
   have ecq4:HO.lst (cutV (bs.map V.int) (some (((k:Nat):Int) + 1)) none) = lsI (bs.drop (k + 1)):=by rw [show ((k:Nat):Int) + 1 = ((k + 1:Nat):Int) by trivial,cut_from]; rfl
   try dsimp -proj only
   rw [ecq4]
   have uq4:=same_new hq4 (lsI (bs.drop (k + 1)))
   have eq4:upd H4 q4 (lsI (bs.drop (k + 1))) q4 = some (lsI (bs.drop (k + 1))):=upd_same
   generalize upd H4 q4 (lsI (bs.drop (k + 1))) = H7 at uq4 eq4 ⊢
   have l4:=ldr (k + 1)
   refine ⟨q1,q4,_,_,rfl,rfl,uq4 _ _ eq1,eq4,fits (by rw [List.length_map,List.length_map]; trivial),fun q5 hq5 => ?_⟩
   rw [lsI_app]
   have t7:=uq1.trans uq4
   exact fin q5 _ _ (t7.trans (same_new hq5 _)) (t7.free hq5) upd_same (isBits_app btk (bdr _)) (by rw [List.length_append]; trivial)
  refine ⟨_,rfl,rfl,_,rfl,?_⟩
  refine ite2 (fun c => ?_) (fun c => ?_)
  ·clear c
   refine ⟨_,rfl,_,rfl,_,rfl,a,_,rfl,SqL.of ha3,fun q1 hq1 => ?_⟩
   have ecq1:HO.lst (cutV (bs.map V.int) none (some ((k:Nat):Int))) = lsI (bs.take k):=by rw [cut_to (α:=Int)]; rfl
   try dsimp -proj only
   rw [ecq1]
   have uq1:=same_new hq1 (lsI (bs.take k))
   have eq1:upd H3 q1 (lsI (bs.take k)) q1 = some (lsI (bs.take k)):=upd_same
   generalize upd H3 q1 (lsI (bs.take k)) = H4 at uq1 eq1 ⊢
   refine ⟨_,rfl,_,rfl,_,rfl,_,rfl,_,_,rfl,rfl,_,rfl,a,_,rfl,SqL.of (uq1 _ _ ha3),fun q2 hq2 => ?_⟩
   have ecq2:HO.lst (cutV (bs.map V.int) (some ((k:Nat):Int)) (some (((k:Nat):Int) + 1))) = lsI ((bs.drop k).take 1):=by rw [show ((k:Nat):Int) + 1 = ((k + 1:Nat):Int) by trivial,cut_two,show k + 1 - k = 1 by trivial]; rfl
   try dsimp -proj only
   rw [ecq2]
   have uq2:=same_new hq2 (lsI ((bs.drop k).take 1))
   have eq2:upd H4 q2 (lsI ((bs.drop k).take 1)) q2 = some (lsI ((bs.drop k).take 1)):=upd_same
   generalize upd H4 q2 (lsI ((bs.drop k).take 1)) = H5 at uq2 eq2 ⊢
   have b1:=isBits_take (bdr k) 1
   have l1:((bs.drop k).take 1).length ≤ 1:=by rw [List.length_take]; trivial
   generalize (bs.drop k).take 1 = ws at uq2 eq2 b1 l1
   refine ⟨q2,rfl,⟨_,SqL.of eq2⟩,fun D hD => ?_⟩
   refine comp_lstQ (K:=K) (a:=q2) (xs:=ws.map V.int) (fun i σ' H' => ∃ (v0:Option V) (ks:List Int),σ' = [v0]∧H' D = some (lsI ks)∧ks.length = i∧isBits ks∧Same H5 H')
    ⟨none,[],rfl,upd_same,rfl,(fun _ z => by cases z),same_new hD _⟩ (fun i σ' H' _ ⟨_,_,_,_,_,_,e⟩ => SqL.of (e _ _ eq2)) ?_ ?_
   ·rintro i v σ' H' hi ⟨v0,ks,rfl,hD',hks,hkb,sm⟩
    have hlt:=(List.getElem?_eq_some_iff.mp hi).1
    have hlt2:=hlt
    rw [List.length_map] at hlt2
    obtain ⟨z,rfl,hz⟩:=int_at hi
    refine nameT ?_
    refine ⟨_,rfl,_,_,rfl,rfl,D,_,_,rfl,rfl,hD',fits_lt (by rw [List.length_map]; trivial),?_⟩
    refine CW.next hlt ⟨_,ks ++ [1 - z],rfl,by rw [upd_same,lsI_app1],by rw [List.length_append,List.length_singleton]; trivial,isBits_app hkb fun x hx => ?_,same_upd sm _ hD⟩
    rw [List.mem_singleton.mp hx]
    rcases b1 z (List.mem_of_getElem? hz) with rfl | rfl
    ·exact .inr rfl
    ·exact .inl rfl
   rintro σ' H6 ⟨v0,ks,rfl,hD6,hks,hkb,s6⟩
   rw [List.length_map] at hks
   have t6:=uq2.trans s6
   refine ⟨q1,D,_,_,rfl,rfl,t6 _ _ eq1,hD6,fits (by rw [List.length_map,List.length_map]; trivial),fun q3 hq3 => ?_⟩
   rw [lsI_app]
   have uq3:=same_new hq3 (lsI (bs.take k ++ ks))
   have eq3:upd H6 q3 (lsI (bs.take k ++ ks)) q3 = some (lsI (bs.take k ++ ks)):=upd_same
   generalize upd H6 q3 (lsI (bs.take k ++ ks)) = H7 at uq3 eq3 ⊢
   have t7:=uq1.trans (t6.trans uq3)
   refine ⟨_,rfl,_,rfl,_,_,rfl,rfl,_,rfl,a,_,rfl,SqL.of (t7 _ _ ha3),fun q4 hq4 => ?_⟩
   have ecq4:HO.lst (cutV (bs.map V.int) (some (((k:Nat):Int) + 1)) none) = lsI (bs.drop (k + 1)):=by rw [show ((k:Nat):Int) + 1 = ((k + 1:Nat):Int) by trivial,cut_from]; rfl
   try dsimp -proj only
   rw [ecq4]
   have uq4:=same_new hq4 (lsI (bs.drop (k + 1)))
   have eq4:upd H7 q4 (lsI (bs.drop (k + 1))) q4 = some (lsI (bs.drop (k + 1))):=upd_same
   generalize upd H7 q4 (lsI (bs.drop (k + 1))) = H8 at uq4 eq4 ⊢
   have l4:=ldr (k + 1)
   refine ⟨q3,q4,_,_,rfl,rfl,uq4 _ _ eq3,eq4,fits (by rw [List.length_map,List.length_map,List.length_append]; trivial),fun q5 hq5 => ?_⟩
   rw [lsI_app]
   have t8:=t7.trans uq4
   exact fin q5 _ _ (t8.trans (same_new hq5 _)) (t8.free hq5) upd_same (isBits_app (isBits_app btk hkb) (bdr _)) (by rw [List.length_append,List.length_append]; trivial)
  refine ⟨_,rfl,rfl,_,rfl,?_⟩
  refine ite2 (fun c => ?_) (fun c => ?_)
  ·clear c
   refine ⟨_,rfl,_,rfl,_,rfl,a,_,rfl,SqL.of ha3,fun q1 hq1 => ?_⟩
   have ecq1:HO.lst (cutV (bs.map V.int) none (some ((k:Nat):Int))) = lsI (bs.take k):=by rw [cut_to (α:=Int)]; rfl
   try dsimp -proj only
   rw [ecq1]
   have uq1:=same_new hq1 (lsI (bs.take k))
   have eq1:upd H3 q1 (lsI (bs.take k)) q1 = some (lsI (bs.take k)):=upd_same
   generalize upd H3 q1 (lsI (bs.take k)) = H4 at uq1 eq1 ⊢
   exact fin q1 _ _ uq1 hq1 eq1 btk (by trivial)
  refine ⟨_,rfl,p,n + 1 + 1 + 1,40,rfl,pl3,by trivial,by decide,by decide,fun lg H4 lg0 lg1 pl4 kb4 => ?_⟩
  obtain ⟨lg,rfl⟩:∃ k:Nat,lg = (k:Int):=⟨lg.toNat,by trivial⟩
  refine ⟨_,rfl,by trivial,by trivial,fun D hD => ?_⟩
  rw [Int.toNat_natCast]
  have nD:D ≠ p:=(pl4.ne hD).symm
  have kb4:=kb3.trans kb4
  have hDH:H D = none:=kb4.free' pl4 hD
  refine comp_rngQ (fun i σ' H' => ∃ (v0:Option V) (ks:List Int),σ' = [v0,some (.ref p)]∧H' D = some (lsI ks)∧ks.length = i∧isBits ks∧PL (n + 4 + (i:Int)) p H'∧Kb p H H')
   ⟨none,[],rfl,upd_same,rfl,(fun _ z => by cases z),(pl4.same (same_new hD _)).mono (by trivial),kb4.trans (Kb.of (same_new hD _))⟩ ?_ ?_
  ·rintro i σ' H' hi ⟨v0,ks,rfl,hD',hkl,hkb,pl',kb'⟩
   refine nameT ?_
   refine ⟨_,rfl,p,n + 4 + (i:Int),3,rfl,pl',by trivial,by decide,by decide,fun z H9 z0 z1 pl9 kb9 => ⟨rfl,.inr ⟨_,rfl,?_⟩⟩⟩
   refine ⟨D,_,_,rfl,rfl,kb9 _ _ nD hD',fits_lt (by rw [List.length_map]; trivial),?_⟩
   refine CW.next hi ⟨_,ks ++ [if decide (V.int z = V.int 0) = true then 1 else 0],rfl,by rw [upd_same,lsI_app1],by rw [List.length_append,List.length_singleton]; trivial,isBits_app hkb fun x hx => ?_,(pl9.up nD.symm).mono (by trivial),(kb'.trans kb9).new _ hDH⟩
   rw [List.mem_singleton.mp hx]
   by_cases h:decide (V.int z = V.int 0) = true
   ·rw [if_pos h]; exact .inr rfl
   ·rw [if_neg h]; exact .inl rfl
  rintro σ' H9 ⟨v0,ks,rfl,hD9,hkl2,hkb,pl9,kb9⟩
  exact hQ D ks H9 kb9 (pl9.mono (by trivial)) hDH hD9 hkb (by trivial)
end
end K54
set_option Elab.async false
set_option linter.all false
set_option maxRecDepth 100000
set_option maxHeartbeats 4000000
namespace K54
open PySem L2 PySem.W PH
section
variable {P:Program} {w:World} {K:PySem.W.Frag} {mg:Str -> Option Value} {base:Heap}
theorem sc_law:FnScope ["script", "products", "k", "pool", "text", "handed", "bits", "size", "ahead", "long", "given", "place", "turn", "bent", "due"] ["script"] (defScope s_law):=⟨rfl, rfl, rfl, by decide +kernel, rfl, by decide +kernel, by decide +kernel⟩
theorem ok_law {f f_shb f_pool f_take f_prod f_text f_wrt f_due f_lrd f_bent:Addr} {fd d_shb d_pool d_take d_prod d_text d_wrt d_due d_lrd d_bent:FuncData} (F:Fun K "law" "law" s_law f fd) (B:Bls mg) 
  (G_shb:FnOk P w K mg base (CXW P w) 4 f_shb d_shb ["text"] (spShB)) (b_shb:Binds K d_shb ["text"] []) (k_shb:keepIn K (.ref f_shb) = true) (m_shb:mg "share_bits" = some (.ref f_shb)) 
  (G_pool:FnOk P w K mg base (CXW P w) 1 f_pool d_pool ["script", "k"] (spPool K)) (b_pool:Binds K d_pool ["script", "k"] []) (k_pool:keepIn K (.ref f_pool) = true) (m_pool:mg "_law_pool" = some (.ref f_pool)) 
  (G_take:FnOk P w K mg base (CXW P w) 1 f_take d_take ["pool", "many"] (spTake)) (b_take:Binds K d_take ["pool", "many"] []) (k_take:keepIn K (.ref f_take) = true) (m_take:mg "_law_take" = some (.ref f_take)) 
  (G_prod:FnOk P w K mg base (CXW P w) 1 f_prod d_prod ["most"] (spProd)) (b_prod:Binds K d_prod ["most"] []) (k_prod:keepIn K (.ref f_prod) = true) (m_prod:mg "_law_products" = some (.ref f_prod)) 
  (G_text:FnOk P w K mg base (CXW P w) 2 f_text d_text ["pool", "first"] (spText54)) (b_text:Binds K d_text ["pool", "first"] []) (k_text:keepIn K (.ref f_text) = true) (m_text:mg "_law_text" = some (.ref f_text)) 
  (G_wrt:FnOk P w K mg base (CXW P w) 3 f_wrt d_wrt ["text", "products"] (spWrt54)) (b_wrt:Binds K d_wrt ["text", "products"] []) (k_wrt:keepIn K (.ref f_wrt) = true) (m_wrt:mg "_law_written" = some (.ref f_wrt)) 
  (G_due:FnOk P w K mg base (CXW P w) 6 f_due d_due ["bits", "at", "products"] (spDue54)) (b_due:Binds K d_due ["bits", "at", "products"] []) (k_due:keepIn K (.ref f_due) = true) (m_due:mg "_law_due" = some (.ref f_due)) 
  (G_lrd:FnOk P w K mg base (CXW P w) 7 f_lrd d_lrd ["bits", "at"] (spLRd54)) (b_lrd:Binds K d_lrd ["bits", "at"] []) (k_lrd:keepIn K (.ref f_lrd) = true) (m_lrd:mg "_law_read" = some (.ref f_lrd)) 
  (G_bent:FnOk P w K mg base (CXW P w) 2 f_bent d_bent ["bits", "pool"] (spBent)) (b_bent:Binds K d_bent ["bits", "pool"] []) (k_bent:keepIn K (.ref f_bent) = true) (m_bent:mg "_law_bent" = some (.ref f_bent)):FnOk P w K mg base (CXW P w) 8 f fd ["script"] (spLaw K):=by
 refine F.okN sc_law (fun vs H Q E h => ?_) (fun cdv A outer s H vs Q E hr h => ?_)
 ·obtain ⟨a,ns,rfl,_⟩:=h
  rfl
 ·obtain ⟨a,ns,rfl,hS,h63,q⟩:=h
  refine ⟨_,(pss_cons (ps_set (i:=1) sc_law.nd rfl (Or.inl rfl) (pe_call G_prod (hr.mono (show 1 ≤ 7 by decide)) rfl m_prod k_prod b_prod .nil passN (pa_cons pe_int pa_nil)))
   (pss_cons (ps_for PassesOwn.never rfl (pi_range1 rfl B.range (pa_cons (pe_callB (call_max2 rfl) rfl B.max boot_max' (pa_cons pe_int (pa_cons (pe_callB (call_min2 rfl) rfl B.min boot_min' (pa_cons pe_int (pa_cons (pe_callB call_len_seq rfl B.len PySem.boot_len (pa_cons (pv 0) pa_nil)) pa_nil))) pa_nil))) pa_nil)) (pg_name (i:=2) sc_law.nd rfl (Or.inl rfl))
    (pss_cons (ps_set (i:=3) sc_law.nd rfl (Or.inr rfl) (pe_call G_pool (hr.mono (show 1 ≤ 7 by decide)) rfl m_pool k_pool b_pool .nil passN (pa_cons (pv 0) (pa_cons (pv 2) pa_nil))))
    (pss_cons (ps_set (i:=4) sc_law.nd rfl (Or.inl rfl) (pe_call G_text (hr.mono (show 2 ≤ 7 by decide)) rfl m_text k_text b_text .nil passN (pa_cons (pv 3) (pa_cons (pe_cmpR op_eq (pv 2) pe_int (nomark _)) pa_nil))))
    (pss_cons (ps_set (i:=5) sc_law.nd rfl (Or.inl rfl) (pe_callTy call_list_of rfl B.list boot_list' (pa_cons (pv 4) pa_nil)))
    (pss_cons (ps_set (i:=6) sc_law.nd rfl (Or.inl rfl) (pe_call G_shb (hr.mono (show 4 ≤ 7 by decide)) rfl m_shb k_shb b_shb .nil passN (pa_cons (pv 5) pa_nil)))
    (pss_cons (ps_if (PW.pt (pw_or (pt_not (pt_val (pe_callB (r:=rIsi K) call_isi rfl B.isi boot_isi (pa_cons (pv 6) (pa_cons (pe_bltn (v:=.ty "list") rfl B.list boot_list' rfl) pa_nil))))) (pw_or (pt_cmpR (op_neL (units_of hr)) (pv 6) (pe_call G_wrt (hr.mono (show 3 ≤ 7 by decide)) rfl m_wrt k_wrt b_wrt .nil passN (pa_cons (pv 4) (pa_cons (pv 1) pa_nil))) (nomark _)) (pw_or1 (pt_cmpR (op_neL (units_of hr)) (pv 5) (pv 4) (nomark _))))))
     (pss_one (ps_ret pe_bl))
     pss_nil)
    (pss_cons (ps_if (pt_cmpR (op_neL (units_of hr)) (pe_comp (N:=["bit"]) (js:=[none]) (g:=(gName 0)) (tc:=(tOr (tNot (tB (tCB (rIsi K) (tCons (tVar 0) (tCons (tC (.ty "int")) tNil))))) (tB (tCB (rIsi K) (tCons (tVar 0) (tCons (tC (.ty "bool")) tNil)))))) (te:=(tVar 0)) rfl (comp_scope (osc:=defScope s_law) (XN:=["script", "products", "k", "pool", "text", "handed", "bits", "size", "ahead", "long", "given", "place", "turn", "bent", "due"]) rfl rfl rfl (by decide +kernel)) (pi_list (pv 6)) (fun _ _ _ _ => pg_name (i:=0) (show (["bit"]:List Str).Nodup by decide +kernel) rfl (Or.inl rfl)) (fun _ _ _ _ => (pif_one (PW.pt (pw_or (pt_not (pt_val (pe_callB (r:=rIsi K) call_isi rfl B.isi boot_isi (pa_cons (pv 0) (pa_cons (pe_bltn (v:=.ty "int") rfl B.int boot_int' rfl) pa_nil))))) (pw_or1 (pt_val (pe_callB (r:=rIsi K) call_isi rfl B.isi boot_isi (pa_cons (pv 0) (pa_cons (pe_bltn (v:=.ty "bool") rfl B.bool boot_bool' rfl) pa_nil))))))))) (fun _ _ _ _ => (pv 0))) (pe_lst pa_nil) (nomark _))
     (pss_one (ps_ret pe_bl))
     pss_nil)
    (pss_cons (ps_set (i:=7) sc_law.nd rfl (Or.inl rfl) (pe_ix ix_list (pe_lst (pa_cons (pe_call G_take (hr.mono (show 1 ≤ 7 by decide)) rfl m_take k_take b_take .nil passN (pa_cons (pv 3) (pa_cons pe_int pa_nil))) (pa_cons (pe_call G_take (hr.mono (show 1 ≤ 7 by decide)) rfl m_take k_take b_take .nil passN (pa_cons (pv 3) (pa_cons pe_int pa_nil))) pa_nil))) (pe_callTy call_int1 rfl B.int boot_int' (pa_cons (pe_cmpR op_eq (pe_call G_take (hr.mono (show 1 ≤ 7 by decide)) rfl m_take k_take b_take .nil passN (pa_cons (pv 3) (pa_cons pe_int pa_nil))) pe_int (nomark _)) pa_nil)) (fun _ _ => rfl)))
    (pss_cons (ps_setC (iy:=8) (N:=["place", "pool"]) (js:=[none, some 3]) (g:=(gName 0)) (tc:=tTrue) (te:=(tCall (spTake) [] E0 (tCons (tVar 1) (tCons (tC (.int 2)) tNil)))) sc_law.nd rfl rfl rfl (comp_scope (osc:=defScope s_law) (XN:=["script", "products", "k", "pool", "text", "handed", "bits", "size", "ahead", "long", "given", "place", "turn", "bent", "due"]) rfl rfl rfl (by decide +kernel)) (pi_range1 rfl B.range (pa_cons (pv 7) pa_nil)) (fun _ _ _ _ => pg_name (i:=0) (show (["place", "pool"]:List Str).Nodup by decide +kernel) rfl (Or.inl rfl)) (fun _ _ _ _ => pif_nil) (fun _ _ _ _ => (pe_call G_take (hr.mono (show 1 ≤ 7 by decide)) rfl m_take k_take b_take .nil passN (pa_cons (pv 1) (pa_cons pe_int pa_nil)))))
    (pss_cons (ps_set (i:=9) sc_law.nd rfl (Or.inl rfl) (pe_op op_cat (pe_op op_cat (pv 8) (pv 6)) (pe_comp (N:=["place", "pool"]) (js:=[none, some 3]) (g:=(gName 0)) (tc:=tTrue) (te:=(tCall (spTake) [] E0 (tCons (tVar 1) (tCons (tC (.int 2)) tNil)))) rfl (comp_scope (osc:=defScope s_law) (XN:=["script", "products", "k", "pool", "text", "handed", "bits", "size", "ahead", "long", "given", "place", "turn", "bent", "due"]) rfl rfl rfl (by decide +kernel)) (pi_range1 rfl B.range (pa_cons (pe_call G_take (hr.mono (show 1 ≤ 7 by decide)) rfl m_take k_take b_take .nil passN (pa_cons (pv 3) (pa_cons pe_int pa_nil))) pa_nil)) (fun _ _ _ _ => pg_name (i:=0) (show (["place", "pool"]:List Str).Nodup by decide +kernel) rfl (Or.inl rfl)) (fun _ _ _ _ => pif_nil) (fun _ _ _ _ => (pe_call G_take (hr.mono (show 1 ≤ 7 by decide)) rfl m_take k_take b_take .nil passN (pa_cons (pv 1) (pa_cons pe_int pa_nil)))))))
    (pss_cons (ps_set (i:=10) sc_law.nd rfl (Or.inl rfl) (pe_callTy call_list_of rfl B.list boot_list' (pa_cons (pv 9) pa_nil)))
    (pss_cons (ps_if (PW.pt (pw_or (pt_cmpR (op_neD (units_of hr)) (pe_call G_lrd hr rfl m_lrd k_lrd b_lrd .nil passN (pa_cons (pv 10) (pa_cons (pe_callB call_len_seq rfl B.len PySem.boot_len (pa_cons (pv 8) pa_nil)) pa_nil))) (pe_tup (pa_cons (pv 4) (pa_cons (pe_op op_add (pe_callB call_len_seq rfl B.len PySem.boot_len (pa_cons (pv 8) pa_nil)) (pe_callB call_len_seq rfl B.len PySem.boot_len (pa_cons (pv 6) pa_nil))) pa_nil))) (nomark _)) (pw_or1 (pt_cmpR (op_neL (units_of hr)) (pv 10) (pv 9) (nomark _)))))
     (pss_one (ps_ret pe_bl))
     pss_nil)
    (pss_cons (ps_for PassesOwn.never rfl (pi_list (pe_lst (pa_cons (pe_un un_neg pe_int) (pa_cons (pe_op op_sub pe_int (pe_callB call_len_seq rfl B.len PySem.boot_len (pa_cons (pv 6) pa_nil))) (pa_cons (pe_op op_sub pe_int (pe_callB call_len_seq rfl B.len PySem.boot_len (pa_cons (pv 9) pa_nil))) (pa_cons (pe_op op_sub (pe_un un_neg pe_int) (pv 7)) (pa_cons (pe_callB call_len_seq rfl B.len PySem.boot_len (pa_cons (pv 9) pa_nil)) (pa_cons (pe_op op_add (pe_callB call_len_seq rfl B.len PySem.boot_len (pa_cons (pv 9) pa_nil)) pe_int) (pa_cons (pe_op op_add (pe_callB call_len_seq rfl B.len PySem.boot_len (pa_cons (pv 9) pa_nil)) (pv 7)) pa_nil))))))))) (pg_name (i:=11) sc_law.nd rfl (Or.inl rfl))
     (pss_one (ps_if (PW.pt (pw_or (pt_cmpR op_notB (pe_call G_lrd hr rfl m_lrd k_lrd b_lrd .nil passN (pa_cons (pv 10) (pa_cons (pv 11) pa_nil))) pe_bl (nomark _)) (pw_or1 (pt_cmpR (op_neL (units_of hr)) (pv 10) (pv 9) (nomark _)))))
      (pss_one (ps_ret pe_bl))
      pss_nil)))
    (pss_one (ps_for PassesOwn.never rfl (pi_range1 rfl B.range (pa_cons pe_int pa_nil)) (pg_name (i:=12) sc_law.nd rfl (Or.inl rfl))
     (pss_cons (ps_set (i:=13) sc_law.nd rfl (Or.inl rfl) (pe_op op_cat (pv 8) (pe_call G_bent (hr.mono (show 2 ≤ 7 by decide)) rfl m_bent k_bent b_bent .nil passN (pa_cons (pv 6) (pa_cons (pv 3) pa_nil)))))
     (pss_cons (ps_set (i:=5) sc_law.nd rfl (Or.inl rfl) (pe_callTy call_list_of rfl B.list boot_list' (pa_cons (pv 13) pa_nil)))
     (pss_cons (ps_set (i:=14) sc_law.nd rfl (Or.inl rfl) (pe_call G_due (hr.mono (show 6 ≤ 7 by decide)) rfl m_due k_due b_due .nil passN (pa_cons (pv 13) (pa_cons (pe_callB call_len_seq rfl B.len PySem.boot_len (pa_cons (pv 8) pa_nil)) (pa_cons (pv 1) pa_nil)))))
     (pss_one (ps_if (PW.pt (pw_or (pt_cmpR (op_neD (units_of hr)) (pe_call G_lrd hr rfl m_lrd k_lrd b_lrd .nil passN (pa_cons (pv 5) (pa_cons (pe_callB call_len_seq rfl B.len PySem.boot_len (pa_cons (pv 8) pa_nil)) pa_nil))) (pe_ix ix_list (pe_lst (pa_cons (pv 14) (pa_cons pe_bl pa_nil))) (pe_callTy call_int1 rfl B.int boot_int' (pa_cons (pe_cmp (pc_isN (pv 14))) pa_nil)) (fun _ _ => rfl)) (nomark _)) (pw_or1 (pt_cmpR (op_neL (units_of hr)) (pv 5) (pv 13) (nomark _)))))
      (pss_one (ps_ret pe_bl))
      pss_nil))))))))))))))))))))
   (pss_one (ps_ret pe_bl)))),?_⟩
  refine ⟨rfl,fun q0 H0 s0 hq0n hq0 => ?_⟩
  have hS0:=s0.seq hS
  obtain ⟨N,hN1,hN2,hNe⟩:∃ N:Nat,1 ≤ N∧N ≤ 63∧((if (if ((ns.map V.int).length:Int) < 15 then ((ns.map V.int).length:Int) else 15) > 1 then (if ((ns.map V.int).length:Int) < 15 then ((ns.map V.int).length:Int) else 15) else 1):Int) = (N:Int):=by
   rw [List.length_map]
   refine ⟨(if (if (ns.length:Int) < 15 then (ns.length:Int) else 15) > 1 then (if (ns.length:Int) < 15 then (ns.length:Int) else 15) else 1:Int).toNat,?_,?_,?_⟩
   all_goals (split <;> (try split) <;> trivial)
  refine ⟨_,rfl,a,_,rfl,.inl hS0,_,_,rfl,_,_,rfl,(N:Int),congrArg (fun x => [V.int x]) hNe,by trivial,by trivial,?_⟩
  rw [Int.toNat_natCast]
  refine for_range (n:=N) (fun i σ H' => ∃ (v2 v3 v4 v5 v6 v7 v8 v9 v10 v11 v12 v13 v14:Option V),σ = [some (.ref a),some (.ref q0),v2,v3,v4,v5,v6,v7,v8,v9,v10,v11,v12,v13,v14]∧Same H0 H')
   ⟨none,none,none,none,none,none,none,none,none,none,none,none,none,rfl,Same.refl _⟩ ?_ ?_
  rotate_left
  ·rintro σ H2 ⟨v2,v3,v4,v5,v6,v7,v8,v9,v10,v11,v12,v13,v14,rfl,sm⟩
   exact q H2
  rintro i σ H2 hi ⟨v2,v3,v4,v5,v6,v7,v8,v9,v10,v11,v12,v13,v14,rfl,sm⟩
  rw [Int.zero_add]
  have hS2:=sm.seq hS0
  have hq2:=sm _ _ hq0
  refine ⟨_,rfl,_,rfl,a,ns,i,rfl,hS2,by trivial,fun p H3 hp s3 pl => ?_⟩
  refine ⟨_,rfl,_,rfl,rfl,p,434,_,rfl,pl,by trivial,fun T ts H4 kb4 pl4 hTn hT htl htb => ?_⟩
  have nT:T ≠ p:=(pl.ne hTn).symm
  have nq:q0 ≠ p:=ne_of_none hq2 hp
  have hq4:=kb4 _ _ nq (s3 _ _ hq2)
  refine ⟨_,rfl,T,_,rfl,.inl (SqL.of hT),fun hd hhd => ?_⟩
  have nhd:hd ≠ p:=(pl4.ne hhd).symm
  have u5:=same_new hhd (.lst (ts.map V.int))
  have ehd:upd H4 hd (.lst (ts.map V.int)) hd = some (lsI ts):=upd_same
  have pl5:=pl4.same u5
  generalize upd H4 hd (.lst (ts.map V.int)) = H5 at u5 ehd pl5 ⊢
  refine ⟨_,rfl,hd,ts,rfl,ehd,htl,htb,fun B H6 s6 hBn hB => ?_⟩
  have nB:B ≠ p:=(pl5.ne hBn).symm
  have hbB:=shB_bits ts
  have hlB:=shB_len htb htl
  have hback:=rdS_back htb htl
  have hpos:0 < (shB ts).length:=by have:=rowb_pos (unp (cnts ts)); unfold shB; rw [List.length_append]; trivial
  refine ⟨_,rfl,_,_,_,_,true,rfl,.of (.lst hB),rfl,kit_refl _ _,_,rfl,?_⟩
  refine iteF ?_
  have t46:=u5.trans s6
  refine ⟨_,rfl,_,rfl,_,rfl,T,q0,ts,rfl,t46 _ _ hT,htl,htb,t46 _ _ hq4,fun W H7 s7 hW => ?_⟩
  generalize shB ts = sb at hB hW hbB hlB hback hpos
  refine ⟨B,W,_,_,rfl,rfl,SqL.of (s7 _ _ hB),SqL.of hW,_,rfl,?_⟩
  refine iteNS rfl ?_
  have t47:=t46.trans s7
  refine ⟨_,rfl,_,rfl,hd,T,_,_,rfl,rfl,SqL.of ((s6.trans s7) _ _ ehd),SqL.of (t47 _ _ hT),_,rfl,?_⟩
  refine iteNS rfl ?_
  have hB7:=s7 _ _ hB
  refine ⟨_,rfl,B,rfl,⟨_,SqL.of hB7⟩,fun D1 hD1 => ?_⟩
  refine comp_lstQ (K:=K) (a:=B) (xs:=(sb).map V.int) (fun i σ' H' => ∃ (v0:Option V),σ' = [v0]∧H' D1 = some (lsI [])∧Same H7 H')
   ⟨none,rfl,upd_same,same_new hD1 _⟩ (fun i σ' H' _ ⟨_,_,_,e⟩ => SqL.of (e _ _ hB7)) ?_ ?_
  ·rintro i v σ' H' hi ⟨v0,rfl,hD',sm⟩
   have hlt:=(List.getElem?_eq_some_iff.mp hi).1
   obtain ⟨z,rfl,hz⟩:=int_at hi
   refine ⟨_,rfl,_,_,_,_,true,rfl,.of (.int _),rfl,kit_refl _ _,_,rfl,?_⟩
   refine iteF ?_
   refine ⟨_,rfl,_,_,_,_,false,rfl,.of (.int _),rfl,kit_ib _,_,rfl,?_⟩
   refine iteF ?_
   exact CW.next hlt ⟨_,rfl,hD',sm⟩
  rintro σ' H8 ⟨v0,rfl,hD8,s8⟩
  refine ⟨(by show 0 ≤ sizeLine; decide),fun e0 he0 => ?_⟩
  have ue:=same_new he0 (.lst [])
  have ee:upd H8 e0 (.lst []) e0 = some (lsI []):=upd_same
  generalize upd H8 e0 (.lst []) = H9 at ue ee ⊢
  refine ⟨D1,e0,[],[],rfl,rfl,SqL.of (ue _ _ hD8),SqL.of ee,_,rfl,?_⟩
  refine iteNS rfl ?_
  have t79:=s8.trans ue
  have t49:=t47.trans t79
  have pl9:=(pl4.same t49)
  have hT9:=t49 _ _ hT
  have hB9:=t79 _ _ hB7
  have hq9:=t49 _ _ hq4
  have k29:Kb p H3 H9:=kb4.trans (Kb.of t49)
  refine ⟨_,rfl,p,434 + 1000,9,rfl,pl9,(by trivial),(by decide),(by decide),fun r Ha r0 r1 pla kba => ?_⟩
  refine ⟨_,rfl,p,434 + 1000 + 1,301,rfl,pla,(by trivial),(by decide),(by decide),fun s Hb s0 s1 plb kbb => ?_⟩
  refine ⟨(by show 2 ≤ sizeLine; decide),fun l1 hl1 => ?_⟩
  have nl1:l1 ≠ p:=(plb.ne hl1).symm
  have uc:=same_new hl1 (.lst [V.int r,V.int s])
  have ec:upd Hb l1 (.lst [V.int r,V.int s]) l1 = some (.lst [V.int r,V.int s]):=upd_same
  have plc:=plb.same uc
  have kbc:=(kba.trans kbb).trans (Kb.of uc)
  generalize upd Hb l1 (.lst [V.int r,V.int s]) = Hc at uc ec plc kbc ⊢
  refine ⟨_,rfl,p,434 + 1000 + 1 + 1,8,rfl,plc,(by trivial),(by decide),(by decide),fun w Hd w0 w1 pld kbd => ⟨rfl,.inr ⟨_,rfl,?_⟩⟩⟩
  obtain ⟨sz,hsz,hsz3⟩:∃ m:Nat,atI [V.int r,V.int s] (if decide (V.int w = V.int 0) = true then 1 else 0) = some (.int (m:Int))∧m ≤ 300:=by
   by_cases h:decide (V.int w = V.int 0) = true
   ·rw [if_pos h]
    exact ⟨s.toNat,by rw [show ((s.toNat:Nat):Int) = s by trivial]; rfl,by trivial⟩
   ·rw [if_neg h]
    exact ⟨r.toNat,by rw [show ((r.toNat:Nat):Int) = r by trivial]; rfl,by trivial⟩
  refine ⟨l1,_,_,_,rfl,rfl,SqL.of (kbd _ _ nl1 ec),hsz,?_⟩
  have kbd:=kbc.trans kbd
  refine ⟨_,rfl,(sz:Int),rfl,by trivial,by trivial,fun A hA => ?_⟩
  rw [Int.toNat_natCast]
  have nA:A ≠ p:=(pld.ne hA).symm
  refine comp_rngQ (fun i σ' H' => ∃ (v0:Option V) (ks:List Int),σ' = [v0,some (.ref p)]∧H' A = some (lsI ks)∧ks.length = i∧isBits ks∧PL (1437 + (i:Int)) p H'∧Kb p Hd H')
   ⟨none,[],rfl,upd_same,rfl,(fun _ z => by cases z),(pld.same (same_new hA _)).mono (by trivial),Kb.of (same_new hA _)⟩ ?_ ?_
  ·rintro i σ' H' hi ⟨v0,ks,rfl,hD',hkl,hkb,pl',kb'⟩
   refine nameT ?_
   refine ⟨_,rfl,p,1437 + (i:Int),2,rfl,pl',by trivial,by decide,by decide,fun z H9 z0 z1 pl9 kb9 => ?_⟩
   refine ⟨A,_,_,rfl,rfl,kb9 _ _ nA hD',fits_lt (by rw [List.length_map]; trivial),?_⟩
   refine CW.next hi ⟨_,ks ++ [z],rfl,by rw [upd_same,lsI_app1],by rw [List.length_append,List.length_singleton]; trivial,isBits_app hkb fun x hx => ?_,(pl9.up nA.symm).mono (by trivial),(kb'.trans kb9).new _ hA⟩
   rw [List.mem_singleton.mp hx]; trivial
  rintro σ' He ⟨v0,as_,rfl,hAe,hal,hab,ple,kbe⟩
  have kbe:=kbd.trans kbe
  have hBe:=kbe _ _ nB hB9
  refine ⟨_,rfl,_,rfl,A,B,_,_,rfl,rfl,hAe,hBe,fits (by rw [List.length_map,List.length_map]; trivial),fun q1 hq1 => ?_⟩
  rw [lsI_app]
  have nq1:q1 ≠ p:=(ple.ne hq1).symm
  have uf:=same_new hq1 (lsI (as_ ++ sb))
  have ef:upd He q1 (lsI (as_ ++ sb)) q1 = some (lsI (as_ ++ sb)):=upd_same
  have plf:=ple.same uf
  have kbf:=kbe.trans (Kb.of uf)
  have hAf:=uf _ _ hAe
  generalize upd He q1 (lsI (as_ ++ sb)) = Hf at uf ef plf kbf hAf ⊢
  refine ⟨_,rfl,p,1437 + (sz:Int),9,rfl,plf,by trivial,by decide,by decide,fun lg Hg lg0 lg1 plg kbg => ?_⟩
  obtain ⟨lg,rfl⟩:∃ k:Nat,lg = (k:Int):=⟨lg.toNat,by trivial⟩
  refine ⟨_,rfl,by trivial,by trivial,fun D2 hD2 => ?_⟩
  rw [Int.toNat_natCast]
  have nD2:D2 ≠ p:=(plg.ne hD2).symm
  refine comp_rngQ (fun i σ' H' => ∃ (v0:Option V) (ks:List Int),σ' = [v0,some (.ref p)]∧H' D2 = some (lsI ks)∧ks.length = i∧isBits ks∧PL (1437 + (sz:Int) + 1 + (i:Int)) p H'∧Kb p Hg H')
   ⟨none,[],rfl,upd_same,rfl,(fun _ z => by cases z),(plg.same (same_new hD2 _)).mono (by trivial),Kb.of (same_new hD2 _)⟩ ?_ ?_
  ·rintro i σ' H' hi ⟨v0,ks,rfl,hD',hkl,hkb,pl',kb'⟩
   refine nameT ?_
   refine ⟨_,rfl,p,1437 + (sz:Int) + 1 + (i:Int),2,rfl,pl',by trivial,by decide,by decide,fun z H9 z0 z1 pl9 kb9 => ?_⟩
   refine ⟨D2,_,_,rfl,rfl,kb9 _ _ nD2 hD',fits_lt (by rw [List.length_map]; trivial),?_⟩
   refine CW.next hi ⟨_,ks ++ [z],rfl,by rw [upd_same,lsI_app1],by rw [List.length_append,List.length_singleton]; trivial,isBits_app hkb fun x hx => ?_,(pl9.up nD2.symm).mono (by trivial),(kb'.trans kb9).new _ hD2⟩
   rw [List.mem_singleton.mp hx]; trivial
  rintro σ' Hh ⟨v0,bh,rfl,hDh,hbl2,hbb,plh,kbh⟩
  have kfh:=kbg.trans kbh
  have hqh:=kfh _ _ nq1 ef
  have hAh:=kfh _ _ nA hAf
  refine ⟨q1,D2,_,_,rfl,rfl,hqh,hDh,fits (by rw [List.length_map,List.length_map,List.length_append]; trivial),fun LG hLG => ?_⟩
  rw [lsI_app]
  obtain ⟨lo,hlo⟩:∃ lo,lo = (as_ ++ sb) ++ bh:=⟨_,rfl⟩
  have hbk:rdS lo (as_.length:Nat) = some (ts,as_.length + sb.length):=by rw [hlo,List.append_assoc]; exact hback as_ bh
  have hlol:lo.length = as_.length + sb.length + bh.length:=by rw [hlo,List.length_append,List.length_append]
  have hlob:isBits lo:=by rw [hlo]; exact isBits_app (isBits_app hab hbB) hbb
  rw [← hlo]
  have nLG:LG ≠ p:=(plh.ne hLG).symm
  have ui:=same_new hLG (lsI lo)
  have ei:upd Hh LG (lsI lo) LG = some (lsI lo):=upd_same
  have pli:=plh.same ui
  have hAi:=ui _ _ hAh
  have kbi:=(kbf.trans kfh).trans (Kb.of ui)
  generalize upd Hh LG (lsI lo) = Hi at ui ei pli kbi hAi ⊢
  refine ⟨_,rfl,LG,_,rfl,.inl (SqL.of ei),fun G hG => ?_⟩
  have nG:G ≠ p:=(pli.ne hG).symm
  have uj:=same_new hG (.lst (lo.map V.int))
  have ej:upd Hi G (.lst (lo.map V.int)) G = some (lsI lo):=upd_same
  have plj:=pli.same uj
  have hAj:=uj _ _ hAi
  have hLGj:=uj _ _ ei
  have kbj:=kbi.trans (Kb.of uj)
  generalize upd Hi G (.lst (lo.map V.int)) = Hj at uj ej plj kbj hAj hLGj ⊢
  have hTj:=kbj _ _ nT hT9
  have hBj:=kbj _ _ nB hB9
  have hqj:=kbj _ _ nq hq9
  have k3j:=k29.trans kbj
  clear kba kbb kbc kbd kbe kbf kbg kbh kfh kbi hback
  refine ⟨_,rfl,_,rfl,A,_,rfl,.inl (SqL.of hAj),G,lo,((as_.length:Nat):Int),congrArg (fun y => [V.ref G,V.int y]) (by rw [List.length_map]),ej,hlob,by trivial,by trivial,(fun hno => by rw [hbk] at hno; cases hno),fun t e hr T2 L2 Hk sk hL2 hT2 => ?_⟩
  obtain ⟨rfl,rfl⟩:=Prod.mk.inj (Option.some.inj (hbk.symm.trans hr))
  have hTk:=sk _ _ hTj
  refine ⟨_,rfl,_,rfl,A,_,rfl,.inl (SqL.of (sk _ _ hAj)),_,rfl,B,_,rfl,.inl (SqL.of (sk _ _ hBj)),_,_,rfl,rfl,(by show 2 ≤ sizeLine; decide),fun tt htt => ?_⟩
  try dsimp -proj only
  rw [List.length_map,List.length_map]
  have ul:=same_new htt (.tup [.ref T,.int (((as_.length:Nat):Int) + ((sb.length:Nat):Int))])
  have el:upd Hk tt (.tup [.ref T,.int (((as_.length:Nat):Int) + ((sb.length:Nat):Int))]) tt = some (.tup [.ref T,.int ((as_.length + sb.length:Nat):Int)]):=upd_same
  generalize upd Hk tt (.tup [.ref T,.int (((as_.length:Nat):Int) + ((sb.length:Nat):Int))]) = Hl at ul el ⊢
  refine ⟨.tup [.lst (ts.map DV.int),.int ((as_.length + sb.length:Nat):Int)],.tup [.lst (ts.map DV.int),.int ((as_.length + sb.length:Nat):Int)],.tup (SqT.of (ul _ _ hT2)) (.cons (.lst (SqL.of (ul _ _ hL2)) (Deeps.ints ts)) (.cons (.int _) .nil)),.tup (SqT.of el) (.cons (.lst (SqL.of (ul _ _ hTk)) (Deeps.ints ts)) (.cons (.int _) .nil)),ht_pair _ _,_,rfl,?_⟩
  rw [eqD_refl]
  refine iteF ?_
  have sjl:=sk.trans ul
  refine ⟨_,rfl,_,rfl,G,LG,_,_,rfl,rfl,SqL.of (sjl _ _ ej),SqL.of (sjl _ _ hLGj),_,rfl,?_⟩
  refine iteNS rfl ?_
  have hBl:=sjl _ _ hBj
  have hLGl:=sjl _ _ hLGj
  have hGl:=sjl _ _ ej
  refine ⟨1,rfl,_,rfl,B,_,rfl,.inl (SqL.of hBl),_,_,rfl,rfl,_,rfl,LG,_,rfl,.inl (SqL.of hLGl),_,_,rfl,rfl,1,rfl,_,rfl,_,_,rfl,rfl,_,rfl,LG,_,rfl,.inl (SqL.of hLGl),_,rfl,LG,_,rfl,.inl (SqL.of hLGl),_,_,rfl,rfl,_,rfl,LG,_,rfl,.inl (SqL.of hLGl),_,rfl,_,_,rfl,rfl,(by show 7 ≤ sizeLine; decide),fun P hP => ?_⟩
  try dsimp -proj only
  rw [List.length_map,List.length_map]
  obtain ⟨ps,hps⟩:∃ ps:List Int,ps = [-1,0 - ((sb.length:Nat):Int),0 - ((lo.length:Nat):Int),-1 - ((sz:Nat):Int),((lo.length:Nat):Int),((lo.length:Nat):Int) + 1,((lo.length:Nat):Int) + ((sz:Nat):Int)]:=⟨_,rfl⟩
  have hout:∀ x ∈ ps,x ≤ 1000000∧rdS lo x = none:=fun x hx => by
   rw [hps] at hx
   simp only [List.mem_cons,List.not_mem_nil,or_false] at hx
   refine ⟨by rcases hx with rfl | rfl | rfl | rfl | rfl | rfl | rfl <;> trivial,rdS_out ?_⟩
   rcases hx with rfl | rfl | rfl | rfl | rfl | rfl | rfl <;> trivial
  have um:=same_new hP (lsI ps)
  have em:upd Hl P (lsI ps) P = some (lsI ps):=upd_same
  rw [show (HO.lst [V.int (-1),V.int (0 - ((sb.length:Nat):Int)),V.int (0 - ((lo.length:Nat):Int)),V.int (-1 - ((sz:Nat):Int)),V.int ((lo.length:Nat):Int),V.int (((lo.length:Nat):Int) + 1),V.int (((lo.length:Nat):Int) + ((sz:Nat):Int))]) = lsI ps by rw [hps]; rfl]
  generalize upd Hl P (lsI ps) = Hm at um em ⊢
  have sjm:=sjl.trans um
  have hGm:=um _ _ hGl
  have hLGm:=um _ _ hLGl
  refine ⟨P,rfl,⟨_,SqL.of em⟩,for_list (K:=K) (a:=P) (xs:=ps.map V.int) (fun k σ H' => ∃ (v11:Option V),σ = [some (.ref a),some (.ref q0),some (.int (i:Nat)),some (.ref p),some (.ref T),some (.ref hd),some (.ref B),some (.int (sz:Nat)),some (.ref A),some (.ref LG),some (.ref G),v11,v12,v13,v14]∧Same Hm H')
   ⟨v11,rfl,Same.refl _⟩ (fun k σ H' _ ⟨_,_,e⟩ => SqL.of (e _ _ em)) ?_ ?_⟩
  ·rintro k y σ H' hk ⟨v11,rfl,smk⟩
   obtain ⟨z,rfl,hz⟩:=int_at hk
   obtain ⟨z6,zno⟩:=hout z (List.mem_of_getElem? hz)
   refine ⟨_,rfl,_,rfl,G,lo,z,rfl,smk _ _ hGm,hlob,by trivial,z6,(fun _ Hn sn => ?_),fun t e hr => by rw [zno] at hr; cases hr⟩
   refine ⟨true,true,rfl,rfl,_,rfl,?_⟩
   refine iteF ?_
   have smn:=smk.trans sn
   refine ⟨_,rfl,_,rfl,G,LG,_,_,rfl,rfl,SqL.of (smn _ _ hGm),SqL.of (smn _ _ hLGm),_,rfl,?_⟩
   refine iteNS rfl ?_
   exact ⟨_,rfl,smn⟩
  rintro σ Hn ⟨v11',rfl,smn⟩
  have sjn:=sjm.trans smn
  have pln:=plj.same sjn
  have hAn:=sjn _ _ hAj
  have hBn':=sjn _ _ hBj
  have hqn:=sjn _ _ hqj
  have k3n:=k3j.trans (Kb.of sjn)
  try dsimp -proj only
  refine ⟨3,rfl,by decide,by decide,?_⟩
  refine for_range (n:=3) (fun j σ H' => ∃ (v5 v12 v13 v14:Option V),σ = [some (.ref a),some (.ref q0),some (.int (i:Nat)),some (.ref p),some (.ref T),v5,some (.ref B),some (.int (sz:Nat)),some (.ref A),some (.ref LG),some (.ref G),v11',v12,v13,v14]∧PL (3000 + 200 * (j:Int)) p H'∧Kb p Hn H')
   ⟨_,v12,v13,v14,rfl,pln.mono (by trivial),Kb.refl _ _⟩ ?_ ?_
  rotate_left
  ·rintro σ Ho ⟨v5,v12,v13,v14,rfl,plo,kbo⟩
   have s2o:Same H2 Ho:=fun b u e => (k3n.trans kbo) b u (fun z => by rw [z,hp] at e; cases e) (s3 b u e)
   exact ⟨_,_,_,_,_,_,_,_,_,_,_,_,_,rfl,sm.trans s2o⟩
  rintro j σ Ho hj ⟨v5,v12,v13,v14,rfl,plo,kbo⟩
  rw [Int.zero_add]
  have hAo:=kbo _ _ nA hAn
  have hBo:=kbo _ _ nB hBn'
  have hqo:=kbo _ _ nq hqn
  refine ⟨_,rfl,_,rfl,_,rfl,B,p,_,sb,rfl,nB,hBo,hbB,by trivial,plo,by trivial,fun L rs Hp kbp plp hLn hL hrb hrl => ?_⟩
  have hAp:=kbp _ _ nA hAo
  have hqp:=kbp _ _ nq hqo
  refine ⟨A,L,_,_,rfl,rfl,hAp,hL,fits (by rw [List.length_map,List.length_map]; trivial),fun X hX => ?_⟩
  rw [lsI_app]
  obtain ⟨be,hbe⟩:∃ be,be = as_ ++ rs:=⟨_,rfl⟩
  rw [← hbe]
  have hbeb:isBits be:=by rw [hbe]; exact isBits_app hab hrb
  have hbel:be.length ≤ 20000:=by rw [hbe,List.length_append]; trivial
  have nX:X ≠ p:=(plp.ne hX).symm
  have uq:=same_new hX (lsI be)
  have eq_:upd Hp X (lsI be) X = some (lsI be):=upd_same
  generalize upd Hp X (lsI be) = Hq at uq eq_ ⊢
  refine ⟨_,rfl,X,_,rfl,.inl (SqL.of eq_),fun Y hY => ?_⟩
  have ur:=same_new hY (.lst (be.map V.int))
  have er:upd Hq Y (.lst (be.map V.int)) Y = some (lsI be):=upd_same
  generalize upd Hq Y (.lst (be.map V.int)) = Hr at ur er ⊢
  have spr:=uq.trans ur
  have hAr:=spr _ _ hAp
  refine sqMidY (fun σ' H' => σ' = [some (.ref a),some (.ref q0),some (.int (i:Nat)),some (.ref p),some (.ref T),some (.ref Y),some (.ref B),some (.int (sz:Nat)),some (.ref A),some (.ref LG),some (.ref G),v11',some (.int (j:Nat)),some (.ref X),v14]∧H' = Hr) ?_ ?_
  rotate_left
  ·exact fun N hN => hN _ _ ⟨rfl,rfl⟩
  rintro σ' Hr ⟨rfl,rfl⟩
  try dsimp -proj only
  refine sqMidY (fun σ' H' => ∃ v:V,σ' = [some (.ref a),some (.ref q0),some (.int (i:Nat)),some (.ref p),some (.ref T),some (.ref Y),some (.ref B),some (.int (sz:Nat)),some (.ref A),some (.ref LG),some (.ref G),v11',some (.int (j:Nat)),some (.ref X),some v]∧Same Hr H'∧((v = .non∧rdS be (as_.length:Nat) = none) ∨ ∃ (U L2:Addr) (t:List Int) (e:Nat),v = .ref U∧rdS be (as_.length:Nat) = some (t,e)∧H' L2 = some (lsI t)∧H' U = some (.tup [.ref L2,.int (e:Nat)]))) ?_ ?_
  rotate_left
  ·intro N hN
   exact ⟨_,rfl,_,rfl,A,_,rfl,.inl (SqL.of hAr),_,rfl,X,q0,be,as_.length,congrArg (fun y => [V.ref X,V.int y,V.ref q0]) (by rw [List.length_map]),ur _ _ eq_,spr _ _ hqp,hbeb,hbel,by trivial,(fun h H' s => hN _ _ ⟨_,rfl,s,.inl ⟨rfl,h⟩⟩),fun t e h U L2 H' s hl' ht => hN _ _ ⟨_,rfl,s,.inr ⟨U,L2,t,e,rfl,h,hl',ht⟩⟩⟩
  rintro σ' Hs ⟨v,rfl,ss,hv⟩
  have fin:∀ Hz,Same Hr Hz -> ∃ (v5 v12 v13 v14:Option V),[some (.ref a),some (.ref q0),some (.int (i:Nat)),some (.ref p),some (.ref T),some (.ref Y),some (.ref B),some (.int (sz:Nat)),some (.ref A),some (.ref LG),some (.ref G),v11',some (.int (j:Nat)),some (.ref X),some v] = [some (.ref a),some (.ref q0),some (.int (i:Nat)),some (.ref p),some (.ref T),v5,some (.ref B),some (.int (sz:Nat)),some (.ref A),some (.ref LG),some (.ref G),v11',v12,v13,v14]∧PL (3000 + 200 * ((j + 1:Nat):Int)) p Hz∧Kb p Hn Hz:=fun Hz sz' =>
   ⟨_,_,_,_,rfl,(plp.same (spr.trans sz')).mono (by trivial),kbo.trans (kbp.trans (Kb.of (spr.trans sz')))⟩
  refine ⟨_,rfl,_,rfl,A,_,rfl,.inl (SqL.of (ss _ _ hAr)),Y,be,((as_.length:Nat):Int),congrArg (fun y => [V.ref Y,V.int y]) (by rw [List.length_map]),ss _ _ er,hbeb,by trivial,by trivial,(fun hno Ht st => ?_),fun t e hr U2 L3 Ht st hL3 hU2 => ?_⟩
  ·rcases hv with ⟨rfl,_⟩ | ⟨U,L2,t,e,rfl,hrs,_⟩
   rotate_left
   ·rw [hno] at hrs; cases hrs
   refine ⟨_,rfl,(by show 2 ≤ sizeLine; decide),fun l8 hl8 => ?_⟩
   have uu:=same_new hl8 (.lst [V.non,V.bl true])
   have eu:upd Ht l8 (.lst [V.non,V.bl true]) l8 = some (.lst [V.non,V.bl true]):=upd_same
   generalize upd Ht l8 (.lst [V.non,V.bl true]) = Hu at uu eu ⊢
   refine ⟨_,rfl,.inr ⟨_,rfl,?_⟩⟩
   refine ⟨l8,_,_,_,rfl,rfl,SqL.of eu,rfl,?_⟩
   refine ⟨.bl true,.bl true,.bl _,.bl _,(by show 0 ≤ 60; decide),_,rfl,?_⟩
   rw [eqD_refl]
   refine iteF ?_
   have sru:=ss.trans (st.trans uu)
   refine ⟨_,rfl,_,rfl,Y,X,_,_,rfl,rfl,SqL.of (sru _ _ er),SqL.of ((ur.trans sru) _ _ eq_),_,rfl,?_⟩
   refine iteNS rfl ?_
   exact fin _ sru
  ·rcases hv with ⟨rfl,hno⟩ | ⟨U,L2,t',e',rfl,hrs,hL2,hU⟩
   ·rw [hr] at hno; cases hno
   obtain ⟨rfl,rfl⟩:=Prod.mk.inj (Option.some.inj (hr.symm.trans hrs))
   refine ⟨_,rfl,(by show 2 ≤ sizeLine; decide),fun l8 hl8 => ?_⟩
   have uu:=same_new hl8 (.lst [V.ref U,V.bl true])
   have eu:upd Ht l8 (.lst [V.ref U,V.bl true]) l8 = some (.lst [V.ref U,V.bl true]):=upd_same
   generalize upd Ht l8 (.lst [V.ref U,V.bl true]) = Hu at uu eu ⊢
   refine ⟨_,rfl,.inr ⟨_,rfl,?_⟩⟩
   refine ⟨l8,_,_,_,rfl,rfl,SqL.of eu,rfl,?_⟩
   have stu:=st.trans uu
   refine ⟨.tup [.lst (t.map DV.int),.int (e:Nat)],.tup [.lst (t.map DV.int),.int (e:Nat)],.tup (SqT.of (uu _ _ hU2)) (.cons (.lst (SqL.of (uu _ _ hL3)) (Deeps.ints t)) (.cons (.int _) .nil)),.tup (SqT.of (stu _ _ hU)) (.cons (.lst (SqL.of (stu _ _ hL2)) (Deeps.ints t)) (.cons (.int _) .nil)),ht_pair _ _,_,rfl,?_⟩
   rw [eqD_refl]
   refine iteF ?_
   have sru:=ss.trans stu
   refine ⟨_,rfl,_,rfl,Y,X,_,_,rfl,rfl,SqL.of (sru _ _ er),SqL.of ((ur.trans sru) _ _ eq_),_,rfl,?_⟩
   refine iteNS rfl ?_
   exact fin _ sru
end
end K54
set_option Elab.async false
set_option linter.all false
set_option maxRecDepth 100000
set_option maxHeartbeats 4000000
namespace K54
open PySem L2 PySem.W PH
theorem len_1 {α:Type}:∀ {us:List α},us.length = 1 -> ∃ x0,us = [x0]
 | [x0],_ => ⟨x0,rfl⟩
theorem len_2 {α:Type}:∀ {us:List α},us.length = 2 -> ∃ x0 x1,us = [x0,x1]
 | [x0,x1],_ => ⟨x0,x1,rfl⟩
theorem len_3 {α:Type}:∀ {us:List α},us.length = 3 -> ∃ x0 x1 x2,us = [x0,x1,x2]
 | [x0,x1,x2],_ => ⟨x0,x1,x2,rfl⟩
section
theorem all_mk {l:PySem.W.OpenLaw} {w:World} {K:PySem.W.Frag} {h:Heap} {mg:Str -> Option Value} {fa f1 f2 f3 f4 f5 f6 f7 f8 f9 f10 f11 f12 f13 f14 f15 f16 f17 f18 f19 f20 f21 f22 f23 f24 f25 f26 f27 f28 f29 f30 f31 f32 f33 f34 f35 f36 f37 f38 f39 c_PackError c_Broken c_NoCode c_NoName c_NoNumber c_NoPlace c_NoRow c_NoText:Addr} (X:K.In h) (G:h.Ns mainGlobals mg) (hfa:mg "law" = some (.ref fa))
  {od1 an1 od2 an2 od3 an3 od4 an4 od5 an5 od6 an6 od7 an7 od8 an8 od9 an9 od10 an10 od11 an11 od12 an12 od13 an13 od14 an14 od15 an15 od16 an16 od17 an17 od18 an18 od19 an19 od20 an20 od21 an21 od22 an22 od23 an23 od24 an24 od25 an25 od26 an26 od27 an27 od28 an28 od29 an29 od30 an30 od31 an31 od32 an32 od33 an33 od34 an34 od35 an35 od36 an36 od37 an37 od38 an38 od39 an39:Option Addr} {sl1 sl2 sl3 sl4 sl5 sl6 sl7 sl8 sl9 sl10 sl11 sl12 sl13 sl14 sl15 sl16 sl17 sl18 sl19 sl20 sl21 sl22 sl23 sl24 sl25 sl26 sl27 sl28 sl29 sl30 sl31 sl32 sl33 sl34 sl35 sl36 sl37 sl38 sl39:Array (Option Value)} {oc1 kV1 dc1 pm1 cd1 ct1 oc2 kV2 dc2 pm2 cd2 ct2 oc3 kV3 dc3 pm3 cd3 ct3 oc4 kV4 dc4 pm4 cd4 ct4 oc5 kV5 dc5 pm5 cd5 ct5 oc6 kV6 dc6 pm6 cd6 ct6 oc7 kV7 dc7 pm7 cd7 ct7 oc8 kV8 dc8 pm8 cd8 ct8 oc9 kV9 dc9 pm9 cd9 ct9 oc10 kV10 dc10 pm10 cd10 ct10 oc11 kV11 dc11 pm11 cd11 ct11 oc12 kV12 dc12 pm12 cd12 ct12 oc13 kV13 dc13 pm13 cd13 ct13 oc14 kV14 dc14 pm14 cd14 ct14 oc15 kV15 dc15 pm15 cd15 ct15 oc16 kV16 dc16 pm16 cd16 ct16 oc17 kV17 dc17 pm17 cd17 ct17 oc18 kV18 dc18 pm18 cd18 ct18 oc19 kV19 dc19 pm19 cd19 ct19 oc20 kV20 dc20 pm20 cd20 ct20 oc21 kV21 dc21 pm21 cd21 ct21 oc22 kV22 dc22 pm22 cd22 ct22 oc23 kV23 dc23 pm23 cd23 ct23 oc24 kV24 dc24 pm24 cd24 ct24 oc25 kV25 dc25 pm25 cd25 ct25 oc26 kV26 dc26 pm26 cd26 ct26 oc27 kV27 dc27 pm27 cd27 ct27 oc28 kV28 dc28 pm28 cd28 ct28 oc29 kV29 dc29 pm29 cd29 ct29 oc30 kV30 dc30 pm30 cd30 ct30 oc31 kV31 dc31 pm31 cd31 ct31 oc32 kV32 dc32 pm32 cd32 ct32 oc33 kV33 dc33 pm33 cd33 ct33 oc34 kV34 dc34 pm34 cd34 ct34 oc35 kV35 dc35 pm35 cd35 ct35 oc36 kV36 dc36 pm36 cd36 ct36 oc37 kV37 dc37 pm37 cd37 ct37 oc38 kV38 dc38 pm38 cd38 ct38 oc39 kV39 dc39 pm39 cd39 ct39:Value}
  {tk_LAST_SIGN tk_MOST_SIGNS:Tok}
  (a1:PySem.W.nsIn K mainGlobals "low_bits" = some (some (.ref f1))) (l1:K.lookup f1 = some ⟨oc1, od1, .func (PySem.W.fnOf "low_bits" "low_bits" (defArgs s_low) (defBody s_low) (defScope s_low) .none kV1 dc1 pm1 an1 cd1 ct1), sl1⟩) (cc1:PySem.W.codeIn K cd1 "low_bits" = true) (k1:PySem.W.keepIn K (.ref f1) = true)
  (a2:PySem.W.nsIn K mainGlobals "number_of" = some (some (.ref f2))) (l2:K.lookup f2 = some ⟨oc2, od2, .func (PySem.W.fnOf "number_of" "number_of" (defArgs s_num) (defBody s_num) (defScope s_num) .none kV2 dc2 pm2 an2 cd2 ct2), sl2⟩) (cc2:PySem.W.codeIn K cd2 "number_of" = true) (k2:PySem.W.keepIn K (.ref f2) = true)
  (a3:PySem.W.nsIn K mainGlobals "ending_bits" = some (some (.ref f3))) (l3:K.lookup f3 = some ⟨oc3, od3, .func (PySem.W.fnOf "ending_bits" "ending_bits" (defArgs s_end) (defBody s_end) (defScope s_end) .none kV3 dc3 pm3 an3 cd3 ct3), sl3⟩) (cc3:PySem.W.codeIn K cd3 "ending_bits" = true) (k3:PySem.W.keepIn K (.ref f3) = true)
  (a4:PySem.W.nsIn K mainGlobals "first_one" = some (some (.ref f4))) (l4:K.lookup f4 = some ⟨oc4, od4, .func (PySem.W.fnOf "first_one" "first_one" (defArgs s_first) (defBody s_first) (defScope s_first) .none kV4 dc4 pm4 an4 cd4 ct4), sl4⟩) (cc4:PySem.W.codeIn K cd4 "first_one" = true) (k4:PySem.W.keepIn K (.ref f4) = true)
  (a5:PySem.W.nsIn K mainGlobals "read_ending" = some (some (.ref f5))) (l5:K.lookup f5 = some ⟨oc5, od5, .func (PySem.W.fnOf "read_ending" "read_ending" (defArgs s_read) (defBody s_read) (defScope s_read) .none kV5 dc5 pm5 an5 cd5 ct5), sl5⟩) (cc5:PySem.W.codeIn K cd5 "read_ending" = true) (k5:PySem.W.keepIn K (.ref f5) = true)
  (a6:PySem.W.nsIn K mainGlobals "row_bits" = some (some (.ref f6))) (l6:K.lookup f6 = some ⟨oc6, od6, .func (PySem.W.fnOf "row_bits" "row_bits" (defArgs s_row) (defBody s_row) (defScope s_row) .none kV6 dc6 pm6 an6 cd6 ct6), sl6⟩) (cc6:PySem.W.codeIn K cd6 "row_bits" = true) (k6:PySem.W.keepIn K (.ref f6) = true)
  (a7:PySem.W.nsIn K mainGlobals "read_row" = some (some (.ref f7))) (l7:K.lookup f7 = some ⟨oc7, od7, .func (PySem.W.fnOf "read_row" "read_row" (defArgs s_rdrow) (defBody s_rdrow) (defScope s_rdrow) .none kV7 dc7 pm7 an7 cd7 ct7), sl7⟩) (cc7:PySem.W.codeIn K cd7 "read_row" = true) (k7:PySem.W.keepIn K (.ref f7) = true)
  (a8:PySem.W.nsIn K mainGlobals "is_whole" = some (some (.ref f8))) (l8:K.lookup f8 = some ⟨oc8, od8, .func (PySem.W.fnOf "is_whole" "is_whole" (defArgs s_whole) (defBody s_whole) (defScope s_whole) .none kV8 dc8 pm8 an8 cd8 ct8), sl8⟩) (cc8:PySem.W.codeIn K cd8 "is_whole" = true) (k8:PySem.W.keepIn K (.ref f8) = true)
  (a9:PySem.W.nsIn K mainGlobals "unpaired" = some (some (.ref f9))) (l9:K.lookup f9 = some ⟨oc9, od9, .func (PySem.W.fnOf "unpaired" "unpaired" (defArgs s_unp) (defBody s_unp) (defScope s_unp) .none kV9 dc9 pm9 an9 cd9 ct9), sl9⟩) (cc9:PySem.W.codeIn K cd9 "unpaired" = true) (k9:PySem.W.keepIn K (.ref f9) = true)
  (a10:PySem.W.nsIn K mainGlobals "paired" = some (some (.ref f10))) (l10:K.lookup f10 = some ⟨oc10, od10, .func (PySem.W.fnOf "paired" "paired" (defArgs s_prd) (defBody s_prd) (defScope s_prd) .none kV10 dc10 pm10 an10 cd10 ct10), sl10⟩) (cc10:PySem.W.codeIn K cd10 "paired" = true) (k10:PySem.W.keepIn K (.ref f10) = true)
  (a11:PySem.W.nsIn K mainGlobals "counts_of" = some (some (.ref f11))) (l11:K.lookup f11 = some ⟨oc11, od11, .func (PySem.W.fnOf "counts_of" "counts_of" (defArgs s_counts) (defBody s_counts) (defScope s_counts) .none kV11 dc11 pm11 an11 cd11 ct11), sl11⟩) (cc11:PySem.W.codeIn K cd11 "counts_of" = true) (k11:PySem.W.keepIn K (.ref f11) = true)
  (a12:PySem.W.nsIn K mainGlobals "signs_rise" = some (some (.ref f12))) (l12:K.lookup f12 = some ⟨oc12, od12, .func (PySem.W.fnOf "signs_rise" "signs_rise" (defArgs s_rise) (defBody s_rise) (defScope s_rise) .none kV12 dc12 pm12 an12 cd12 ct12), sl12⟩) (cc12:PySem.W.codeIn K cd12 "signs_rise" = true) (k12:PySem.W.keepIn K (.ref f12) = true)
  (a13:PySem.W.nsIn K mainGlobals "are_counts" = some (some (.ref f13))) (l13:K.lookup f13 = some ⟨oc13, od13, .func (PySem.W.fnOf "are_counts" "are_counts" (defArgs s_arec) (defBody s_arec) (defScope s_arec) .none kV13 dc13 pm13 an13 cd13 ct13), sl13⟩) (cc13:PySem.W.codeIn K cd13 "are_counts" = true) (k13:PySem.W.keepIn K (.ref f13) = true)
  (a14:PySem.W.nsIn K mainGlobals "is_pair" = some (some (.ref f14))) (l14:K.lookup f14 = some ⟨oc14, od14, .func (PySem.W.fnOf "is_pair" "is_pair" (defArgs s_pair) (defBody s_pair) (defScope s_pair) .none kV14 dc14 pm14 an14 cd14 ct14), sl14⟩) (cc14:PySem.W.codeIn K cd14 "is_pair" = true) (k14:PySem.W.keepIn K (.ref f14) = true)
  (a15:PySem.W.nsIn K mainGlobals "have_texts" = some (some (.ref f15))) (l15:K.lookup f15 = some ⟨oc15, od15, .func (PySem.W.fnOf "have_texts" "have_texts" (defArgs s_have) (defBody s_have) (defScope s_have) .none kV15 dc15 pm15 an15 cd15 ct15), sl15⟩) (cc15:PySem.W.codeIn K cd15 "have_texts" = true) (k15:PySem.W.keepIn K (.ref f15) = true)
  (a16:PySem.W.nsIn K mainGlobals "orders_of" = some (some (.ref f16))) (l16:K.lookup f16 = some ⟨oc16, od16, .func (PySem.W.fnOf "orders_of" "orders_of" (defArgs s_orders) (defBody s_orders) (defScope s_orders) .none kV16 dc16 pm16 an16 cd16 ct16), sl16⟩) (cc16:PySem.W.codeIn K cd16 "orders_of" = true) (k16:PySem.W.keepIn K (.ref f16) = true)
  (a17:PySem.W.nsIn K mainGlobals "texts_with" = some (some (.ref f17))) (l17:K.lookup f17 = some ⟨oc17, od17, .func (PySem.W.fnOf "texts_with" "texts_with" (defArgs s_texts) (defBody s_texts) (defScope s_texts) .none kV17 dc17 pm17 an17 cd17 ct17), sl17⟩) (cc17:PySem.W.codeIn K cd17 "texts_with" = true) (k17:PySem.W.keepIn K (.ref f17) = true)
  (a18:PySem.W.nsIn K mainGlobals "share_of" = some (some (.ref f18))) (l18:K.lookup f18 = some ⟨oc18, od18, .func (PySem.W.fnOf "share_of" "share_of" (defArgs s_share) (defBody s_share) (defScope s_share) .none kV18 dc18 pm18 an18 cd18 ct18), sl18⟩) (cc18:PySem.W.codeIn K cd18 "share_of" = true) (k18:PySem.W.keepIn K (.ref f18) = true)
  (a19:PySem.W.nsIn K mainGlobals "signs_in_order" = some (some (.ref f19))) (l19:K.lookup f19 = some ⟨oc19, od19, .func (PySem.W.fnOf "signs_in_order" "signs_in_order" (defArgs s_inord) (defBody s_inord) (defScope s_inord) .none kV19 dc19 pm19 an19 cd19 ct19), sl19⟩) (cc19:PySem.W.codeIn K cd19 "signs_in_order" = true) (k19:PySem.W.keepIn K (.ref f19) = true)
  (a20:PySem.W.nsIn K mainGlobals "text_by_share" = some (some (.ref f20))) (l20:K.lookup f20 = some ⟨oc20, od20, .func (PySem.W.fnOf "text_by_share" "text_by_share" (defArgs s_tbs) (defBody s_tbs) (defScope s_tbs) .none kV20 dc20 pm20 an20 cd20 ct20), sl20⟩) (cc20:PySem.W.codeIn K cd20 "text_by_share" = true) (k20:PySem.W.keepIn K (.ref f20) = true)
  (a21:PySem.W.nsIn K mainGlobals "bits_enough" = some (some (.ref f21))) (l21:K.lookup f21 = some ⟨oc21, od21, .func (PySem.W.fnOf "bits_enough" "bits_enough" (defArgs s_eno) (defBody s_eno) (defScope s_eno) .none kV21 dc21 pm21 an21 cd21 ct21), sl21⟩) (cc21:PySem.W.codeIn K cd21 "bits_enough" = true) (k21:PySem.W.keepIn K (.ref f21) = true)
  (a22:PySem.W.nsIn K mainGlobals "share_bits" = some (some (.ref f22))) (l22:K.lookup f22 = some ⟨oc22, od22, .func (PySem.W.fnOf "share_bits" "share_bits" (defArgs s_shb) (defBody s_shb) (defScope s_shb) .none kV22 dc22 pm22 an22 cd22 ct22), sl22⟩) (cc22:PySem.W.codeIn K cd22 "share_bits" = true) (k22:PySem.W.keepIn K (.ref f22) = true)
  (a23:PySem.W.nsIn K mainGlobals "read_share" = some (some (.ref f23))) (l23:K.lookup f23 = some ⟨oc23, od23, .func (PySem.W.fnOf "read_share" "read_share" (defArgs s_rds) (defBody s_rds) (defScope s_rds) .none kV23 dc23 pm23 an23 cd23 ct23), sl23⟩) (cc23:PySem.W.codeIn K cd23 "read_share" = true) (k23:PySem.W.keepIn K (.ref f23) = true)
  (a24:PySem.W.nsIn K mainGlobals "_law_pool" = some (some (.ref f24))) (l24:K.lookup f24 = some ⟨oc24, od24, .func (PySem.W.fnOf "_law_pool" "_law_pool" (defArgs s_pool) (defBody s_pool) (defScope s_pool) .none kV24 dc24 pm24 an24 cd24 ct24), sl24⟩) (cc24:PySem.W.codeIn K cd24 "_law_pool" = true) (k24:PySem.W.keepIn K (.ref f24) = true)
  (a25:PySem.W.nsIn K mainGlobals "_law_take" = some (some (.ref f25))) (l25:K.lookup f25 = some ⟨oc25, od25, .func (PySem.W.fnOf "_law_take" "_law_take" (defArgs s_take) (defBody s_take) (defScope s_take) .none kV25 dc25 pm25 an25 cd25 ct25), sl25⟩) (cc25:PySem.W.codeIn K cd25 "_law_take" = true) (k25:PySem.W.keepIn K (.ref f25) = true)
  (a26:PySem.W.nsIn K mainGlobals "_law_products" = some (some (.ref f26))) (l26:K.lookup f26 = some ⟨oc26, od26, .func (PySem.W.fnOf "_law_products" "_law_products" (defArgs s_prod) (defBody s_prod) (defScope s_prod) .none kV26 dc26 pm26 an26 cd26 ct26), sl26⟩) (cc26:PySem.W.codeIn K cd26 "_law_products" = true) (k26:PySem.W.keepIn K (.ref f26) = true)
  (a27:PySem.W.nsIn K mainGlobals "_law_many" = some (some (.ref f27))) (l27:K.lookup f27 = some ⟨oc27, od27, .func (PySem.W.fnOf "_law_many" "_law_many" (defArgs s_many) (defBody s_many) (defScope s_many) .none kV27 dc27 pm27 an27 cd27 ct27), sl27⟩) (cc27:PySem.W.codeIn K cd27 "_law_many" = true) (k27:PySem.W.keepIn K (.ref f27) = true)
  (a28:PySem.W.nsIn K mainGlobals "_law_text" = some (some (.ref f28))) (l28:K.lookup f28 = some ⟨oc28, od28, .func (PySem.W.fnOf "_law_text" "_law_text" (defArgs s_text) (defBody s_text) (defScope s_text) .none kV28 dc28 pm28 an28 cd28 ct28), sl28⟩) (cc28:PySem.W.codeIn K cd28 "_law_text" = true) (k28:PySem.W.keepIn K (.ref f28) = true)
  (a29:PySem.W.nsIn K mainGlobals "_law_low" = some (some (.ref f29))) (l29:K.lookup f29 = some ⟨oc29, od29, .func (PySem.W.fnOf "_law_low" "_law_low" (defArgs s_llow) (defBody s_llow) (defScope s_llow) .none kV29 dc29 pm29 an29 cd29 ct29), sl29⟩) (cc29:PySem.W.codeIn K cd29 "_law_low" = true) (k29:PySem.W.keepIn K (.ref f29) = true)
  (a30:PySem.W.nsIn K mainGlobals "_law_wide" = some (some (.ref f30))) (l30:K.lookup f30 = some ⟨oc30, od30, .func (PySem.W.fnOf "_law_wide" "_law_wide" (defArgs s_lwide) (defBody s_lwide) (defScope s_lwide) .none kV30 dc30 pm30 an30 cd30 ct30), sl30⟩) (cc30:PySem.W.codeIn K cd30 "_law_wide" = true) (k30:PySem.W.keepIn K (.ref f30) = true)
  (a31:PySem.W.nsIn K mainGlobals "_law_ending" = some (some (.ref f31))) (l31:K.lookup f31 = some ⟨oc31, od31, .func (PySem.W.fnOf "_law_ending" "_law_ending" (defArgs s_lend) (defBody s_lend) (defScope s_lend) .none kV31 dc31 pm31 an31 cd31 ct31), sl31⟩) (cc31:PySem.W.codeIn K cd31 "_law_ending" = true) (k31:PySem.W.keepIn K (.ref f31) = true)
  (a32:PySem.W.nsIn K mainGlobals "_law_written" = some (some (.ref f32))) (l32:K.lookup f32 = some ⟨oc32, od32, .func (PySem.W.fnOf "_law_written" "_law_written" (defArgs s_wrt) (defBody s_wrt) (defScope s_wrt) .none kV32 dc32 pm32 an32 cd32 ct32), sl32⟩) (cc32:PySem.W.codeIn K cd32 "_law_written" = true) (k32:PySem.W.keepIn K (.ref f32) = true)
  (a33:PySem.W.nsIn K mainGlobals "_law_number" = some (some (.ref f33))) (l33:K.lookup f33 = some ⟨oc33, od33, .func (PySem.W.fnOf "_law_number" "_law_number" (defArgs s_lnum) (defBody s_lnum) (defScope s_lnum) .none kV33 dc33 pm33 an33 cd33 ct33), sl33⟩) (cc33:PySem.W.codeIn K cd33 "_law_number" = true) (k33:PySem.W.keepIn K (.ref f33) = true)
  (a34:PySem.W.nsIn K mainGlobals "_law_row" = some (some (.ref f34))) (l34:K.lookup f34 = some ⟨oc34, od34, .func (PySem.W.fnOf "_law_row" "_law_row" (defArgs s_lrow) (defBody s_lrow) (defScope s_lrow) .none kV34 dc34 pm34 an34 cd34 ct34), sl34⟩) (cc34:PySem.W.codeIn K cd34 "_law_row" = true) (k34:PySem.W.keepIn K (.ref f34) = true)
  (a35:PySem.W.nsIn K mainGlobals "_law_is" = some (some (.ref f35))) (l35:K.lookup f35 = some ⟨oc35, od35, .func (PySem.W.fnOf "_law_is" "_law_is" (defArgs s_is) (defBody s_is) (defScope s_is) .none kV35 dc35 pm35 an35 cd35 ct35), sl35⟩) (cc35:PySem.W.codeIn K cd35 "_law_is" = true) (k35:PySem.W.keepIn K (.ref f35) = true)
  (a36:PySem.W.nsIn K mainGlobals "_law_due" = some (some (.ref f36))) (l36:K.lookup f36 = some ⟨oc36, od36, .func (PySem.W.fnOf "_law_due" "_law_due" (defArgs s_due) (defBody s_due) (defScope s_due) .none kV36 dc36 pm36 an36 cd36 ct36), sl36⟩) (cc36:PySem.W.codeIn K cd36 "_law_due" = true) (k36:PySem.W.keepIn K (.ref f36) = true)
  (a37:PySem.W.nsIn K mainGlobals "_law_read" = some (some (.ref f37))) (l37:K.lookup f37 = some ⟨oc37, od37, .func (PySem.W.fnOf "_law_read" "_law_read" (defArgs s_lrd) (defBody s_lrd) (defScope s_lrd) .none kV37 dc37 pm37 an37 cd37 ct37), sl37⟩) (cc37:PySem.W.codeIn K cd37 "_law_read" = true) (k37:PySem.W.keepIn K (.ref f37) = true)
  (a38:PySem.W.nsIn K mainGlobals "_law_bent" = some (some (.ref f38))) (l38:K.lookup f38 = some ⟨oc38, od38, .func (PySem.W.fnOf "_law_bent" "_law_bent" (defArgs s_bent) (defBody s_bent) (defScope s_bent) .none kV38 dc38 pm38 an38 cd38 ct38), sl38⟩) (cc38:PySem.W.codeIn K cd38 "_law_bent" = true) (k38:PySem.W.keepIn K (.ref f38) = true)
  (a39:PySem.W.nsIn K mainGlobals "law" = some (some (.ref f39))) (l39:K.lookup f39 = some ⟨oc39, od39, .func (PySem.W.fnOf "law" "law" (defArgs s_law) (defBody s_law) (defScope s_law) .none kV39 dc39 pm39 an39 cd39 ct39), sl39⟩) (cc39:PySem.W.codeIn K cd39 "law" = true) (k39:PySem.W.keepIn K (.ref f39) = true)
  (z_isinstance:PySem.W.nsIn K mainGlobals "isinstance" = some none)
  (z_list:PySem.W.nsIn K mainGlobals "list" = some none)
  (z_int:PySem.W.nsIn K mainGlobals "int" = some none)
  (z_bool:PySem.W.nsIn K mainGlobals "bool" = some none)
  (z_len:PySem.W.nsIn K mainGlobals "len" = some none)
  (z_range:PySem.W.nsIn K mainGlobals "range" = some none)
  (z_max:PySem.W.nsIn K mainGlobals "max" = some none)
  (z_ValueError:PySem.W.nsIn K mainGlobals "ValueError" = some none)
  (z_tuple:PySem.W.nsIn K mainGlobals "tuple" = some none)
  (z_min:PySem.W.nsIn K mainGlobals "min" = some none)
  (z_sorted:PySem.W.nsIn K mainGlobals "sorted" = some none)
  (z_all:PySem.W.nsIn K mainGlobals "all" = some none)
  (z_dict:PySem.W.nsIn K mainGlobals "dict" = some none)
  (z_sum:PySem.W.nsIn K mainGlobals "sum" = some none)
  (z_set:PySem.W.nsIn K mainGlobals "set" = some none)
  (e_PackError:PySem.W.nsIn K mainGlobals "PackError" = some (some (.ref c_PackError)))
  (x0_PackError:PySem.W.excIn K c_PackError bmV "ValueError.__new__" = true) (x1_PackError:PySem.W.findIn K (.ref c_PackError) "__getattribute__" = some (some (.builtin "BaseException.__getattribute__"))) (x2_PackError:PySem.W.findIn K (.ref c_PackError) "__getattr__" = some none) (x3_PackError:PySem.W.findIn K (.ref c_PackError) "__class__" = some (some (.builtin "object.__class__"))) (x4_PackError:PySem.W.mroIn K c_PackError (.type "object") = some true) (x5_PackError:PySem.W.mroIn K c_PackError (.type "BaseException") = some true) (x6_PackError:PySem.W.typeIn K (.ref c_PackError) = some (.type "type"))
  (e_Broken:PySem.W.nsIn K mainGlobals "Broken" = some (some (.ref c_Broken)))
  (x0_Broken:PySem.W.excIn K c_Broken bmV "ValueError.__new__" = true) (x1_Broken:PySem.W.findIn K (.ref c_Broken) "__getattribute__" = some (some (.builtin "BaseException.__getattribute__"))) (x2_Broken:PySem.W.findIn K (.ref c_Broken) "__getattr__" = some none) (x3_Broken:PySem.W.findIn K (.ref c_Broken) "__class__" = some (some (.builtin "object.__class__"))) (x4_Broken:PySem.W.mroIn K c_Broken (.type "object") = some true) (x5_Broken:PySem.W.mroIn K c_Broken (.type "BaseException") = some true) (x6_Broken:PySem.W.typeIn K (.ref c_Broken) = some (.type "type"))
  (e_NoCode:PySem.W.nsIn K mainGlobals "NoCode" = some (some (.ref c_NoCode)))
  (e_NoName:PySem.W.nsIn K mainGlobals "NoName" = some (some (.ref c_NoName)))
  (e_NoNumber:PySem.W.nsIn K mainGlobals "NoNumber" = some (some (.ref c_NoNumber)))
  (x0_NoNumber:PySem.W.excIn K c_NoNumber bmV "ValueError.__new__" = true) (x1_NoNumber:PySem.W.findIn K (.ref c_NoNumber) "__getattribute__" = some (some (.builtin "BaseException.__getattribute__"))) (x2_NoNumber:PySem.W.findIn K (.ref c_NoNumber) "__getattr__" = some none) (x3_NoNumber:PySem.W.findIn K (.ref c_NoNumber) "__class__" = some (some (.builtin "object.__class__"))) (x4_NoNumber:PySem.W.mroIn K c_NoNumber (.type "object") = some true) (x5_NoNumber:PySem.W.mroIn K c_NoNumber (.type "BaseException") = some true) (x6_NoNumber:PySem.W.typeIn K (.ref c_NoNumber) = some (.type "type"))
  (e_NoPlace:PySem.W.nsIn K mainGlobals "NoPlace" = some (some (.ref c_NoPlace)))
  (e_NoRow:PySem.W.nsIn K mainGlobals "NoRow" = some (some (.ref c_NoRow)))
  (e_NoText:PySem.W.nsIn K mainGlobals "NoText" = some (some (.ref c_NoText)))
  (xm_Broken:PySem.W.mroIn K c_Broken (.ref c_PackError) = some true)
  (xv_Broken:PySem.W.kitOne K (.ref c_Broken) (.type "ValueError") = some true)
  (xo_Broken:PySem.W.kitAny K (.ref c_Broken) [.ref c_NoCode,.ref c_NoName,.ref c_NoNumber,.ref c_NoPlace,.ref c_NoRow,.ref c_NoText] = some false)
  (xk_Broken_NoNumber:PySem.W.kitOne K (.ref c_Broken) (.ref c_NoNumber) = some false)
  (xk_Broken_NoPlace:PySem.W.kitOne K (.ref c_Broken) (.ref c_NoPlace) = some false)
  (xk_Broken_NoCode:PySem.W.kitOne K (.ref c_Broken) (.ref c_NoCode) = some false)
  (xk_Broken_NoName:PySem.W.kitOne K (.ref c_Broken) (.ref c_NoName) = some false)
  (xk_Broken_NoRow:PySem.W.kitOne K (.ref c_Broken) (.ref c_NoRow) = some false)
  (xk_Broken_NoText:PySem.W.kitOne K (.ref c_Broken) (.ref c_NoText) = some false)
  (g_LAST_SIGN:PySem.W.nsIn K mainGlobals "LAST_SIGN" = some (some (.int 255 tk_LAST_SIGN)))
  (g_MOST_SIGNS:PySem.W.nsIn K mainGlobals "MOST_SIGNS" = some (some (.int 400 tk_MOST_SIGNS)))
  : ∃ fd:FuncData, (∀ (s:Shared) (v:Value), BindsTo s fd ⟨[v], []⟩ [("script", v)])∧∀ base:Heap, K.In base -> base.Ns mainGlobals mg -> FnOk l.prog w K mg base (CXW l.prog w) 8 fa fd ["script"] (spLaw K):=by
 have e:=hfa.symm.trans (PySem.W.mg_of X G a39)
 cases e
 have F1:=fun_mk (st:=s_low) l1 cc1 k1
 have b1:=F1.binds (ps:=["n", "k"]) fun _ _ _ _ _ _ us hl => by obtain ⟨x0, x1, rfl⟩:=len_2 hl; rfl
 have m1:=PySem.W.mg_of X G a1
 have F2:=fun_mk (st:=s_num) l2 cc2 k2
 have b2:=F2.binds (ps:=["bits"]) fun _ _ _ _ _ _ us hl => by obtain ⟨x0, rfl⟩:=len_1 hl; rfl
 have m2:=PySem.W.mg_of X G a2
 have F3:=fun_mk (st:=s_end) l3 cc3 k3
 have b3:=F3.binds (ps:=["n"]) fun _ _ _ _ _ _ us hl => by obtain ⟨x0, rfl⟩:=len_1 hl; rfl
 have m3:=PySem.W.mg_of X G a3
 have F4:=fun_mk (st:=s_first) l4 cc4 k4
 have b4:=F4.binds (ps:=["bits", "at"]) fun _ _ _ _ _ _ us hl => by obtain ⟨x0, x1, rfl⟩:=len_2 hl; rfl
 have m4:=PySem.W.mg_of X G a4
 have F5:=fun_mk (st:=s_read) l5 cc5 k5
 have b5:=F5.binds (ps:=["bits", "at"]) fun _ _ _ _ _ _ us hl => by obtain ⟨x0, x1, rfl⟩:=len_2 hl; rfl
 have m5:=PySem.W.mg_of X G a5
 have F6:=fun_mk (st:=s_row) l6 cc6 k6
 have b6:=F6.binds (ps:=["numbers"]) fun _ _ _ _ _ _ us hl => by obtain ⟨x0, rfl⟩:=len_1 hl; rfl
 have m6:=PySem.W.mg_of X G a6
 have F7:=fun_mk (st:=s_rdrow) l7 cc7 k7
 have b7:=F7.binds (ps:=["bits", "at"]) fun _ _ _ _ _ _ us hl => by obtain ⟨x0, x1, rfl⟩:=len_2 hl; rfl
 have m7:=PySem.W.mg_of X G a7
 have F8:=fun_mk (st:=s_whole) l8 cc8 k8
 have b8:=F8.binds (ps:=["thing"]) fun _ _ _ _ _ _ us hl => by obtain ⟨x0, rfl⟩:=len_1 hl; rfl
 have m8:=PySem.W.mg_of X G a8
 have F9:=fun_mk (st:=s_unp) l9 cc9 k9
 have b9:=F9.binds (ps:=["pairs"]) fun _ _ _ _ _ _ us hl => by obtain ⟨x0, rfl⟩:=len_1 hl; rfl
 have m9:=PySem.W.mg_of X G a9
 have F10:=fun_mk (st:=s_prd) l10 cc10 k10
 have b10:=F10.binds (ps:=["numbers"]) fun _ _ _ _ _ _ us hl => by obtain ⟨x0, rfl⟩:=len_1 hl; rfl
 have m10:=PySem.W.mg_of X G a10
 have F11:=fun_mk (st:=s_counts) l11 cc11 k11
 have b11:=F11.binds (ps:=["text"]) fun _ _ _ _ _ _ us hl => by obtain ⟨x0, rfl⟩:=len_1 hl; rfl
 have m11:=PySem.W.mg_of X G a11
 have F12:=fun_mk (st:=s_rise) l12 cc12 k12
 have b12:=F12.binds (ps:=["pairs"]) fun _ _ _ _ _ _ us hl => by obtain ⟨x0, rfl⟩:=len_1 hl; rfl
 have m12:=PySem.W.mg_of X G a12
 have F13:=fun_mk (st:=s_arec) l13 cc13 k13
 have b13:=F13.binds (ps:=["counts"]) fun _ _ _ _ _ _ us hl => by obtain ⟨x0, rfl⟩:=len_1 hl; rfl
 have m13:=PySem.W.mg_of X G a13
 have F14:=fun_mk (st:=s_pair) l14 cc14 k14
 have b14:=F14.binds (ps:=["thing"]) fun _ _ _ _ _ _ us hl => by obtain ⟨x0, rfl⟩:=len_1 hl; rfl
 have m14:=PySem.W.mg_of X G a14
 have F15:=fun_mk (st:=s_have) l15 cc15 k15
 have b15:=F15.binds (ps:=["counts"]) fun _ _ _ _ _ _ us hl => by obtain ⟨x0, rfl⟩:=len_1 hl; rfl
 have m15:=PySem.W.mg_of X G a15
 have F16:=fun_mk (st:=s_orders) l16 cc16 k16
 have b16:=F16.binds (ps:=["counts"]) fun _ _ _ _ _ _ us hl => by obtain ⟨x0, rfl⟩:=len_1 hl; rfl
 have m16:=PySem.W.mg_of X G a16
 have F17:=fun_mk (st:=s_texts) l17 cc17 k17
 have b17:=F17.binds (ps:=["counts"]) fun _ _ _ _ _ _ us hl => by obtain ⟨x0, rfl⟩:=len_1 hl; rfl
 have m17:=PySem.W.mg_of X G a17
 have F18:=fun_mk (st:=s_share) l18 cc18 k18
 have b18:=F18.binds (ps:=["text"]) fun _ _ _ _ _ _ us hl => by obtain ⟨x0, rfl⟩:=len_1 hl; rfl
 have m18:=PySem.W.mg_of X G a18
 have F19:=fun_mk (st:=s_inord) l19 cc19 k19
 have b19:=F19.binds (ps:=["counts"]) fun _ _ _ _ _ _ us hl => by obtain ⟨x0, rfl⟩:=len_1 hl; rfl
 have m19:=PySem.W.mg_of X G a19
 have F20:=fun_mk (st:=s_tbs) l20 cc20 k20
 have b20:=F20.binds (ps:=["counts", "number"]) fun _ _ _ _ _ _ us hl => by obtain ⟨x0, x1, rfl⟩:=len_2 hl; rfl
 have m20:=PySem.W.mg_of X G a20
 have F21:=fun_mk (st:=s_eno) l21 cc21 k21
 have b21:=F21.binds (ps:=["texts"]) fun _ _ _ _ _ _ us hl => by obtain ⟨x0, rfl⟩:=len_1 hl; rfl
 have m21:=PySem.W.mg_of X G a21
 have F22:=fun_mk (st:=s_shb) l22 cc22 k22
 have b22:=F22.binds (ps:=["text"]) fun _ _ _ _ _ _ us hl => by obtain ⟨x0, rfl⟩:=len_1 hl; rfl
 have m22:=PySem.W.mg_of X G a22
 have F23:=fun_mk (st:=s_rds) l23 cc23 k23
 have b23:=F23.binds (ps:=["bits", "at"]) fun _ _ _ _ _ _ us hl => by obtain ⟨x0, x1, rfl⟩:=len_2 hl; rfl
 have m23:=PySem.W.mg_of X G a23
 have F24:=fun_mk (st:=s_pool) l24 cc24 k24
 have b24:=F24.binds (ps:=["script", "k"]) fun _ _ _ _ _ _ us hl => by obtain ⟨x0, x1, rfl⟩:=len_2 hl; rfl
 have m24:=PySem.W.mg_of X G a24
 have F25:=fun_mk (st:=s_take) l25 cc25 k25
 have b25:=F25.binds (ps:=["pool", "many"]) fun _ _ _ _ _ _ us hl => by obtain ⟨x0, x1, rfl⟩:=len_2 hl; rfl
 have m25:=PySem.W.mg_of X G a25
 have F26:=fun_mk (st:=s_prod) l26 cc26 k26
 have b26:=F26.binds (ps:=["most"]) fun _ _ _ _ _ _ us hl => by obtain ⟨x0, rfl⟩:=len_1 hl; rfl
 have m26:=PySem.W.mg_of X G a26
 have F27:=fun_mk (st:=s_many) l27 cc27 k27
 have b27:=F27.binds (ps:=["counts", "products"]) fun _ _ _ _ _ _ us hl => by obtain ⟨x0, x1, rfl⟩:=len_2 hl; rfl
 have m27:=PySem.W.mg_of X G a27
 have F28:=fun_mk (st:=s_text) l28 cc28 k28
 have b28:=F28.binds (ps:=["pool", "first"]) fun _ _ _ _ _ _ us hl => by obtain ⟨x0, x1, rfl⟩:=len_2 hl; rfl
 have m28:=PySem.W.mg_of X G a28
 have F29:=fun_mk (st:=s_llow) l29 cc29 k29
 have b29:=F29.binds (ps:=["number", "wide"]) fun _ _ _ _ _ _ us hl => by obtain ⟨x0, x1, rfl⟩:=len_2 hl; rfl
 have m29:=PySem.W.mg_of X G a29
 have F30:=fun_mk (st:=s_lwide) l30 cc30 k30
 have b30:=F30.binds (ps:=["number"]) fun _ _ _ _ _ _ us hl => by obtain ⟨x0, rfl⟩:=len_1 hl; rfl
 have m30:=PySem.W.mg_of X G a30
 have F31:=fun_mk (st:=s_lend) l31 cc31 k31
 have b31:=F31.binds (ps:=["number"]) fun _ _ _ _ _ _ us hl => by obtain ⟨x0, rfl⟩:=len_1 hl; rfl
 have m31:=PySem.W.mg_of X G a31
 have F32:=fun_mk (st:=s_wrt) l32 cc32 k32
 have b32:=F32.binds (ps:=["text", "products"]) fun _ _ _ _ _ _ us hl => by obtain ⟨x0, x1, rfl⟩:=len_2 hl; rfl
 have m32:=PySem.W.mg_of X G a32
 have F33:=fun_mk (st:=s_lnum) l33 cc33 k33
 have b33:=F33.binds (ps:=["bits", "at"]) fun _ _ _ _ _ _ us hl => by obtain ⟨x0, x1, rfl⟩:=len_2 hl; rfl
 have m33:=PySem.W.mg_of X G a33
 have F34:=fun_mk (st:=s_lrow) l34 cc34 k34
 have b34:=F34.binds (ps:=["bits", "at"]) fun _ _ _ _ _ _ us hl => by obtain ⟨x0, x1, rfl⟩:=len_2 hl; rfl
 have m34:=PySem.W.mg_of X G a34
 have F35:=fun_mk (st:=s_is) l35 cc35 k35
 have b35:=F35.binds (ps:=["counts"]) fun _ _ _ _ _ _ us hl => by obtain ⟨x0, rfl⟩:=len_1 hl; rfl
 have m35:=PySem.W.mg_of X G a35
 have F36:=fun_mk (st:=s_due) l36 cc36 k36
 have b36:=F36.binds (ps:=["bits", "at", "products"]) fun _ _ _ _ _ _ us hl => by obtain ⟨x0, x1, x2, rfl⟩:=len_3 hl; rfl
 have m36:=PySem.W.mg_of X G a36
 have F37:=fun_mk (st:=s_lrd) l37 cc37 k37
 have b37:=F37.binds (ps:=["bits", "at"]) fun _ _ _ _ _ _ us hl => by obtain ⟨x0, x1, rfl⟩:=len_2 hl; rfl
 have m37:=PySem.W.mg_of X G a37
 have F38:=fun_mk (st:=s_bent) l38 cc38 k38
 have b38:=F38.binds (ps:=["bits", "pool"]) fun _ _ _ _ _ _ us hl => by obtain ⟨x0, x1, rfl⟩:=len_2 hl; rfl
 have m38:=PySem.W.mg_of X G a38
 have F39:=fun_mk (st:=s_law) l39 cc39 k39
 have n_isinstance:=PySem.W.mg_none_of X G z_isinstance
 have n_list:=PySem.W.mg_none_of X G z_list
 have n_int:=PySem.W.mg_none_of X G z_int
 have n_bool:=PySem.W.mg_none_of X G z_bool
 have n_len:=PySem.W.mg_none_of X G z_len
 have n_range:=PySem.W.mg_none_of X G z_range
 have n_max:=PySem.W.mg_none_of X G z_max
 have n_ValueError:=PySem.W.mg_none_of X G z_ValueError
 have n_tuple:=PySem.W.mg_none_of X G z_tuple
 have n_min:=PySem.W.mg_none_of X G z_min
 have n_sorted:=PySem.W.mg_none_of X G z_sorted
 have n_all:=PySem.W.mg_none_of X G z_all
 have n_dict:=PySem.W.mg_none_of X G z_dict
 have n_sum:=PySem.W.mg_none_of X G z_sum
 have n_set:=PySem.W.mg_none_of X G z_set
 have m_PackError:=PySem.W.mg_of X G e_PackError
 have X_PackError:Ex K mg "PackError" c_PackError:=⟨m_PackError, x0_PackError, ⟨x1_PackError, x2_PackError, x3_PackError, x4_PackError, x5_PackError, x6_PackError⟩⟩
 have m_Broken:=PySem.W.mg_of X G e_Broken
 have X_Broken:Ex K mg "Broken" c_Broken:=⟨m_Broken, x0_Broken, ⟨x1_Broken, x2_Broken, x3_Broken, x4_Broken, x5_Broken, x6_Broken⟩⟩
 have m_NoCode:=PySem.W.mg_of X G e_NoCode
 have m_NoName:=PySem.W.mg_of X G e_NoName
 have m_NoNumber:=PySem.W.mg_of X G e_NoNumber
 have X_NoNumber:Ex K mg "NoNumber" c_NoNumber:=⟨m_NoNumber, x0_NoNumber, ⟨x1_NoNumber, x2_NoNumber, x3_NoNumber, x4_NoNumber, x5_NoNumber, x6_NoNumber⟩⟩
 have m_NoPlace:=PySem.W.mg_of X G e_NoPlace
 have m_NoRow:=PySem.W.mg_of X G e_NoRow
 have m_NoText:=PySem.W.mg_of X G e_NoText
 refine ⟨PySem.W.fnOf "law" "law" (defArgs s_law) (defBody s_law) (defScope s_law) .none kV39 dc39 pm39 an39 cd39 ct39, fun s v => .of_eq rfl, fun base _ _ => ?_⟩
 have m_MS:MS mg:=⟨_,PySem.W.mg_of X G g_MOST_SIGNS,⟨_,rfl⟩⟩
 have m_LS:LS mg:=⟨_,PySem.W.mg_of X G g_LAST_SIGN,⟨_,rfl⟩⟩
 have B:Bls mg:=⟨n_isinstance,n_list,n_int,n_bool,n_len,n_range,n_max,n_ValueError,n_tuple,n_min,n_sorted,n_all,n_dict⟩
 have r_Broken:ExR K c_PackError c_Broken c_NoCode c_NoName c_NoNumber c_NoPlace c_NoRow c_NoText:=⟨xm_Broken,xv_Broken,xo_Broken⟩
 have k_Broken:ExK K c_Broken c_NoNumber c_NoPlace c_NoCode c_NoName c_NoRow c_NoText:=⟨xk_Broken_NoNumber,xk_Broken_NoPlace,xk_Broken_NoCode,xk_Broken_NoName,xk_Broken_NoRow,xk_Broken_NoText⟩
 have G_low:=ok_low (P:=l.prog) (w:=w) (mg:=mg) (base:=base) F1 X_NoNumber n_len
 have G_num:=ok_num (P:=l.prog) (w:=w) (mg:=mg) (base:=base) F2 
 have G_end:=ok_end (P:=l.prog) (w:=w) (mg:=mg) (base:=base) F3 X_NoNumber G_low b1 k1 m1
 have G_first:=ok_first (P:=l.prog) (w:=w) (mg:=mg) (base:=base) F4 X_Broken B.bl
 have G_read:=ok_read (P:=l.prog) (w:=w) (mg:=mg) (base:=base) F5 X_Broken B.bl G_first b4 k4 m4 G_num b2 k2 m2
 have G_row:=ok_row (P:=l.prog) (w:=w) (mg:=mg) (base:=base) F6 B G_end b3 k3 m3
 have G_rdrow:=ok_rdrow (P:=l.prog) (w:=w) (mg:=mg) (base:=base) F7 B G_read b5 k5 m5
 have G_whole:=ok_whole (P:=l.prog) (w:=w) (mg:=mg) (base:=base) F8 B
 have G_unp:=ok_unp (P:=l.prog) (w:=w) (mg:=mg) (base:=base) F9 B
 have G_prd:=ok_prd (P:=l.prog) (w:=w) (mg:=mg) (base:=base) F10 B X_Broken m_Broken
 have G_counts:=ok_counts (P:=l.prog) (w:=w) (mg:=mg) (base:=base) F11 B
 have G_rise:=ok_rise (P:=l.prog) (w:=w) (mg:=mg) (base:=base) F12 B m_LS
 have G_arec:=ok_arec (P:=l.prog) (w:=w) (mg:=mg) (base:=base) F13 B G_rise b12 k12 m12
 have G_pair:=ok_pair (P:=l.prog) (w:=w) (mg:=mg) (base:=base) F14 B G_whole b8 k8 m8
 have G_have:=ok_have (P:=l.prog) (w:=w) (mg:=mg) (base:=base) F15 B m_MS n_sum G_arec b13 k13 m13 G_pair b14 k14 m14
 have G_orders:=ok_orders (P:=l.prog) (w:=w) (mg:=mg) (base:=base) F16 B
 have G_texts:=ok_texts (P:=l.prog) (w:=w) (mg:=mg) (base:=base) F17 B X_Broken m_Broken G_have b15 k15 m15 G_orders b16 k16 m16
 have G_share:=ok_share (P:=l.prog) (w:=w) (mg:=mg) (base:=base) F18 B G_counts b11 k11 m11 G_orders b16 k16 m16
 have G_inord:=ok_inord (P:=l.prog) (w:=w) (mg:=mg) (base:=base) F19 B
 have G_tbs:=ok_tbs (P:=l.prog) (w:=w) (mg:=mg) (base:=base) F20 B X_Broken m_Broken G_whole b8 k8 m8 G_texts b17 k17 m17 G_inord b19 k19 m19
 have G_eno:=ok_eno (P:=l.prog) (w:=w) (mg:=mg) (base:=base) F21 B
 have G_shb:=ok_shb (P:=l.prog) (w:=w) (mg:=mg) (base:=base) F22 B G_low b1 k1 m1 G_row b6 k6 m6 G_unp b9 k9 m9 G_orders b16 k16 m16 G_share b18 k18 m18 G_eno b21 k21 m21
 have G_rds:=ok_rds (P:=l.prog) (w:=w) (mg:=mg) (base:=base) F23 B X_Broken m_Broken G_num b2 k2 m2 G_rdrow b7 k7 m7 G_prd b10 k10 m10 G_texts b17 k17 m17 G_tbs b20 k20 m20 G_eno b21 k21 m21
 have G_pool:=ok_pool (P:=l.prog) (w:=w) (mg:=mg) (base:=base) F24 B
 have G_take:=ok_take (P:=l.prog) (w:=w) (mg:=mg) (base:=base) F25 B
 have G_prod:=ok_prod (P:=l.prog) (w:=w) (mg:=mg) (base:=base) F26 B
 have G_many:=ok_many (P:=l.prog) (w:=w) (mg:=mg) (base:=base) F27 B n_sum
 have G_text:=ok_text (P:=l.prog) (w:=w) (mg:=mg) (base:=base) F28 B G_take b25 k25 m25
 have G_llow:=ok_llow (P:=l.prog) (w:=w) (mg:=mg) (base:=base) F29 B
 have G_lwide:=ok_lwide (P:=l.prog) (w:=w) (mg:=mg) (base:=base) F30 B
 have G_lend:=ok_lend (P:=l.prog) (w:=w) (mg:=mg) (base:=base) F31 B G_llow b29 k29 m29 G_lwide b30 k30 m30
 have G_wrt:=ok_wrt (P:=l.prog) (w:=w) (mg:=mg) (base:=base) F32 B n_set G_share b18 k18 m18 G_many b27 k27 m27 G_llow b29 k29 m29 G_lwide b30 k30 m30 G_lend b31 k31 m31
 have G_lnum:=ok_lnum (P:=l.prog) (w:=w) (mg:=mg) (base:=base) F33 B
 have G_lrow:=ok_lrow (P:=l.prog) (w:=w) (mg:=mg) (base:=base) F34 B G_lnum b33 k33 m33
 have G_is:=ok_is (P:=l.prog) (w:=w) (mg:=mg) (base:=base) F35 B n_sum
 have G_due:=ok_due (P:=l.prog) (w:=w) (mg:=mg) (base:=base) F36 B G_tbs b20 k20 m20 G_many b27 k27 m27 G_lwide b30 k30 m30 G_lrow b34 k34 m34 G_is b35 k35 m35
 have G_lrd:=ok_lrd (P:=l.prog) (w:=w) (mg:=mg) (base:=base) F37 B X_Broken X_PackError m_Broken m_NoCode m_NoName m_NoNumber m_NoPlace m_NoRow m_NoText m_PackError r_Broken k_Broken G_rds b23 k23 m23
 have G_bent:=ok_bent (P:=l.prog) (w:=w) (mg:=mg) (base:=base) F38 B G_take b25 k25 m25
 exact ok_law (P:=l.prog) (w:=w) (mg:=mg) (base:=base) F39 B G_shb b22 k22 m22 G_pool b24 k24 m24 G_take b25 k25 m25 G_prod b26 k26 m26 G_text b28 k28 m28 G_wrt b32 k32 m32 G_due b36 k36 m36 G_lrd b37 k37 m37 G_bent b38 k38 m38
theorem walk {l:PySem.W.OpenLaw} {q:Program} {loose:List Str} {XP:(Str -> Option Value) -> Heap -> Prop} {YP:World -> Heap -> Prop} {d:DefRec} {K:Params -> PySem.W.Frag} (hn:l.most = some 63) (hdf:d.params.defaults = [])
  (hY:∀ (w:World) (h:Heap),YP w h -> (K w.params).In h)
  (F:∀ (w:World) (mg:Str -> Option Value) (fa:Addr) (h:Heap),(K w.params).In h -> h.Ns mainGlobals mg -> mg d.name = some (.ref fa) →
   ∃ fd:FuncData, (∀ (s:Shared) (u:Value), BindsTo s fd ⟨[u], []⟩ [("script", u)])∧∀ base:Heap, (K w.params).In base -> base.Ns mainGlobals mg -> FnOk l.prog w (K w.params) mg base (CXW l.prog w) 8 fa fd ["script"] (spLaw (K w.params))) :
  PySem.W.WalkO q loose XP YP l.row.toRowW d [] (fun f vs => PySem.call f vs) :=
 L2.walk_of (n:=63) (k:=8) (x:="script") (CX:=fun w => CXW l.prog w) (sp:=fun w => spLaw (K w.params)) hn (by decide) hdf ⟨rfl, by decide, by decide⟩ hY F (fun _ _ a ns hl _ hS => ⟨a, ns, rfl, hS, hl, fun _ => rfl⟩) fun _ _ _ _ _ z => by
  obtain ⟨_,_,_,_,_,_,_,_,_,_,_,_,_,hE⟩:=z
  exact hE
end
end K54
theorem PySem.W.Fast.tw6883258818835248893:True:=trivial
theorem PySem.W.Fast.tw5932802466397197669:True:=trivial
theorem PySem.W.Fast.tw3712500623461686192:True:=trivial
theorem PySem.W.Fast.tw17568409058333095594:True:=trivial
theorem PySem.W.Fast.tw7965456636359820600:True:=trivial
theorem PySem.W.Fast.tw3808774532393351200:True:=trivial
theorem PySem.W.Fast.tw4771775209500648135:True:=trivial
theorem PySem.W.Fast.tw17382630112624997315:True:=trivial
theorem PySem.W.Fast.tw7945044155001328628:True:=trivial
theorem PySem.W.Fast.tw6959995243304125898:True:=trivial
theorem PySem.W.Fast.tw11577900839502970202:True:=trivial
theorem PySem.W.Fast.tw7112826183219010755:True:=trivial
theorem PySem.W.Fast.tw5897999017533801958:True:=trivial
theorem PySem.W.Fast.tw6861346466050257744:True:=trivial
theorem PySem.W.Fast.tw844716247462238081:True:=trivial
theorem PySem.W.Fast.tw16876200721973682291:True:=trivial
theorem PySem.W.Fast.tw6060815099924060132:True:=trivial
theorem PySem.W.Fast.tw10641153220981513777:True:=trivial
theorem PySem.W.Fast.tw10541640951985046142:True:=trivial
theorem PySem.W.Fast.tw16883357972587680674:True:=trivial
theorem PySem.W.Fast.tw10428494367394287715:True:=trivial
theorem PySem.W.Fast.tw14240553827337772944:True:=trivial
theorem PySem.W.Fast.tw93508595270105149:True:=trivial
theorem PySem.W.Fast.tw7208737000652107268:True:=trivial
theorem PySem.W.Fast.tw16986224387262006440:True:=trivial
theorem PySem.W.Fast.tw17173242867686576043:True:=trivial
theorem PySem.W.Fast.tw5096039870367437286:True:=trivial
theorem PySem.W.Fast.tw4514427548791095964:True:=trivial
theorem PySem.W.Fast.tw10107194731103601269:True:=trivial
theorem PySem.W.Fast.tw2696682028840615966:True:=trivial
theorem PySem.W.Fast.tw16075382514332183440:True:=trivial
theorem PySem.W.Fast.tw4875865932704162344:True:=trivial
theorem PySem.W.Fast.tw11031929353666696736:True:=trivial
theorem PySem.W.Fast.tw13456613715453405363:True:=trivial
theorem PySem.W.Fast.tw3601212310833148442:True:=trivial
theorem PySem.W.Fast.tw9834691940560772471:True:=trivial
theorem PySem.W.Fast.tw8244138817603906722:True:=trivial
theorem PySem.W.Fast.tw9798814676924506041:True:=trivial
theorem PySem.W.Fast.tw15947890027576359561:True:=trivial
theorem PySem.W.Fast.tw17956847423626242610:True:=trivial
theorem PySem.W.Fast.tw3552352480898984272:True:=trivial
open PySem PySem.W PyProof.Rows
set_option maxRecDepth 100000 in
set_option maxHeartbeats 0 in
theorem PySem.Challenge.cw_packhall_k54_whole_shares_as_bits_holds : PySem.Challenge.rw_packhall_k54_whole_shares_as_bits.Holds := by
  w_on; o_law; k_head; (case hw => w_witness2)
  k_fill
  refine K54.walk (l := PySem.Challenge.rw_packhall_k54_whole_shares_as_bits) rfl rfl (fun w h Y => PySem.W.kIn_of Y) ?F
  case F =>
    intro w mg fa h KX G hmg
    refine' K54.all_mk KX G hmg ?a1 ?l1 ?cc1 ?k1 ?a2 ?l2 ?cc2 ?k2 ?a3 ?l3 ?cc3 ?k3 ?a4 ?l4 ?cc4 ?k4 ?a5 ?l5 ?cc5 ?k5 ?a6 ?l6 ?cc6 ?k6 ?a7 ?l7 ?cc7 ?k7 ?a8 ?l8 ?cc8 ?k8 ?a9 ?l9 ?cc9 ?k9 ?a10 ?l10 ?cc10 ?k10 ?a11 ?l11 ?cc11 ?k11 ?a12 ?l12 ?cc12 ?k12 ?a13 ?l13 ?cc13 ?k13 ?a14 ?l14 ?cc14 ?k14 ?a15 ?l15 ?cc15 ?k15 ?a16 ?l16 ?cc16 ?k16 ?a17 ?l17 ?cc17 ?k17 ?a18 ?l18 ?cc18 ?k18 ?a19 ?l19 ?cc19 ?k19 ?a20 ?l20 ?cc20 ?k20 ?a21 ?l21 ?cc21 ?k21 ?a22 ?l22 ?cc22 ?k22 ?a23 ?l23 ?cc23 ?k23 ?a24 ?l24 ?cc24 ?k24 ?a25 ?l25 ?cc25 ?k25 ?a26 ?l26 ?cc26 ?k26 ?a27 ?l27 ?cc27 ?k27 ?a28 ?l28 ?cc28 ?k28 ?a29 ?l29 ?cc29 ?k29 ?a30 ?l30 ?cc30 ?k30 ?a31 ?l31 ?cc31 ?k31 ?a32 ?l32 ?cc32 ?k32 ?a33 ?l33 ?cc33 ?k33 ?a34 ?l34 ?cc34 ?k34 ?a35 ?l35 ?cc35 ?k35 ?a36 ?l36 ?cc36 ?k36 ?a37 ?l37 ?cc37 ?k37 ?a38 ?l38 ?cc38 ?k38 ?a39 ?l39 ?cc39 ?k39 ?z_isinstance ?z_list ?z_int ?z_bool ?z_len ?z_range ?z_max ?z_ValueError ?z_tuple ?z_min ?z_sorted ?z_all ?z_dict ?z_sum ?z_set ?e_PackError ?x0_PackError ?x1_PackError ?x2_PackError ?x3_PackError ?x4_PackError ?x5_PackError ?x6_PackError ?e_Broken ?x0_Broken ?x1_Broken ?x2_Broken ?x3_Broken ?x4_Broken ?x5_Broken ?x6_Broken ?e_NoCode ?e_NoName ?e_NoNumber ?x0_NoNumber ?x1_NoNumber ?x2_NoNumber ?x3_NoNumber ?x4_NoNumber ?x5_NoNumber ?x6_NoNumber ?e_NoPlace ?e_NoRow ?e_NoText ?xm_Broken ?xv_Broken ?xo_Broken ?xk_Broken_NoNumber ?xk_Broken_NoPlace ?xk_Broken_NoCode ?xk_Broken_NoName ?xk_Broken_NoRow ?xk_Broken_NoText ?g_LAST_SIGN ?g_MOST_SIGNS
    (case a1 => k_is)
    (case l1 => k_is)
    (case cc1 => k_is)
    (case k1 => k_is)
    (case a2 => k_is)
    (case l2 => k_is)
    (case cc2 => k_is)
    (case k2 => k_is)
    (case a3 => k_is)
    (case l3 => k_is)
    (case cc3 => k_is)
    (case k3 => k_is)
    (case a4 => k_is)
    (case l4 => k_is)
    (case cc4 => k_is)
    (case k4 => k_is)
    (case a5 => k_is)
    (case l5 => k_is)
    (case cc5 => k_is)
    (case k5 => k_is)
    (case a6 => k_is)
    (case l6 => k_is)
    (case cc6 => k_is)
    (case k6 => k_is)
    (case a7 => k_is)
    (case l7 => k_is)
    (case cc7 => k_is)
    (case k7 => k_is)
    (case a8 => k_is)
    (case l8 => k_is)
    (case cc8 => k_is)
    (case k8 => k_is)
    (case a9 => k_is)
    (case l9 => k_is)
    (case cc9 => k_is)
    (case k9 => k_is)
    (case a10 => k_is)
    (case l10 => k_is)
    (case cc10 => k_is)
    (case k10 => k_is)
    (case a11 => k_is)
    (case l11 => k_is)
    (case cc11 => k_is)
    (case k11 => k_is)
    (case a12 => k_is)
    (case l12 => k_is)
    (case cc12 => k_is)
    (case k12 => k_is)
    (case a13 => k_is)
    (case l13 => k_is)
    (case cc13 => k_is)
    (case k13 => k_is)
    (case a14 => k_is)
    (case l14 => k_is)
    (case cc14 => k_is)
    (case k14 => k_is)
    (case a15 => k_is)
    (case l15 => k_is)
    (case cc15 => k_is)
    (case k15 => k_is)
    (case a16 => k_is)
    (case l16 => k_is)
    (case cc16 => k_is)
    (case k16 => k_is)
    (case a17 => k_is)
    (case l17 => k_is)
    (case cc17 => k_is)
    (case k17 => k_is)
    (case a18 => k_is)
    (case l18 => k_is)
    (case cc18 => k_is)
    (case k18 => k_is)
    (case a19 => k_is)
    (case l19 => k_is)
    (case cc19 => k_is)
    (case k19 => k_is)
    (case a20 => k_is)
    (case l20 => k_is)
    (case cc20 => k_is)
    (case k20 => k_is)
    (case a21 => k_is)
    (case l21 => k_is)
    (case cc21 => k_is)
    (case k21 => k_is)
    (case a22 => k_is)
    (case l22 => k_is)
    (case cc22 => k_is)
    (case k22 => k_is)
    (case a23 => k_is)
    (case l23 => k_is)
    (case cc23 => k_is)
    (case k23 => k_is)
    (case a24 => k_is)
    (case l24 => k_is)
    (case cc24 => k_is)
    (case k24 => k_is)
    (case a25 => k_is)
    (case l25 => k_is)
    (case cc25 => k_is)
    (case k25 => k_is)
    (case a26 => k_is)
    (case l26 => k_is)
    (case cc26 => k_is)
    (case k26 => k_is)
    (case a27 => k_is)
    (case l27 => k_is)
    (case cc27 => k_is)
    (case k27 => k_is)
    (case a28 => k_is)
    (case l28 => k_is)
    (case cc28 => k_is)
    (case k28 => k_is)
    (case a29 => k_is)
    (case l29 => k_is)
    (case cc29 => k_is)
    (case k29 => k_is)
    (case a30 => k_is)
    (case l30 => k_is)
    (case cc30 => k_is)
    (case k30 => k_is)
    (case a31 => k_is)
    (case l31 => k_is)
    (case cc31 => k_is)
    (case k31 => k_is)
    (case a32 => k_is)
    (case l32 => k_is)
    (case cc32 => k_is)
    (case k32 => k_is)
    (case a33 => k_is)
    (case l33 => k_is)
    (case cc33 => k_is)
    (case k33 => k_is)
    (case a34 => k_is)
    (case l34 => k_is)
    (case cc34 => k_is)
    (case k34 => k_is)
    (case a35 => k_is)
    (case l35 => k_is)
    (case cc35 => k_is)
    (case k35 => k_is)
    (case a36 => k_is)
    (case l36 => k_is)
    (case cc36 => k_is)
    (case k36 => k_is)
    (case a37 => k_is)
    (case l37 => k_is)
    (case cc37 => k_is)
    (case k37 => k_is)
    (case a38 => k_is)
    (case l38 => k_is)
    (case cc38 => k_is)
    (case k38 => k_is)
    (case a39 => k_is)
    (case l39 => k_is)
    (case cc39 => k_is)
    (case k39 => k_is)
    (case z_isinstance => k_is)
    (case z_list => k_is)
    (case z_int => k_is)
    (case z_bool => k_is)
    (case z_len => k_is)
    (case z_range => k_is)
    (case z_max => k_is)
    (case z_ValueError => k_is)
    (case z_tuple => k_is)
    (case z_min => k_is)
    (case z_sorted => k_is)
    (case z_all => k_is)
    (case z_dict => k_is)
    (case z_sum => k_is)
    (case z_set => k_is)
    (case e_PackError => k_is)
    (case x0_PackError => k_exc)
    (case x1_PackError => k_is)
    (case x2_PackError => k_is)
    (case x3_PackError => k_is)
    (case x4_PackError => k_is)
    (case x5_PackError => k_is)
    (case x6_PackError => k_is)
    (case e_Broken => k_is)
    (case x0_Broken => k_exc)
    (case x1_Broken => k_is)
    (case x2_Broken => k_is)
    (case x3_Broken => k_is)
    (case x4_Broken => k_is)
    (case x5_Broken => k_is)
    (case x6_Broken => k_is)
    (case e_NoCode => k_is)
    (case e_NoName => k_is)
    (case e_NoNumber => k_is)
    (case x0_NoNumber => k_exc)
    (case x1_NoNumber => k_is)
    (case x2_NoNumber => k_is)
    (case x3_NoNumber => k_is)
    (case x4_NoNumber => k_is)
    (case x5_NoNumber => k_is)
    (case x6_NoNumber => k_is)
    (case e_NoPlace => k_is)
    (case e_NoRow => k_is)
    (case e_NoText => k_is)
    (case xm_Broken => k_is)
    (case xv_Broken => kit_is)
    (case xo_Broken => kit_is)
    (case xk_Broken_NoNumber => kit_is)
    (case xk_Broken_NoPlace => kit_is)
    (case xk_Broken_NoCode => kit_is)
    (case xk_Broken_NoName => kit_is)
    (case xk_Broken_NoRow => kit_is)
    (case xk_Broken_NoText => kit_is)
    (case g_LAST_SIGN => k_is)
    (case g_MOST_SIGNS => k_is)

