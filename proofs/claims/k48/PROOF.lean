import PyProof.Rows.All
import Wide.All
import OpenK.AllK
import Wide.FinOn
import Lean
import PyProof.EqAt
import PyProof.EqKinds
import PyProof.TupleCall
import PyProof.NsDelKeeps
import PyProof.NeKinds
import PySem.Challenge.RW_packhall_k48_whole_any_bits_and_rows
local macro_rules | `(tactic| trivial) => `(tactic| first | with_reducible assumption | lia | omega)
set_option Elab.async false
set_option linter.all false
set_option maxRecDepth 100000
namespace L2
open PySem PySem.Spec PyProof.Rows
noncomputable abbrev Key:=Sum Int Str
noncomputable def keyIs:Key -> Value -> Bool
 | .inl k,v => Value.isInt k v
 | .inr x,v => Value.isStrOf x v
noncomputable def keyH (w:World):Key -> Int
 | .inl k => hashInt k
 | .inr x => hashStr w x
theorem keyIs_shape:∀ {k:Key} {v:Value},keyIs k v=true -> (∃ i t,k=Sum.inl i∧v=Value.int i t)∨(∃ x t,k=Sum.inr x∧v=Value.str x t)
 | .inl i,v,h => by
  obtain ⟨t,e⟩:=Value.isInt_shape (k:=i) (v:=v) h
  exact .inl ⟨i,t,rfl,e⟩
 | .inr x,v,h => by
  obtain ⟨t,e⟩:=Value.isStrOf_shape (x:=x) (v:=v) h
  exact .inr ⟨x,t,rfl,e⟩
theorem keyIs_int (i:Int) (t:Tok):keyIs (.inl i) (.int i t)=true:=by simp [keyIs,Value.isInt]
theorem keyIs_str (x:Str) (t:Tok):keyIs (.inr x) (.str x t)=true:=by simp [keyIs,Value.isStrOf]
theorem key_ll (a b:Int):decide ((Sum.inl a:Key)=Sum.inl b)=(a == b):=by
 by_cases e:a=b
 ·subst e; simp
 ·have h:¬ (Sum.inl a:Key)=Sum.inl b:=fun q => e (Sum.inl.inj q)
  rw [decide_eq_false h]
  exact (beq_eq_false_iff_ne.mpr e).symm
theorem key_rr (a b:Str):decide ((Sum.inr a:Key)=Sum.inr b)=decide (a=b):=by
 by_cases e:a=b
 ·subst e; simp
 ·have h:¬ (Sum.inr a:Key)=Sum.inr b:=fun q => e (Sum.inr.inj q)
  rw [decide_eq_false h,decide_eq_false e]
theorem key_lr (a:Int) (b:Str):decide ((Sum.inl a:Key)=Sum.inr b)=false:=decide_eq_false (fun q => nomatch q)
theorem key_rl (a:Str) (b:Int):decide ((Sum.inr a:Key)=Sum.inl b)=false:=decide_eq_false (fun q => nomatch q)
noncomputable def mixKind (prog:Program) (w:World):PySem.KeyKind prog w Key where
 is:=keyIs
 hash:=keyH w
 inj:=fun v a b ha hb => by
  rcases keyIs_shape ha with ⟨i,t,rfl,rfl⟩ | ⟨x,t,rfl,rfl⟩
  ·rcases keyIs_shape hb with ⟨j,u,rfl,e⟩ | ⟨y,u,rfl,e⟩
   ·injection e with e1 _; rw [e1]
   ·exact nomatch e
  ·rcases keyIs_shape hb with ⟨j,u,rfl,e⟩ | ⟨y,u,rfl,e⟩
   ·exact nomatch e
   ·injection e with e1 _; rw [e1]
 byValue:=fun k v h => by
  rcases keyIs_shape h with ⟨i,t,rfl,rfl⟩ | ⟨x,t,rfl,rfl⟩ <;> rfl
 pyHash:=fun hv h => by
  rcases keyIs_shape hv with ⟨i,t,rfl,rfl⟩ | ⟨x,t,rfl,rfl⟩
  ·exact wpAny_pyHash_int h
  ·exact wpAny_pyHash_str h
 eqBool:=fun hu hv h => by
  rcases keyIs_shape hu with ⟨i,t,rfl,rfl⟩ | ⟨x,t,rfl,rfl⟩
  ·rcases keyIs_shape hv with ⟨j,u,rfl,rfl⟩ | ⟨y,u,rfl,rfl⟩
   ·rw [key_ll] at h; exact wpAny_eqBool_int h
   ·rw [key_lr] at h; exact SeqAt.EqAt.int_str i t y u _ _ _ _ h
  ·rcases keyIs_shape hv with ⟨j,u,rfl,rfl⟩ | ⟨y,u,rfl,rfl⟩
   ·rw [key_rl] at h; exact SeqAt.EqAt.str_int x t j u _ _ _ _ h
   ·rw [key_rr] at h; exact wpAny_eqBool_str h
 «strs»:=fun k x t v h => by
  rcases keyIs_shape h with ⟨i,u,rfl,e⟩ | ⟨y,u,rfl,e⟩
  ·exact nomatch e
  ·injection e with e1 _
   subst e1
   cases v <;> rfl
theorem mixKind_int (prog:Program) (w:World) (i:Int) (t:Tok):(mixKind prog w).is (.inl i) (.int i t)=true:=keyIs_int i t
theorem mixKind_str (prog:Program) (w:World) (x:Str) (t:Tok):(mixKind prog w).is (.inr x) (.str x t)=true:=keyIs_str x t
inductive V where
 | non | bl (b:Bool) | int (i:Int) | str (x:Str) | byt (b:Array UInt8) | flt (b:UInt64) | ref (a:Addr) | ty (n:String)
 deriving DecidableEq
noncomputable def RelV:V -> Value -> Prop
 | .non,u => u=Value.none
 | .bl b,u => u=Value.bool b
 | .int i,u => ∃ t,u=Value.int i t
 | .str x,u => ∃ t,u=Value.str x t
 | .byt b,u => ∃ t,u=Value.bytes b t
 | .flt b,u => ∃ t,u=Value.float b t
 | .ref a,u => u=Value.ref a
 | .ty n,u => u=Value.type n
noncomputable abbrev Vals:List V -> List Value -> Prop:=Paired RelV
theorem Vals.length {xs:List V} {us:List Value} (r:Vals xs us):xs.length=us.length:=Paired.length r
theorem Vals.get:∀ {xs:List V} {us:List Value} {i:Nat} {x:V},Vals xs us -> xs[i]?=some x -> ∃ u,us[i]?=some u∧RelV x u
 | _,_,_,_,.nil,e => by simp at e
 | _,_,0,_,.cons r _,e => by simp at e; subst e; exact ⟨_,rfl,r⟩
 | _,_,i+1,x,.cons _ t,e => by
  obtain ⟨u,h1,h2⟩:=Vals.get (i:=i) (x:=x) t (by simpa using e)
  exact ⟨u,by simpa using h1,h2⟩
theorem Vals.set {x:V} {u:Value} (r:RelV x u):∀ {xs:List V} {us:List Value} (i:Nat),Vals xs us -> Vals (xs.set i x) (us.set i u)
 | _,_,_,.nil => .nil
 | _,_,0,.cons _ t => .cons r t
 | _,_,i+1,.cons q t => .cons q (Vals.set r i t)
theorem Vals.append:∀ {xs ys:List V} {us ws:List Value},Vals xs us -> Vals ys ws -> Vals (xs++ys) (us++ws)
 | _,_,_,_,.nil,s => s
 | _,_,_,_,.cons r t,s => .cons r (Vals.append t s)
theorem Vals.take:∀ {xs:List V} {us:List Value} (n:Nat),Vals xs us -> Vals (xs.take n) (us.take n)
 | _,_,0,_ => .nil
 | _,_,_+1,.nil => .nil
 | _,_,n+1,.cons r t => .cons r (Vals.take n t)
theorem Vals.drop:∀ {xs:List V} {us:List Value} (n:Nat),Vals xs us -> Vals (xs.drop n) (us.drop n)
 | _,_,0,r => r
 | _,_,_+1,.nil => .nil
 | _,_,n+1,.cons _ t => Vals.drop n t
noncomputable def RelO:Option V -> Option Value -> Prop
 | some v,some u => RelV v u
 | none,none => True
 | _,_ => False
noncomputable def KV {κ:Type}:List (κ×V) -> List (κ×Value) -> Prop:=Paired fun (p:κ×V) (q:κ×Value) => p.1=q.1∧RelV p.2 q.2
noncomputable def kV:Key -> V
 | .inl i => .int i
 | .inr x => .str x
inductive HO where
 /-- a list -/
 | lst (xs:List V)
 /-- a tuple (never changes) -/
 | tup (xs:List V)
 /-- a dict whose keys are ints and texts; one whose keys are tuples of ints and texts (the empty one is both) -/
 | dK (kvs:List (Key×V)) | dT (kvs:List (List Key×V))
 /-- a set of ints: its members,its size -/
 | set (S:Int -> Bool) (n:Nat)
 /-- an instance of the class at C,its dict at dx,its attributes -/
 | ins (C dx:Addr) (fs:List (Str×V))
 /-- the dict of the instance at x -/
 | own (x:Addr)
 /-- the dict of an exception -/
 | xd (fs:List (Str×V))
 /-- a bound method,f of x -/
 | met (f x:Addr)
 /-- a range object lo,lo+1,.. below hi -/
 | rng (lo hi:Int)
 /-- a thing that is known to the object (the script; a dict while a loop walks it): read,never written while it is so -/
 | frz (o:Obj) (u:HO)
 /-- a code object's table -/
 | tbl (ps:Array Value)
 /-- any other thing,by what is true of its one object (a def of one's own: SetO a S n := HO.ext fun h => ..) -/
 | ext (φ:Heap -> Prop)
noncomputable abbrev Hp:=Addr -> Option HO
noncomputable def upd (H:Hp) (a:Addr) (o:HO):Hp:=fun b => if b=a then some o else H b
theorem upd_same {H:Hp} {a:Addr} {o:HO}:upd H a o a=some o:=by unfold upd; rw [if_pos rfl]
theorem upd_ne {H:Hp} {a b:Addr} {o:HO} (h:b≠a):upd H a o b=H b:=by unfold upd; rw [if_neg h]
theorem upd_upd {H:Hp} {a:Addr} {o u:HO}:upd (upd H a o) a u=upd H a u:=by
 funext b; unfold upd; split <;> rfl
theorem ne_of {H:Hp} {a b:Addr} {o u:HO} (h:H a=some o) (h':H b=some u) (d:o≠u):a≠b:=by
 intro e; subst e; rw [h] at h'; exact d (Option.some.inj h')
theorem ne_of_none {H:Hp} {a b:Addr} {o:HO} (h:H a=some o) (h':H b=none):a≠b:=by
 intro e; subst e; rw [h] at h'; cases h'
section
variable (P:Program) (w:World)
noncomputable def ObjOk (H:Hp) (h:Heap) (a:Addr):HO -> Prop
 | .lst xs => xs.length≤sizeLine∧∃ (its:List Value) (n:Nat),Vals xs its∧h.get? a=some { cls:=.type "list",data:=.seq its.toArray n }
 | .tup xs => xs.length≤sizeLine∧∃ its:List Value,Vals xs its∧IsTup h a its.toArray
 | .dK kvs => kvs.length≤sizeLine∧(a == sysModules)=false∧∃ vs,KV kvs vs∧h.DictOf (mixKind P w) a vs
 | .dT kvs => kvs.length≤sizeLine∧(a == sysModules)=false∧∃ xs:List (List Key×Addr×Value),
   Paired (fun (p:List Key×V) (q:List Key×Addr×Value) => p.1=q.1∧H q.2.1=some (.tup (p.1.map kV))∧RelV p.2 q.2.2) kvs xs ∧
   ∃ o es ep,h.get? a=some o∧o.ExactDict∧o.data=.dict es ep∧es.toList=xs.map (entryOfKey (tupleKind (mixKind P w)))∧(xs.map (·.1)).Nodup
 | .set S n => h.SetOf (intKind P w) a S n
 | .ins C dx fs => H dx=some (.own a)∧fs.length≤1000∧dx≠a∧h.get? a=some (PySem.W.instObj C dx) ∧
   ∃ mA,h.Ns1 dx mA∧(∀ f,RelO (fs.lookup f) (mA f))∧PySem.Within mA (fs.map (·.1))
 | .own _ => ∃ o,h.get? a=some o
 | .xd fs => ∃ mA,h.Ns1 a mA∧∀ f,RelO (fs.lookup f) (mA f)
 | .rng lo hi => ∃ t u v,h.get? a=some { cls:=.type "range",data:=.fields #[.int lo t,.int hi u,.int 1 v] }
 | .frz o u => h.get? a=some o∧ObjOk H h a u
 | .tbl ps => h.get? a=some { cls:=.none,data:=.fields ps }
 | .met f x => h.get? a=some (PySem.W.methodObj (.ref f) (.ref x))
 | .ext φ => φ h∧(∃ o,h.get? a=some o)∧∀ h1 h2:Heap,φ h1 -> (∀ o,h1.get? a=some o -> h2.get? a=some o) -> φ h2
noncomputable def HOk (H:Hp) (h:Heap):Prop:=∀ a o,H a=some o -> ObjOk P w H h a o
end
section
variable {P:Program} {w:World} {H H':Hp} {h h':Heap} {a:Addr} {o:HO}
theorem ObjOk.lt (x:ObjOk P w H h a o):a < h.objs.size:=by
 cases o with
 | lst xs => obtain ⟨_,_,_,_,e⟩:=x; exact Heap.lt_size e
 | tup xs => obtain ⟨_,_,_,p⟩:=x; exact p.lt
 | dK kvs => obtain ⟨_,_,_,_,o,_,_,e,_⟩:=x; exact Heap.lt_size e
 | dT kvs => obtain ⟨_,_,_,_,o,_,_,e,_⟩:=x; exact Heap.lt_size e
 | set S n => obtain ⟨o,_,_,_,e,_⟩:=x; exact Heap.lt_size e
 | ins C dx fs => obtain ⟨_,_,_,e,_⟩:=x; exact Heap.lt_size e
 | own y => obtain ⟨_,e⟩:=x; exact Heap.lt_size e
 | xd fs => obtain ⟨_,⟨_,_,_,e,_⟩,_⟩:=x; exact Heap.lt_size e
 | rng lo hi => obtain ⟨_,_,_,e⟩:=x; exact Heap.lt_size e
 | frz ob u => obtain ⟨e,_⟩:=x; exact Heap.lt_size e
 | tbl ps => exact Heap.lt_size (show h.get? a=some _ from x)
 | met f y => exact Heap.lt_size (show h.get? a=some _ from x)
 | ext φ => obtain ⟨_,⟨_,e⟩,_⟩:=x; exact Heap.lt_size e
theorem Paired.mapP {α β:Type} {F G:α -> β -> Prop}:∀ {l₁:List α} {l₂:List β},Paired F l₁ l₂ -> (∀ a b,F a b -> G a b) -> Paired G l₁ l₂
 | _,_,.nil,_ => .nil
 | _,_,.cons r t,f => .cons (f _ _ r) (Paired.mapP t f)
theorem ObjOk.stay (x:ObjOk P w H h a o) (k:∀ b u,(b=a∨H b=some (.own a)) -> h.get? b=some u -> h'.get? b=some u)
  (ho:∀ b,H b=some (.own a) -> H' b=some (.own a)) (ht:∀ b xs,H b=some (.tup xs) -> H' b=some (.tup xs)):ObjOk P w H' h' a o:=by
 induction o with
 | lst xs => obtain ⟨z,its,n,r,e⟩:=x; exact ⟨z,its,n,r,k _ _ (.inl rfl) e⟩
 | tup xs => obtain ⟨z,its,r,ob,e,c⟩:=x; exact ⟨z,its,r,ob,k _ _ (.inl rfl) e,c⟩
 | dK kvs => obtain ⟨z,y,vs,r,ob,es,ep,e,c⟩:=x; exact ⟨z,y,vs,r,ob,es,ep,k _ _ (.inl rfl) e,c⟩
 | dT kvs =>
  obtain ⟨z,y,xs,r,ob,es,ep,e,c⟩:=x
  exact ⟨z,y,xs,Paired.mapP r fun p q z => ⟨z.1,ht _ _ z.2.1,z.2.2⟩,ob,es,ep,k _ _ (.inl rfl) e,c⟩
 | set S n => obtain ⟨ob,es,ep,t,e,c⟩:=x; exact ⟨ob,es,ep,t,k _ _ (.inl rfl) e,c⟩
 | ins C dx fs =>
  obtain ⟨d,z,ne,e,mA,⟨od,es,ep,e2,c⟩,r⟩:=x
  exact ⟨ho _ d,z,ne,k _ _ (.inl rfl) e,mA,⟨od,es,ep,k _ _ (.inr d) e2,c⟩,r⟩
 | own y => obtain ⟨ob,e⟩:=x; exact ⟨ob,k _ _ (.inl rfl) e⟩
 | xd fs => obtain ⟨mA,⟨od,es,ep,e,c⟩,r⟩:=x; exact ⟨mA,⟨od,es,ep,k _ _ (.inl rfl) e,c⟩,r⟩
 | rng lo hi => obtain ⟨t,u,v,e⟩:=x; exact ⟨t,u,v,k _ _ (.inl rfl) e⟩
 | frz ob u ih => obtain ⟨e,q⟩:=x; exact ⟨k _ _ (.inl rfl) e,ih q⟩
 | tbl ps =>
  have e:h.get? a=some { cls:=.none,data:=.fields ps }:=x
  show h'.get? a=some { cls:=.none,data:=.fields ps }
  exact k a _ (.inl rfl) e
 | met f y =>
  have e:h.get? a=some (PySem.W.methodObj (.ref f) (.ref y)):=x
  show h'.get? a=some (PySem.W.methodObj (.ref f) (.ref y))
  exact k a _ (.inl rfl) e
 | ext φ => obtain ⟨p,⟨o,e⟩,st⟩:=x; exact ⟨st _ _ p fun o q => k _ _ (.inl rfl) q,⟨o,k _ _ (.inl rfl) e⟩,st⟩
theorem HOk.lt (x:HOk P w H h) (e:H a=some o):a < h.objs.size:=(x a o e).lt
theorem HOk.fresh (x:HOk P w H h) (e:h.objs.size≤a):H a=none:=by
 cases q:H a with
 | none => rfl
 | some u => exact absurd (Nat.lt_of_lt_of_le (x.lt q) e) (Nat.lt_irrefl _)
theorem HOk.kept (x:HOk P w H h) (k:∀ b u,h.get? b=some u -> h'.get? b=some u):HOk P w H h':=fun a o e =>
 (x a o e).stay (fun b u _ q => k b u q) (fun _ q => q) fun _ _ q => q
theorem HOk.laid (x:HOk P w H h) (k:∀ b u,h.get? b=some u -> h'.get? b=some u) (hp:h.objs.size≤a) (new:ObjOk P w (upd H a o) h' a o):HOk P w (upd H a o) h':=fun b u e => by
 have hn:=x.fresh hp
 by_cases hb:b=a
 ·subst hb; rw [upd_same] at e; cases e; exact new
 ·rw [upd_ne hb] at e
  exact (x b u e).stay (fun c v _ q => k c v q) (fun c q => by rw [upd_ne (ne_of_none q hn)]; exact q) fun c xs q => by rw [upd_ne (ne_of_none q hn)]; exact q
end
noncomputable def Rd (H:Hp) (a:Addr) (u:HO):Prop:=H a=some u∨∃ o,H a=some (.frz o u)
theorem Rd.ok {P:Program} {w:World} {H:Hp} {h:Heap} {a:Addr} {u:HO} (r:Rd H a u) (x:HOk P w H h):ObjOk P w H h a u:=by
 rcases r with r | ⟨o,r⟩
 ·exact x a u r
 ·obtain ⟨_,q⟩:=x a _ r
  exact q
noncomputable def Mut:Option HO -> Prop
 | some (.lst _) => True
 | some (.dK _) => True
 | some (.dT _) => True
 | some (.set _ _) => True
 | some (.ins _ _ _) => True
 | some (.ext _) => True
 | _ => False
section
variable {P:Program} {w:World} {H:Hp} {h h':Heap} {x e:Addr} {o':HO}
theorem HOk.write (ok:HOk P w H h) (mu:Mut (H x)) (he:e=x∨H e=some (.own x)) (k:∀ b u,b≠e -> h.get? b=some u -> h'.get? b=some u) (heo:∃ u,h'.get? e=some u)
  (new:ObjOk P w (upd H x o') h' x o'):HOk P w (upd H x o') h':=fun b u q => by
 have nown:∀ c y,H c=some (.own y) -> c≠x:=fun c y r z => by subst z; rw [r] at mu; exact mu
 have ntup:∀ c xs,H c=some (.tup xs) -> c≠x:=fun c xs r z => by subst z; rw [r] at mu; exact mu
 by_cases hb:b=x
 ·subst hb; rw [upd_same] at q; cases q; exact new
 ·rw [upd_ne hb] at q
  by_cases hbe:b=e
  ·have q':H b=some (.own x):=by
    rcases he with z | z
    ·exact absurd (hbe.trans z) hb
    ·rw [hbe]; exact z
   rw [q] at q'; cases q'
   obtain ⟨v,hv⟩:=heo
   exact ⟨v,by rw [hbe]; exact hv⟩
  ·refine (ok b u q).stay (fun c v hc r => k c v ?_ r) (fun c r => by rw [upd_ne (nown c b r)]; exact r) fun c xs r => by rw [upd_ne (ntup c xs r)]; exact r
   rcases hc with rfl | hc
   ·exact hbe
   ·rintro rfl
    rcases he with z | z
    ·exact nown c b hc z
    ·rw [hc] at z; cases z; exact hb rfl
end
structure Un (fs ex:List Addr) (H H':Hp) (h h':Heap):Prop where
 keep:∀ b o,h.get? b=some o -> H b=none -> b ∉ fs -> b ∉ ex -> h'.get? b=some o
 slot:∀ b o,h.get? b=some o -> H b=none -> b∈fs -> b ∉ ex -> ∃ sl,h'.get? b=some { o with slots:=sl }
 free:∀ b o,h.get? b=some o -> H b=none -> b ∉ ex -> H' b=none
 there:∀ b o,h.get? b=some o -> b ∉ ex -> ∃ o',h'.get? b=some o'
 tups:∀ b xs,H b=some (.tup xs) -> H' b=some (.tup xs)
 frzs:∀ b o u,H b=some (.frz o u) -> H' b=some (.frz o u)
 tbls:∀ b ps,H b=some (.tbl ps) -> ∃ more,H' b=some (.tbl (ps++more))
section
variable {fs fs' ex ex':List Addr} {H H1 H2:Hp} {h h1 h2 h':Heap} {a x e:Addr} {o:HO}
theorem Un.any (u:Un fs ex H H1 h h1) {b:Addr} {ob:Obj} (q:h.get? b=some ob) (n:H b=none) (hx:b ∉ ex):∃ sl,h1.get? b=some { ob with slots:=sl }:=by
 by_cases hb:b∈fs
 ·exact u.slot b ob q n hb hx
 ·exact ⟨ob.slots,u.keep b ob q n hb hx⟩
theorem Un.kept (k:∀ b u,h.get? b=some u -> h'.get? b=some u):Un fs ex H H h h' :=
 ⟨fun b ob q _ _ _ => k b ob q,fun b ob q _ _ _ => ⟨ob.slots,k b ob q⟩,fun _ _ _ n _ => n,fun b ob q _ => ⟨ob,k b ob q⟩,fun _ _ q => q,fun _ _ _ q => q,fun _ ps q => ⟨#[],by rw [q]; simp⟩⟩
theorem Un.refl:Un fs ex H H h h:=Un.kept fun _ _ q => q
theorem Un.laid (k:∀ b u,h.get? b=some u -> h'.get? b=some u) (hp:h.objs.size≤a) (hn:H a=none):Un fs ex H (upd H a o) h h' where
 keep:=fun b u q _ _ _ => k b u q
 slot:=fun b u q _ _ _ => ⟨u.slots,k b u q⟩
 free:=fun b u q n _ => by rw [upd_ne (Nat.ne_of_lt (Nat.lt_of_lt_of_le (Heap.lt_size q) hp))]; exact n
 there:=fun b u q _ => ⟨u,k b u q⟩
 tups:=fun b xs q => by rw [upd_ne (ne_of_none q hn)]; exact q
 frzs:=fun b u xs q => by rw [upd_ne (ne_of_none q hn)]; exact q
 tbls:=fun b ps q => ⟨#[],by rw [upd_ne (ne_of_none q hn),q]; simp⟩
theorem Un.write (mu:Mut (H x)) (he:e=x∨H e=some (.own x)) (k:∀ b u,b≠e -> h.get? b=some u -> h'.get? b=some u) (heo:∃ u,h'.get? e=some u):Un fs ex H (upd H x o) h h':=by
 have hx:∀ b,H b=none -> b≠x:=fun b n z => by subst z; rw [n] at mu; exact mu
 have hb:∀ b,H b=none -> b≠e:=fun b n z => by
  subst z
  rcases he with r | r
  ·exact hx b n r
  ·rw [n] at r; cases r
 have hm:∀ b u,H b=some u -> ¬ Mut (some u) -> b≠x:=fun b u q nm z => by subst z; rw [q] at mu; exact nm mu
 refine ⟨fun b u q n _ _ => k b u (hb b n) q,fun b u q n _ _ => ⟨u.slots,k b u (hb b n) q⟩,fun b u q n _ => by rw [upd_ne (hx b n)]; exact n,fun b u q _ => ?_,
  fun b xs q => by rw [upd_ne (hm b _ q fun z => z)]; exact q,fun b u xs q => by rw [upd_ne (hm b _ q fun z => z)]; exact q,fun b ps q => ⟨#[],by rw [upd_ne (hm b _ q fun z => z),q]; simp⟩⟩
 by_cases hbe:b=e
 ·subst hbe; exact heo
 ·exact ⟨u,k b u hbe q⟩
end
noncomputable def trk (h:Heap) (H:Hp):List Addr:=(List.range h.objs.size).filter fun a => (H a).isSome
noncomputable def hidT (h:Heap) (H:Hp):Heap:=PySem.W.hideAll h (trk h H)
theorem hidT_size (h:Heap) (H:Hp):(hidT h H).objs.size=h.objs.size:=PySem.W.hideAll_size _ _
theorem hidT_get {h:Heap} {H:Hp} {b:Addr} {o:Obj} (e:h.get? b=some o) (n:H b=none):(hidT h H).get? b=some o :=
 PySem.W.hideAll_get _ e fun hm => by
  have q:(H b).isSome=true:=(List.mem_filter.mp hm).2
  rw [n] at q; simp at q
theorem of_hidT {h:Heap} {H:Hp} {b:Addr} {o:Obj} (e:(hidT h H).get? b=some o):h.get? b=some o∧H b=none:=by
 have e':h.get? b=some o:=PySem.W.of_hideAll (trk h H) e
 refine ⟨e',?_⟩
 cases q:H b with
 | none => rfl
 | some x =>
  have hm:b∈trk h H:=List.mem_filter.mpr ⟨List.mem_range.mpr (Heap.lt_size e'),by simp [q]⟩
  have z:(hidT h H).get? b=none:=PySem.W.hideAll_none (trk h H) hm
  rw [z] at e; cases e
structure Mod (K:PySem.W.Frag) (mg:Str -> Option Value) (base:Heap):Prop where
 kin:K.In base
 glob:base.Ns mainGlobals mg
 blt:∃ mb,base.Ns builtinsNs mb∧∀ x:Str,x ≠ "__name__" -> mb x=bootBuiltins x
 nolimit:base.NoLimit
structure Cx where
 prog:Program
 w:World
 K:PySem.W.Frag
 mg:Str -> Option Value
 base:Heap
 A:Around
 N:List Str
 s₀:Shared
 H₀:Hp
 env:Env
 outer:List Env
 stack:List Env
 ex:List Addr
 fn:Str -> Bool
 calm:Bool
 pn:List (Addr×Obj)
 xe:Value -> Shared -> Prop
noncomputable def frs (l:List Env):List Addr:=l.filterMap (·.frame)
noncomputable abbrev Cx.fs (X:Cx):List Addr:=frs X.outer
noncomputable def Vis (sc:Scope) (x:Str):Prop:=sc.names.lookup x=some .local∨sc.names.lookup x=some .cell∨sc.names.lookup x=some .free
noncomputable def Loc (sc:Scope) (x:Str):Prop:=sc.names.lookup x=some .local∨sc.names.lookup x=some .cell
noncomputable def Look (env:Env) (h:Heap) (m:Str -> Option Value) (x:Str) (u:Value):Prop :=
 (env.kindOf x=some .local∧m x=some u)∨((env.kindOf x=some .cell∨env.kindOf x=some .free)∧∃ c,env.cells.lookup x=some c∧h.IsCell c (some u))
structure Cx.Ok (X:Cx):Prop where
 mod:Mod X.K X.mg X.base
 kind:X.env.scope.kind=.function
 glob:X.env.globals=mainGlobals
 blt:X.env.builtins=builtinsNs
 above:X.s₀.heap.objs.size≤X.env.locals
 inj:∀ x y c,X.env.cells.lookup x=some c -> X.env.cells.lookup y=some c -> x=y
 has:∀ x,(X.env.kindOf x=some .cell∨X.env.kindOf x=some .free) -> ∃ c,X.env.cells.lookup x=some c
 cab:∀ x c,X.fn x=true -> X.env.cells.lookup x=some c -> X.s₀.heap.objs.size≤c
 hd:X.calm=true -> X.A.handled=none
 frames:X.A.frames=some X.stack
 stk:X.stack=X.outer∨(X.stack=X.env :: X.outer∧X.env.frame=some X.env.locals)
 exf:∀ b∈X.ex,b≠X.env.locals∧∀ x c,X.env.cells.lookup x=some c -> c≠b
 bs:∀ b o,X.base.get? b=some o -> X.s₀.heap.get? b=some o∧X.H₀ b=none
 bsz:X.base.objs.size≤X.s₀.heap.objs.size
 noex:∀ b o,X.base.get? b=some o -> b ∉ X.ex
 exfs:∀ b∈X.ex,b ∉ X.fs
 funs:X.s₀.heap.FunFrames X.base X.outer
 frf:∀ b∈X.fs,X.H₀ b=none
structure Inv (X:Cx) (pins:List (Addr×Obj)) (σ:List (Option V)) (H:Hp) (s:Shared):Prop where
 ok:X.Ok
 os:s.os=X.s₀.os
 bare:AllBare s.gens
 base:Un X.fs X.ex X.H₀ H X.s₀.heap s.heap
 loc:∃ m,s.heap.Ns X.env.locals m∧∀ (i:Nat) (x:Str) (v:V),X.N[i]?=some x -> σ[i]?=some (some v) -> Vis X.env.scope x -> ∃ u,RelV v u∧Look X.env s.heap m x u
 cell:∀ x c,X.env.cells.lookup x=some c -> ∃ v,s.heap.IsCell c v
 free:H X.env.locals=none
 freeC:∀ x c,X.env.cells.lookup x=some c -> H c=none
 pin:∀ p∈X.pn++pins,s.heap.get? p.1=some p.2∧H p.1=none∧p.1≠X.env.locals∧p.1 ∉ X.fs∧∀ v,p.2.data≠.cell v
 hok:HOk X.prog X.w H s.heap
 len:σ.length=X.N.length
section
variable {X:Cx} {pins:List (Addr×Obj)} {σ:List (Option V)} {H H':Hp} {s:Shared} {h':Heap}
theorem Cx.Ok.nofr (ok:X.Ok) {b:Addr} {o:Obj} (e:X.base.get? b=some o):b ∉ X.fs:=fun hb => by
 have:=(ok.funs.mem hb).1
 rw [e] at this; cases this
theorem Inv.bs (I:Inv X pins σ H s):∀ b o,X.base.get? b=some o -> s.heap.get? b=some o∧H b=none:=fun b o e =>
 ⟨I.base.keep b o (I.ok.bs b o e).1 (I.ok.bs b o e).2 (I.ok.nofr e) (I.ok.noex b o e),I.base.free b o (I.ok.bs b o e).1 (I.ok.bs b o e).2 (I.ok.noex b o e)⟩
theorem Inv.bk (I:Inv X pins σ H s):∀ b o,X.base.get? b=some o -> s.heap.get? b=some o:=fun b o e => (I.bs b o e).1
theorem Inv.mod (I:Inv X pins σ H s):Mod X.K X.mg X.base:=I.ok.mod
theorem Inv.kIn (I:Inv X pins σ H s):X.K.In s.heap:=I.ok.mod.kin.keeps I.bk
theorem Inv.nolimit (I:Inv X pins σ H s):s.heap.NoLimit:=I.ok.mod.nolimit.keeps I.bk
theorem Inv.lt (I:Inv X pins σ H s):X.env.locals < s.heap.objs.size:=let ⟨_,hn,_⟩:=I.loc; hn.lt
theorem Inv.sz (I:Inv X pins σ H s):X.s₀.heap.objs.size≤s.heap.objs.size:=Nat.le_trans I.ok.above (Nat.le_of_lt I.lt)
theorem Inv.nofs (I:Inv X pins σ H s) {a:Addr} (h:s.heap.objs.size≤a):a ∉ X.fs:=fun hb => by
 obtain ⟨_,o,ho,_⟩:=I.ok.funs.mem hb
 exact absurd (Nat.lt_of_lt_of_le (Heap.lt_size ho) (Nat.le_trans I.sz h)) (Nat.lt_irrefl _)
theorem Inv.cne (I:Inv X pins σ H s):∀ x c,X.env.cells.lookup x=some c -> c≠X.env.locals:=fun x c e z => by
 obtain ⟨v,o,ho,hd⟩:=I.cell x c e
 obtain ⟨m,⟨o',es,ep,ho',hd',_⟩,_⟩:=I.loc
 rw [z,ho'] at ho; cases ho; rw [hd'] at hd; cases hd
theorem Inv.funs (I:Inv X pins σ H s):s.heap.FunFrames X.base X.outer:=by
 have all:∀ (l:List Env),(∀ b∈frs l,b∈X.fs) -> X.s₀.heap.FunFrames X.base l -> s.heap.FunFrames X.base l:=by
  intro l
  induction l with
  | nil => intro _ _; trivial
  | cons env r ih =>
   intro hs hl
   obtain ⟨hk,⟨L,o,hf,hn,ho,hd⟩,hr⟩:=hl
   have hL:L∈X.fs:=hs L (by unfold frs; rw [List.filterMap_cons,hf]; exact List.mem_cons_self)
   obtain ⟨sl,e⟩:=I.base.slot L o ho (I.ok.frf L hL) hL fun z => I.ok.exfs L z hL
   exact ⟨hk,⟨L,_,hf,hn,e,hd⟩,ih (fun b hb => hs b (by unfold frs; rw [List.filterMap_cons,hf]; exact List.mem_cons_of_mem _ hb)) hr⟩
 exact all X.outer (fun _ hb => hb) I.ok.funs
theorem Inv.stack (I:Inv X pins σ H s):s.heap.FunFrames X.base X.stack:=by
 rcases I.ok.stk with e | ⟨e,hf⟩
 ·rw [e]; exact I.funs
 ·rw [e]
  obtain ⟨m,hn,_⟩:=I.loc
  refine .cons (by rw [I.ok.kind]; decide) hf hn ?_ I.funs
  exact Heap.get?_none_of_le (Nat.le_trans I.ok.bsz I.ok.above)
theorem Inv.stkSub (I:Inv X pins σ H s):∀ b∈frs X.stack,b∈X.env.locals :: X.fs:=fun b hb => by
 rcases I.ok.stk with e | ⟨e,hf⟩
 ·rw [e] at hb; exact List.mem_cons_of_mem _ hb
 ·rw [e] at hb
  unfold frs at hb
  rw [List.filterMap_cons,hf] at hb
  exact hb
theorem Inv.stkFree (I:Inv X pins σ H s):∀ b∈frs X.stack,H b=none:=fun b hb => by
 rcases List.mem_cons.mp (I.stkSub b hb) with e | hb
 ·rw [e]; exact I.free
 ·obtain ⟨_,o,ho,_⟩:=I.ok.funs.mem hb
  exact I.base.free b o ho (I.ok.frf b hb) fun z => I.ok.exfs b z hb
theorem Inv.step {g':Array GenState} {t':Nat} {d':Drawn} {ch:List Addr} (I:Inv X pins σ H s)
  (hch:∀ b∈ch,(b∈X.ex∨X.s₀.heap.objs.size≤b)∧b≠X.env.locals∧(∀ x c,X.env.cells.lookup x=some c -> c≠b)∧∀ p∈X.pn++pins,p.1≠b)
  (keep:∀ b o,b≠X.env.locals -> b ∉ X.fs -> b ∉ ch -> s.heap.get? b=some o -> H b=none -> h'.get? b=some o)
  (slot:∀ b o,b≠X.env.locals -> b∈X.fs -> b ∉ ch -> s.heap.get? b=some o -> H b=none -> ∃ sl,h'.get? b=some { o with slots:=sl }) (free:∀ b o,b ∉ ch -> s.heap.get? b=some o -> H b=none -> H' b=none)
  (there:∀ b o,b ∉ ch -> s.heap.get? b=some o -> ∃ o',h'.get? b=some o')
  (tups:∀ b xs,H b=some (.tup xs) -> H' b=some (.tup xs)) (frzs:∀ b o u,H b=some (.frz o u) -> H' b=some (.frz o u)) (tbls:∀ b ps,H b=some (.tbl ps) -> ∃ more,H' b=some (.tbl (ps++more)))
  (ns:∀ m,s.heap.Ns X.env.locals m -> h'.Ns X.env.locals m) (hok:HOk X.prog X.w H' h') (hg:AllBare g') :
  Inv X pins σ H' { s with heap:=h',gens:=g',drawn:=d',toks:=t' }:=by
 have neL:∀ b o,X.s₀.heap.get? b=some o -> b≠X.env.locals:=fun b o e => Nat.ne_of_lt (Nat.lt_of_lt_of_le (Heap.lt_size e) I.ok.above)
 have neC:∀ b o,X.s₀.heap.get? b=some o -> b ∉ X.ex -> b ∉ ch:=fun b o e hx hb => by
  rcases (hch b hb).1 with z | z
  ·exact hx z
  ·exact absurd (Nat.lt_of_lt_of_le (Heap.lt_size e) z) (Nat.lt_irrefl _)
 have cellK:∀ x c,X.env.cells.lookup x=some c -> ∀ v,s.heap.IsCell c v -> h'.IsCell c v:=fun x c e v ⟨o,ho,hd⟩ => by
  have nch:c ∉ ch:=fun z => (hch c z).2.2.1 x c e rfl
  by_cases hc:c∈X.fs
  ·obtain ⟨sl,q⟩:=slot c o (I.cne x c e) hc nch ho (I.freeC x c e)
   exact ⟨_,q,hd⟩
  ·exact ⟨o,keep c o (I.cne x c e) hc nch ho (I.freeC x c e),hd⟩
 refine ⟨I.ok,I.os,hg,⟨fun b o e n hb hx => ?_,fun b o e n hb hx => ?_,fun b o e n hx => ?_,fun b o e hx => ?_,fun b xs e => tups b xs (I.base.tups b xs e),fun b o xs e => frzs b o xs (I.base.frzs b o xs e),fun b ps e => ?_⟩,?_,fun x c e => ?_,?_,fun x c e => ?_,fun p hp => ?_,hok,I.len⟩
 ·exact keep b o (neL b o e) hb (neC b o e hx) (I.base.keep b o e n hb hx) (I.base.free b o e n hx)
 ·obtain ⟨sl,e1⟩:=I.base.slot b o e n hb hx
  obtain ⟨sl',e2⟩:=slot b _ (neL b o e) hb (neC b o e hx) e1 (I.base.free b o e n hx)
  exact ⟨sl',e2⟩
 ·obtain ⟨o',e1⟩:=I.base.there b o e hx
  exact free b o' (neC b o e hx) e1 (I.base.free b o e n hx)
 ·obtain ⟨o',e1⟩:=I.base.there b o e hx
  exact there b o' (neC b o e hx) e1
 ·obtain ⟨m1,e1⟩:=I.base.tbls b ps e
  obtain ⟨m2,e2⟩:=tbls b _ e1
  exact ⟨m1++m2,by rw [e2,Array.append_assoc]⟩
 ·obtain ⟨m,hn,hl⟩:=I.loc
  refine ⟨m,ns m hn,fun i x v e1 e2 e3 => ?_⟩
  obtain ⟨u,r,l⟩:=hl i x v e1 e2 e3
  refine ⟨u,r,?_⟩
  rcases l with l | ⟨k,c,e,z⟩
  ·exact .inl l
  ·exact .inr ⟨k,c,e,cellK x c e _ z⟩
 ·obtain ⟨v,z⟩:=I.cell x c e
  exact ⟨v,cellK x c e v z⟩
 ·obtain ⟨m,⟨o,_,_,ho,_⟩,_⟩:=I.loc
  exact free _ o (fun z => (hch _ z).2.1 rfl) ho I.free
 ·obtain ⟨v,o,ho,hd⟩:=I.cell x c e
  exact free c o (fun z => (hch c z).2.2.1 x c e rfl) ho (I.freeC x c e)
 ·obtain ⟨e,n,ne,nf,d⟩:=I.pin p hp
  have nch:p.1 ∉ ch:=fun z => (hch p.1 z).2.2.2 p hp rfl
  exact ⟨keep p.1 p.2 ne nf nch e n,free p.1 p.2 nch e n,ne,nf,d⟩
theorem Inv.un {t':Nat} (I:Inv X pins σ H s) (u:Un X.fs [] H H' s.heap h') (hok:HOk X.prog X.w H' h'):Inv X pins σ H' { s with heap:=h',toks:=t' }:=by
 obtain ⟨m,⟨o,es,ep,ho,r⟩,_⟩:=id I.loc
 obtain ⟨sl,hL⟩:=u.any ho I.free (by simp)
 exact I.step (g':=s.gens) (d':=s.drawn) (ch:=[]) (fun _ z => nomatch z) (fun b o _ hb _ e n => u.keep b o e n hb (by simp)) (fun b o _ hb _ e n => u.slot b o e n hb (by simp)) (fun b o _ e n => u.free b o e n (by simp)) (fun b o _ e => u.there b o e (by simp)) u.tups u.frzs u.tbls (fun m' hm => by
  obtain ⟨o',es',ep',ho',r'⟩:=hm
  rw [ho] at ho'; cases ho'
  exact ⟨_,es',ep',hL,r'⟩) hok I.bare
theorem Inv.call {g':Array GenState} {t':Nat} {d':Drawn} {ch:List Addr} (I:Inv X pins σ H s) (u:Un (frs X.stack) ch H H' s.heap h') (hok:HOk X.prog X.w H' h') (hg:AllBare g')
  (hch:∀ b∈ch,(b∈X.ex∨X.s₀.heap.objs.size≤b)∧b≠X.env.locals∧(∀ x c,X.env.cells.lookup x=some c -> c≠b)∧∀ p∈X.pn++pins,p.1≠b) :
  Inv X pins σ H' { s with heap:=h',gens:=g',drawn:=d',toks:=t' }:=by
 obtain ⟨m,⟨o,es,ep,ho,r⟩,_⟩:=id I.loc
 obtain ⟨sl,hL⟩:=u.any ho I.free fun z => (hch _ z).2.1 rfl
 exact I.step (ch:=ch) hch (fun b o hL hb hc e n => u.keep b o e n (fun z => (List.mem_cons.mp (I.stkSub b z)).elim hL hb) hc) (fun b o _ _ hc e n => u.any e n hc) (fun b o hc e n => u.free b o e n hc) (fun b o hc e => u.there b o e hc) u.tups u.frzs u.tbls (fun m' hm => by
  obtain ⟨o',es',ep',ho',r'⟩:=hm
  rw [ho] at ho'; cases ho'
  exact ⟨_,es',ep',hL,r'⟩) hok hg
theorem Inv.turned {t':Nat} {it:Addr} (I:Inv X pins σ H s) (k:∀ b o,b≠it -> s.heap.get? b=some o -> h'.get? b=some o) (hn:H it=none) (hL:it≠X.env.locals)
  (h1:it∈X.ex∨X.s₀.heap.objs.size≤it) (h2:∀ x c,X.env.cells.lookup x=some c -> c≠it) (h3:∀ p∈X.pn++pins,p.1≠it):Inv X pins σ H { s with heap:=h',toks:=t' }:=by
 have nit:∀ b u,H b=some u -> b≠it:=fun b u e z => by rw [z,hn] at e; cases e
 refine I.step (g':=s.gens) (d':=s.drawn) (ch:=[it]) (fun b hb => ?_) (fun b o _ _ hc e _ => k b o (fun z => hc (by simp [z])) e) (fun b o _ _ hc e _ => ⟨o.slots,k b o (fun z => hc (by simp [z])) e⟩) (fun _ _ _ _ n => n)
  (fun b o hc e => ⟨o,k b o (fun z => hc (by simp [z])) e⟩) (fun _ _ e => e) (fun _ _ _ e => e) (fun b ps e => ⟨#[],by rw [e]; simp⟩) (fun m hm => ?_) (fun b u e => ?_) I.bare
 ·have e:b=it:=by simpa using hb
  subst e
  exact ⟨h1,hL,h2,h3⟩
 ·obtain ⟨o,es,ep,ho,r⟩:=hm
  exact ⟨o,es,ep,k _ o (Ne.symm hL) ho,r⟩
 ·refine (I.hok b u e).stay (fun c v hc q => k c v ?_ q) (fun _ q => q) fun _ _ q => q
  rcases hc with z | z
  ·rw [z]; exact nit b u e
  ·exact nit c _ z
theorem Inv.tok (I:Inv X pins σ H s) (t:Nat):Inv X pins σ H { s with toks:=t }:=I.un (h':=s.heap) (t':=t) Un.refl I.hok
theorem Inv.kept {t':Nat} (I:Inv X pins σ H s) (k:∀ b u,s.heap.get? b=some u -> h'.get? b=some u):Inv X pins σ H { s with heap:=h',toks:=t' }:=I.un (Un.kept k) (I.hok.kept k)
theorem Inv.laid {a:Addr} {o:HO} {t':Nat} (I:Inv X pins σ H s) (k:∀ b u,s.heap.get? b=some u -> h'.get? b=some u) (hp:s.heap.objs.size≤a) (new:ObjOk X.prog X.w (upd H a o) h' a o) :
  Inv X pins σ (upd H a o) { s with heap:=h',toks:=t' }:=I.un (Un.laid k hp (I.hok.fresh hp)) (I.hok.laid k hp new)
theorem Inv.write {x e:Addr} {o:HO} {t':Nat} (I:Inv X pins σ H s) (mu:Mut (H x)) (he:e=x∨H e=some (.own x)) (k:∀ b u,b≠e -> s.heap.get? b=some u -> h'.get? b=some u) (heo:∃ u,h'.get? e=some u)
  (new:ObjOk X.prog X.w (upd H x o) h' x o):Inv X pins σ (upd H x o) { s with heap:=h',toks:=t' }:=I.un (Un.write mu he k heo) (I.hok.write mu he k heo new)
theorem Inv.pins_of {pins':List (Addr×Obj)} (I:Inv X pins σ H s) (h:∀ p∈pins',s.heap.get? p.1=some p.2∧H p.1=none∧p.1≠X.env.locals∧p.1 ∉ X.fs∧∀ v,p.2.data≠.cell v):Inv X pins' σ H s :=
 ⟨I.ok,I.os,I.bare,I.base,I.loc,I.cell,I.free,I.freeC,fun p hp => (List.mem_append.mp hp).elim (fun z => I.pin p (List.mem_append_left _ z)) (h p),I.hok,I.len⟩
theorem nodup_ix {N:List Str} (hN:N.Nodup) {i j:Nat} {x:Str} (a:N[i]?=some x) (b:N[j]?=some x):i=j:=by
 obtain ⟨h1,e1⟩:=List.getElem?_eq_some_iff.mp a
 obtain ⟨h2,e2⟩:=List.getElem?_eq_some_iff.mp b
 exact (List.getElem_inj hN).mp (e1.trans e2.symm)
theorem store_ok2 {M:Model} {A:Around} {E:Value -> Shared -> Prop} {i:Nat} {x:Str} {v:V} {u:Value} {Q:Unit -> Shared -> Prop} (I:Inv X pins σ H s) (hN:X.N.Nodup) (hi:X.N[i]?=some x) (hx:Loc X.env.scope x) (r:RelV v u)
  (h:∀ s',Inv X pins (σ.set i (some v)) H s' -> (∃ a,Heap.SameBut a s.heap s'.heap∧(a=X.env.locals∨X.env.cells.lookup x=some a)) -> Q () s') (hf:X.fn x=true∨X.env.scope.names.lookup x=some .local:=by first | exact .inl rfl | exact .inr rfl | assumption):wpAny M A (storeName X.env x u) Q E s:=by
 obtain ⟨m,hn,hl⟩:=id I.loc
 have hcls:(X.env.scope.kind == .class || (X.env.scope.kind == .module && X.env.locals != X.env.globals))=false:=by rw [I.ok.kind]; rfl
 have hiσ:i < σ.length:=by rw [I.len]; exact (List.getElem?_eq_some_iff.mp hi).1
 have cne:=I.cne
 have tracked:∀ {a:Addr} {h':Heap},(∃ o,s.heap.get? a=some o∧H a=none) -> Heap.SameBut a s.heap h' -> HOk X.prog X.w H h':=fun {a h'} ha hs b ob e => by
  obtain ⟨_,_,hfree⟩:=ha
  refine (I.hok b ob e).stay (fun c w' hc q => (hs.2 c ?_).trans q) (fun _ q => q) fun _ _ q => q
  rintro rfl
  rcases hc with rfl | hc
  ·rw [hfree] at e; cases e
  ·rw [hfree] at hc; cases hc
 rcases hx with hk | hk
 ·refine wpAny_storeName_local hk hn (fun h' hn' hs => ?_) hcls
  obtain ⟨oL,_,_,hoL,_⟩:=id hn
  refine h _ ⟨I.ok,I.os,I.bare,⟨fun b o e n hb hx => ?_,fun b o e n hb hx => ?_,I.base.free,fun b o e hx => ?_,I.base.tups,I.base.frzs,I.base.tbls⟩,⟨_,hn',fun j y v' e1 e2 e3 => ?_⟩,fun y c e => ?_,I.free,I.freeC,fun p hp => ?_,tracked ⟨oL,hoL,I.free⟩ hs,by simpa using I.len⟩ ⟨_,hs,.inl rfl⟩
  ·exact (hs.2 b (Nat.ne_of_lt (Nat.lt_of_lt_of_le (Heap.lt_size e) I.ok.above))).trans (I.base.keep b o e n hb hx)
  ·obtain ⟨sl,e1⟩:=I.base.slot b o e n hb hx
   exact ⟨sl,(hs.2 b (Nat.ne_of_lt (Nat.lt_of_lt_of_le (Heap.lt_size e) I.ok.above))).trans e1⟩
  ·obtain ⟨o',e1⟩:=I.base.there b o e hx
   exact ⟨o',(hs.2 b (Nat.ne_of_lt (Nat.lt_of_lt_of_le (Heap.lt_size e) I.ok.above))).trans e1⟩
  ·by_cases hj:j=i
   ·subst hj
    rw [hi] at e1; cases e1
    rw [List.getElem?_set_self hiσ] at e2
    cases e2
    exact ⟨u,r,.inl ⟨hk,by simp⟩⟩
   ·rw [List.getElem?_set_ne (Ne.symm hj)] at e2
    obtain ⟨u',r',q⟩:=hl j y v' e1 e2 e3
    refine ⟨u',r',?_⟩
    rcases q with ⟨k,e⟩ | ⟨k,c,e,z⟩
    ·refine .inl ⟨k,?_⟩
     have:y≠x:=fun e => hj (nodup_ix hN e1 (e ▸ hi))
     simp [this,e]
    ·exact .inr ⟨k,c,e,z.sameBut hs (cne y c e)⟩
  ·obtain ⟨w',z⟩:=I.cell y c e
   exact ⟨w',z.sameBut hs (cne y c e)⟩
  ·obtain ⟨e,n,ne,nf,d⟩:=I.pin p hp
   exact ⟨(hs.2 p.1 ne).trans e,n,ne,nf,d⟩
 ·have hfn:X.fn x=true:=by
   rcases hf with z | z
   ·exact z
   ·rw [z] at hk; cases hk
  obtain ⟨c,hc⟩:=I.ok.has x (.inl hk)
  obtain ⟨w',z⟩:=I.cell x c hc
  refine wpAny_storeName_cell I.ok.kind hk hc z (fun h' hc' hs => ?_)
  obtain ⟨oc,hoc,hocd⟩:=id z
  refine h { s with heap:=h' } ⟨I.ok,I.os,I.bare,⟨fun b o e n hb hx => ?_,fun b o e n hb hx => ?_,I.base.free,fun b o e hx => ?_,I.base.tups,I.base.frzs,I.base.tbls⟩,⟨m,hn.sameBut hs (Ne.symm (cne x c hc)),fun j y v' e1 e2 e3 => ?_⟩,fun y c' e => ?_,I.free,I.freeC,fun p hp => ?_,tracked ⟨oc,hoc,I.freeC x c hc⟩ hs,by simpa using I.len⟩ ⟨c,hs,.inr hc⟩
  ·exact (hs.2 b (Nat.ne_of_lt (Nat.lt_of_lt_of_le (Heap.lt_size e) (I.ok.cab x c hfn hc)))).trans (I.base.keep b o e n hb hx)
  ·obtain ⟨sl,e1⟩:=I.base.slot b o e n hb hx
   exact ⟨sl,(hs.2 b (Nat.ne_of_lt (Nat.lt_of_lt_of_le (Heap.lt_size e) (I.ok.cab x c hfn hc)))).trans e1⟩
  ·obtain ⟨o',e1⟩:=I.base.there b o e hx
   exact ⟨o',(hs.2 b (Nat.ne_of_lt (Nat.lt_of_lt_of_le (Heap.lt_size e) (I.ok.cab x c hfn hc)))).trans e1⟩
  ·by_cases hj:j=i
   ·subst hj
    rw [hi] at e1; cases e1
    rw [List.getElem?_set_self hiσ] at e2
    cases e2
    exact ⟨u,r,.inr ⟨.inl hk,c,hc,hc'⟩⟩
   ·rw [List.getElem?_set_ne (Ne.symm hj)] at e2
    obtain ⟨u',r',q⟩:=hl j y v' e1 e2 e3
    refine ⟨u',r',?_⟩
    rcases q with q | ⟨k,c',e,z'⟩
    ·exact .inl q
    ·refine .inr ⟨k,c',e,z'.sameBut hs ?_⟩
     rintro rfl
     exact hj (nodup_ix hN e1 (I.ok.inj _ _ _ e hc ▸ hi))
  ·by_cases hcc:c'=c
   ·subst hcc; exact ⟨_,hc'⟩
   ·obtain ⟨w2,z2⟩:=I.cell y c' e
    exact ⟨w2,z2.sameBut hs hcc⟩
  ·obtain ⟨e,n,ne,nf,d⟩:=I.pin p hp
   refine ⟨(hs.2 p.1 ?_).trans e,n,ne,nf,d⟩
   intro q
   rw [q,hoc] at e
   have q':oc=p.2:=Option.some.inj e
   exact d w' (by rw [← q']; exact hocd)
theorem store_ok {M:Model} {A:Around} {E:Value -> Shared -> Prop} {i:Nat} {x:Str} {v:V} {u:Value} {Q:Unit -> Shared -> Prop} (I:Inv X pins σ H s) (hN:X.N.Nodup) (hi:X.N[i]?=some x) (hx:Loc X.env.scope x) (r:RelV v u)
  (h:∀ s',Inv X pins (σ.set i (some v)) H s' -> Q () s') (hf:X.fn x=true∨X.env.scope.names.lookup x=some .local:=by first | exact .inl rfl | exact .inr rfl | assumption):wpAny M A (storeName X.env x u) Q E s :=
 store_ok2 I hN hi hx r (fun s' I' _ => h s' I') hf
theorem Inv.call' {s':Shared} {ch:List Addr} (I:Inv X pins σ H s) (ho:s'.os=s.os) (u:Un (frs X.stack) ch H H' s.heap s'.heap) (hok:HOk X.prog X.w H' s'.heap) (hg:AllBare s'.gens)
  (hch:∀ b∈ch,(b∈X.ex∨X.s₀.heap.objs.size≤b)∧b≠X.env.locals∧(∀ x c,X.env.cells.lookup x=some c -> c≠b)∧∀ p∈X.pn++pins,p.1≠b):Inv X pins σ H' s':=by
 obtain ⟨h',g',d',t',o'⟩:=s'
 have e:o'=s.os:=ho
 subst e
 exact I.call (g':=g') (t':=t') (d':=d') u hok hg hch
end
noncomputable abbrev XK:=Value -> Option Addr -> Hp -> Prop
noncomputable abbrev St:=List (Option V)
noncomputable abbrev VK:=V -> Hp -> Prop
noncomputable abbrev TE:=St -> Hp -> VK -> Prop
noncomputable abbrev TT:=St -> Hp -> (Bool -> Hp -> Prop) -> Prop
noncomputable abbrev TA:=St -> Hp -> (List V -> Hp -> Prop) -> Prop
structure Ends where
 nx:St -> Hp -> Prop
 rt:VK
 bk:St -> Hp -> Prop:=fun _ _ => False
 ct:St -> Hp -> Prop:=fun _ _ => False
noncomputable abbrev TS:=Ends -> St -> Hp -> Prop
noncomputable def EP (X:Cx) (pins:List (Addr×Obj)) (σ:St) (Q:VK) (u:Value) (s':Shared):Prop:=∃ v H',Inv X pins σ H' s'∧RelV v u∧Q v H'
noncomputable def TP (X:Cx) (pins:List (Addr×Obj)) (σ:St) (Q:Bool -> Hp -> Prop) (b:Bool) (s':Shared):Prop:=∃ H',Inv X pins σ H' s'∧Q b H'
noncomputable def AP (X:Cx) (pins:List (Addr×Obj)) (σ:St) (Q:List V -> Hp -> Prop) (us:List Value) (s':Shared):Prop:=∃ vs H',Inv X pins σ H' s'∧Vals vs us∧Q vs H'
noncomputable def SP (X:Cx) (pins:List (Addr×Obj)) (D:Ends) (f:Flow) (s':Shared):Prop :=
 match f with
 | .next => ∃ σ' H',Inv X pins σ' H' s'∧D.nx σ' H'
 | .brk => ∃ σ' H',Inv X pins σ' H' s'∧D.bk σ' H'
 | .cont => ∃ σ' H',Inv X pins σ' H' s'∧D.ct σ' H'
 | .ret u => ∃ v σ' H',Inv X pins σ' H' s'∧RelV v u∧D.rt v H'
noncomputable def PE (X:Cx) (e:Expr) (t:TE):Prop :=
 ∀ (pins:List (Addr×Obj)) (s:Shared) (σ:St) (H:Hp) (Q:VK),Inv X pins σ H s -> t σ H Q -> wpAny (model X.prog X.w) X.A (eval e X.env) (EP X pins σ Q) X.xe s
noncomputable def PT (X:Cx) (e:Expr) (t:TT):Prop :=
 ∀ (pins:List (Addr×Obj)) (s:Shared) (σ:St) (H:Hp) (Q:Bool -> Hp -> Prop),Inv X pins σ H s -> t σ H Q -> wpAny (model X.prog X.w) X.A (isTrue e X.env (eval e X.env)) (TP X pins σ Q) X.xe s
noncomputable def PW (X:Cx) (e:Expr) (t:TT):Prop :=
 ∀ (whole:Sem Value) (pins:List (Addr×Obj)) (s:Shared) (σ:St) (H:Hp) (Q:Bool -> Hp -> Prop),Inv X pins σ H s -> t σ H Q -> wpAny (model X.prog X.w) X.A (isTrue e X.env whole) (TP X pins σ Q) X.xe s
theorem PW.pt {X:Cx} {e:Expr} {t:TT} (h:PW X e t):PT X e t:=h _
noncomputable def PA (X:Cx) (es:List Expr) (t:TA):Prop :=
 ∀ (pos:Pos) (pins:List (Addr×Obj)) (s:Shared) (σ:St) (H:Hp) (Q:List V -> Hp -> Prop),Inv X pins σ H s -> t σ H Q -> wpAny (model X.prog X.w) X.A (spliced (backTo pos (starEach es X.env))) (AP X pins σ Q) X.xe s
noncomputable def PS (X:Cx) (st:Stmt) (t:TS):Prop :=
 ∀ (pins:List (Addr×Obj)) (s:Shared) (σ:St) (H:Hp) (D:Ends),Inv X pins σ H s -> t D σ H -> wpAny (model X.prog X.w) X.A (exec st X.env) (SP X pins D) X.xe s
noncomputable def PSs (X:Cx) (st:List Stmt) (t:TS):Prop :=
 ∀ (pins:List (Addr×Obj)) (s:Shared) (σ:St) (H:Hp) (D:Ends),Inv X pins σ H s -> t D σ H -> wpAny (model X.prog X.w) X.A (execs st X.env) (SP X pins D) X.xe s
theorem thn {α:Type} {t:Sem α} {Q Q':α -> Shared -> Prop} {M:Model} {A:Around} {E:Value -> Shared -> Prop} {s:Shared} (h:wpAny M A t Q E s) (hQ:∀ a s,Q a s -> Q' a s):wpAny M A t Q' E s:=wpAny_mono h hQ fun _ _ x => x
section
variable {X:Cx}
theorem bin {a b:Expr} {ta tb:TE} (ha:PE X a ta) (hb:PE X b tb) {pins:List (Addr×Obj)} {s:Shared} {σ:St} {H:Hp} {R:V -> V -> Hp -> Prop} (I:Inv X pins σ H s) (h:ta σ H fun x H1 => tb σ H1 fun y H2 => R x y H2)
  {α:Type} {Q:α -> Shared -> Prop} {f:Value -> Value -> Sem α}
  (hf:∀ v u s2 x y H2,Inv X pins σ H2 s2 -> RelV x v -> RelV y u -> R x y H2 -> wpAny (model X.prog X.w) X.A (f v u) Q X.xe s2) :
  wpAny (model X.prog X.w) X.A (eval a X.env) (fun v s₁ => wpAny (model X.prog X.w) X.A (eval b X.env) (fun u s₂ => wpAny (model X.prog X.w) X.A (f v u) Q X.xe s₂) X.xe s₁) X.xe s:=by
 refine thn (ha pins s σ H _ I h) fun v s1 ⟨x,H1,I1,r1,q1⟩ => ?_
 refine thn (hb pins s1 σ H1 _ I1 q1) fun u s2 ⟨y,H2,I2,r2,q2⟩ => ?_
 exact hf v u s2 x y H2 I2 r1 r2 q2
noncomputable def tVar (i:Nat):TE:=fun σ H Q => ∃ v,σ[i]?=some (some v)∧Q v H
noncomputable def tC (v:V):TE:=fun _ H Q => Q v H
theorem pe_var {i:Nat} {x:Str} {pos:Pos} (hN:X.N[i]?=some x) (hv:Vis X.env.scope x) (hd:(x == ("__debug__":Str))=false:=by decide) (hcd:(x == ("__classdict__":Str))=false:=by decide):PE X (.Name x pos) (tVar i):=by
 intro pins s σ H Q I h
 obtain ⟨v,e,h⟩:=h
 obtain ⟨m,hn,hl⟩:=I.loc
 obtain ⟨u,r,l⟩:=hl i x v hN e hv
 have fin:EP X pins σ Q u s:=⟨v,H,I,r,h⟩
 rcases l with ⟨hk,hm⟩ | ⟨hk,c,hc,hcell⟩
 ·exact wpAny_Name (wpAny_loadName_local I.ok.kind hk hn hm fin) hd
 ·rcases hk with hk | hk
  ·exact wpAny_Name (wpAny_loadName_cell I.ok.kind hk hc hcell fin) hd
  ·exact wpAny_Name (wpAny_loadName_free I.ok.kind hk hc hcell fin hcd) hd
theorem pe_int {i j pos}:PE X (.Constant (.int i) j pos) (tC (.int i)):=fun _ _ _ H _ I h => wpAny_Constant_int ⟨.int i,H,I.tok _,⟨_,rfl⟩,h⟩
theorem pe_bl {b j pos}:PE X (.Constant (.bool b) j pos) (tC (.bl b)):=fun _ _ _ H _ I h => Constant_bool ⟨.bl b,H,I,rfl,h⟩
theorem pe_non {j pos}:PE X (.Constant .none j pos) (tC .non):=fun _ _ _ H _ I h => Constant_none ⟨.non,H,I,rfl,h⟩
theorem pe_str {x j pos}:PE X (.Constant (.str x) j pos) (tC (.str x)):=fun _ _ _ H _ I h => Calls.Constant_str ⟨.str x,H,I.tok _,⟨_,rfl⟩,h⟩
noncomputable def Gl (X:Cx) (x:Str):Prop:=X.env.kindOf x=some .globalImplicit
theorem ld_glob {E:Value -> Shared -> Prop} {pins:List (Addr×Obj)} {s:Shared} {σ:St} {H:Hp} {x:Str} {u:Value} {pos:Pos} {Q:Value -> Shared -> Prop} (I:Inv X pins σ H s) (hg:Gl X x) (hm:X.mg x=some u) (h:Q u s)
  (hd:(x == ("__debug__":Str))=false:=by decide):wpAny (model X.prog X.w) X.A (eval (.Name x pos) X.env) Q E s :=
 Calls.Name_function_global I.ok.kind hg (Calls.loadGlobal_global (by rw [I.ok.glob]; exact I.mod.glob.keeps I.bk) hm h) hd
theorem ld_blt {E:Value -> Shared -> Prop} {pins:List (Addr×Obj)} {s:Shared} {σ:St} {H:Hp} {x:Str} {u:Value} {pos:Pos} {Q:Value -> Shared -> Prop} (I:Inv X pins σ H s) (hg:Gl X x) (hm:X.mg x=none) (hv:bootBuiltins x=some u) (h:Q u s)
  (hn:x ≠ "__name__":=by decide) (hd:(x == ("__debug__":Str))=false:=by decide):wpAny (model X.prog X.w) X.A (eval (.Name x pos) X.env) Q E s:=by
 obtain ⟨mb,h1,h2⟩:=I.mod.blt
 exact Calls.Name_function_global I.ok.kind hg (Calls.loadGlobal_builtin (by rw [I.ok.glob]; exact I.mod.glob.keeps I.bk) hm (by rw [I.ok.blt]; exact h1.keeps I.bk) ((h2 x hn).trans hv) h) hd
theorem pe_glob {x:Str} {v:V} {u:Value} {pos:Pos} (hg:Gl X x) (hm:X.mg x=some u) (r:RelV v u) (hd:(x == ("__debug__":Str))=false:=by decide):PE X (.Name x pos) (tC v) :=
 fun _ _ _ H _ I h => ld_glob I hg hm ⟨v,H,I,r,h⟩ hd
theorem pe_bltn {x:Str} {v:V} {u:Value} {pos:Pos} (hg:Gl X x) (hm:X.mg x=none) (hv:bootBuiltins x=some u) (r:RelV v u) (hn:x ≠ "__name__":=by decide) (hd:(x == ("__debug__":Str))=false:=by decide):PE X (.Name x pos) (tC v) :=
 fun _ _ _ H _ I h => ld_blt I hg hm hv ⟨v,H,I,r,h⟩ hn hd
variable {a b:Expr} {ta tb:TE} {pos:Pos}
noncomputable def PC (X:Cx) (op:CmpOp) (a b:Expr) (t:TE):Prop :=
 ∀ (pins:List (Addr×Obj)) (s:Shared) (σ:St) (H:Hp) (Q:VK),Inv X pins σ H s -> t σ H Q →
  wpAny (model X.prog X.w) X.A (eval a X.env) (fun v s₁ => wpAny (model X.prog X.w) X.A (eval b X.env) (fun u s₂ => wpAny (model X.prog X.w) X.A (compareOp op v u) (EP X pins σ Q) X.xe s₂) X.xe s₁) X.xe s
theorem nobehind (b:Expr) {op:CmpOp} (h:op≠.In) (h2:op≠.NotIn):behindInMarks op b=false:=by
 have e1:(op == CmpOp.In)=false:=by cases op <;> first | rfl | exact absurd rfl h
 have e2:(op == CmpOp.NotIn)=false:=by cases op <;> first | rfl | exact absurd rfl h2
 cases b <;> simp [behindInMarks,e1,e2]
noncomputable def tB (t:TE):TT:=fun σ H Q => t σ H fun x H1 => ∃ c,x=.bl c∧Q c H1
theorem pt_cmp {op:CmpOp} {t:TE} (h:PC X op a b t) (h1:behindInMarks op b=false:=by first | exact nobehind _ (by decide) (by decide) | rfl):PT X (.Compare a [op] [b] pos) (tB t):=by
 intro pins s σ H Q I hw
 refine wpAny_isTrue_Compare1 (thn (h pins s σ H _ I hw) fun v s1 h1 => thn h1 fun u s2 h2 => thn h2 fun c s3 ⟨x,H1,I1,r1,q1⟩ => ?_) h1
 obtain ⟨d,rfl,q⟩:=q1
 cases r1
 exact wpAny_truthy_bool ⟨H1,I1,q⟩
theorem pt_val {e:Expr} {t:TE} (h:PE X e t) (he:∀ whole,isTrue e X.env whole=(do let v ← whole; standAt e.pos; holding [v] (truthy v)):=by intro _; rfl):PT X e (tB t):=by
 intro pins s σ H Q I hw
 refine isTrue_plain (thn (h pins s σ H _ I hw) fun v s1 ⟨x,H1,I1,r1,q1⟩ => ?_) (he _)
 obtain ⟨d,rfl,q⟩:=q1
 cases r1
 exact wpAny_truthy_bool ⟨H1,I1,q⟩
variable {tA tB':TT} {rest:List Expr}
noncomputable def tAnd (t u:TT):TT:=fun σ H Q => t σ H fun c H1 => if c=true then u σ H1 Q else Q false H1
noncomputable def tOr (t u:TT):TT:=fun σ H Q => t σ H fun c H1 => if c=true then Q true H1 else u σ H1 Q
noncomputable def tNot (t:TT):TT:=fun σ H Q => t σ H fun c H1 => Q (!c) H1
theorem pw_and1 (ha:PT X a tA):PW X (.BoolOp .And [a] pos) tA:=by
 intro wh pins s σ H Q I h
 refine isTrue_and (thn (ha pins s σ H Q I h) fun c s1 e => ?_)
 cases c with
 | true => exact isTrue_and_nil e
 | false => exact e
theorem pw_or1 (ha:PT X a tA):PW X (.BoolOp .Or [a] pos) tA:=by
 intro wh pins s σ H Q I h
 refine isTrue_or (thn (ha pins s σ H Q I h) fun c s1 e => ?_)
 cases c with
 | false => exact isTrue_or_nil e
 | true => exact e
theorem pw_and (ha:PT X a tA) (hb:PW X (.BoolOp .And (b :: rest) pos) tB'):PW X (.BoolOp .And (a :: b :: rest) pos) (tAnd tA tB'):=by
 intro wh pins s σ H Q I h
 refine isTrue_and (thn (ha pins s σ H _ I h) fun c s1 ⟨H1,I1,q1⟩ => ?_)
 cases c with
 | true => exact hb wh pins s1 σ H1 Q I1 q1
 | false => exact ⟨H1,I1,q1⟩
theorem pw_or (ha:PT X a tA) (hb:PW X (.BoolOp .Or (b :: rest) pos) tB'):PW X (.BoolOp .Or (a :: b :: rest) pos) (tOr tA tB'):=by
 intro wh pins s σ H Q I h
 refine isTrue_or (thn (ha pins s σ H _ I h) fun c s1 ⟨H1,I1,q1⟩ => ?_)
 cases c with
 | true => exact ⟨H1,I1,q1⟩
 | false => exact hb wh pins s1 σ H1 Q I1 q1
theorem pt_not (ha:PT X a tA):PT X (.UnaryOp .Not a pos) (tNot tA):=by
 intro pins s σ H Q I h
 exact isTrue_not (ha pins s σ H (fun c H1 => Q (!c) H1) I h)
noncomputable def tAndV (ta tb:TE):TE:=fun σ H Q => ta σ H fun x H1 => ∃ c,x=.bl c∧if c=true then tb σ H1 Q else Q (.bl false) H1
noncomputable def tOrV (ta tb:TE):TE:=fun σ H Q => ta σ H fun x H1 => ∃ c,x=.bl c∧if c=true then Q (.bl true) H1 else tb σ H1 Q
noncomputable def tNotV (ta:TE):TE:=fun σ H Q => ta σ H fun x H1 => ∃ c,x=.bl c∧Q (.bl (!c)) H1
theorem pe_one {op} {t:TE} (h:PE X a t):PE X (.BoolOp op [a] pos) t:=fun pins s σ H Q I hw => BoolOp_one (h pins s σ H Q I hw)
theorem pe_and (ha:PE X a ta) (hb:PE X (.BoolOp .And (b :: rest) pos) tb):PE X (.BoolOp .And (a :: b :: rest) pos) (tAndV ta tb):=by
 intro pins s σ H Q I h
 refine BoolOp_and (thn (ha pins s σ H _ I h) fun v s1 ⟨x,H1,I1,r1,q1⟩ => ?_)
 obtain ⟨c,rfl,q1⟩:=q1
 cases r1
 refine wpAny_truthy_bool ?_
 cases c with
 | true => exact hb pins s1 σ H1 Q I1 q1
 | false => exact ⟨.bl false,H1,I1,rfl,q1⟩
theorem pe_or (ha:PE X a ta) (hb:PE X (.BoolOp .Or (b :: rest) pos) tb):PE X (.BoolOp .Or (a :: b :: rest) pos) (tOrV ta tb):=by
 intro pins s σ H Q I h
 refine BoolOp_or (thn (ha pins s σ H _ I h) fun v s1 ⟨x,H1,I1,r1,q1⟩ => ?_)
 obtain ⟨c,rfl,q1⟩:=q1
 cases r1
 refine wpAny_truthy_bool ?_
 cases c with
 | false => exact hb pins s1 σ H1 Q I1 q1
 | true => exact ⟨.bl true,H1,I1,rfl,q1⟩
theorem pe_not (ha:PE X a ta):PE X (.UnaryOp .Not a pos) (tNotV ta):=by
 intro pins s σ H Q I h
 refine UnaryOp_ (thn (ha pins s σ H _ I h) fun v s1 ⟨x,H1,I1,r1,q1⟩ => ?_)
 obtain ⟨c,rfl,q1⟩:=q1
 cases r1
 exact not_of (wpAny_truthy_bool ⟨.bl (!c),H1,I1,rfl,q1⟩)
end
noncomputable def SqL (K:PySem.W.Frag) (H:Hp) (a:Addr) (xs:List V):Prop :=
 Rd H a (.lst xs) ∨
  ∃ (o:Obj) (its:Array Value) (n:Nat),K.lookup a=some o∧o.cls=.type "list"∧o.dict=none∧o.data=.seq its n∧its.size≤sizeLine∧Vals xs its.toList
noncomputable def SqT (K:PySem.W.Frag) (H:Hp) (a:Addr) (xs:List V):Prop :=
 Rd H a (.tup xs) ∨
  ∃ (o:Obj) (its:Array Value) (n:Nat),K.lookup a=some o∧o.cls=.type "tuple"∧o.data=.seq its n∧its.size≤sizeLine∧Vals xs its.toList
noncomputable def absV:Value -> Option V
 | .none => some .non
 | .bool b => some (.bl b)
 | .int i _ => some (.int i)
 | .str x _ => some (.str x)
 | .bytes b _ => some (.byt b)
 | .float b _ => some (.flt b)
 | .ref a => some (.ref a)
 | .type n => some (.ty n)
 | _ => none
theorem RelV.abs {x:V} {u:Value} (r:RelV x u):absV u=some x:=by
 cases x with
 | non => cases r; rfl
 | bl _ => cases r; rfl
 | int _ => obtain ⟨t,rfl⟩:=r; rfl
 | str _ => obtain ⟨t,rfl⟩:=r; rfl
 | byt _ => obtain ⟨t,rfl⟩:=r; rfl
 | flt _ => obtain ⟨t,rfl⟩:=r; rfl
 | ref _ => cases r; rfl
 | ty _ => cases r; rfl
theorem RelV.inj {x y:V} {u:Value} (r:RelV x u) (q:RelV y u):x=y:=Option.some.inj (r.abs.symm.trans q.abs)
theorem Vals.inj:∀ {xs ys:List V} {us:List Value},Vals xs us -> Vals ys us -> xs=ys
 | _,_,_,.nil,.nil => rfl
 | _,_,_,.cons r t,.cons r' t' => by rw [r.inj r',Vals.inj t t']
section
variable {X:Cx} {pins:List (Addr×Obj)} {σ:St} {H:Hp} {s:Shared} {a:Addr} {xs ys:List V}
theorem SqL.of {K:PySem.W.Frag} (h:H a=some (.lst xs)):SqL K H a xs:=.inl (.inl h)
theorem SqT.of {K:PySem.W.Frag} (h:H a=some (.tup xs)):SqT K H a xs:=.inl (.inl h)
theorem Inv.list (I:Inv X pins σ H s) (h:SqL X.K H a xs):∃ its:List Value,Vals xs its∧PlainL s.heap a its.toArray∧xs.length≤sizeLine:=by
 rcases h with h | ⟨o,its,n,hk,hc,hd,hs,hz,r⟩
 ·obtain ⟨z,its,n,r,e⟩:=h.ok I.hok
  exact ⟨its,r,⟨_,n,e,rfl,rfl,rfl⟩,z⟩
 ·refine ⟨its.toList,r,⟨o,n,I.kIn a o hk,hc,hd,by simpa using hs⟩,?_⟩
  have e:=r.length
  simp only [Array.length_toList] at e
  trivial
theorem Inv.tuple (I:Inv X pins σ H s) (h:SqT X.K H a xs):∃ its:List Value,Vals xs its∧IsTup s.heap a its.toArray∧xs.length≤sizeLine:=by
 rcases h with h | ⟨o,its,n,hk,hc,hs,hz,r⟩
 ·obtain ⟨z,its,r,p⟩:=h.ok I.hok
  exact ⟨its,r,p,z⟩
 ·refine ⟨its.toList,r,⟨o,I.kIn a o hk,hc,n,by simpa using hs⟩,?_⟩
  have e:=r.length
  simp only [Array.length_toList] at e
  trivial
theorem Inv.list_inj (I:Inv X pins σ H s) (h:SqL X.K H a xs) (h':SqL X.K H a ys):xs=ys:=by
 obtain ⟨its,r,⟨o,n,e,_,_,d⟩,_⟩:=I.list h
 obtain ⟨its',r',⟨o',n',e',_,_,d'⟩,_⟩:=I.list h'
 rw [e] at e'; cases e'
 rw [d] at d'
 injection d' with d1 _
 have:its=its':=by simpa using congrArg Array.toList d1
 subst this
 exact r.inj r'
theorem Inv.tuple_inj (I:Inv X pins σ H s) (h:SqT X.K H a xs) (h':SqT X.K H a ys):xs=ys:=by
 obtain ⟨its,r,⟨o,e,_,n,d⟩,_⟩:=I.tuple h
 obtain ⟨its',r',⟨o',e',_,n',d'⟩,_⟩:=I.tuple h'
 rw [e] at e'; cases e'
 rw [d] at d'
 injection d' with d1 _
 have:its=its':=by simpa using congrArg Array.toList d1
 subst this
 exact r.inj r'
end
noncomputable abbrev Cx.wish (X:Cx) (E:Value -> Shared -> Prop):Cx:={ X with xe:=E }
noncomputable abbrev Cx.nox (X:Cx):Cx:=X.wish fun _ _ => False
theorem Cx.Ok.wish {X:Cx} (ok:X.Ok) (E:Value -> Shared -> Prop):(X.wish E).Ok :=
 ⟨ok.mod,ok.kind,ok.glob,ok.blt,ok.above,ok.inj,ok.has,ok.cab,ok.hd,ok.frames,ok.stk,ok.exf,ok.bs,ok.bsz,ok.noex,ok.exfs,ok.funs,ok.frf⟩
theorem Cx.Ok.unwish {X:Cx} {E:Value -> Shared -> Prop} (ok:(X.wish E).Ok):X.Ok :=
 ⟨ok.mod,ok.kind,ok.glob,ok.blt,ok.above,ok.inj,ok.has,ok.cab,ok.hd,ok.frames,ok.stk,ok.exf,ok.bs,ok.bsz,ok.noex,ok.exfs,ok.funs,ok.frf⟩
section
variable {X:Cx} {pins:List (Addr×Obj)} {σ:St} {H:Hp} {s:Shared} {E:Value -> Shared -> Prop}
theorem Inv.wish (I:Inv X pins σ H s) (E:Value -> Shared -> Prop):Inv (X.wish E) pins σ H s:=⟨I.ok.wish E,I.os,I.bare,I.base,I.loc,I.cell,I.free,I.freeC,I.pin,I.hok,I.len⟩
theorem Inv.unwish (I:Inv (X.wish E) pins σ H s):Inv X pins σ H s:=⟨I.ok.unwish,I.os,I.bare,I.base,I.loc,I.cell,I.free,I.freeC,I.pin,I.hok,I.len⟩
theorem SP.unwish {D:Ends} {f:Flow} {s':Shared} (h:SP (X.wish E) pins D f s'):SP X pins D f s':=by
 cases f with
 | next => obtain ⟨σ',H',I,q⟩:=h; exact ⟨σ',H',I.unwish,q⟩
 | brk => obtain ⟨σ',H',I,q⟩:=h; exact ⟨σ',H',I.unwish,q⟩
 | cont => obtain ⟨σ',H',I,q⟩:=h; exact ⟨σ',H',I.unwish,q⟩
 | ret u => obtain ⟨v,σ',H',I,r,q⟩:=h; exact ⟨v,σ',H',I.unwish,r,q⟩
theorem PSs.nox {st:List Stmt} {t:TS} (h:PSs X.nox st t):PSs X st t:=fun pins s σ H D I hw =>
 wpAny_mono (h pins s σ H D (I.wish _) hw) (fun _ _ q => q.unwish) fun _ _ z => False.elim z
end
section
variable {X:Cx} {st:Stmt} {rest:List Stmt} {t u:TS} {e:Expr} {te:TE} {pos:Pos}
noncomputable def tNext:TS:=fun D σ H => D.nx σ H
noncomputable def tSeq (t u:TS):TS:=fun D σ H => t { D with nx:=u D } σ H
theorem pss_nil:PSs X [] tNext:=fun _ _ σ H _ I h => wpAny_execs_nil ⟨σ,H,I,h⟩
theorem pss_cons (h1:PS X st t) (h2:PSs X rest u):PSs X (st :: rest) (tSeq t u):=by
 intro pins s σ H D I h
 refine wpAny_execs_cons (thn (h1 pins s σ H { D with nx:=u D } I h) fun f s1 q => ?_)
 cases f with
 | next =>
  obtain ⟨σ',H',I',q⟩:=q
  exact h2 pins s1 σ' H' D I' q
 | ret v => exact q
 | brk => exact q
 | cont => exact q
theorem pss_one (h1:PS X st t):PSs X [st] t:=by
 intro pins s σ H D I h
 refine wpAny_execs_cons (thn (h1 pins s σ H D I h) fun f s1 q => ?_)
 cases f with
 | next => exact wpAny_execs_nil q
 | ret v => exact q
 | brk => exact q
 | cont => exact q
theorem Inv.quiet {pins:List (Addr×Obj)} {σ:St} {H:Hp} {s:Shared} (I:Inv X pins σ H s):interactive X.env=false:=by simp [interactive,I.ok.kind]
noncomputable def tDrop (te:TE):TS:=fun D σ H => te σ H fun _ H1 => D.nx σ H1
theorem ps_expr (he:PE X e te) (hs:swapsWith e none pos.line X.env=pure false:=by rfl):PS X (.Expr e pos) (tDrop te):=by
 intro pins s σ H D I h
 exact wpAny_Expr_any (thn (he pins s σ H _ I h) fun v s1 ⟨x,H1,I1,r1,q1⟩ => ⟨σ,H1,I1,q1⟩) I.quiet hs
noncomputable def tRet (te:TE):TS:=fun D σ H => te σ H D.rt
theorem ps_ret (he:PE X e te):PS X (.Return (some e) pos) (tRet te):=by
 intro pins s σ H D I h
 exact wpAny_Return_some (thn (he pins s σ H _ I h) fun v s1 ⟨x,H1,I1,r1,q1⟩ => ⟨x,σ,H1,I1,r1,q1⟩)
noncomputable def tIfS (c:TT) (t u:TS):TS:=fun D σ H => c σ H fun b H1 => if b=true then t D σ H1 else u D σ H1
theorem ps_if {c:Expr} {a b:List Stmt} {tc:TT} (hc:PT X c tc) (ha:PSs X a t) (hb:PSs X b u):PS X (.If c a b pos) (tIfS tc t u):=by
 intro pins s σ H D I h
 refine wpAny_If (thn (hc pins s σ H _ I h) fun d s1 ⟨H1,I1,q1⟩ => ?_)
 cases d with
 | true => exact ha pins s1 σ H1 D I1 q1
 | false => exact hb pins s1 σ H1 D I1 q1
noncomputable def tNever:TS:=fun _ _ _ => False
theorem pss_never {sts:List Stmt}:PSs X sts tNever:=fun _ _ _ _ _ _ h => h.elim
end
noncomputable abbrev TG:=V -> St -> Hp -> (St -> Hp -> Prop) -> Prop
noncomputable abbrev TGs:=List V -> St -> Hp -> (St -> Hp -> Prop) -> Prop
noncomputable def PG (X:Cx) (target:Expr) (t:TG):Prop :=
 ∀ (pins:List (Addr×Obj)) (s:Shared) (σ:St) (H:Hp) (v:V) (u:Value) (Q:St -> Hp -> Prop),Inv X pins σ H s -> RelV v u -> t v σ H Q →
  wpAny (model X.prog X.w) X.A (assign target X.env u) (fun _ s' => ∃ σ' H',Inv X pins σ' H' s'∧Q σ' H') X.xe s
noncomputable def PGs (X:Cx) (ts:List Expr) (t:TGs):Prop :=
 ∀ (pins:List (Addr×Obj)) (s:Shared) (σ:St) (H:Hp) (vs:List V) (us:List Value) (Q:St -> Hp -> Prop),Inv X pins σ H s -> Vals vs us -> t vs σ H Q →
  wpAny (model X.prog X.w) X.A (assignInOrder ((assignEach ts X.env).map (·.2)) us) (fun _ s' => ∃ σ' H',Inv X pins σ' H' s'∧Q σ' H') X.xe s
noncomputable abbrev TSet:=V -> V -> V -> Hp -> (Hp -> Prop) -> Prop
noncomputable def PSet (X:Cx) (t:TSet):Prop :=
 ∀ (pins:List (Addr×Obj)) (s:Shared) (σ:St) (H:Hp) (o i v:V) (ov iv u:Value) (Q:Hp -> Prop),Inv X pins σ H s -> RelV o ov -> RelV i iv -> RelV v u -> t o i v H Q →
  wpAny (model X.prog X.w) X.A (setItem ov iv u) (fun _ s' => ∃ H',Inv X pins σ H' s'∧Q H') X.xe s
section
variable {X:Cx} {pos:Pos}
noncomputable def gName (i:Nat):TG:=fun v σ H Q => Q (σ.set i (some v)) H
theorem pg_name {i:Nat} {x:Str} (hN:X.N.Nodup) (hi:X.N[i]?=some x) (hx:Loc X.env.scope x) (hf:X.fn x=true∨X.env.scope.names.lookup x=some .local:=by first | exact .inl rfl | exact .inr rfl | assumption):PG X (.Name x pos) (gName i):=by
 intro pins s σ H v u Q I r h
 exact wpAny_assign_Name (store_ok I hN hi hx r (fun s' I' => ⟨_,H,I',h⟩) hf)
noncomputable def gNil:TGs:=fun vs σ H Q => vs=[]∧Q σ H
noncomputable def gCons (t:TG) (u:TGs):TGs:=fun vs σ H Q => ∃ v r,vs=v :: r∧t v σ H fun σ' H' => u r σ' H' Q
theorem pgs_nil:PGs X [] gNil:=by
 intro pins s σ H vs us Q I r h
 obtain ⟨e,h⟩:=h
 subst e
 cases r
 exact assignInOrder_nil ⟨σ,H,I,h⟩
theorem pgs_cons {e:Expr} {es:List Expr} {t:TG} {u:TGs} (h1:PG X e t) (h2:PGs X es u)
  (hs:(assignEach (e :: es) X.env).map (·.2)=assign e X.env :: (assignEach es X.env).map (·.2):=by rfl):PGs X (e :: es) (gCons t u):=by
 intro pins s σ H vs us Q I r h
 obtain ⟨v,vr,e1,h⟩:=h
 subst e1
 cases r with
 | cons r rr =>
  rw [hs]
  refine assignInOrder_cons (thn (h1 pins s σ H _ _ _ I r h) fun _ s1 ⟨σ1,H1,I1,q1⟩ => ?_)
  exact h2 pins s1 σ1 H1 _ _ Q I1 rr q1
noncomputable def gTup (K:PySem.W.Frag) (n:Nat) (t:TGs):TG:=fun v σ H Q => ∃ a xs,v=.ref a∧SqT K H a xs∧xs.length=n∧t xs σ H Q
theorem pg_tup {es:List Expr} {k:Nat} {t:TGs} {n:Nat} (hc:X.calm=true) (h:PGs X es t)
  (hn:(assignEach es X.env).length=n:=by rfl) (hst:(assignEach es X.env).findIdx? (·.1)=none:=by rfl):PG X (.Tuple es k pos) (gTup X.K n t):=by
 intro pins s σ H v u Q I r hw
 obtain ⟨a,xs,e1,hq,hl,hw⟩:=hw
 subst e1
 cases r
 obtain ⟨its,rv,ht,hz⟩:=I.tuple hq
 refine assign_Tuple_tuple (I.ok.hd hc) ht (by simp [hn,← hl,rv.length]) hst fun h' hx => ?_
 have I1:Inv X pins σ H { s with heap:=h' }:=I.kept (t':=s.toks) fun b o e => hx b o (Nat.ne_of_lt (Heap.lt_size e)) e
 exact h pins _ σ H xs _ Q I1 (by simpa using rv) hw
noncomputable def gSub (to ti:TE) (t:TSet):TG:=fun v σ H Q => to σ H fun o H1 => ti σ H1 fun i H2 => t o i v H2 fun H3 => Q σ H3
theorem pg_sub {o i:Expr} {to ti:TE} {t:TSet} (ho:PE X o to) (hi:PE X i ti) (hs:PSet X t)
  (ha:∀ v,assign (.Subscript o i pos) X.env v=(do
   let ov ← holding [v] (eval o X.env)
   let iv ← holding [v,ov] (eval i X.env)
   standAt pos
   holding [v,ov,iv] (setItem ov iv v)
   release [v,ov,iv] []):=by intro _; rfl):PG X (.Subscript o i pos) (gSub to ti t):=by
 intro pins s σ H v u Q I r h
 rw [ha]
 refine wpAny_bind (wpAny_holding (thn (ho pins s σ H _ I h) fun ov s1 ⟨x,H1,I1,r1,q1⟩ => ?_))
 refine wpAny_bind (wpAny_holding (thn (hi pins s1 σ H1 _ I1 q1) fun iv s2 ⟨y,H2,I2,r2,q2⟩ => ?_))
 refine wpAny_bind (wpAny_standAt (wpAny_bind (wpAny_holding (thn (hs pins s2 σ H2 x y v ov iv u _ I2 r1 r2 r q2) fun _ s3 ⟨H3,I3,q3⟩ => ?_))))
 exact wpAny_release ⟨σ,H3,I3,q3⟩
noncomputable def tAsg (te:TE) (g:TG):TS:=fun D σ H => te σ H fun x H1 => g x σ H1 D.nx
theorem ps_asg {tg e:Expr} {te:TE} {g:TG} (he:PE X e te) (hg:PG X tg g) (hs:swapsWithSole [tg] e pos.line X.env=pure false:=by rfl) (hw:swappedStores [tg] e X.env=pure none:=by rfl)
  (h1:(assignEach [tg] X.env).map (·.2)=[assign tg X.env]:=by rfl):PS X (.Assign [tg] e pos) (tAsg te g):=by
 intro pins s σ H D I h
 refine wpAny_Assign_stores (thn (he pins s σ H _ I h) fun v s1 ⟨x,H1,I1,r1,q1⟩ => ?_) hs hw
 rw [h1]
 exact thn (hg pins s1 σ H1 x v _ I1 r1 q1) fun _ s2 q => q
theorem ps_set {i:Nat} {x:Str} {e:Expr} {te:TE} {pos':Pos} (hN:X.N.Nodup) (hi:X.N[i]?=some x) (hx:Loc X.env.scope x) (he:PE X e te) (hs:swapsWith e (some (.Name x pos')) pos.line X.env=pure false:=by rfl) (hf:X.fn x=true∨X.env.scope.names.lookup x=some .local:=by first | exact .inl rfl | exact .inr rfl | assumption) :
  PS X (.Assign [.Name x pos'] e pos) (tAsg te (gName i)):=by
 intro pins s σ H D I h
 refine wpAny_Assign_Name (thn (he pins s σ H _ I h) fun v s1 ⟨y,H1,I1,r1,q1⟩ => ?_) hs
 exact store_ok I1 hN hi hx r1 (fun s2 I2 => ⟨_,H1,I2,q1⟩) hf
noncomputable def tWhile (c:TT) (tb:TS):TS:=fun D σ H => ∃ W:Nat -> St -> Hp -> Prop,(∃ m,W m σ H)∧∀ m σ H,W m σ H →
 c σ H fun b H1 => if b=true then ∃ N:St -> Hp -> Prop,(∀ σ' H',N σ' H' -> ∃ m',m' < m∧W m' σ' H')∧tb { D with nx:=N,ct:=N,bk:=D.nx } σ H1 else D.nx σ H1
theorem ps_while {c:Expr} {body:List Stmt} {tc:TT} {tb:TS} (hp:PassesOwn (model X.prog X.w) X.A X.env X.xe) (hc:PT X c tc) (hb:PSs X body tb):PS X (.While c body [] pos) (tWhile tc tb):=by
 intro pins s σ H D I h
 obtain ⟨W,⟨m0,w0⟩,turn⟩:=h
 refine wpAny_While (codeAny_whileLoop (fun n s' => ∃ σ' H',Inv X pins σ' H' s'∧W n σ' H') ?_ m0 ⟨σ,H,I,w0⟩)
 rintro n s1 ⟨σ1,H1,I1,w1⟩
 refine wpAny_passesOwn hp (thn (hc pins s1 σ1 H1 _ I1 (turn n σ1 H1 w1)) fun b s2 ⟨H2,I2,q2⟩ => ?_)
 cases b with
 | true =>
  obtain ⟨N,hN,q2⟩:=q2
  rw [if_pos rfl]
  refine wpAny_passesOwn hp (thn (hb pins s2 σ1 H2 _ I2 q2) fun f s3 q3 => ?_)
  cases f with
  | next =>
   obtain ⟨σ3,H3,I3,n3⟩:=q3
   obtain ⟨m',hm,w3⟩:=hN σ3 H3 n3
   exact ⟨m',hm,σ3,H3,I3,w3⟩
  | cont =>
   obtain ⟨σ3,H3,I3,n3⟩:=q3
   obtain ⟨m',hm,w3⟩:=hN σ3 H3 n3
   exact ⟨m',hm,σ3,H3,I3,w3⟩
  | brk => exact q3
  | ret v => exact q3
 | false =>
  rw [if_neg Bool.false_ne_true]
  exact wpAny_execs_nil ⟨σ1,H2,I2,q2⟩
end
structure It where
 go:Nat -> Hp -> Prop
 yld:Nat -> Hp -> V -> Hp -> Prop
 stop:Nat -> Hp -> Prop
noncomputable def FpOk (X:Cx) (pins:List (Addr×Obj)) (H:Hp) (b:Addr):Prop :=
 H b=none∧b≠X.env.locals∧b ∉ X.fs∧(b∈X.ex∨X.s₀.heap.objs.size≤b)∧(∀ x c,X.env.cells.lookup x=some c -> c≠b)∧∀ p∈X.pn++pins,p.1≠b
theorem Inv.fpOk {X:Cx} {pins:List (Addr×Obj)} {σ:St} {H H':Hp} {s:Shared} {b:Addr} (I:Inv X pins σ H s) (hb:s.heap.objs.size≤b) (hn:H' b=none):FpOk X pins H' b:=by
 refine ⟨hn,Nat.ne_of_gt (Nat.lt_of_lt_of_le I.lt hb),I.nofs hb,.inr (Nat.le_trans I.sz hb),fun x c e z => ?_,fun p hp z => ?_⟩
 ·obtain ⟨v,q⟩:=I.cell x c e
  exact absurd (Nat.lt_of_lt_of_le q.lt (by rw [z]; exact hb)) (Nat.lt_irrefl _)
 ·exact absurd (Nat.lt_of_lt_of_le (Heap.lt_size (I.pin p hp).1) (by rw [z]; exact hb)) (Nat.lt_irrefl _)
structure Turn (P:Program) (w:World) (K:PySem.W.Frag) (tg:Expr) (J:It) (fp:List Addr) (it:Addr) (tn:Nat -> Heap -> Prop):Prop where
 mem:it∈fp
 obj:∀ i h,tn i h -> ∀ b∈fp,∃ o,h.get? b=some o∧∀ v,o.data≠.cell v
 keep:∀ i h h',tn i h -> (∀ b∈fp,∀ o,h.get? b=some o -> h'.get? b=some o) -> tn i h'
 item:∀ (X:Cx),X.prog=P -> X.w=w -> X.K=K -> X.calm=true -> ∀ (i:Nat) (pins:List (Addr×Obj)) (s:Shared) (σ:St) (H:Hp) (E:Value -> Shared -> Prop),Inv X pins σ H s -> (∀ b∈fp,FpOk X pins H b) -> tn i s.heap -> J.go i H →
  wpAny (model P w) X.A (pyNext (.ref it)) (fun r s1 => ∃ u,r=some u ∧
   wpAny (model P w) X.A (letOwnedTupleGo tg (.ref it) u) (fun _ s2 => ∃ x H',Inv X pins σ H' s2∧RelV x u∧J.yld i H x H'∧tn (i+1) s2.heap∧∀ b∈fp,H' b=none) E s1) E s
 done:∀ (X:Cx),X.prog=P -> X.w=w -> X.K=K -> X.calm=true -> ∀ (i:Nat) (pins:List (Addr×Obj)) (s:Shared) (σ:St) (H:Hp) (E:Value -> Shared -> Prop),Inv X pins σ H s -> (∀ b∈fp,FpOk X pins H b) -> tn i s.heap -> J.stop i H →
  wpAny (model P w) X.A (pyNext (.ref it)) (fun r s1 => r=none∧Inv X pins σ H s1) E s
 self:∀ (A:Around) (i:Nat) (s:Shared) (Q:Value -> Shared -> Prop) (E:Value -> Shared -> Prop),tn i s.heap -> Q (.ref it) s -> wpAny (model P w) A (pyIter (.ref it)) Q E s
noncomputable abbrev TI:=St -> Hp -> (It -> Hp -> Prop) -> Prop
noncomputable def PIE (X:Cx) (pins:List (Addr×Obj)) (σ:St) (tg:Expr) (R:It -> Hp -> Prop) (itv:Value) (s2:Shared):Prop :=
 ∃ (it:Addr) (fp:List Addr) (tn:Nat -> Heap -> Prop) (J:It) (H':Hp),itv=.ref it∧Inv X pins σ H' s2∧Turn X.prog X.w X.K tg J fp it tn∧tn 0 s2.heap∧(∀ b∈fp,FpOk X pins H' b)∧R J H'
noncomputable def PI (X:Cx) (tg iter:Expr) (wi:TI):Prop :=
 ∀ (pins:List (Addr×Obj)) (s:Shared) (σ:St) (H:Hp) (R:It -> Hp -> Prop),Inv X pins σ H s -> wi σ H R →
  wpAny (model X.prog X.w) X.A (eval iter X.env) (fun v s1 => wpAny (model X.prog X.w) X.A (pyIter v) (PIE X pins σ tg R) X.xe s1) X.xe s
theorem go_of {M : Model} {A : Around} {E : Value → Shared → Prop} {s : Shared} {tg : Expr} {it : Addr} {u : Value} {o : Obj} {n : String} {vs : Array Value} {Q : Unit → Shared → Prop} (ho : s.heap.get? it=some o) (hc : o.cls=.type n) (hd : o.data=.fields vs)
    (hn : ["enumerate","zip","dict_itemiterator","dict_reverseitemiterator","odict_iterator","itertools.zip_longest","itertools.pairwise"].contains n=false) (hQ : Q () s) : wpAny M A (letOwnedTupleGo tg (.ref it) u) Q E s := by
  unfold letOwnedTupleGo
  cases tg <;> first
    | exact wpAny_pure hQ
    | (cases u <;> first
        | exact wpAny_pure hQ
        | (refine wpAny_bind (wpAny_load ho ?_)
           rw [hc,hd]
           show wpAny M A (if (["enumerate","zip","dict_itemiterator","dict_reverseitemiterator","odict_iterator","itertools.zip_longest","itertools.pairwise"].contains n && vs[0]? == some (rawInt _))=true then _ else _) Q E s
           rw [if_neg (by intro h; rw [hn,Bool.false_and] at h; cases h)]
           exact wpAny_pure hQ))
noncomputable def Itl (K:PySem.W.Frag) (a:Addr):It :=
 ⟨fun i H => ∃ xs x,SqL K H a xs∧xs[i]?=some x,fun i H x H' => H'=H∧∀ xs,SqL K H a xs -> xs[i]?=some x,fun i H => ∃ xs,SqL K H a xs∧xs.length≤i⟩
noncomputable def Itr (lo:Int) (n:Nat):It:=⟨fun i _ => i < n,fun i H x H' => H'=H∧x=.int (lo+i),fun i _ => n≤i⟩
theorem turn_list {P:Program} {w:World} {K:PySem.W.Frag} {tg:Expr} (a it:Addr):Turn P w K tg (Itl K a) [it] it (fun i h => h.IsListIter it a i) where
 mem:=by simp
 obj:=fun i h st b hb => by
  have e:b=it:=by simpa using hb
  subst e
  obtain ⟨o,e,c,d⟩:=st
  exact ⟨o,e,fun v z => by rw [d] at z; cases z⟩
 keep:=fun i h h' st k => st.at fun o e => k it (by simp) o e
 item:=by
  intro X hP hw hK hc i pins s σ H E I hf st hg
  subst hP hw hK
  obtain ⟨xs,x,hq,hx⟩:=hg
  obtain ⟨its,rv,p,hz⟩:=I.list hq
  obtain ⟨u,hu,ru⟩:=rv.get hx
  obtain ⟨f0,f1,f2,f3,f4,f5⟩:=hf it (by simp)
  refine wpAny_pyNext_list_item st p.isList (x:=u) (by simpa using hu) fun h' st' sb => ?_
  have I1:Inv X pins σ H { s with heap:=h' }:=I.turned (t':=s.toks) (fun b o hb e => (sb.2 b hb).trans e) f0 f1 f3 f4 f5
  obtain ⟨o,e,c,d⟩:=id st'
  exact ⟨u,rfl,go_of (s:={ s with heap:=h' }) e c d (by decide) ⟨x,H,I1,ru,⟨rfl,fun ys hy => by rw [I.list_inj hy hq]; exact hx⟩,st',fun b hb => (hf b hb).1⟩⟩
 done:=by
  intro X hP hw hK hc i pins s σ H E I hf st hg
  subst hP hw hK
  obtain ⟨xs,hq,hx⟩:=hg
  obtain ⟨its,rv,p,hz⟩:=I.list hq
  obtain ⟨f0,f1,f2,f3,f4,f5⟩:=hf it (by simp)
  have hl:=rv.length
  exact wpAny_pyNext_list_end (I.ok.hd hc) st p.isList (by simp; trivial) fun h' eb => ⟨rfl,I.turned (t':=s.toks) (fun b o hb e => eb b o hb e) f0 f1 f3 f4 f5⟩
 self:=fun _ _ _ _ _ st h => wpAny_pyIter_listiter st h
theorem turn_range {P:Program} {w:World} {K:PySem.W.Frag} {tg:Expr} (it:Addr) (lo:Int) (n:Nat):Turn P w K tg (Itr lo n) [it] it (fun i h => IsRangeIter h it (lo+(i:Nat) * 1) ((n:Int) - (i:Nat)) 1) where
 mem:=by simp
 obj:=fun i h st b hb => by
  have e:b=it:=by simpa using hb
  subst e
  exact ⟨_,st,fun v z => by
   have z':Data.fields _=Data.cell v:=z
   cases z'⟩
 keep:=fun i h h' st k => k it (by simp) _ st
 item:=by
  intro X hP hw hK hc i pins s σ H E I hf st hg
  subst hP hw hK
  obtain ⟨f0,f1,f2,f3,f4,f5⟩:=hf it (by simp)
  have W:=Walks.range (prog:=X.prog) (w:=X.w) (I.ok.hd hc) it lo 1 n
  refine W.item i s _ _ hg st fun v h' tk hv st' kk => ?_
  obtain ⟨t,rfl⟩:=hv
  have I1:Inv X pins σ H { s with heap:=h',toks:=tk }:=I.turned (fun b o hb e => kk b o (by simpa using hb) e) f0 f1 f3 f4 f5
  refine ⟨_,rfl,go_of (s:={ s with heap:=h',toks:=tk }) (n:="range_iterator") st' rfl rfl (by decide) ⟨.int (lo+i),H,I1,⟨t,?_⟩,⟨rfl,rfl⟩,st',fun b hb => (hf b hb).1⟩⟩
  rw [Int.mul_one]
 done:=by
  intro X hP hw hK hc i pins s σ H E I hf st hg
  subst hP hw hK
  obtain ⟨f0,f1,f2,f3,f4,f5⟩:=hf it (by simp)
  exact wpAny_pyNext_range_end (I.ok.hd hc) st (by have:n≤i:=hg; trivial) fun h' eb => ⟨rfl,I.turned (t':=s.toks) (fun b o hb e => eb b o hb e) f0 f1 f3 f4 f5⟩
 self:=fun _ _ _ _ _ st h => wpAny_pyIter_rangeiter st h
section
variable {X:Cx} {tg:Expr}
noncomputable def iList (K:PySem.W.Frag) (tl:TE):TI:=fun σ H R => tl σ H fun x H1 => ∃ a,x=.ref a∧(∃ xs,SqL K H1 a xs)∧R (Itl K a) H1
theorem pi_list {l:Expr} {tl:TE} (hl:PE X l tl):PI X tg l (iList X.K tl):=by
 intro pins s σ H R I h
 refine thn (hl pins s σ H _ I h) fun v s1 ⟨x,H1,I1,r1,q1⟩ => ?_
 obtain ⟨a,e,⟨xs,hq⟩,q⟩:=q1
 subst e
 cases r1
 obtain ⟨its,rv,p,hz⟩:=I1.list hq
 refine wpAny_pyIter_list p.isList ?_
 refine ⟨s1.heap.objs.size,[s1.heap.objs.size],_,_,H1,rfl,I1.kept (t':=s1.toks) fun b o e => Heap.get?_push_of_some _ e,turn_list a _,⟨_,Heap.get?_push_size _ rfl,rfl,rfl⟩,fun b hb => ?_,q⟩
 have e:b=s1.heap.objs.size:=by simpa using hb
 subst e
 exact I1.fpOk (Nat.le_refl _) (I1.hok.fresh (Nat.le_refl _))
theorem range_it {pins:List (Addr×Obj)} {σ:St} {H:Hp} {s:Shared} {R:It -> Hp -> Prop} {E:Value -> Shared -> Prop} {lo hi:Int} {t u v:Tok} {tk:Nat} (I:Inv X pins σ H s) (h1:-(2 ^ 62)≤lo) (h2:lo < 2 ^ 62) (h3:-(2 ^ 62)≤hi) (h4:hi < 2 ^ 62)
  (q:R (Itr lo (hi - lo).toNat) H):wpAny (model X.prog X.w) X.A (pyIter (.ref s.heap.objs.size)) (PIE X pins σ tg R) E { s with heap:=s.heap.push { cls:=.type "range",data:=.fields #[.int lo t,.int hi u,.int 1 v] },toks:=tk }:=by
 refine wpAny_pyIter_range (IsRange.new ..) (small_one h1 h2 h3 h4) ?_
 have I1:Inv X pins σ H { s with heap:=s.heap.push { cls:=.type "range",data:=.fields #[.int lo t,.int hi u,.int 1 v] },toks:=tk }:=I.kept fun b o e => Heap.get?_push_of_some _ e
 refine ⟨(s.heap.push { cls:=.type "range",data:=.fields #[.int lo t,.int hi u,.int 1 v] }).objs.size,[(s.heap.push { cls:=.type "range",data:=.fields #[.int lo t,.int hi u,.int 1 v] }).objs.size],_,_,H,rfl,
  I1.kept (t':=tk) fun b o e => Heap.get?_push_of_some _ e,turn_range _ lo (hi - lo).toNat,?_,fun b hb => ?_,q⟩
 ·have e1:lo+((0:Nat):Int) * 1=lo:=by simp
  have e2:(((hi - lo).toNat:Nat):Int) - ((0:Nat):Int)=Builtin.Range.rangeSize lo hi 1:=by rw [rangeSize_one]; split <;> trivial
  show IsRangeIter _ _ (lo+((0:Nat):Int) * 1) ((((hi - lo).toNat:Nat):Int) - ((0:Nat):Int)) 1
  rw [e1,e2]
  exact Heap.get?_push_size _ rfl
 ·have e:b=(s.heap.push { cls:=.type "range",data:=.fields #[.int lo t,.int hi u,.int 1 v] }).objs.size:=by simpa using hb
  subst e
  exact I1.fpOk (Nat.le_refl _) (I1.hok.fresh (Nat.le_refl _))
noncomputable def iRng1 (ta:TA):TI:=fun σ H R => ta σ H fun vs H1 => ∃ j:Int,vs=[.int j]∧-(2 ^ 62)≤j∧j < 2 ^ 62∧R (Itr 0 j.toNat) H1
noncomputable def iRng2 (ta:TA):TI:=fun σ H R => ta σ H fun vs H1 => ∃ i j:Int,vs=[.int i,.int j]∧(-(2 ^ 62)≤i∧i < 2 ^ 62∧-(2 ^ 62)≤j∧j < 2 ^ 62)∧R (Itr i (j - i).toNat) H1
theorem pi_range1 {a:Expr} {ta:TA} {p pos:Pos} (hg:Gl X "range") (hm:X.mg "range" = none) (ha:PA X [a] ta) (hs:starEach [a] X.env=[(false,eval a X.env)]:=by rfl):PI X tg (.Call (.Name "range" p) [a] [] pos) (iRng1 ta):=by
 intro pins s σ H R I h
 refine Call_ (ld_blt I hg hm boot_range (PyProof.Rows.callWith_type1 (thn (ha pos pins s σ H _ I h) fun us s1 ⟨vs,H1,I1,r1,q1⟩ => ?_) hs rfl))
 obtain ⟨j,e,q1,q2,q⟩:=q1
 subst e
 cases r1 with
 | cons r rr =>
  cases rr
  obtain ⟨t,rfl⟩:=r
  exact call_range_1 (range_it I1 (by trivial) (by trivial) q1 q2 (by simpa using q))
theorem pi_range2 {a b:Expr} {ta:TA} {p pos:Pos} (hg:Gl X "range") (hm:X.mg "range" = none) (ha:PA X [a,b] ta) (hs:starEach [a,b] X.env=[(false,eval a X.env),(false,eval b X.env)]:=by rfl) (hs2:starEach [b] X.env=[(false,eval b X.env)]:=by rfl) :
  PI X tg (.Call (.Name "range" p) [a,b] [] pos) (iRng2 ta):=by
 intro pins s σ H R I h
 refine Call_ (ld_blt I hg hm boot_range (PyProof.Rows.callWith_type1 (thn (ha pos pins s σ H _ I h) fun us s1 ⟨vs,H1,I1,r1,q1⟩ => ?_) (by rw [hs,hs2]) (by rw [hs2]; rfl)))
 obtain ⟨i,j,e,⟨q1,q2,q3,q4⟩,q⟩:=q1
 subst e
 cases r1 with
 | cons r rr =>
  cases rr with
  | cons r' rr =>
   cases rr
   obtain ⟨t,rfl⟩:=r
   obtain ⟨t',rfl⟩:=r'
   exact call_range_2 (range_it I1 q1 q2 q3 q4 q)
noncomputable def tFor (wi:TI) (g:TG) (tb:TS):TS:=fun D σ H => wi σ H fun J H1 => ∃ W:Nat -> Nat -> St -> Hp -> Prop,(∃ m,W 0 m σ H1)∧∀ i m σ H,W i m σ H →
 (J.stop i H∧D.nx σ H)∨(J.go i H∧∃ N:St -> Hp -> Prop,(∀ σ' H',N σ' H' -> ∃ m',m' < m∧W (i+1) m' σ' H')∧∀ x H',J.yld i H x H' -> g x σ H' fun σ2 H2 => tb { D with nx:=N,ct:=N,bk:=D.nx } σ2 H2)
noncomputable def pinsAt (fp:List Addr) (h:Heap):List (Addr×Obj):=fp.filterMap fun b => (h.get? b).map fun o => (b,o)
theorem mem_pinsAt {fp:List Addr} {h:Heap} {b:Addr} {o:Obj} (hb:b∈fp) (e:h.get? b=some o):(b,o)∈pinsAt fp h:=List.mem_filterMap.mpr ⟨b,hb,by rw [e]; rfl⟩
theorem of_pinsAt {fp:List Addr} {h:Heap} {p:Addr×Obj} (hp:p∈pinsAt fp h):p.1∈fp∧h.get? p.1=some p.2:=by
 obtain ⟨b,hb,e⟩:=List.mem_filterMap.mp hp
 cases q:h.get? b with
 | none => rw [q] at e; cases e
 | some o =>
  rw [q] at e
  have e':(b,o)=p:=Option.some.inj e
  subst e'
  exact ⟨hb,q⟩
theorem Inv.pinned {pins:List (Addr×Obj)} {σ:St} {H:Hp} {s:Shared} {fp:List Addr} (I:Inv X pins σ H s) (hf:∀ b∈fp,FpOk X pins H b) (ho:∀ b∈fp,∃ o,s.heap.get? b=some o∧∀ v,o.data≠.cell v):Inv X (pins++pinsAt fp s.heap) σ H s :=
 I.pins_of fun p hp => (List.mem_append.mp hp).elim (fun z => I.pin p (List.mem_append_right _ z)) fun z => by
  obtain ⟨hb,e⟩:=of_pinsAt z
  obtain ⟨f0,f1,f2,_⟩:=hf p.1 hb
  obtain ⟨o,e',d⟩:=ho p.1 hb
  rw [e] at e'; cases e'
  exact ⟨e,f0,f1,f2,d⟩
theorem Inv.unpinned {pins pl:List (Addr×Obj)} {σ:St} {H:Hp} {s:Shared} (I:Inv X (pins++pl) σ H s):Inv X pins σ H s:=I.pins_of fun p hp => I.pin p (List.mem_append_right _ (List.mem_append_left _ hp))
theorem ps_for {iter:Expr} {body:List Stmt} {wi:TI} {g:TG} {tb:TS} {pos:Pos} (hp:PassesOwn (model X.prog X.w) X.A X.env X.xe) (hc:X.calm=true) (hi:PI X tg iter wi) (hg:PG X tg g) (hb:PSs X body tb)
  (hs:∀ x,foldedSetIterable iter X.env x=pure x:=by intro _; rfl):PS X (.For tg iter body [] pos) (tFor wi g tb):=by
 intro pins s σ H D I h
 refine wpAny_For (thn (hi pins s σ H _ I h) fun v s1 h1 => thn h1 fun itv s2 h2 => ?_) hs
 obtain ⟨it,fp,tn,J,H2,e,I2,T,st2,f2,W,⟨m0,w0⟩,turn⟩:=h2
 subst e
 -- what stays true of the iterator's objects through the loop
 have stat:∀ {H':Hp},(∀ b∈fp,H' b=none) -> ∀ b∈fp,FpOk X pins H' b:=fun hn b hb => ⟨hn b hb,(f2 b hb).2⟩
 refine codeAny_forLoop_any (fun n s' => ∃ i σ' H',Inv X pins σ' H' s'∧tn i s'.heap∧(∀ b∈fp,H' b=none)∧W i n σ' H') ?_ m0 ⟨0,σ,H2,I2,st2,fun b hb => (f2 b hb).1,w0⟩
 rintro n s3 ⟨i,σ3,H3,I3,st3,fr3,w3⟩
 rcases turn i n σ3 H3 w3 with ⟨stop,qn⟩ | ⟨go,N,hN,step⟩
 ·refine wpAny_passesOwn hp (thn (T.done X rfl rfl rfl hc i pins s3 σ3 H3 X.xe I3 (stat fr3) st3 stop) fun r s4 ⟨hr,I4⟩ => ?_)
  subst hr
  exact wpAny_execs_nil ⟨σ3,H3,I4,qn⟩
 ·refine wpAny_passesOwn hp (thn (T.item X rfl rfl rfl hc i pins s3 σ3 H3 X.xe I3 (stat fr3) st3 go) fun r s4 ⟨u,hr,h4⟩ => ?_)
  subst hr
  refine wpAny_passesOwn hp (thn h4 fun _ s5 ⟨x,H5,I5,r5,y5,st5,fr5⟩ => ?_)
  have I5':=I5.pinned (stat fr5) (T.obj _ _ st5)
  refine wpAny_passesOwn hp (thn (hg _ s5 σ3 H5 x u _ I5' r5 (step x H5 y5)) fun _ s6 ⟨σ6,H6,I6,q6⟩ => ?_)
  refine wpAny_passesOwn hp (thn (hb _ s6 σ6 H6 _ I6 q6) fun f s7 q7 => ?_)
  have again:∀ {σ7:St} {H7:Hp},Inv X (pins++pinsAt fp s5.heap) σ7 H7 s7 -> N σ7 H7 -> ∃ m,m < n∧∃ i σ' H',Inv X pins σ' H' s7∧tn i s7.heap∧(∀ b∈fp,H' b=none)∧W i m σ' H':=fun {σ7 H7} I7 n7 => by
   obtain ⟨m',hm,w7⟩:=hN σ7 H7 n7
   refine ⟨m',hm,i+1,σ7,H7,I7.unpinned,T.keep _ _ _ st5 fun b hb o e => (I7.pin (b,o) (List.mem_append_right _ (List.mem_append_right _ (mem_pinsAt hb e)))).1,fun b hb => ?_,w7⟩
   obtain ⟨o,e,d⟩:=T.obj _ _ st5 b hb
   exact (I7.pin (b,o) (List.mem_append_right _ (List.mem_append_right _ (mem_pinsAt hb e)))).2.1
  cases f with
  | next => obtain ⟨σ7,H7,I7,n7⟩:=q7; exact again I7 n7
  | cont => obtain ⟨σ7,H7,I7,n7⟩:=q7; exact again I7 n7
  | brk => obtain ⟨σ7,H7,I7,q7⟩:=q7; exact ⟨σ7,H7,I7.unpinned,q7⟩
  | ret v => obtain ⟨x7,σ7,H7,I7,r7,q7⟩:=q7; exact ⟨x7,σ7,H7,I7.unpinned,r7,q7⟩
end
theorem for_list {K:PySem.W.Frag} {a:Addr} {xs:List V} {g:TG} {tb:TS} {D:Ends} {σ:St} {H:Hp} (Pv:Nat -> St -> Hp -> Prop) (h0:Pv 0 σ H) (hl:∀ i σ H,i≤xs.length -> Pv i σ H -> SqL K H a xs)
  (hs:∀ i x σ H,xs[i]?=some x -> Pv i σ H -> g x σ H fun σ2 H2 => tb { D with nx:=Pv (i+1),ct:=Pv (i+1),bk:=D.nx } σ2 H2) (hd:∀ σ H,Pv xs.length σ H -> D.nx σ H) :
  ∃ W:Nat -> Nat -> St -> Hp -> Prop,(∃ m,W 0 m σ H)∧∀ i m σ H,W i m σ H →
   ((Itl K a).stop i H∧D.nx σ H)∨((Itl K a).go i H∧∃ N:St -> Hp -> Prop,(∀ σ' H',N σ' H' -> ∃ m',m' < m∧W (i+1) m' σ' H')∧∀ x H',(Itl K a).yld i H x H' -> g x σ H' fun σ2 H2 => tb { D with nx:=N,ct:=N,bk:=D.nx } σ2 H2):=by
 refine ⟨fun i m σ H => m=xs.length - i∧i≤xs.length∧Pv i σ H,⟨xs.length,by simp,Nat.zero_le _,h0⟩,?_⟩
 rintro i m σ H ⟨rfl,hi,p⟩
 have q:=hl i σ H hi p
 by_cases hlt:i < xs.length
 ·refine .inr ⟨⟨xs,xs[i],q,by simp [hlt]⟩,Pv (i+1),fun σ' H' p' => ⟨xs.length - (i+1),by trivial,rfl,hlt,p'⟩,fun x H' y => ?_⟩
  obtain ⟨e,y⟩:=y
  subst e
  exact hs i x σ _ (y xs q) p
 ·have e:i=xs.length:=by trivial
  subst e
  exact .inl ⟨⟨xs,q,Nat.le_refl _⟩,hd σ H p⟩
theorem for_range {lo:Int} {n:Nat} {g:TG} {tb:TS} {D:Ends} {σ:St} {H:Hp} (Pv:Nat -> St -> Hp -> Prop) (h0:Pv 0 σ H)
  (hs:∀ i σ H,i < n -> Pv i σ H -> g (.int (lo+i)) σ H fun σ2 H2 => tb { D with nx:=Pv (i+1),ct:=Pv (i+1),bk:=D.nx } σ2 H2) (hd:∀ σ H,Pv n σ H -> D.nx σ H) :
  ∃ W:Nat -> Nat -> St -> Hp -> Prop,(∃ m,W 0 m σ H)∧∀ i m σ H,W i m σ H →
   ((Itr lo n).stop i H∧D.nx σ H)∨((Itr lo n).go i H∧∃ N:St -> Hp -> Prop,(∀ σ' H',N σ' H' -> ∃ m',m' < m∧W (i+1) m' σ' H')∧∀ x H',(Itr lo n).yld i H x H' -> g x σ H' fun σ2 H2 => tb { D with nx:=N,ct:=N,bk:=D.nx } σ2 H2):=by
 refine ⟨fun i m σ H => m=n - i∧i≤n∧Pv i σ H,⟨n,by simp,Nat.zero_le _,h0⟩,?_⟩
 rintro i m σ H ⟨rfl,hi,p⟩
 by_cases hlt:i < n
 ·refine .inr ⟨hlt,Pv (i+1),fun σ' H' p' => ⟨n - (i+1),by trivial,rfl,hlt,p'⟩,fun x H' y => ?_⟩
  obtain ⟨e,y⟩:=y
  subst e y
  exact hs i σ _ hlt p
 ·have e:i=n:=by trivial
  subst e
  exact .inl ⟨Nat.le_refl _,hd σ H p⟩
noncomputable abbrev R2:=V -> V -> Hp -> VK -> Prop
noncomputable def OpR (X:Cx) (f:Value -> Value -> Sem Value) (r:R2):Prop :=
 ∀ (pins:List (Addr×Obj)) (s:Shared) (σ:St) (H:Hp) (x y:V) (v u:Value) (Q:VK),Inv X pins σ H s -> RelV x v -> RelV y u -> r x y H Q →
  wpAny (model X.prog X.w) X.A (f v u) (EP X pins σ Q) X.xe s
noncomputable def UnR (X:Cx) (f:Value -> Sem Value) (r:V -> Hp -> VK -> Prop):Prop :=
 ∀ (pins:List (Addr×Obj)) (s:Shared) (σ:St) (H:Hp) (x:V) (v:Value) (Q:VK),Inv X pins σ H s -> RelV x v -> r x H Q →
  wpAny (model X.prog X.w) X.A (f v) (EP X pins σ Q) X.xe s
noncomputable def CallR (X:Cx) (f:Value) (r:List V -> Hp -> VK -> Prop):Prop :=
 ∀ (pins:List (Addr×Obj)) (s:Shared) (σ:St) (H:Hp) (xs:List V) (us:List Value) (Q:VK),Inv X pins σ H s -> Vals xs us -> r xs H Q →
  wpAny (model X.prog X.w) X.A (call f us) (EP X pins σ Q) X.xe s
noncomputable def tOp (r:R2) (ta tb:TE):TE:=fun σ H Q => ta σ H fun x H1 => tb σ H1 fun y H2 => r x y H2 Q
noncomputable def tUn (r:V -> Hp -> VK -> Prop) (ta:TE):TE:=fun σ H Q => ta σ H fun x H1 => r x H1 Q
noncomputable def rI (C:Int -> Int -> Prop) (g:Int -> Int -> V):R2:=fun x y H Q => ∃ i j,x=.int i∧y=.int j∧C i j∧Q (g i j) H
noncomputable def rI0 (g:Int -> Int -> V):R2:=fun x y H Q => ∃ i j,x=.int i∧y=.int j∧Q (g i j) H
noncomputable def rU (g:Int -> V):V -> Hp -> VK -> Prop:=fun x H Q => ∃ i,x=.int i∧Q (g i) H
section
variable {X:Cx} {a b c:Expr} {ta tb tc:TE} {pos:Pos}
theorem binT (ha:PE X a ta) (hb:PE X b tb) {pins:List (Addr×Obj)} {s:Shared} {σ:St} {H:Hp} {R:V -> V -> Hp -> Prop} (I:Inv X pins σ H s)
  (h:ta σ H fun x H1 => tb σ H1 fun y H2 => R x y H2) {Q:Value -> Shared -> Prop} {f:Value -> Value -> Sem Value}
  (hf:∀ v u s2 x y H2,Inv X pins σ H2 s2 -> RelV x v -> RelV y u -> R x y H2 -> wpAny (model X.prog X.w) X.A (f v u) Q X.xe s2) :
  wpAny (model X.prog X.w) X.A (eval a X.env) (fun v s₁ => wpAny (model X.prog X.w) X.A (eval b X.env) (fun u s₂ => wpAny (model X.prog X.w) X.A (f v u) Q X.xe s₂) X.xe s₁) X.xe s:=by
 refine thn (ha pins s σ H _ I h) fun v s1 ⟨x,H1,I1,r1,q1⟩ => ?_
 refine thn (hb pins s1 σ H1 _ I1 q1) fun u s2 ⟨y,H2,I2,r2,q2⟩ => ?_
 exact hf v u s2 x y H2 I2 r1 r2 q2
theorem pe_op {op:Operator} {r:R2} (ho:OpR X (binaryOp op) r) (ha:PE X a ta) (hb:PE X b tb):PE X (.BinOp a op b pos) (tOp r ta tb):=by
 intro pins s σ H Q I h
 exact wpAny_BinOp (binT ha hb I h fun v u s2 x y H2 I2 rx ry q => ho pins s2 σ H2 x y v u Q I2 rx ry q)
theorem pe_un {op:UnaryOp} {r:V -> Hp -> VK -> Prop} (ho:UnR X (unaryOp op) r) (ha:PE X a ta):PE X (.UnaryOp op a pos) (tUn r ta):=by
 intro pins s σ H Q I h
 exact UnaryOp_ (thn (ha pins s σ H _ I h) fun v s1 ⟨x,H1,I1,r1,q1⟩ => ho pins s1 σ H1 x v Q I1 r1 q1)
theorem opI {f:Value -> Value -> Sem Value} {C:Int -> Int -> Prop} {g:Int -> Int -> Int}
  (rule:∀ (i j:Int) (t u:Tok) (s:Shared) (Q:Value -> Shared -> Prop) (E:Value -> Shared -> Prop),C i j -> Q (.int (g i j) s.toks) { s with toks:=s.toks+1 } -> wpAny (model X.prog X.w) X.A (f (.int i t) (.int j u)) Q E s) :
  OpR X f (rI C fun i j => .int (g i j)):=by
 intro pins s σ H x y v u Q I rx ry h
 obtain ⟨i,j,rfl,rfl,hc,q⟩:=h
 obtain ⟨t,rfl⟩:=rx
 obtain ⟨t',rfl⟩:=ry
 exact rule i j t t' s _ _ hc ⟨.int (g i j),H,I.tok _,⟨_,rfl⟩,q⟩
theorem opI0 {f:Value -> Value -> Sem Value} {g:Int -> Int -> Int}
  (rule:∀ (i j:Int) (t u:Tok) (s:Shared) (Q:Value -> Shared -> Prop) (E:Value -> Shared -> Prop),Q (.int (g i j) s.toks) { s with toks:=s.toks+1 } -> wpAny (model X.prog X.w) X.A (f (.int i t) (.int j u)) Q E s) :
  OpR X f (rI0 fun i j => .int (g i j)):=by
 intro pins s σ H x y v u Q I rx ry h
 obtain ⟨i,j,rfl,rfl,q⟩:=h
 obtain ⟨t,rfl⟩:=rx
 obtain ⟨t',rfl⟩:=ry
 exact rule i j t t' s _ _ ⟨.int (g i j),H,I.tok _,⟨_,rfl⟩,q⟩
theorem opB0 {f:Value -> Value -> Sem Value} {g:Int -> Int -> Bool}
  (rule:∀ (i j:Int) (t u:Tok) (s:Shared) (Q:Value -> Shared -> Prop) (E:Value -> Shared -> Prop),Q (.bool (g i j)) s -> wpAny (model X.prog X.w) X.A (f (.int i t) (.int j u)) Q E s) :
  OpR X f (rI0 fun i j => .bl (g i j)):=by
 intro pins s σ H x y v u Q I rx ry h
 obtain ⟨i,j,rfl,rfl,q⟩:=h
 obtain ⟨t,rfl⟩:=rx
 obtain ⟨t',rfl⟩:=ry
 exact rule i j t t' s _ _ ⟨.bl (g i j),H,I,rfl,q⟩
noncomputable def CDiv (i j:Int):Prop:=0 < j∧j < 1073741824
noncomputable def CMul (i j:Int):Prop:=(-(2 ^ 64) < i∧i < 2 ^ 64)∨(-(2 ^ 64) < j∧j < 2 ^ 64)
theorem CMul.ok {i j:Int} (h:CMul i j):IntMulOk i j:=by
 rcases h with ⟨h1,h2⟩ | ⟨h1,h2⟩
 ·exact .of_left (intBits_le_64 h1 h2)
 ·exact .of_right (intBits_le_64 h1 h2)
theorem op_add:OpR X (binaryOp .Add) (rI0 fun i j => .int (i+j)):=opI0 fun _ _ _ _ _ _ _ q => add_int q
theorem op_sub:OpR X (binaryOp .Sub) (rI0 fun i j => .int (i - j)):=opI0 fun _ _ _ _ _ _ _ q => sub_int q
theorem op_mul:OpR X (binaryOp .Mult) (rI CMul fun i j => .int (i * j)):=opI fun _ _ _ _ _ _ _ hc q => mul_int q hc.ok
theorem op_fdiv:OpR X (binaryOp .FloorDiv) (rI CDiv fun i j => .int (i / j)):=opI fun i j _ _ _ _ _ hc q => by
 have h1:(0:Int) < j:=hc.1
 have h2:j < 1073741824:=hc.2
 exact floordiv_int (by trivial) (by rw [Int.fdiv_eq_ediv_of_nonneg i (by trivial)]; exact q) (.inl (PyProof.noPylong_small (by trivial)))
theorem op_mod:OpR X (binaryOp .Mod) (rI (fun _ j => 0 < j) fun i j => .int (i % j)):=opI fun i j _ _ _ _ _ hc q => by
 have h1:(0:Int) < j:=hc
 exact mod_int' (by trivial) (by rw [Int.fmod_eq_emod_of_nonneg i (by trivial)]; exact q)
theorem unI {f:Value -> Sem Value} {g:Int -> Int}
  (rule:∀ (i:Int) (t:Tok) (s:Shared) (Q:Value -> Shared -> Prop) (E:Value -> Shared -> Prop),Q (.int (g i) s.toks) { s with toks:=s.toks+1 } -> wpAny (model X.prog X.w) X.A (f (.int i t)) Q E s) :
  UnR X f (rU fun i => .int (g i)):=by
 intro pins s σ H x v Q I rx h
 obtain ⟨i,rfl,q⟩:=h
 obtain ⟨t,rfl⟩:=rx
 exact rule i t s _ _ ⟨.int (g i),H,I.tok _,⟨_,rfl⟩,q⟩
theorem un_neg:UnR X (unaryOp .USub) (rU fun i => .int (-i)):=unI fun _ _ _ _ _ q => neg_int q
end
noncomputable def scal:V -> V -> Bool
 | .non,.non => true | .non,.int _ => true | .int _,.non => true | .non,.bl _ => true | .bl _,.non => true | .non,.str _ => true | .str _,.non => true
 | .int _,.int _ => true | .bl _,.bl _ => true | .str _,.str _ => true | .byt _,.byt _ => true
 | .int _,.str _ => true | .str _,.int _ => true | .bl _,.str _ => true | .str _,.bl _ => true
 | _,_ => false
noncomputable def rEq:R2:=fun x y H Q => scal x y=true∧Q (.bl (decide (x=y))) H
noncomputable def rNe:R2:=fun x y H Q => scal x y=true∧Q (.bl (!decide (x=y))) H
theorem dec_int {i j:Int}:decide (V.int i=V.int j)=(i == j):=by
 rw [Bool.eq_iff_iff]
 simp
theorem dec_bl {i j:Bool}:decide (V.bl i=V.bl j)=(i == j):=by
 rw [Bool.eq_iff_iff]
 simp
theorem dec_str {i j:Str}:decide (V.str i=V.str j)=(i == j):=by
 rw [Bool.eq_iff_iff]
 simp
theorem dec_byt {i j:Array UInt8}:decide (V.byt i=V.byt j)=(i.toList == j.toList):=by
 rw [Bool.eq_iff_iff]
 cases i
 cases j
 simp
section
variable {X:Cx} {a b c:Expr} {ta tb tc:TE} {pos:Pos}
theorem fin_bl {pins:List (Addr×Obj)} {σ:St} {H:Hp} {s:Shared} {Q:VK} {k k':Bool} (I:Inv X pins σ H s) (q:Q (.bl k) H) (e:k=k'):EP X pins σ Q (.bool k') s:=by
 subst e
 exact ⟨.bl k,H,I,rfl,q⟩
theorem op_eq:OpR X (compareOp .Eq) rEq:=by
 intro pins s σ H x y v u Q I rx ry h
 obtain ⟨hs,q⟩:=h
 cases x with
 | non =>
  cases rx
  cases y with
  | non => cases ry; exact PySem.EqNone.eq_none_none (fin_bl I q (by simp))
  | bl j => cases ry; exact PySem.EqNone.eq_none_bool (fin_bl I q (by simp))
  | int j => obtain ⟨t',rfl⟩:=ry; exact PySem.EqNone.eq_none_int (fin_bl I q (by simp))
  | str j => obtain ⟨t',rfl⟩:=ry; exact PySem.EqNone.eq_none_str (fin_bl I q (by simp))
  | _ => exact absurd (show false=true from hs) Bool.false_ne_true
 | bl i =>
  cases rx
  cases y with
  | non => cases ry; exact PySem.EqNone.eq_bool_none (fin_bl I q (by simp))
  | bl j => cases ry; exact eq_bool (fin_bl I q dec_bl)
  | str j => obtain ⟨t',rfl⟩:=ry; exact PySem.EqMixed.eq_bool_str (fin_bl I q (by simp))
  | _ => exact absurd (show false=true from hs) Bool.false_ne_true
 | int i =>
  obtain ⟨t,rfl⟩:=rx
  cases y with
  | non => cases ry; exact PySem.EqNone.eq_int_none (fin_bl I q (by simp))
  | int j => obtain ⟨t',rfl⟩:=ry; exact eq_int (fin_bl I q dec_int)
  | str j => obtain ⟨t',rfl⟩:=ry; exact PySem.EqMixed.eq_int_str (fin_bl I q (by simp))
  | _ => exact absurd (show false=true from hs) Bool.false_ne_true
 | str i =>
  obtain ⟨t,rfl⟩:=rx
  cases y with
  | non => cases ry; exact PySem.EqNone.eq_str_none (fin_bl I q (by simp))
  | bl j => cases ry; exact PySem.EqMixed.eq_str_bool (fin_bl I q (by simp))
  | int j => obtain ⟨t',rfl⟩:=ry; exact PySem.EqMixed.eq_str_int (fin_bl I q (by simp))
  | str j => obtain ⟨t',rfl⟩:=ry; exact eq_str (fin_bl I q dec_str)
  | _ => exact absurd (show false=true from hs) Bool.false_ne_true
 | byt i =>
  obtain ⟨t,rfl⟩:=rx
  cases y with
  | byt j => obtain ⟨t',rfl⟩:=ry; exact PySem.W.eq_bytes (fin_bl I q dec_byt)
  | _ => exact absurd (show false=true from hs) Bool.false_ne_true
 | _ => cases y <;> exact absurd (show false=true from hs) Bool.false_ne_true
theorem op_ne:OpR X (compareOp .NotEq) rNe:=by
 intro pins s σ H x y v u Q I rx ry h
 obtain ⟨hs,q⟩:=h
 cases x with
 | non =>
  cases rx
  cases y with
  | non => cases ry; exact PySem.EqNone.ne_none_none (fin_bl I q (by simp))
  | bl j => cases ry; exact PySem.EqNone.ne_none_bool (fin_bl I q (by simp))
  | int j => obtain ⟨t',rfl⟩:=ry; exact PySem.EqNone.ne_none_int (fin_bl I q (by simp))
  | str j => obtain ⟨t',rfl⟩:=ry; exact PySem.EqNone.ne_none_str (fin_bl I q (by simp))
  | _ => exact absurd (show false=true from hs) Bool.false_ne_true
 | bl i =>
  cases rx
  cases y with
  | non => cases ry; exact PySem.EqNone.ne_bool_none (fin_bl I q (by simp))
  | bl j => cases ry; exact ne_bool (fin_bl I q (congrArg not dec_bl))
  | str j => obtain ⟨t',rfl⟩:=ry; exact PySem.EqMixed.ne_bool_str (fin_bl I q (by simp))
  | _ => exact absurd (show false=true from hs) Bool.false_ne_true
 | int i =>
  obtain ⟨t,rfl⟩:=rx
  cases y with
  | non => cases ry; exact PySem.EqNone.ne_int_none (fin_bl I q (by simp))
  | int j => obtain ⟨t',rfl⟩:=ry; exact ne_int (fin_bl I q (congrArg not dec_int))
  | str j => obtain ⟨t',rfl⟩:=ry; exact PySem.EqMixed.ne_int_str (fin_bl I q (by simp))
  | _ => exact absurd (show false=true from hs) Bool.false_ne_true
 | str i =>
  obtain ⟨t,rfl⟩:=rx
  cases y with
  | non => cases ry; exact PySem.EqNone.ne_str_none (fin_bl I q (by simp))
  | bl j => cases ry; exact PySem.EqMixed.ne_str_bool (fin_bl I q (by simp))
  | int j => obtain ⟨t',rfl⟩:=ry; exact PySem.EqMixed.ne_str_int (fin_bl I q (by simp))
  | str j => obtain ⟨t',rfl⟩:=ry; exact ne_str (fin_bl I q (congrArg not dec_str))
  | _ => exact absurd (show false=true from hs) Bool.false_ne_true
 | byt i =>
  obtain ⟨t,rfl⟩:=rx
  cases y with
  | byt j => obtain ⟨t',rfl⟩:=ry; exact PySem.W.ne_bytes (fin_bl I q (congrArg not dec_byt))
  | _ => exact absurd (show false=true from hs) Bool.false_ne_true
 | _ => cases y <;> exact absurd (show false=true from hs) Bool.false_ne_true
theorem op_lt:OpR X (compareOp .Lt) (rI0 fun i j => .bl (decide (i < j))):=opB0 fun _ _ _ _ _ _ _ q => lt_int q
theorem op_le:OpR X (compareOp .LtE) (rI0 fun i j => .bl (decide (i≤j))):=opB0 fun _ _ _ _ _ _ _ q => le_int q
theorem op_gt:OpR X (compareOp .Gt) (rI0 fun i j => .bl (decide (j < i))):=opB0 fun _ _ _ _ _ _ _ q => gt_int q
theorem nomark (b:Expr) {op:CmpOp} (h:op≠.In:=by decide) (h2:op≠.NotIn:=by decide):behindInMarks op b=false:=by
 have e1:(op == CmpOp.In)=false:=by cases op <;> first | rfl | exact absurd rfl h
 have e2:(op == CmpOp.NotIn)=false:=by cases op <;> first | rfl | exact absurd rfl h2
 cases b <;> simp [behindInMarks,e1,e2]
theorem pe_cmpR {op:CmpOp} {r:R2} (ho:OpR X (compareOp op) r) (ha:PE X a ta) (hb:PE X b tb) (hm:behindInMarks op b=false):PE X (.Compare a [op] [b] pos) (tOp r ta tb):=by
 intro pins s σ H Q I h
 exact wpAny_Compare1 (binT ha hb I h fun v u s2 x y H2 I2 rx ry q => ho pins s2 σ H2 x y v u Q I2 rx ry q) hm
noncomputable def tTest (t:TE):TT:=fun σ H Q => t σ H fun x H' => ∃ k,x=.bl k∧Q k H'
theorem pt_cmpR {op:CmpOp} {r:R2} (ho:OpR X (compareOp op) r) (ha:PE X a ta) (hb:PE X b tb) (hm:behindInMarks op b=false):PT X (.Compare a [op] [b] pos) (tTest (tOp r ta tb)):=by
 intro pins s σ H Q I h
 refine wpAny_isTrue_Compare1 (thn (ha pins s σ H _ I h) fun v s1 ⟨x,H1,I1,r1,q1⟩ => thn (hb pins s1 σ H1 _ I1 q1) fun u s2 ⟨y,H2,I2,r2,q2⟩ =>
  thn (ho pins s2 σ H2 x y v u _ I2 r1 r2 q2) fun c s3 ⟨z,H3,I3,r3,k,e,q3⟩ => ?_) hm
 subst e
 cases r3
 exact wpAny_truthy_bool ⟨H3,I3,q3⟩
noncomputable def tChain (r r':R2) (ta tb tc:TE):TE:=fun σ H Q => ta σ H fun x H1 => tb σ H1 fun y H2 => r x y H2 fun z H3 => ∃ k,z=.bl k ∧
 (if k=true then tc σ H3 fun w' H4 => r' y w' H4 Q else Q (.bl false) H3)
theorem pe_chain {op op':CmpOp} {r r':R2} (ho:OpR X (compareOp op) r) (ho':OpR X (compareOp op') r') (ha:PE X a ta) (hb:PE X b tb) (hc:PE X c tc)
  (hm:lastMarks [op,op'] [b,c]=false:=by with_unfolding_all rfl):PE X (.Compare a [op,op'] [b,c] pos) (tChain r r' ta tb tc):=by
 intro pins s σ H Q I h
 refine Compare_chain (thn (ha pins s σ H _ I h) fun v s1 ⟨x,H1,I1,r1,q1⟩ => chain_link (thn (hb pins s1 σ H1 _ I1 q1) fun u s2 ⟨y,H2,I2,r2,q2⟩ =>
  thn (ho pins s2 σ H2 x y v u _ I2 r1 r2 q2) fun d s3 ⟨z,H3,I3,r3,k,e,q3⟩ => ?_)) hm
 subst e
 cases r3
 refine wpAny_truthy_bool ?_
 cases k with
 | false => exact ite_ff ⟨.bl false,H3,I3,rfl,q3⟩
 | true => exact ite_tt (chain_last (thn (hc pins s3 σ H3 _ I3 q3) fun w' s4 ⟨z',H4,I4,r4,q4⟩ => ho' pins s4 σ H4 y z' u w' Q I4 r2 r4 q4))
theorem line63:(sizeLine:Nat) < 2 ^ 63:=by rw [sizeLine_eq]; decide
theorem vals1 {x:V} {us:List Value} (r:Vals [x] us):∃ u,us=[u]∧RelV x u:=by
 cases r with
 | cons r1 r2 => cases r2; exact ⟨_,rfl,r1⟩
theorem vals2 {x y:V} {us:List Value} (r:Vals [x,y] us):∃ u w',us=[u,w']∧RelV x u∧RelV y w':=by
 cases r with
 | cons r1 r2 =>
  cases r2 with
  | cons r3 r4 => cases r4; exact ⟨_,_,rfl,r1,r3⟩
theorem call_min2 (hc:X.calm=true):CallR X (.builtin "min") (fun xs H Q => ∃ i j,xs=[.int i,.int j]∧Q (.int (if j < i then j else i)) H):=by
 intro pins s σ H xs us Q I r h
 obtain ⟨i,j,rfl,q⟩:=h
 obtain ⟨u,w',rfl,⟨t,rfl⟩,⟨t',rfl⟩⟩:=vals2 r
 refine min_two_ints (I.ok.hd hc) fun h' tk k => ⟨_,H,I.kept k,?_,q⟩
 by_cases hj:j < i
 ·rw [if_pos hj,if_pos hj]; exact ⟨_,rfl⟩
 ·rw [if_neg hj,if_neg hj]; exact ⟨_,rfl⟩
end
structure ObjM (h:Heap) (x dx C:Addr) (mA:Str -> Option Value):Prop where
 obj:h.get? x=some (PySem.W.instObj C dx)
 ns:h.Ns1 dx mA
 ne:dx≠x
theorem lookIn_ns {h:Heap} {dx:Addr} {mA:Str -> Option Value} (n:h.Ns1 dx mA):∃ od,h.get? dx=some od∧∀ name,PySem.W.lookIn name od=some (mA name):=by
 obtain ⟨o,es,ep,ho,hd,hk,_,hm⟩:=n
 refine ⟨o,ho,fun name => ?_⟩
 have e:=hm name
 unfold nsFind findBy at e
 rw [← Array.find?_toList] at e
 unfold PySem.W.lookIn
 rw [hd]
 dsimp only
 split
 ·rename_i y q
  rw [q] at e
  exact congrArg some e
 ·rename_i q
  rw [q] at e
  have a:es.toList.any (·.refKey)=false:=by
   rw [List.any_eq_false]
   intro y hy
   obtain ⟨z,t,hkey⟩:=hk y (Array.mem_toList_iff.mp hy)
   simp [DictEntry.refKey,hkey]
  have a':¬ es.toList.any (·.refKey)=true:=by rw [a]; exact Bool.false_ne_true
  rw [if_neg a']
  exact congrArg some e
theorem ObjM.look {h:Heap} {x dx C:Addr} {mA:Str -> Option Value} (I:ObjM h x dx C mA):∃ od,PySem.W.InstAt h x (PySem.W.instObj C dx) C (some od)∧∀ name,PySem.W.lookIn name od=some (mA name) :=
 let ⟨od,ho,hl⟩:=lookIn_ns I.ns
 ⟨od,⟨I.obj,rfl,rfl,ho⟩,hl⟩
theorem RelO.some_of {v:V} {o:Option Value} (r:RelO (some v) o):∃ u,o=some u∧RelV v u:=by
 cases o with
 | none => exact (show False from r).elim
 | some u => exact ⟨u,rfl,r⟩
section
variable {P:Program} {w:World} {H H':Hp} {h h':Heap} {a C dx:Addr} {fs fs':List (Str×V)}
theorem ins_get (hok:HOk P w H h) (e:H a=some (.ins C dx fs)):∃ mA,ObjM h a dx C mA∧(∀ f,RelO (fs.lookup f) (mA f))∧PySem.Within mA (fs.map (·.1))∧fs.length≤1000∧H dx=some (.own a):=by
 obtain ⟨d,z,ne,ob,mA,n,r,q⟩:=(show ObjOk P w H h a (.ins C dx fs) from hok a _ e)
 exact ⟨mA,⟨ob,n,ne⟩,r,q,z,d⟩
end
structure Cls (K:PySem.W.Frag) (C:Addr):Prop where
 pg:PySem.W.plainGet K C Str.empty=true
 hd:PySem.W.hasDictIn K C=true
 po:PySem.W.plainOver K C=true
 sa:PySem.W.findIn K (.ref C) "__setattr__" = some (some (.builtin "object.__setattr__"))
theorem Cls.get {K:PySem.W.Frag} {C:Addr} (c:Cls K C) (f:Str):PySem.W.plainGet K C f=true:=c.pg
structure Con (K:PySem.W.Frag) (C:Addr) (f:Str) (v:V) (u:Value):Prop where
 at_:PySem.W.findIn K (.ref C) f=some (some u)
 rel:RelV v u
 get:PySem.W.specialIn K u "__get__" = some none
 cp:PySem.W.copiedNames.contains f=false
structure Meth (K:PySem.W.Frag) (C:Addr) (m:Str) (f:Addr):Prop where
 at_:PySem.W.findIn K (.ref C) m=some (some (.ref f))
 fn:PySem.W.isFn K (.ref f)=true
 kp:PySem.W.keepIn K (.ref f)=true
section
variable {X:Cx} {pins:List (Addr×Obj)} {σ:St} {H:Hp} {s:Shared} {A:Around} {E:Value -> Shared -> Prop} {Q:Value -> Shared -> Prop} {c:Value} {b:Bool}
inductive TyOf (K:PySem.W.Frag) (H:Hp):V -> Value -> Prop where
 | non:TyOf K H .non (.type "NoneType")
 | bl (x:Bool):TyOf K H (.bl x) (.type "bool")
 | int (i:Int):TyOf K H (.int i) (.type "int")
 | str (x:Str):TyOf K H (.str x) (.type "str")
 | flt (x:UInt64):TyOf K H (.flt x) (.type "float")
 | lst {a:Addr} {xs:List V} (e:H a=some (.lst xs)):TyOf K H (.ref a) (.type "list")
 | frz {a:Addr} {o:Obj} {xs:List V} (e:H a=some (.frz o (.lst xs))):TyOf K H (.ref a) (.type "list")
 | tup {a:Addr} {xs:List V} (e:H a=some (.tup xs)):TyOf K H (.ref a) (.type "tuple")
 | dK {a:Addr} {kvs:List (Key×V)} (e:H a=some (.dK kvs)):TyOf K H (.ref a) (.type "dict")
 | dT {a:Addr} {kvs:List (List Key×V)} (e:H a=some (.dT kvs)):TyOf K H (.ref a) (.type "dict")
 | ins {a C dx:Addr} {fs:List (Str×V)} (e:H a=some (.ins C dx fs)) (cl:Cls K C) (ha:PySem.W.findIn K (.ref C) "__class__" = some (some (.builtin "object.__class__")))
   (hn:PySem.W.specialIn K (.builtin "object.__class__") "__get__" = some (some (.builtin "getset_descriptor.__get__"))) (htk:PySem.W.takesIn K (.builtin "object.__class__")=some true)
   (hm:PySem.W.mroIn K C (.type "object")=some true):TyOf K H (.ref a) (.ref C)
theorem isinst_ok {x:V} {u t:Value} (I:Inv X pins σ H s) (rx:RelV x u) (ty:TyOf X.K H x t) (e:PySem.W.kitOne X.K t c=some b) (h:∀ tk,Q (.bool b) { s with toks:=tk }) :
  wpAny (model X.prog X.w) A (call (.builtin "isinstance") [u,c]) Q E s:=by
 cases ty with
 | non => cases (show u=Value.none from rx); exact PySem.W.kia_one PySem.W.kitx_none I.kIn True.intro e (fun z => nomatch z) h
 | bl y => cases (show u=Value.bool y from rx); exact PySem.W.kia_one PySem.W.kitx_bool I.kIn True.intro e (fun z => nomatch z) h
 | int i => obtain ⟨t,q⟩:=(show ∃ t,u=Value.int i t from rx); cases q; exact PySem.W.kia_one PySem.W.kitx_int I.kIn True.intro e (fun z => nomatch z) h
 | str y => obtain ⟨t,q⟩:=(show ∃ t,u=Value.str y t from rx); cases q; exact PySem.W.kia_one PySem.W.kitx_str I.kIn True.intro e (fun z => nomatch z) h
 | flt y => obtain ⟨t,q⟩:=(show ∃ t,u=Value.float y t from rx); cases q; exact PySem.W.kia_one PySem.W.kitx_float I.kIn True.intro e (fun z => nomatch z) h
 | @lst a xs ea =>
  cases (show u=Value.ref a from rx)
  obtain ⟨_,_,n,_,h1⟩:=(show ObjOk X.prog X.w H s.heap a (.lst xs) from I.hok a _ ea)
  exact PySem.W.kia_one PySem.W.kitx_list I.kIn ⟨_,h1,rfl⟩ e (fun z => nomatch z) h
 | @frz a ob xs ea =>
  cases (show u=Value.ref a from rx)
  obtain ⟨_,_,_,n,_,h1⟩:=(show ObjOk X.prog X.w H s.heap a (.frz ob (.lst xs)) from I.hok a _ ea)
  exact PySem.W.kia_one PySem.W.kitx_list I.kIn ⟨_,h1,rfl⟩ e (fun z => nomatch z) h
 | @tup a xs ea =>
  cases (show u=Value.ref a from rx)
  obtain ⟨_,_,_,p⟩:=(show ObjOk X.prog X.w H s.heap a (.tup xs) from I.hok a _ ea)
  obtain ⟨o,h1,h2,_⟩:=p
  exact PySem.W.kia_one PySem.W.kitx_tuple I.kIn ⟨o,h1,h2⟩ e (fun z => nomatch z) h
 | @dK a kvs ea =>
  cases (show u=Value.ref a from rx)
  obtain ⟨_,_,vs,_,p⟩:=(show ObjOk X.prog X.w H s.heap a (.dK kvs) from I.hok a _ ea)
  obtain ⟨o,es,ep,h1,h2,_⟩:=p
  exact PySem.W.kia_one PySem.W.kitx_dict I.kIn ⟨o,h1,h2.1⟩ e (fun z => nomatch z) h
 | @dT a kvs ea =>
  cases (show u=Value.ref a from rx)
  obtain ⟨_,_,xs,_,o,es,ep,h1,h2,_⟩:=(show ObjOk X.prog X.w H s.heap a (.dT kvs) from I.hok a _ ea)
  exact PySem.W.kia_one PySem.W.kitx_dict I.kIn ⟨o,h1,h2.1⟩ e (fun z => nomatch z) h
 | @ins a C dx fs ea cl ha hn htk hm =>
  cases (show u=Value.ref a from rx)
  obtain ⟨mA,O,_⟩:=ins_get I.hok ea
  obtain ⟨od,J,_⟩:=O.look
  exact PySem.W.kia_one (PySem.W.kitx_own (cl.get _) cl.hd ha hn htk hm) I.kIn J e (fun z => nomatch z) h
end
structure Room (k:Nat) (A:Around):Prop where
 hd:A.handled=none
 dp:A.depth+3 * k+5 < recursionLimit
 un:A.units+16 * k+200 < cLine
theorem Room.mono {j k:Nat} {A:Around} (r:Room k A) (h:j≤k):Room j A:=⟨r.hd,by have:=r.dp; trivial,by have:=r.un; trivial⟩
theorem Room.deeper {k:Nat} {A:Around} (r:Room (k+1) A) (env:Env):Room k (A.deeper env) :=
 ⟨r.hd,by have:=r.dp; show A.depth+1+3 * k+5 < _; trivial,by have:=r.un; show A.units+3+16 * k+200 < _; trivial⟩
theorem Room.depth {k:Nat} {A:Around} (r:Room k A):A.depth < recursionLimit:=by have:=r.dp; trivial
theorem Room.units {k:Nat} {A:Around} (r:Room k A):A.units+64 < cLine:=by have:=r.un; trivial
noncomputable def tNil:TA:=fun _ H Q => Q [] H
noncomputable def tCons (ta:TE) (tr:TA):TA:=fun σ H Q => ta σ H fun x H1 => tr σ H1 fun xs H2 => Q (x :: xs) H2
section
variable {X:Cx} {e:Expr} {es:List Expr} {te:TE} {t:TA} {pos:Pos}
theorem pa_nil:PA X [] tNil:=fun _ _ _ _ H Q I h => Calls.spliced_nil ⟨[],H,I,.nil,h⟩
theorem pa_cons (ha:PE X e te) (hr:PA X es t) (hs:starEach (e :: es) X.env=(false,eval e X.env) :: starEach es X.env:=by rfl):PA X (e :: es) (tCons te t):=by
 intro pos pins s σ H Q I h
 rw [hs]
 show wpAny _ _ (spliced ((false,eval e X.env) :: backTo pos (starEach es X.env))) _ _ s
 refine Calls.spliced_cons (thn (ha pins s σ H _ I h) fun u s1 ⟨x,H1,I1,r1,q1⟩ => ?_)
 exact thn (hr pos pins s1 σ H1 _ I1 q1) fun us s2 ⟨xs,H2,I2,r2,q2⟩ => ⟨x :: xs,H2,I2,.cons r1 r2,q2⟩
noncomputable def tTup (t:TA):TE:=fun σ H Q => t σ H fun xs H1 => xs.length≤sizeLine∧∀ p,H1 p=none -> Q (.ref p) (upd H1 p (.tup xs))
noncomputable def tLst (t:TA):TE:=fun σ H Q => t σ H fun xs H1 => xs.length≤sizeLine∧∀ p,H1 p=none -> Q (.ref p) (upd H1 p (.lst xs))
theorem pe_tup {x1} (h:PA X es t):PE X (.Tuple es x1 pos) (tTup t):=by
 intro pins s σ H Q I hq
 refine wpAny_Tuple_spliced (thn (h pos pins s σ H _ I hq) fun us s1 ⟨xs,H1,I1,r,z,q⟩ => ⟨by rw [← r.length]; exact z,?_⟩)
 have hf:H1 s1.heap.objs.size=none:=I1.hok.fresh (Nat.le_refl _)
 refine ⟨.ref s1.heap.objs.size,upd H1 s1.heap.objs.size (.tup xs),I1.laid (t':=s1.toks) (fun b u e => Heap.get?_push_of_some _ e) (Nat.le_refl _) ?_,rfl,q _ hf⟩
 exact ⟨z,us,r,⟨_,Heap.get?_push_size _ rfl,rfl,_,rfl⟩⟩
theorem pe_lst (h:PA X es t):PE X (.List es pos) (tLst t):=by
 intro pins s σ H Q I hq
 refine wpAny_List_spliced (thn (h pos pins s σ H _ I hq) fun us s1 ⟨xs,H1,I1,r,z,q⟩ => ⟨by rw [← r.length]; exact z,?_⟩)
 have hf:H1 s1.heap.objs.size=none:=I1.hok.fresh (Nat.le_refl _)
 refine ⟨.ref s1.heap.objs.size,upd H1 s1.heap.objs.size (.lst xs),I1.laid (t':=s1.toks) (fun b u e => Heap.get?_push_of_some _ e) (Nat.le_refl _) ?_,rfl,q _ hf⟩
 exact ⟨z,us,0,r,Heap.get?_push_size _ rfl⟩
end
noncomputable abbrev Sp:=List V -> Hp -> VK -> XK -> Prop
noncomputable abbrev CXT:=List Env -> Hp -> Shared -> XK -> Value -> Shared -> Prop
structure Env0 (P:Program) (w:World) (K:PySem.W.Frag) (mg:Str -> Option Value) (base:Heap) (A:Around) (outer:List Env) (s:Shared) (H:Hp):Prop where
 frames:A.frames=some outer
 mod:Mod K mg base
 bs:∀ b o,base.get? b=some o -> s.heap.get? b=some o∧H b=none
 bsz:base.objs.size≤s.heap.objs.size
 funs:s.heap.FunFrames base outer
 frf:∀ b∈frs outer,H b=none
 hok:HOk P w H s.heap
 bare:AllBare s.gens
noncomputable def CE (outer:List Env) (P:Program) (w:World) (H:Hp) (s:Shared) (Q:VK) (u:Value) (s':Shared):Prop :=
 ∃ v H',s'.os=s.os∧AllBare s'.gens∧Un (frs outer) [] H H' s.heap s'.heap∧HOk P w H' s'.heap∧RelV v u∧Q v H'
noncomputable def CR (CX:CXT) (outer:List Env) (P:Program) (w:World) (H:Hp) (s:Shared) (Q:VK) (E:XK) (r:Result) (s':Shared):Prop :=
 match r with
 | .ok (.ret u) => CE outer P w H s Q u s'
 | .ok _ => False
 | .error e => CX outer H s E e s'
structure FnOk (P:Program) (w:World) (K:PySem.W.Frag) (mg:Str -> Option Value) (base:Heap) (CX:CXT) (k:Nat) (f:Addr) (fd:FuncData) (ps:List Str) (sp:Sp):Prop where
 len:∀ vs H Q E,sp vs H Q E -> vs.length=ps.length
 run:∀ (A:Around) (outer:List Env) (s:Shared) (H:Hp) (args:Args) (us:List Value) (vs:List V) (Q:VK) (E:XK),Room k A -> Env0 P w K mg base A outer s H -> BindsTo s fd args (ps.zip us) -> Vals vs us -> sp vs H Q E →
  codeAny (model P w) A (.call (.ref f) args) (CR CX outer P w H s Q E) s
section
variable {X:Cx} {pins:List (Addr×Obj)} {σ:St} {H:Hp} {s s':Shared}
theorem Inv.env0 (I:Inv X pins σ H s):Env0 X.prog X.w X.K X.mg X.base X.A X.stack s H :=
 ⟨I.ok.frames,I.ok.mod,I.bs,Nat.le_trans I.ok.bsz I.sz,I.stack,I.stkFree,I.hok,I.bare⟩
theorem Inv.after {Q:VK} {u:Value} (I:Inv X pins σ H s) (h:CE X.stack X.prog X.w H s Q u s'):EP X pins σ Q u s':=by
 obtain ⟨v,H',os,bare,un,hok,r,q⟩:=h
 obtain ⟨hh,g,d,t,os'⟩:=s'
 obtain rfl:os'=s.os:=os
 exact ⟨v,H',I.call (h':=hh) (g':=g) (d':=d) (t':=t) (ch:=[]) un hok bare (fun b z => absurd z (by simp)),r,q⟩
end
noncomputable def tCall (sp:Sp) (dvs:List V) (E:XK) (t:TA):TE:=fun σ H Q => t σ H fun vs H1 => sp (vs++dvs) H1 Q E
noncomputable def Binds (K:PySem.W.Frag) (fd:FuncData) (ps:List Str) (ds:List Value):Prop :=
 ∀ (s:Shared) (us:List Value),K.In s.heap -> (us++ds).length=ps.length -> BindsTo s fd ⟨us,[]⟩ (ps.zip (us++ds))
theorem Binds.all {K:PySem.W.Frag} {fd:FuncData} {ps:List Str} (h:∀ us:List Value,us.length=ps.length -> bindArgs fd ⟨us,[]⟩=pure (ps.zip us)):Binds K fd ps []:=fun s us _ hl => by
 rw [List.append_nil] at hl ⊢
 exact .of_eq (h us hl)
noncomputable def Passes (CX:CXT) (X:Cx) (E:XK):Prop:=∀ (pins:List (Addr×Obj)) (σ:St) (H:Hp) (s:Shared) (e:Value) (s':Shared),Inv X pins σ H s -> CX X.stack H s E e s' -> X.xe e s'
section
variable {X:Cx} {CX:CXT} {k:Nat} {f C:Addr} {fd:FuncData} {ps:List Str} {sp:Sp} {dvs:List V} {ds:List Value} {E:XK} {x m:Str} {p pos apos:Pos} {e o:Expr} {es:List Expr} {ta:TE} {t:TA}
theorem run_fn {pins:List (Addr×Obj)} {σ:St} {H:Hp} {s:Shared} {Q:VK} {us:List Value} {vs:List V} (F:FnOk X.prog X.w X.K X.mg X.base CX k f fd ps sp) (hr:Room k X.A) (hb:Binds X.K fd ps ds) (hd:Vals dvs ds) (hx:Passes CX X E)
  (I:Inv X pins σ H s) (r:Vals vs us) (h:sp (vs++dvs) H Q E):wpAny (model X.prog X.w) X.A (call (.ref f) us) (EP X pins σ Q) X.xe s:=by
 have r2:Vals (vs++dvs) (us++ds):=r.append hd
 have hl:(us++ds).length=ps.length:=by rw [← r2.length]; exact F.len _ _ _ _ h
 refine wpAny_call (codeAny_mono (F.run X.A X.stack s H ⟨us,[]⟩ (us++ds) (vs++dvs) Q E hr I.env0 (hb s us I.kIn hl) r2 h) fun r s' hq => ?_)
 cases r with
 | error e => exact hx pins σ H s e s' I hq
 | ok fl =>
  cases fl with
  | ret u => exact I.after hq
  | next => exact False.elim hq
  | brk => exact False.elim hq
  | cont => exact False.elim hq
theorem pe_call (F:FnOk X.prog X.w X.K X.mg X.base CX k f fd ps sp) (hr:Room k X.A) (hg:Gl X x) (hm:X.mg x=some (.ref f)) (hk:PySem.W.keepIn X.K (.ref f)=true) (hb:Binds X.K fd ps ds) (hd:Vals dvs ds) (hx:Passes CX X E)
  (ha:PA X (e :: es) t) (hdb:(x == ("__debug__":Str))=false:=by decide) (he:starEach (e :: es) X.env=(false,eval e X.env) :: starEach es X.env:=by rfl) (hpl:(backTo pos (starEach es X.env)).any (·.1)=false:=by rfl) :
  PE X (.Call (.Name x p) (e :: es) [] pos) (tCall sp dvs E t):=by
 intro pins s σ H Q I h
 refine wpAny_Call_Name_kw (ld_glob I hg hm ?_ hdb)
 refine PySem.W.callWith_K (h₀:=X.base) I.ok.mod.kin hk (thn (ha pos pins s σ H _ I h) fun us s1 ⟨vs,H1,I1,r,q⟩ => ⟨I1.kIn,?_⟩) he hpl
 exact run_fn F hr hb hd hx I1 r q
structure Mk (K:PySem.W.Frag) (C f:Addr):Prop where
 makes:PySem.W.makesIn K C=true
 init:PySem.W.findIn K (.ref C) "__init__" = some (some (.ref f))
 fn:PySem.W.isFn K (.ref f)=true
 kp:PySem.W.keepIn K (.ref C)=true
end
section
variable {X:Cx} {CX:CXT} {k:Nat} {f C:Addr} {fd:FuncData} {ps ks:List Str} {sp:Sp} {E:XK} {x m:Str} {p pos apos kpos:Pos} {e o:Expr} {es:List Expr} {kws:List Keyword} {te ta:TE} {t tk:TA} {nm:Option Str}
structure KBinds (K:PySem.W.Frag) (fd:FuncData) (ps ks:List Str) (g:List Value -> List Value -> List Value) (gV:List V -> List V -> List V):Prop where
 to:∀ (s:Shared) (us ws:List Value),K.In s.heap -> (g us ws).length=ps.length -> BindsTo s fd ⟨us,ks.zip ws⟩ (ps.zip (g us ws))
 rel:∀ {vs:List V} {us:List Value} {zs:List V} {ws:List Value},Vals vs us -> Vals zs ws -> Vals (gV vs zs) (g us ws)
variable {g:List Value -> List Value -> List Value} {gV:List V -> List V -> List V}
end
structure FnScope (N P:List Str) (sc:Scope):Prop where
 kind:sc.kind=.function
 co:sc.isCoroutine=false
 gen:sc.isGenerator=false
 nd:N.Nodup
 pre:N.take P.length=P
 par:∀ x∈P,sc.names.lookup x=some .local∨sc.names.lookup x=some .cell
 nofree:∀ y∈sc.names,y.2≠.free
theorem bindL_out {kindOf:Str -> Option NameKind} {x:Str}:∀ {binds:List (Str×Value)} {m:Str -> Option Value},(∀ v,(x,v) ∉ binds) -> bindL kindOf binds m x=m x
 | [],_,_ => rfl
 | (n,v) :: r,m,h => by
  unfold bindL
  rw [bindL_out fun w hw => h w (List.mem_cons_of_mem _ hw)]
  split
  ·have:x≠n:=by rintro rfl; exact h v List.mem_cons_self
   simp [this]
  ·rfl
theorem bindC_out {kindOf:Str -> Option NameKind} {x:Str}:∀ {binds:List (Str×Value)} {m:Str -> Option Value},(∀ v,(x,v) ∉ binds) -> bindC kindOf binds m x=m x
 | [],_,_ => rfl
 | (n,v) :: r,m,h => by
  unfold bindC
  rw [bindC_out fun w hw => h w (List.mem_cons_of_mem _ hw)]
  split
  ·rfl
  ·have:x≠n:=by rintro rfl; exact h v List.mem_cons_self
   simp [this]
theorem bindL_get {kindOf:Str -> Option NameKind} {x:Str} {v:Value}:∀ {P:List Str} {vs:List Value} {i:Nat} {m:Str -> Option Value},P.Nodup -> P[i]?=some x -> vs[i]?=some v -> kindOf x=some .local →
  bindL kindOf (P.zip vs) m x=some v
 | [],_,_,_,_,h,_,_ => by simp at h
 | _ :: _,[],_,_,_,_,h,_ => by simp at h
 | p :: P,w :: vs,0,m,nd,h1,h2,hk => by
  simp at h1 h2; subst h1; subst h2
  show bindL kindOf ((p,w) :: P.zip vs) m p=_
  unfold bindL
  rw [bindL_out fun v hv => (List.nodup_cons.mp nd).1 (List.of_mem_zip hv).1,if_pos hk]
  simp
 | p :: P,w :: vs,i+1,m,nd,h1,h2,hk => by
  show bindL kindOf ((p,w) :: P.zip vs) m x=_
  unfold bindL
  exact bindL_get (i:=i) (List.nodup_cons.mp nd).2 (by simpa using h1) (by simpa using h2) hk
theorem bindC_get {kindOf:Str -> Option NameKind} {x:Str} {v:Value}:∀ {P:List Str} {vs:List Value} {i:Nat} {m:Str -> Option Value},P.Nodup -> P[i]?=some x -> vs[i]?=some v -> kindOf x≠some .local →
  bindC kindOf (P.zip vs) m x=some v
 | [],_,_,_,_,h,_,_ => by simp at h
 | _ :: _,[],_,_,_,_,h,_ => by simp at h
 | p :: P,w :: vs,0,m,nd,h1,h2,hk => by
  simp at h1 h2; subst h1; subst h2
  show bindC kindOf ((p,w) :: P.zip vs) m p=_
  unfold bindC
  rw [bindC_out fun v hv => (List.nodup_cons.mp nd).1 (List.of_mem_zip hv).1,if_neg hk]
  simp
 | p :: P,w :: vs,i+1,m,nd,h1,h2,hk => by
  show bindC kindOf ((p,w) :: P.zip vs) m x=_
  unfold bindC
  exact bindC_get (i:=i) (List.nodup_cons.mp nd).2 (by simpa using h1) (by simpa using h2) hk
noncomputable def start (N:List Str) (vs:List V):St:=vs.map some++List.replicate (N.length - vs.length) none
noncomputable def cxOf (CX:CXT) (P:Program) (w:World) (K:PySem.W.Frag) (mg:Str -> Option Value) (base:Heap) (N:List Str) (qual:Str) (scope:Scope) (f:Addr) (cd:Value) (A:Around) (outer:List Env) (s:Shared) (H:Hp) (E:XK):Cx where
 prog:=P
 w:=w
 K:=K
 mg:=mg
 base:=base
 A:=A.deeper (envOfC qual scope s.heap.objs.size f cd)
 N:=N
 s₀:=s
 H₀:=H
 env:=envOfC qual scope s.heap.objs.size f cd
 outer:=outer
 stack:=envOfC qual scope s.heap.objs.size f cd :: outer
 ex:=[]
 calm:=true
 fn:=fun _ => true
 pn:=[]
 xe:=fun e s' => wpAny (model P w) (A.deeper (envOfC qual scope s.heap.objs.size f cd)) (leaving (envOfC qual scope s.heap.objs.size f cd) e) (fun _ s'' => CX outer H s E e s'') (fun e' s'' => CX outer H s E e' s'') s'
theorem cell_has {sc:Scope} {n:Nat} {x:Str} (h:sc.names.lookup x=some .cell):∃ c,(cellsFrom n sc.names []).lookup x=some c:=by
 have q:=PySem.W.cellsFrom_some sc.names n [] (.inl h)
 exact Option.isSome_iff_exists.mp q
theorem inv_start {CX:CXT} {P:Program} {w:World} {K:PySem.W.Frag} {mg:Str -> Option Value} {base:Heap} {N ps:List Str} {qual:Str} {scope:Scope} {f:Addr} {cd:Value} {A:Around} {outer:List Env} {s s1:Shared} {H:Hp} {E:XK} {us:List Value} {vs:List V}
  (S:FnScope N ps scope) (hd:A.handled=none) (e0:Env0 P w K mg base A outer s H) (hl:vs.length=ps.length) (r:Vals vs us)
  (x:InCallC s s.heap.objs.size (bindL (envOfC qual scope s.heap.objs.size f cd).kindOf (ps.zip us) fun _ => none) (cellsFrom (s.heap.objs.size+1) scope.names []) (bindC (envOfC qual scope s.heap.objs.size f cd).kindOf (ps.zip us) fun _ => none) s1) :
  Inv (cxOf CX P w K mg base N qual scope f cd A outer s H E) [] (start N vs) H s1:=by
 have hpl:ps.length≤N.length:=by have:=congrArg List.length S.pre; rw [List.length_take] at this; trivial
 obtain ⟨h1,tk,rfl,hk⟩:=x.done
 have noA:∀ b:Addr,b ∉ (cxOf CX P w K mg base N qual scope f cd A outer s H E).ex:=fun b z => absurd (show b∈([]:List Addr) from z) (by simp)
 refine ⟨⟨e0.mod,S.kind,rfl,rfl,Nat.le_refl _,fun y z c h1 h2 => ?_,fun y hy => ?_,fun y c _ h => ?_,fun _ => hd,Around.frames_deeper e0.frames,.inr ⟨rfl,rfl⟩,fun b z => absurd z (noA b),e0.bs,e0.bsz,fun b _ _ => noA b,fun b z => absurd z (noA b),e0.funs,e0.frf⟩,
  rfl,e0.bare,Un.kept hk,⟨_,x.toInCall.ns,fun i y v h1 h2 h3 => ?_⟩,fun y c h => ⟨_,x.cell y c h⟩,e0.hok.fresh (Nat.le_refl _),fun y c h => ?_,fun p hp => absurd (show p∈([]:List (Addr×Obj)) from hp) (by simp),e0.hok.kept hk,?_⟩
 ·exact name_of_addr x.apart (PySem.mem_of_lookup h1) (PySem.mem_of_lookup h2)
 ·have hy:scope.names.lookup y=some .cell∨scope.names.lookup y=some .free:=hy
  rcases hy with hy | hy
  ·exact cell_has hy
  ·exact absurd rfl (S.nofree _ (PySem.mem_of_lookup hy))
 ·exact Nat.le_of_lt (x.above y c (PySem.mem_of_lookup h))
 ·have hi:i < vs.length:=by
   unfold start at h2
   by_cases hi:i < vs.length
   ·exact hi
   ·rw [List.getElem?_append_right (by simpa using hi)] at h2
    rw [List.getElem?_replicate] at h2
    split at h2 <;> cases h2
  have ha:vs[i]?=some v:=by
   unfold start at h2
   rw [List.getElem?_append_left (by simpa using hi),List.getElem?_map] at h2
   cases e:vs[i]? with
   | none => rw [e] at h2; cases h2
   | some a => rw [e] at h2; cases h2; rfl
  obtain ⟨u,hu,rv⟩:=r.get ha
  have hp:ps[i]?=some y:=by
   rw [← S.pre,List.getElem?_take_of_lt (by trivial)]; exact h1
  have ndP:ps.Nodup:=by rw [← S.pre]; exact S.nd.sublist (List.take_sublist _ _)
  refine ⟨u,rv,?_⟩
  rcases S.par y (List.mem_of_getElem? hp) with k | k
  ·exact .inl ⟨k,bindL_get ndP hp hu k⟩
  ·obtain ⟨c,e⟩:=cell_has (n:=s.heap.objs.size+1) k
   refine .inr ⟨.inl k,c,e,?_⟩
   have q:=x.cell y c e
   rw [bindC_get ndP hp hu (by show scope.names.lookup y≠_; rw [k]; decide)] at q
   exact q
 ·exact e0.hok.fresh (Nat.le_of_lt (x.above y c (PySem.mem_of_lookup h)))
 ·unfold start
  show _=N.length
  rw [List.length_append,List.length_map,List.length_replicate]
  trivial
theorem fn_of {CX:CXT} {P:Program} {w:World} {K:PySem.W.Frag} {mg:Str -> Option Value} {base:Heap} {k:Nat} {f:Addr} {name qual:Str} {params:Arguments} {body:List Stmt} {scope:Scope} {dV kV doc pm cdv ct oc:Value} {an od:Option Addr}
  {osl:Array (Option Value)} {N ps:List Str} {sp:Sp} (lk:K.lookup f=some ⟨oc,od,.func (PySem.W.fnOf name qual params body scope dV kV doc pm an cdv ct),osl⟩) (hcd:PySem.W.codeIn K cdv qual=true) (S:FnScope N ps scope)
  (len:∀ vs H Q E,sp vs H Q E -> vs.length=ps.length)
  (hbody:∀ (A:Around) (outer:List Env) (s:Shared) (H:Hp) (vs:List V) (Q:VK) (E:XK),Room k (A.deeper (envOfC qual scope s.heap.objs.size f cdv)) -> sp vs H Q E →
   ∃ t,PSs (cxOf CX P w K mg base N qual scope f cdv A outer s H E) body t∧t { nx:=fun _ H' => Q .non H',rt:=Q } (start N vs) H) :
  FnOk P w K mg base CX (k+1) f (PySem.W.fnOf name qual params body scope dV kV doc pm an cdv ct) ps sp:=by
 refine ⟨len,fun A outer s H args us vs Q E hr e0 hb r hsp => ?_⟩
 have hl:=len _ _ _ _ hsp
 have KX:K.In s.heap:=e0.mod.kin.keeps fun b o e => (e0.bs b o e).1
 have lim:s.heap.NoLimit:=e0.mod.nolimit.keeps fun b o e => (e0.bs b o e).1
 have hkind:∀ y∈ps.zip us,scope.names.lookup y.1=some .local∨(scope.names.lookup y.1=some .cell∧((cellsFrom (s.heap.objs.size+1) scope.names []).lookup y.1).isSome=true):=fun ⟨n,v⟩ hy => by
  rcases S.par n (List.of_mem_zip hy).1 with q | q
  ·exact .inl q
  ·exact .inr ⟨q,PySem.W.cellsFrom_some _ _ _ (.inl q)⟩
 refine codeAny_call_function hr.depth (KX _ _ lk) rfl S.co S.gen rfl (PySem.W.codeRec_of KX hcd) (hb _ _ _ _ ?_)
 refine wpAny_newFunctionEnv_cells S.kind hkind fun env he s1 x => ?_
 subst he
 refine ⟨lim.keeps x.toInCall.keep,codeAny_func ?_⟩
 obtain ⟨t,ht,hq⟩:=hbody A outer s H vs Q E (hr.deeper _) hsp
 have I:Inv (cxOf CX P w K mg base N qual scope f cdv A outer s H E) [] (start N vs) H s1:=inv_start S hr.hd e0 hl r x
 refine wpAny_mono (ht [] s1 (start N vs) H _ I hq) (fun fl s' hs => ?_) fun e s' hs => hs
 have fin:∀ {σ':St} {H':Hp} {v:V} {u:Value},Inv (cxOf CX P w K mg base N qual scope f cdv A outer s H E) [] σ' H' s' -> RelV v u -> Q v H' -> CE outer P w H s Q u s' :=
  fun {σ' H' v u} J rv q => ⟨v,H',J.os,J.bare,J.base,J.hok,rv,q⟩
 cases fl with
 | ret u =>
  obtain ⟨v,σ',H',J,rv,q⟩:=hs
  exact fin J rv q
 | next =>
  obtain ⟨σ',H',J,q⟩:=hs
  exact fin (v:=V.non) (u:=Value.none) J rfl q
 | brk =>
  obtain ⟨_,_,_,q⟩:=hs
  exact False.elim q
 | cont =>
  obtain ⟨_,_,_,q⟩:=hs
  exact False.elim q
section
variable {X:Cx} {x:Str} {p pos:Pos} {e:Expr} {es:List Expr} {t:TA} {id T:String} {r:List V -> Hp -> VK -> Prop}
noncomputable def tCB (r:List V -> Hp -> VK -> Prop) (t:TA):TE:=fun σ H Q => t σ H fun vs H1 => r vs H1 Q
theorem pe_callB (hc:CallR X (.builtin id) r) (hg:Gl X x) (hm:X.mg x=none) (hv:bootBuiltins x=some (.builtin id)) (ha:PA X (e :: es) t) (hn:x ≠ "__name__":=by decide) (hdb:(x == ("__debug__":Str))=false:=by decide)
  (he:starEach (e :: es) X.env=(false,eval e X.env) :: starEach es X.env:=by rfl) (hpl:(backTo pos (starEach es X.env)).any (·.1)=false:=by rfl):PE X (.Call (.Name x p) (e :: es) [] pos) (tCB r t):=by
 intro pins s σ H Q I h
 refine wpAny_Call_Name_kw (ld_blt I hg hm hv ?_ hn hdb)
 exact PyProof.Rows.callWith_builtin1 (thn (ha pos pins s σ H _ I h) fun us s1 ⟨vs,H1,I1,r1,q1⟩ => hc pins s1 σ H1 vs us Q I1 r1 q1) he hpl
theorem pe_callTy (hc:CallR X (.type T) r) (hg:Gl X x) (hm:X.mg x=none) (hv:bootBuiltins x=some (.type T)) (ha:PA X (e :: es) t) (hn:x ≠ "__name__":=by decide) (hdb:(x == ("__debug__":Str))=false:=by decide)
  (he:starEach (e :: es) X.env=(false,eval e X.env) :: starEach es X.env:=by rfl) (hpl:(backTo pos (starEach es X.env)).any (·.1)=false:=by rfl):PE X (.Call (.Name x p) (e :: es) [] pos) (tCB r t):=by
 intro pins s σ H Q I h
 refine wpAny_Call_Name_kw (ld_blt I hg hm hv ?_ hn hdb)
 exact PyProof.Rows.callWith_type1 (thn (ha pos pins s σ H _ I h) fun us s1 ⟨vs,H1,I1,r1,q1⟩ => hc pins s1 σ H1 vs us Q I1 r1 q1) he hpl
end
end L2
namespace HT
open PySem PyProof.Rows
noncomputable def lexLt:List Int -> List Int -> Bool
 | [],[] => false
 | [],_ :: _ => true
 | _ :: _,[] => false
 | x :: xs,y :: ys => if x=y then lexLt xs ys else decide (x < y)
theorem lexLt_cons (x y:Int) (xs ys:List Int):lexLt (x :: xs) (y :: ys)=if x=y then lexLt xs ys else decide (x < y):=rfl
theorem lexLt_nil_nil:lexLt [] []=false:=rfl
theorem lexLt_nil_cons (y:Int) (ys:List Int):lexLt [] (y :: ys)=true:=rfl
theorem lexLt_cons_nil (x:Int) (xs:List Int):lexLt (x :: xs) []=false:=rfl
theorem eqAt_int (A:Around) (s:Shared) (a:Int) (t:Tok) (c:Int) (u:Tok):∃ e,SeqAt.EqAt A s (.int a t) (.int c u) e∧(e=true ↔ a=c) :=
 ⟨(a == c),SeqAt.EqAt.int_int a t c u,by simp⟩
theorem rcLt_int (A:Around) (s:Shared) (a:Int) (t:Tok) (c:Int) (u:Tok) (prog:Program) (w:World) (E:Value -> Shared -> Prop) (Q:Value -> Shared -> Prop) (h:Q (.bool (decide (a < c))) s) :
  wpAny (model prog w) A (richCompare .Lt (.int a t) (.int c u)) Q E s :=
 (PyProof.Rows.lt_int h:wpAny (model prog w) A (compareOp .Lt (.int a t) (.int c u)) Q E s)
section
open PySem.SeqAt
open PySem.AutoSeq1 (wpAny_loadPart')
open PySem.MeetsSeq PySem.MeetsSeq2 PySem.MeetsSeq3
end
section
variable {prog:Program} {w:World} {A:Around} {E:Value -> Shared -> Prop} {s:Shared}
noncomputable def sIx (n d:Nat):Option Int -> Nat
 | none => d
 | some v => if v < 0 then (v+(n:Int)).toNat else min v.toNat n
theorem sIx_none (n d:Nat):sIx n d none=d:=rfl
theorem sIx_nat (n d k:Nat):sIx n d (some (k:Int))=min k n:=by
 show (if (k:Int) < 0 then ((k:Int)+(n:Int)).toNat else min (k:Int).toNat n)=min k n
 rw [if_neg (by trivial),Int.toNat_natCast]
end
end HT
namespace L2
open PySem PySem.Spec PyProof.Rows
noncomputable abbrev TO:=St -> Hp -> (Option Int -> Hp -> Prop) -> Prop
noncomputable def PO (X:Cx) (e:Option Expr) (t:TO):Prop :=
 ∀ (pins:List (Addr×Obj)) (s:Shared) (σ:St) (H:Hp) (Q:Option Int -> Hp -> Prop),Inv X pins σ H s -> t σ H Q →
  wpAny (model X.prog X.w) X.A (evalPart e X.env) (fun u s' => ∃ o H',Inv X pins σ H' s'∧IsPart u o∧Q o H') X.xe s
noncomputable def tNoPart:TO:=fun _ H Q => Q none H
noncomputable def tPart (t:TE):TO:=fun σ H Q => t σ H fun x H1 => ∃ i,x=.int i∧Q (some i) H1
section
variable {X:Cx} {e:Expr} {te:TE} {lo hi:Option Expr} {tl th:TO} {pos p2:Pos}
theorem po_none:PO X none tNoPart:=by
 intro pins s σ H Q I h
 rw [evalPart_none]
 exact wpAny_pure ⟨none,H,I,.none,h⟩
theorem po_some (h:PE X e te):PO X (some e) (tPart te):=by
 intro pins s σ H Q I hw
 rw [evalPart_some]
 refine thn (h pins s σ H _ I hw) fun u s1 ⟨x,H1,I1,r1,q1⟩ => ?_
 obtain ⟨i,rfl,q⟩:=q1
 obtain ⟨t,rfl⟩:=r1
 exact ⟨some i,H1,I1,.int i t,q⟩
noncomputable def SlR (X:Cx) (r:V -> Option Int -> Option Int -> Hp -> VK -> Prop):Prop :=
 ∀ (pins:List (Addr×Obj)) (s:Shared) (σ:St) (H:Hp) (x:V) (v vl vu:Value) (lo hi:Option Int) (sl:Addr) (Q:VK),Inv X pins σ H s -> RelV x v -> s.heap.IsSliceOf sl vl vu .none -> IsPart vl lo -> IsPart vu hi -> r x lo hi H Q →
  ∃ T id,typeLookup (.type T) "__getitem__" = pure (some (.builtin id))∧s.TypeIs v T∧wpAny (model X.prog X.w) X.A (getItem v (.ref sl)) (EP X pins σ Q) X.xe s
noncomputable def tSl (r:V -> Option Int -> Option Int -> Hp -> VK -> Prop) (te:TE) (tl th:TO):TE:=fun σ H Q => te σ H fun x H1 => tl σ H1 fun l H2 => th σ H2 fun u H3 => r x l u H3 Q
theorem pe_slice {r:V -> Option Int -> Option Int -> Hp -> VK -> Prop} (hr:SlR X r) (he:PE X e te) (hl:PO X lo tl) (hu:PO X hi th):PE X (.Subscript e (.Slice lo hi none p2) pos) (tSl r te tl th):=by
 intro pins s σ H Q I h
 refine Subscript_ (thn (he pins s σ H _ I h) fun v s1 ⟨x,H1,I1,r1,q1⟩ => ?_)
 refine wpAny_Slice (thn (hl pins s1 σ H1 _ I1 q1) fun vl s2 ⟨l,H2,I2,pl,q2⟩ => thn (hu pins s2 σ H2 _ I2 q2) fun vu s3 ⟨u,H3,I3,pu,q3⟩ => ?_)
 rw [evalPart_none]
 refine wpAny_pure ?_
 have I4:Inv X pins σ H3 { s3 with heap:=s3.heap.push { cls:=.type "slice",data:=.fields #[vl,vu,.none] } }:=I3.kept (t':=s3.toks) fun b ob q => Heap.get?_push_of_some _ q
 obtain ⟨T,id,hT,ht,hg⟩:=hr pins { s3 with heap:=s3.heap.push { cls:=.type "slice",data:=.fields #[vl,vu,.none] } } σ H3 x v vl vu l u s3.heap.objs.size Q I4 r1 (Heap.IsSliceOf.new ..) pl pu q3
 show wpAny (model X.prog X.w) X.A (subscriptTail e (.Slice lo hi none p2) v (.ref s3.heap.objs.size)) (EP X pins σ Q) X.xe { s3 with heap:=s3.heap.push { cls:=.type "slice",data:=.fields #[vl,vu,.none] } }
 exact tail_any (ops:=[.ref s3.heap.objs.size,v]) ht hT hg (by with_unfolding_all rfl)
noncomputable def cutV (xs:List V) (lo hi:Option Int):List V:=(xs.drop (HT.sIx xs.length 0 lo)).take (HT.sIx xs.length xs.length hi - HT.sIx xs.length 0 lo)
theorem cutV_length (xs:List V) (lo hi:Option Int):(cutV xs lo hi).length≤xs.length:=by
 unfold cutV
 rw [List.length_take,List.length_drop]
 trivial
end
noncomputable def ixN (n:Nat) (i:Int):Option Nat:=if 0≤i then (if i < n then some i.toNat else none) else if -(n:Int)≤i then some (i+n).toNat else none
noncomputable def atI {α:Type} (xs:List α) (i:Int):Option α:=(ixN xs.length i).bind fun j => xs[j]?
theorem ixN_seq {n:Nat} {i:Int} {j:Nat} (h:ixN n i=some j):seqIndex? i n=some j∧j < n∧-(n:Int)≤i∧i < n:=by
 unfold ixN at h
 by_cases h0:0≤i
 ·rw [if_pos h0] at h
  by_cases h1:i < n
  ·rw [if_pos h1] at h
   have e:i.toNat=j:=Option.some.inj h
   exact ⟨by rw [seqIndex_of h0 h1,e],by trivial,by trivial,h1⟩
  ·rw [if_neg h1] at h; cases h
 ·rw [if_neg h0] at h
  by_cases h1:-(n:Int)≤i
  ·rw [if_pos h1] at h
   have e:(i+n).toNat=j:=Option.some.inj h
   exact ⟨by rw [seqIndex_neg (by trivial) h1,e],by trivial,h1,by trivial⟩
  ·rw [if_neg h1] at h; cases h
theorem atI_get {α:Type} {xs:List α} {i:Int} {v:α} (h:atI xs i=some v):∃ j,seqIndex? i xs.length=some j∧xs[j]?=some v∧j < xs.length∧-(xs.length:Int)≤i∧i < xs.length:=by
 unfold atI at h
 cases e:ixN xs.length i with
 | none => rw [e] at h; cases h
 | some j =>
  rw [e] at h
  obtain ⟨h1,h2,h3,h4⟩:=ixN_seq e
  exact ⟨j,h1,h,h2,h3,h4⟩
theorem atI_nat {α:Type} {xs:List α} {j:Nat} {v:α} (h:xs[j]?=some v):atI xs (j:Int)=some v:=by
 have hj:j < xs.length:=(List.getElem?_eq_some_iff.mp h).1
 have e:ixN xs.length (j:Int)=some j:=by
  unfold ixN
  rw [if_pos (by trivial),if_pos (by trivial)]; simp
 unfold atI; rw [e]; exact h
theorem atI_last {α:Type} (xs:List α) (v:α):atI (xs++[v]) (-1)=some v:=by
 have hl:(xs++[v]).length=xs.length+1:=by simp
 have e:ixN (xs++[v]).length (-1)=some xs.length:=by
  unfold ixN
  rw [hl,if_neg (by decide),if_pos (by trivial)]
  congr 1
  trivial
 unfold atI
 rw [e]
 show (xs++[v])[xs.length]?=some v
 simp
noncomputable def PlainIx (b:Expr):Prop:=∀ o i,subscripted b false o i=operate [o,i] (getItem o i)
noncomputable def IxR (X:Cx) (r:R2):Prop :=
 ∀ (value slice:Expr) (pins:List (Addr×Obj)) (s:Shared) (σ:St) (H:Hp) (x y:V) (v u:Value) (Q:VK),Inv X pins σ H s -> RelV x v -> RelV y u -> r x y H Q →
  subscripted slice false v u=operate [v,u] (getItem v u) -> wpAny (model X.prog X.w) X.A (subscriptTail value slice v u) (EP X pins σ Q) X.xe s
noncomputable def MtR (X:Cx) (id:String) (r:V -> List V -> Hp -> VK -> Prop):Prop :=
 ∀ (pins:List (Addr×Obj)) (s:Shared) (σ:St) (H:Hp) (x:V) (xs:List V) (v:Value) (us:List Value) (Q:VK),Inv X pins σ H s -> RelV x v -> Vals xs us -> r x xs H Q →
  wpAny (model X.prog X.w) X.A (call (.builtin id) (v :: us)) (EP X pins σ Q) X.xe s
section
variable {X:Cx} {a b:Expr} {ta tb:TE} {pos:Pos}
theorem pe_ix {r:R2} (hr:IxR X r) (ha:PE X a ta) (hb:PE X b tb) (hs:PlainIx b):PE X (.Subscript a b pos) (tOp r ta tb):=by
 intro pins s σ H Q I h
 exact Subscript_ (binT ha hb I h fun v u s2 x y H2 I2 rx ry q => hr a b pins s2 σ H2 x y v u Q I2 rx ry q (hs _ _))
noncomputable def rIxL (K:PySem.W.Frag):R2:=fun x y H Q => ∃ p xs i v,x=.ref p∧y=.int i∧SqL K H p xs∧atI xs i=some v∧Q v H
noncomputable def rIxT (K:PySem.W.Frag):R2:=fun x y H Q => ∃ p xs i v,x=.ref p∧y=.int i∧SqT K H p xs∧atI xs i=some v∧Q v H
theorem ix_list:IxR X (rIxL X.K):=by
 intro value slice pins s σ H x y v u Q I rx ry h hs
 obtain ⟨p,xs,i,z,rfl,rfl,hq,he,q⟩:=h
 cases rx
 obtain ⟨t,rfl⟩:=ry
 obtain ⟨its,r,pl,hz⟩:=I.list hq
 obtain ⟨j,h1,h2,h3,h4,h5⟩:=atI_get he
 obtain ⟨w,ew,rw'⟩:=r.get h2
 have hl:=r.length
 have hn:=line63
 have fin:EP X pins σ Q w s:=⟨z,H,I,rw',q⟩
 by_cases h0:0≤i
 ·have hj:i.toNat=j:=by
   rw [seqIndex_of h0 h5] at h1
   exact Option.some.inj h1
  exact item_listR pl.isList h0 (by trivial) (by rw [hj]; simpa using ew) fin hs
 ·have hj:(i+(its.toArray.size:Int)).toNat=j:=by
   rw [seqIndex_neg (by trivial) h4] at h1
   rw [List.size_toArray,← hl]
   exact Option.some.inj h1
  exact subscriptTail_builtinR (x:=w) pl.isList.typeIs slot_list_getitem.lookup
   (wpAny_getItem_list_neg (Q:=fun r s' => r=w∧EP X pins σ Q r s') pl.isList (by trivial) (by rw [List.size_toArray] <;> trivial) (by trivial) (by rw [hj]; simpa using ew) ⟨rfl,fin⟩) hs
theorem ix_tup:IxR X (rIxT X.K):=by
 intro value slice pins s σ H x y v u Q I rx ry h hs
 obtain ⟨p,xs,i,z,rfl,rfl,hq,he,q⟩:=h
 cases rx
 obtain ⟨t,rfl⟩:=ry
 obtain ⟨its,r,pl,hz⟩:=I.tuple hq
 obtain ⟨j,h1,h2,h3,h4,h5⟩:=atI_get he
 obtain ⟨w,ew,rw'⟩:=r.get h2
 have hl:=r.length
 have hn:=line63
 have fin:EP X pins σ Q w s:=⟨z,H,I,rw',q⟩
 exact subscriptTail_builtinR (x:=w) pl.typeIs slot_tuple_getitem.lookup
  (getItem_tuple (j:=j) (Q:=fun r s' => r=w∧EP X pins σ Q r s') pl (by trivial) (by trivial) (by rw [List.size_toArray,← hl]; exact h1) (by simpa using ew) ⟨rfl,fin⟩) hs
theorem mapSeq_set (its:List Value) (n j:Nat) (u:Value):Obj.mapSeq (·.setIfInBounds j u) { cls:=.type "list",data:=.seq its.toArray n }={ cls:=.type "list",data:=.seq (its.set j u).toArray n }:=by
 simp [Obj.mapSeq]
theorem Inv.lst {pins:List (Addr×Obj)} {σ:St} {H:Hp} {s:Shared} {p:Addr} {xs:List V} (I:Inv X pins σ H s) (h:H p=some (.lst xs)) :
  ∃ (its:List Value) (n:Nat),Vals xs its∧s.heap.get? p=some { cls:=.type "list",data:=.seq its.toArray n }∧xs.length≤sizeLine:=by
 obtain ⟨z,its,n,r,e⟩:=I.hok p _ h
 exact ⟨its,n,r,e,z⟩
theorem Inv.lstUpd {pins:List (Addr×Obj)} {σ:St} {H:Hp} {s:Shared} {p:Addr} {xs ys:List V} {its its':List Value} {n n':Nat} {f:Obj -> Obj} (I:Inv X pins σ H s) (h:H p=some (.lst xs))
  (ho:s.heap.get? p=some { cls:=.type "list",data:=.seq its.toArray n }) (hf:f { cls:=.type "list",data:=.seq its.toArray n }={ cls:=.type "list",data:=.seq its'.toArray n' }) (r:Vals ys its') (hz:ys.length≤sizeLine) (t:Nat) :
  Inv X pins σ (upd H p (.lst ys)) { s with heap:=s.heap.update p f,toks:=t }:=by
 have e:(s.heap.update p f).get? p=some { cls:=.type "list",data:=.seq its'.toArray n' }:=by
  rw [Heap.get?_update_self f ho (by rw [hf] <;> rfl),hf]
 refine I.write (x:=p) (e:=p) (by rw [h]; trivial) (.inl rfl) (fun b u hb q => (Heap.get?_update_other _ _ (Ne.symm hb)).trans q) ⟨_,e⟩ ?_
 exact ⟨hz,its',n',r,e⟩
noncomputable def rSetL:V -> V -> V -> Hp -> (Hp -> Prop) -> Prop:=fun o i v H Q => ∃ p xs k j,o=.ref p∧i=.int k∧H p=some (.lst xs)∧ixN xs.length k=some j∧Q (upd H p (.lst (xs.set j v)))
theorem set_list:PSet X rSetL:=by
 intro pins s σ H o i v ov iv u Q I ro ri rv h
 obtain ⟨p,xs,k,j,rfl,rfl,hp,hj,q⟩:=h
 cases ro
 obtain ⟨t,rfl⟩:=ri
 obtain ⟨its,n,r,ho,hz⟩:=I.lst hp
 obtain ⟨h1,h2,h3,h4⟩:=ixN_seq hj
 have hl:=r.length
 have hn:=line63
 have I':Inv X pins σ (upd H p (.lst (xs.set j v))) { s with heap:=s.heap.update p (Obj.mapSeq (·.setIfInBounds j u)) } :=
  I.lstUpd hp ho (mapSeq_set its n j u) (r.set rv j) (by rw [List.length_set]; exact hz) s.toks
 by_cases h0:0≤k
 ·have hk:k.toNat=j:=by
   rw [seqIndex_of h0 h4] at h1
   exact Option.some.inj h1
  exact PySem.W.ki_setAt ho h0 (by trivial) (by rw [List.size_toArray,← hl]; exact h4) (by rw [hk]; exact ⟨_,I',q⟩)
 ·have hk:(k+(its.toArray.size:Int)).toNat=j:=by
   rw [seqIndex_neg (by trivial) h3] at h1
   rw [List.size_toArray,← hl]
   exact Option.some.inj h1
  exact PySem.W.ki_setBack ho (by trivial) (by rw [List.size_toArray,← hl]; exact h3) (by trivial) (by rw [hk]; exact ⟨_,I',q⟩)
theorem slice_bounds (lo hi:Option Int) (n:Nat):(sliceBounds lo hi none n).1=((HT.sIx n 0 lo:Nat):Int)∧(sliceBounds lo hi none n).2.1=((HT.sIx n n hi:Nat):Int)∧(sliceBounds lo hi none n).2.2=1:=by
 refine ⟨?_,?_,rfl⟩
 ·cases lo with
  | none => simp [sliceBounds,HT.sIx]
  | some i =>
   simp only [sliceBounds,HT.sIx,Option.getD_none,show (1:Int) > 0 by decide,if_true]
   by_cases h:i < 0
   ·simp only [h,if_true] <;> trivial
   ·simp only [h,if_false] <;> trivial
 ·cases hi with
  | none => simp [sliceBounds,HT.sIx]
  | some i =>
   simp only [sliceBounds,HT.sIx,Option.getD_none,show (1:Int) > 0 by decide,if_true]
   by_cases h:i < 0
   ·simp only [h,if_true] <;> trivial
   ·simp only [h,if_false] <;> trivial
theorem slicePick_cut (its:List Value) (lo hi:Option Int):slicePick its.toArray lo hi none=((its.drop (HT.sIx its.length 0 lo)).take (HT.sIx its.length its.length hi - HT.sIx its.length 0 lo)).toArray:=by
 obtain ⟨h1,h2,h3⟩:=slice_bounds lo hi its.toArray.size
 unfold slicePick
 rw [h1,h2,h3]
 simp only [sliceRange_one,pick_run,List.size_toArray] <;> rfl
noncomputable def rSlL (K:PySem.W.Frag):V -> Option Int -> Option Int -> Hp -> VK -> Prop:=fun x lo hi H Q => ∃ a xs,x=.ref a∧SqL K H a xs∧∀ p,H p=none -> Q (.ref p) (upd H p (.lst (cutV xs lo hi)))
theorem sl_list:SlR X (rSlL X.K):=by
 intro pins s σ H x v vl vu lo hi sl Q I rx hs pl pu h
 obtain ⟨a,xs,rfl,hx,q⟩:=h
 cases rx
 obtain ⟨its,r,ht,hz⟩:=I.list hx
 have hlen:=r.length
 refine ⟨"list",_,slot_list_getitem.lookup,ht.isList.typeIs,?_⟩
 refine wpAny_getItem_list_slice ht.isList hs pl pu .none (by simp) ?_ (by rw [List.size_toArray] <;> trivial)
 rw [slicePick_cut,← hlen]
 refine ⟨.ref s.heap.objs.size,_,I.laid (t':=s.toks) (o:=.lst (cutV xs lo hi)) (fun b ob q => Heap.get?_push_of_some _ q) (Nat.le_refl _) ?_,rfl,q _ (I.hok.fresh (Nat.le_refl _))⟩
 exact ⟨Nat.le_trans (cutV_length xs lo hi) hz,_,0,(r.drop (HT.sIx xs.length 0 lo)).take (HT.sIx xs.length xs.length hi - HT.sIx xs.length 0 lo),Heap.get?_push_size _ rfl⟩
noncomputable def flatV:V -> Bool
 | .non => true
 | .bl _ => true
 | .int _ => true
 | .str _ => true
 | _ => false
noncomputable def eqV:V -> V -> Bool
 | .non,.non => true
 | .bl a,.bl b => a == b
 | .bl a,.int b => (if a then 1 else 0) == b
 | .int a,.bl b => a == (if b then 1 else 0)
 | .int a,.int b => a == b
 | .str a,.str b => a == b
 | _,_ => false
theorem eqAt_V {A:Around} {s:Shared} {y x:V} {u v:Value} (ry:RelV y u) (rx:RelV x v) (fy:flatV y=true) (fx:flatV x=true):SeqAt.EqAt A s u v (eqV y x):=by
 cases y with
 | non =>
  cases ry
  cases x with
  | non => cases rx; exact SeqAt.EqAt.same _
  | bl b => cases rx; exact SeqAt.EqAt.none_bool b
  | int b => obtain ⟨t,rfl⟩:=rx; exact SeqAt.EqAt.none_int b t
  | str b => obtain ⟨t,rfl⟩:=rx; exact SeqAt.EqAt.none_str b t
  | _ => exact absurd (show false=true from fx) Bool.false_ne_true
 | bl a =>
  cases ry
  cases x with
  | non => cases rx; exact SeqAt.EqAt.bool_none a
  | bl b => cases rx; exact SeqAt.EqAt.bool_bool a b
  | int b => obtain ⟨t,rfl⟩:=rx; exact SeqAt.EqAt.bool_int a b t
  | str b => obtain ⟨t,rfl⟩:=rx; exact SeqAt.EqAt.bool_str a b t
  | _ => exact absurd (show false=true from fx) Bool.false_ne_true
 | int a =>
  obtain ⟨t',rfl⟩:=ry
  cases x with
  | non => cases rx; exact SeqAt.EqAt.int_none a t'
  | bl b => cases rx; exact SeqAt.EqAt.int_bool a t' b
  | int b => obtain ⟨t,rfl⟩:=rx; exact SeqAt.EqAt.int_int a t' b t
  | str b => obtain ⟨t,rfl⟩:=rx; exact SeqAt.EqAt.int_str a t' b t
  | _ => exact absurd (show false=true from fx) Bool.false_ne_true
 | str a =>
  obtain ⟨t',rfl⟩:=ry
  cases x with
  | non => cases rx; exact SeqAt.EqAt.str_none a t'
  | bl b => cases rx; exact SeqAt.EqAt.str_bool a t' b
  | int b => obtain ⟨t,rfl⟩:=rx; exact SeqAt.EqAt.str_int a t' b t
  | str b => obtain ⟨t,rfl⟩:=rx; exact SeqAt.EqAt.str_str a t' b t
  | _ => exact absurd (show false=true from fx) Bool.false_ne_true
 | _ => exact absurd (show false=true from fy) Bool.false_ne_true
noncomputable def eqU (x:V) (u:Value):Bool:=match u with
 | .none => eqV .non x
 | .bool b => eqV (.bl b) x
 | .int i _ => eqV (.int i) x
 | .str z _ => eqV (.str z) x
 | _ => false
theorem eqU_of {x y:V} {u:Value} (r:RelV y u) (f:flatV y=true):eqU x u=eqV y x:=by
 cases y with
 | non => cases r; rfl
 | bl b => cases r; rfl
 | int i => obtain ⟨t,rfl⟩:=r; rfl
 | str z => obtain ⟨t,rfl⟩:=r; rfl
 | _ => exact absurd (show false=true from f) Bool.false_ne_true
theorem mem_eqAt {A:Around} {s:Shared} {x:V} {v:Value} (rx:RelV x v) (fx:flatV x=true):∀ {xs:List V} {us:List Value},Vals xs us -> xs.all flatV=true -> ∀ u∈us,SeqAt.EqAt A s u v (eqU x u)
 | _,_,.nil,_ => fun u hu => by cases hu
 | y :: xs,u :: us,.cons r t,f => fun u' hu => by
  rw [List.all_cons,Bool.and_eq_true] at f
  rcases List.mem_cons.mp hu with rfl | hu
  ·rw [eqU_of r f.1]; exact eqAt_V r rx f.1 fx
  ·exact mem_eqAt rx fx t f.2 u' hu
theorem call_len_seq:CallR X (.builtin "len") (fun xs H Q => ∃ p ys,xs=[.ref p]∧(SqL X.K H p ys∨SqT X.K H p ys)∧Q (.int ys.length) H):=by
 intro pins s σ H xs us Q I r h
 obtain ⟨p,ys,rfl,hq,q⟩:=h
 obtain ⟨u,rfl,rx⟩:=vals1 r
 cases rx
 have hn:=line63
 rcases hq with hq | hq
 ·obtain ⟨its,r',pl,hz⟩:=I.list hq
  have hlen:=r'.length
  exact Calls.call_len_list pl.isList (by simp only [List.size_toArray] <;> trivial) ⟨.int ys.length,H,I.tok _,⟨s.toks+1,by rw [List.size_toArray,hlen]⟩,q⟩
 ·obtain ⟨its,r',pl,hz⟩:=I.tuple hq
  have hlen:=r'.length
  exact len_tuple pl (by simp only [List.size_toArray] <;> trivial) ⟨.int ys.length,H,I.tok _,⟨s.toks+1,by rw [List.size_toArray,hlen]⟩,q⟩
theorem call_list_of:CallR X (.type "list") (fun xs H Q => ∃ p ys,xs=[.ref p]∧(SqL X.K H p ys∨SqT X.K H p ys)∧∀ l,H l=none -> Q (.ref l) (upd H l (.lst ys))):=by
 intro pins s σ H xs us Q I r h
 obtain ⟨p,ys,rfl,hq,q⟩:=h
 obtain ⟨u,rfl,rx⟩:=vals1 r
 cases rx
 have fin:∀ (its:List Value),Vals ys its -> ys.length≤sizeLine -> ∀ (h':Heap) (c':Nat),(∀ b o',s.heap.get? b=some o' -> h'.get? b=some o') →
   h'.get? s.heap.objs.size=some { cls:=.type "list",dict:=none,data:=.seq its.toArray c',slots:=#[] } -> EP X pins σ Q (.ref s.heap.objs.size) { s with heap:=h' }:=fun its r' hz h' c' kp e =>
  ⟨.ref s.heap.objs.size,_,I.laid (t':=s.toks) kp (Nat.le_refl _) (show ObjOk X.prog X.w _ h' _ (.lst ys) from ⟨hz,its,c',r',e⟩),rfl,q _ (I.hok.fresh (Nat.le_refl _))⟩
 rcases hq with hq | hq
 ·obtain ⟨its,r',pl,hz⟩:=I.list hq
  have hlen:=r'.length
  obtain ⟨o,ho,hc,n,hd⟩:=pl.isList
  exact call_list_seq p (.inl rfl) ho hc hd (fun h' c' kp e => fin its r' hz h' c' kp e) (by simp only [List.size_toArray] <;> trivial)
 ·obtain ⟨its,r',pl,hz⟩:=I.tuple hq
  have hlen:=r'.length
  obtain ⟨o,ho,hc,n,hd⟩:=pl
  exact call_list_seq p (.inr rfl) ho hc hd (fun h' c' kp e => fin its r' hz h' c' kp e) (by simp only [List.size_toArray] <;> trivial)
noncomputable def tyV (K:PySem.W.Frag) (T:String) (x:V) (H:Hp):Prop:=match x with
 | .str _ => T = "str"
 | .int _ => T = "int"
 | .ref p => (T = "list"∧∃ xs,SqL K H p xs)∨(T = "tuple"∧∃ o,K.lookup p=some o∧o.cls=.type "tuple"∧o.dict=none) ∨
   (T = "dict"∧((∃ kvs,H p=some (.dK kvs))∨∃ kvs,H p=some (.dT kvs)))∨(T = "set"∧∃ S n,H p=some (.set S n))
 | _ => False
theorem tyV_is {pins:List (Addr×Obj)} {σ:St} {H:Hp} {s:Shared} {T:String} {x:V} {v:Value} (I:Inv X pins σ H s) (r:RelV x v) (ty:tyV X.K T x H) :
  s.TypeIs v T∧∀ a,v=.ref a -> ∃ ob,s.heap.get? a=some ob∧ob.dict=none:=by
 cases x with
 | str z =>
  obtain ⟨t,rfl⟩:=r
  cases (show T = "str" from ty)
  exact ⟨typeIs_str s z t,fun _ e => nomatch e⟩
 | int i =>
  obtain ⟨t,rfl⟩:=r
  cases (show T = "int" from ty)
  exact ⟨typeIs_int s i t,fun _ e => nomatch e⟩
 | ref p =>
  cases r
  rcases ty with ⟨rfl,xs,hq⟩ | ⟨rfl,o,hk,hc,hd⟩ | ⟨rfl,hk⟩ | ⟨rfl,S,n,hk⟩
  ·obtain ⟨its,_,pl,_⟩:=I.list hq
   refine ⟨pl.isList.typeIs,fun a e => ?_⟩
   cases e
   obtain ⟨o,n,e,c,hd,_⟩:=pl
   exact ⟨o,e,hd⟩
  ·refine ⟨⟨o,I.kIn p o hk,hc⟩,fun a e => ?_⟩
   cases e
   exact ⟨o,I.kIn _ o hk,hd⟩
  ·have z:∃ o,s.heap.get? p=some o∧o.ExactDict:=by
    rcases hk with ⟨kvs,hk⟩ | ⟨kvs,hk⟩
    ·obtain ⟨_,_,_,_,o,_,_,e,ex,_⟩:=I.hok p _ hk
     exact ⟨o,e,ex⟩
    ·obtain ⟨_,_,_,_,o,_,_,e,ex,_⟩:=I.hok p _ hk
     exact ⟨o,e,ex⟩
   obtain ⟨o,e,ex⟩:=z
   refine ⟨⟨o,e,ex.1⟩,fun a e2 => ?_⟩
   cases e2
   exact ⟨o,e,ex.2.1⟩
  ·obtain ⟨o,_,_,_,e,ex,_⟩:=I.hok p _ hk
   refine ⟨⟨o,e,ex.1⟩,fun a e2 => ?_⟩
   cases e2
   exact ⟨o,e,ex.2.1⟩
 | _ => exact False.elim ty
noncomputable def tBM0 (K:PySem.W.Frag) (T:String) (r:V -> List V -> Hp -> VK -> Prop) (to:TE):TE:=fun σ H Q => to σ H fun x H1 => tyV K T x H1∧r x [] H1 Q
noncomputable def tBM (K:PySem.W.Frag) (T:String) (r:V -> List V -> Hp -> VK -> Prop) (to:TE) (t:TA):TE:=fun σ H Q => to σ H fun x H1 => tyV K T x H1∧t σ H1 fun xs H2 => r x xs H2 Q
variable {o e:Expr} {es:List Expr} {to:TE} {t:TA} {name:Str} {apos cpos:Pos} {T id:String} {r:V -> List V -> Hp -> VK -> Prop}
theorem pe_bm0 (pa:PlainAttrs T) (slot:Slot T name id) (hty:typeOf (.builtin id)=pure (.type "method_descriptor")) (hm:MtR X id r) (ho:PE X o to)
  (hbase:attributeBase o name X.env (eval o X.env)=eval o X.env:=by rfl) (hline:(apos.endLine == cpos.line)=true:=by rfl):PE X (.Call (.Attribute o name apos) [] [] cpos) (tBM0 X.K T r to):=by
 intro pins s σ H Q I h
 refine wpAny_Call_method0_late hbase hline (thn (ho pins s σ H _ I h) fun v s1 ⟨x,H1,I1,r1,ty,q1⟩ => ?_)
 obtain ⟨h1,h2⟩:=tyV_is I1 r1 ty
 exact ⟨T,id,pa,slot,hty,h1,h2,Calls.callWith_builtin rfl (PySem.evalArgs_none (hm pins s1 σ H1 x [] v [] Q I1 r1 .nil q1))⟩
theorem pe_bm (pa:PlainAttrs T) (slot:Slot T name id) (hty:typeOf (.builtin id)=pure (.type "method_descriptor")) (hm:MtR X id r) (ho:PE X o to) (ha:PA X (e :: es) t)
  (hbase:attributeBase o name X.env (eval o X.env)=eval o X.env:=by rfl)
  (hfew:((backTo cpos (starEach (e :: es) X.env)).all (fun x => !x.1) && (backToKw cpos (keywordEach [] X.env)).all (fun x => x.1.isSome)
   && decide ((e :: es).length+([]:List Keyword).length+(if ([]:List Keyword).isEmpty then 0 else 1) < 30))=true:=by rfl)
  (hline:(apos.endLine == cpos.line)=true:=by rfl) (hs:starEach (e :: es) X.env=(false,eval e X.env) :: starEach es X.env:=by rfl) (hplain:(backTo cpos (starEach es X.env)).any (·.1)=false:=by rfl) :
  PE X (.Call (.Attribute o name apos) (e :: es) [] cpos) (tBM X.K T r to t):=by
 intro pins s σ H Q I h
 refine wpAny_Call_method_late hbase hfew hline rfl (thn (ho pins s σ H _ I h) fun v s1 ⟨x,H1,I1,r1,ty,q1⟩ => ?_)
 obtain ⟨h1,h2⟩:=tyV_is I1 r1 ty
 refine ⟨T,id,pa,slot,hty,h1,h2,?_⟩
 have hA:=ha cpos pins s1 σ H1 _ I1 q1
 rw [hs] at hA ⊢
 refine Calls.callWith_builtin (by show (false || (backTo cpos (starEach es X.env)).any (·.1))=false; rw [hplain] <;> rfl) (Calls.evalArgs_plain ?_)
 exact thn hA fun us s2 ⟨vs,H2,I2,r2,q2⟩ => hm pins s2 σ H2 x vs v us Q I2 r1 r2 q2
end
noncomputable def MtM (X:Cx) (id:String) (r:V -> List V -> Hp -> VK -> Prop):Prop :=
 ∀ (pins:List (Addr×Obj)) (s:Shared) (σ:St) (H:Hp) (x:V) (xs:List V) (v:Value) (us:List Value) (Q:VK),Inv X pins σ H s -> RelV x v -> Vals xs us -> r x xs H Q →
  wpAny (model X.prog X.w) X.A (call (.builtin id) (v :: us)) (EP X pins σ Q) X.xe s
theorem Vals.one:∀ {x:V} {us:List Value},Vals [x] us -> ∃ u,us=[u]∧RelV x u
 | _,_,.cons r .nil => ⟨_,rfl,r⟩
theorem Vals.two:∀ {x y:V} {us:List Value},Vals [x,y] us -> ∃ u v,us=[u,v]∧RelV x u∧RelV y v
 | _,_,_,.cons r (.cons q .nil) => ⟨_,_,rfl,r,q⟩
theorem Vals.zero:∀ {us:List Value},Vals [] us -> us=[]
 | _,.nil => rfl
theorem Vals.dropLast {xs:List V} {us:List Value} (h:Vals xs us):Vals xs.dropLast us.dropLast:=by
 induction h with
 | nil => exact .nil
 | cons r t ih =>
  cases t with
  | nil => exact .nil
  | cons q t' => exact .cons r ih
theorem Vals.reverse {xs:List V} {us:List Value} (h:Vals xs us):Vals xs.reverse us.reverse:=by
 induction h with
 | nil => exact .nil
 | cons r t ih => rw [List.reverse_cons,List.reverse_cons]; exact Vals.append ih (.cons r .nil)
theorem Vals.rep {xs:List V} {us:List Value} (h:Vals xs us):∀ k:Nat,Vals (List.replicate k xs).flatten (List.replicate k us).flatten
 | 0 => .nil
 | k+1 => by
  rw [List.replicate_succ,List.replicate_succ,List.flatten_cons,List.flatten_cons]
  exact Vals.append h (Vals.rep h k)
theorem erase_last {α:Type} (l:List α):l.eraseIdx (l.length - 1)=l.dropLast:=by
 induction l with
 | nil => rfl
 | cons a r ih =>
  cases r with
  | nil => rfl
  | cons b r =>
   have e:(a :: b :: r).length - 1=((b :: r).length - 1)+1:=by
    have h1:(a :: b :: r).length=r.length+2:=rfl
    have h2:(b :: r).length=r.length+1:=rfl
    trivial
   rw [e,List.eraseIdx_cons_succ,ih]
   all_goals rfl
theorem foldl_rep (its:List Value):∀ (k:Nat) (acc:List Value),
  List.foldl (fun x1 x2 => x1++x2) acc.toArray (List.replicate k its.toArray)=(acc++(List.replicate k its).flatten).toArray
 | 0,acc => by simp
 | k+1,acc => by
  have e:acc.toArray++its.toArray=(acc++its).toArray:=by simp
  have e2:(acc++its)++(List.replicate k its).flatten=acc++(List.replicate (k+1) its).flatten:=by
   rw [List.replicate_succ,List.flatten_cons,List.append_assoc]
  rw [← e2,← foldl_rep its k (acc++its),← e,List.replicate_succ,List.foldl_cons]
section
variable {X:Cx} {pins:List (Addr×Obj)} {σ:St} {H:Hp} {s:Shared} {l b:Addr} {xs ys zs:List V}
theorem Inv.lset {its its':List Value} {n:Nat} {f:Array Value -> Array Value} {t':Nat} (I:Inv X pins σ H s) (hH:H l=some (.lst xs))
  (e:s.heap.get? l=some { cls:=.type "list",data:=.seq its.toArray n }) (hf:f its.toArray=its'.toArray) (hv:Vals ys its') (hz:ys.length≤sizeLine) :
  Inv X pins σ (upd H l (.lst ys)) { s with heap:=s.heap.update l (Obj.mapSeq f),toks:=t' }:=by
 have q:=PySem.IsL.update e f
 rw [hf] at q
 refine I.write (x:=l) (e:=l) (by rw [hH]; exact trivial) (.inl rfl) (fun b' u hb hu => (Heap.get?_update_other s.heap (Obj.mapSeq f) (Ne.symm hb)).trans hu) ⟨_,q⟩ ?_
 exact ⟨hz,its',_,hv,q⟩
theorem Inv.lnew {its:List Value} {t':Nat} (I:Inv X pins σ H s) (hv:Vals ys its) (hz:ys.length≤sizeLine) :
  Inv X pins σ (upd H s.heap.objs.size (.lst ys)) { s with heap:=s.heap.push { cls:=.type "list",data:=.seq its.toArray },toks:=t' } :=
 I.laid (fun _ _ q => Heap.get?_push_of_some _ q) (Nat.le_refl _) ⟨hz,its,0,hv,Heap.get?_push_size _ rfl⟩
theorem Inv.fresh (I:Inv X pins σ H s):H s.heap.objs.size=none:=I.hok.fresh (Nat.le_refl _)
theorem Inv.lstM (I:Inv X pins σ H s) (hH:H l=some (.lst xs)):xs.length≤sizeLine∧∃ (its:List Value) (n:Nat),Vals xs its∧xs.length=its.length∧s.heap.get? l=some { cls:=.type "list",data:=.seq its.toArray n }:=by
 obtain ⟨z,its,n,r,e⟩:=I.hok l _ hH
 exact ⟨z,its,n,r,r.length,e⟩
theorem notLongL {n:Nat} (h:n≤sizeLine):Builtin.List.listTooLong n=false:=by
 unfold Builtin.List.listTooLong
 exact decide_eq_false (by trivial)
end
section
variable {X:Cx}
noncomputable def rAppend:V -> List V -> Hp -> VK -> Prop:=fun x vs H Q => ∃ l xs y,x=.ref l∧vs=[y]∧H l=some (.lst xs)∧xs.length < sizeLine∧Q .non (upd H l (.lst (xs++[y])))
theorem mt_append:MtM X "list.append" rAppend:=by
 intro pins s σ H x vs v us Q I rx rv h
 obtain ⟨l,xs,y,rfl,rfl,hH,hz,q⟩:=h
 cases rx
 obtain ⟨u,rfl,ru⟩:=rv.one
 obtain ⟨z,its,n,r,hl,e⟩:=I.lstM hH
 refine call_meets F.slot_list_append ⟨_,e,rfl⟩ F.entry_list_append (F.args_list_append_2 _ _) (PySem.list_append l its.toArray n u (by rw [List.size_toArray]; trivial)) ⟨e,?_⟩
 refine ⟨.non,_,I.lset (its':=its++[u]) hH e (by simp) (r.append (.cons ru .nil)) ?_,rfl,q⟩
 rw [List.length_append,List.length_singleton]
 trivial
noncomputable def rExtend:V -> List V -> Hp -> VK -> Prop:=fun x vs H Q => ∃ l b xs zs,x=.ref l∧vs=[.ref b]∧H l=some (.lst xs)∧H b=some (.lst zs)∧xs.length+zs.length≤sizeLine∧Q .non (upd H l (.lst (xs++zs)))
theorem mt_extend:MtM X "list.extend" rExtend:=by
 intro pins s σ H x vs v us Q I rx rv h
 obtain ⟨l,b,xs,zs,rfl,rfl,hH,hB,hz,q⟩:=h
 cases rx
 obtain ⟨u,rfl,ru⟩:=rv.one
 cases ru
 obtain ⟨z,its,n,r,hl,e⟩:=I.lstM hH
 obtain ⟨z2,its2,n2,r2,hl2,e2⟩:=I.lstM hB
 have hsz:its.toArray.size+its2.toArray.size≤sizeLine:=by rw [List.size_toArray,List.size_toArray]; trivial
 have hlong:¬ (!its.toArray.isEmpty && Builtin.List.listTooLong (its.toArray.size+its2.toArray.size))=true:=by
  rw [notLongL hsz,Bool.and_false]
  exact Bool.false_ne_true
 refine call_meets F.slot_list_extend ⟨_,e,rfl⟩ F.entry_list_extend (F.args_list_extend_2 _ _)
  (AutoSeq1.list_extend_list_list_0 l its.toArray n b its2.toArray n2 hlong (by rw [List.size_toArray]; trivial) (by trivial)) ⟨e,e2,?_⟩
 refine ⟨.non,_,I.lset (its':=its++its2) hH e (by simp) (r.append r2) ?_,rfl,q⟩
 rw [List.length_append]
 trivial
noncomputable def rPop:V -> List V -> Hp -> VK -> Prop:=fun x vs H Q => ∃ l xs y,x=.ref l∧vs=[]∧H l=some (.lst xs)∧xs[xs.length - 1]?=some y∧Q y (upd H l (.lst xs.dropLast))
theorem mt_pop:MtM X "list.pop" rPop:=by
 intro pins s σ H x vs v us Q I rx rv h
 obtain ⟨l,xs,y,rfl,rfl,hH,hy,q⟩:=h
 cases rx
 have hus:=rv.zero
 subst hus
 obtain ⟨z,its,n,r,hl,e⟩:=I.lstM hH
 obtain ⟨u,hu,ru⟩:=r.get hy
 have hy':its.toArray[its.toArray.size - 1]?=some u:=by
  show its.toArray[its.length - 1]?=some u
  rw [← Array.getElem?_toList,← hl]
  exact hu
 refine call_meets F.slot_list_pop ⟨_,e,rfl⟩ F.entry_list_pop (F.args_list_pop_1 _) (MeetsSeq.list_pop_last l its.toArray n u hy' (by rw [List.size_toArray]; trivial)) ⟨e,?_⟩
 refine ⟨y,_,I.lset (its':=its.dropLast) hH e ?_ r.dropLast ?_,ru,q⟩
 ·show its.toArray.eraseIdxIfInBounds (its.toArray.size - 1)=its.dropLast.toArray
  rw [List.size_toArray,List.eraseIdxIfInBounds_toArray,erase_last]
 ·rw [List.length_dropLast]
  trivial
noncomputable def rReverse:V -> List V -> Hp -> VK -> Prop:=fun x vs H Q => ∃ l xs,x=.ref l∧vs=[]∧H l=some (.lst xs)∧Q .non (upd H l (.lst xs.reverse))
theorem mt_reverse:MtM X "list.reverse" rReverse:=by
 intro pins s σ H x vs v us Q I rx rv h
 obtain ⟨l,xs,rfl,rfl,hH,q⟩:=h
 cases rx
 have hus:=rv.zero
 subst hus
 obtain ⟨z,its,n,r,hl,e⟩:=I.lstM hH
 refine call_meets F.slot_list_reverse ⟨_,e,rfl⟩ F.entry_list_reverse (F.args_list_reverse_1 _) (AutoSeq1.list_reverse_list_0 l its.toArray n (by rw [List.size_toArray]; trivial)) ⟨e,?_⟩
 refine ⟨.non,_,I.lset (its':=its.reverse) hH e (by simp) r.reverse ?_,rfl,q⟩
 rw [List.length_reverse]
 trivial
noncomputable def rCat:R2:=fun x y H Q => ∃ l b xs zs,x=.ref l∧y=.ref b∧H l=some (.lst xs)∧H b=some (.lst zs)∧xs.length+zs.length≤sizeLine∧∀ p,H p=none -> Q (.ref p) (upd H p (.lst (xs++zs)))
theorem op_cat:OpR X (binaryOp .Add) rCat:=by
 intro pins s σ H x y v u Q I rx ry h
 obtain ⟨l,b,xs,zs,rfl,rfl,hH,hB,hz,q⟩:=h
 cases rx
 cases ry
 obtain ⟨z,its,n,r,hl,e⟩:=I.lstM hH
 obtain ⟨z2,its2,n2,r2,hl2,e2⟩:=I.lstM hB
 refine PySem.P.add_list e e2 ?_ (by rw [List.size_toArray,List.size_toArray]; trivial)
 have ea:its.toArray++its2.toArray=(its++its2).toArray:=by simp
 rw [ea]
 exact ⟨.ref _,_,I.lnew (t':=s.toks) (r.append r2) (by rw [List.length_append]; trivial),rfl,q _ I.fresh⟩
noncomputable def rRep:R2:=fun x y H Q => ∃ l k xs,x=.ref l∧y=.int k∧H l=some (.lst xs)∧-(2 ^ 63)≤k∧k < 2 ^ 63∧xs.length * k.toNat≤sizeLine ∧
 ∀ p,H p=none -> Q (.ref p) (upd H p (.lst (List.replicate k.toNat xs).flatten))
theorem len_rep {α:Type} (xs:List α) (k:Nat):(List.replicate k xs).flatten.length=k * xs.length:=by
 induction k with
 | zero => simp
 | succ k ih => rw [List.replicate_succ,List.flatten_cons,List.length_append,ih,Nat.succ_mul,Nat.add_comm]
theorem op_rep:OpR X (binaryOp .Mult) rRep:=by
 intro pins s σ H x y v u Q I rx ry h
 obtain ⟨l,k,xs,rfl,rfl,hH,h1,h2,hz,q⟩:=h
 cases rx
 obtain ⟨t,rfl⟩:=ry
 obtain ⟨z,its,n,r,hl,e⟩:=I.lstM hH
 have hlen:its.toArray.size * k.toNat≤sizeLine:=by rw [List.size_toArray,← hl]; exact hz
 have hcap:¬ its.toArray.size * k.toNat > (2 ^ 63 - 1) / 8:=by
  have:(sizeLine:Nat)≤(2 ^ 63 - 1) / 8:=by decide
  trivial
 have hfit:¬ (!Builtin.List.listFitsIndex k)=true:=by
  rw [fitsIndex_both h1 h2]
  exact Bool.false_ne_true
 have hlong:¬ Builtin.List.listTooLong (its.toArray.size * k.toNat)=true:=by
  rw [notLongL hlen]
  exact Bool.false_ne_true
 have hnew:List.foldl (fun x1 x2 => x1++x2) #[] (List.replicate (if its.toArray.isEmpty=true then 0 else k.toNat) its.toArray)=(List.replicate k.toNat its).flatten.toArray:=by
  have f0:∀ m:Nat,List.foldl (fun x1 x2 => x1++x2) #[] (List.replicate m its.toArray)=(List.replicate m its).flatten.toArray:=fun m => by
   have:=foldl_rep its m []
   rw [List.nil_append] at this
   exact this
  rw [f0]
  cases its with
  | nil => simp
  | cons a r' => rw [if_neg (by simp)]
 refine wpAny_binaryOp_repeat_ref (T:="list") (U:="int") (by decide) ⟨_,e,rfl⟩ (fun s' => typeIs_int s' k t) noFill_list_mul F.fills_int_mul F.slot_int_rmul repeat_list F.slot_int_index.lookup
  (call_meets F.slot_int_rmul (typeIs_int s k t) F.entry_int_rmul (F.args_int_rmul_2 _ _) (int___rmul___int_list k t l its.toArray n)
   ⟨e,rfl,⟨_,e,rfl⟩,call_meets F.slot_list_mul ⟨_,e,rfl⟩ F.entry_list_mul (F.args_list_mul_2 _ _) (AutoListH.list___mul___list_int_3 l its.toArray n k t hfit hcap hlong) ⟨e,?_⟩⟩)
 rw [hnew]
 exact ⟨.ref _,_,I.lnew (t':=s.toks) (r.rep k.toNat) (by rw [len_rep,Nat.mul_comm]; exact hz),rfl,q _ I.fresh⟩
end
section
variable {prog:Program} {w:World} {A:Around} {E:Value -> Shared -> Prop} {s:Shared}
theorem bounds_run {a c n:Nat} (hac:a≤c) (hc:c≤n):sliceBounds (some (a:Int)) (some (c:Int)) none n=((a:Int),(c:Int),1):=by
 simp only [sliceBounds,Option.getD_none]
 have h1:¬ ((a:Int) < 0):=by trivial
 have h2:¬ ((c:Int) < 0):=by trivial
 simp only [h1,h2,if_false,show (1:Int) > 0 by decide,if_true]
 congr 1
 ·trivial
 ·congr 1; trivial
set_option maxRecDepth 100000 in
theorem setItem_slice {l b sl : Addr} {items new : Array Value} {n n2 : Nat} {vl vu : Value} {a c : Nat} {Q : Unit → Shared → Prop}
    (e : s.heap.get? l=some { cls := .type "list",data := .seq items n }) (e2 : s.heap.get? b=some { cls := .type "list",data := .seq new n2 }) (hne : l≠b)
    (hs : s.heap.IsSliceOf sl vl vu .none) (pl : IsPart vl (some (a : Int))) (pu : IsPart vu (some (c : Int))) (hac : a≤c) (hc : c≤items.size)
    (hsz : items.size+new.size≤sizeLine) (h : Q () { s with heap := s.heap.update l (Obj.mapSeq fun xs => xs.extract 0 a++new++xs.extract c xs.size) }) :
    wpAny (model prog w) A (setItem (.ref l) (.ref sl) (.ref b)) Q E s := by
  have hl : s.heap.IsList l items := PySem.IsL.isList e
  have hb : s.heap.IsList b new := PySem.IsL.isList e2
  obtain ⟨os,hos,hcs,hds⟩ := id hs
  have hTs : s.TypeIs (.ref sl) "slice" := ⟨os,hos,hcs⟩
  have hstep : ¬ ((rawPart none == rawInt 0)=true) := Bool.false_ne_true
  have hsame : Builtin.List.listSameRef (.ref l) (.ref b)=false := by
    unfold Builtin.List.listSameRef
    exact beq_eq_false_iff_ne.mpr hne
  have hmax : (max (a : Int) (c : Int)).toNat=c := by trivial
  have hz' : ((fun xs : Array Value => xs.extract 0 a++new++xs.extract c xs.size) items).size≤sizeLine+1 := by
    simp only [Array.size_append,Array.size_extract]
    trivial
  unfold setItem
  try with_reducible refine wpAny_holding ?_
  first | refine wpAny_bind (wpAny_pure ?_) | skip
  refine wpAny_bind (wpAny_sequenceKey hl.typeIs (by decide) ?_)
  refine wpAny_bind (wpAny_callSpecial?_slot (name := Str.ofString "__setitem__") hl.typeIs slot_list_setitem
    (wpAny_call_entry slot_list_setitem hl.typeIs entry_list_setitem ?_ (args_list_setitem _ _ _)))
  show wpAny _ _ (Builtin.List.listSubscript? (.ref sl) >>= _) _ _ s
  refine wpAny_bind ?_
  unfold Builtin.List.listSubscript?
  refine wpAny_bind (wpAny_specialOf hTs slice_no_index ?_)
  simp only [Option.isNone_none,if_true]
  refine wpAny_pure ?_
  show wpAny _ _ (typeOf (.ref sl) >>= _) _ _ s
  refine wpAny_bind (wpAny_typeOf hTs ?_)
  first
    | rw [if_neg (by decide)]
    | refine PySem.W.KFB.if_not (by decide) ?_
  rw [listSliceParts_eq]
  refine wpAny_bind (wpAny_bind (wpAny_field hos hds (x := .none) rfl (wpAny_bind (wpAny_listPart .none ?_))))
  rw [if_neg hstep]
  refine wpAny_bind (wpAny_field hos hds (x := vl) rfl (wpAny_bind (wpAny_listPart pl ?_)))
  refine wpAny_bind (wpAny_field hos hds (x := vu) rfl (wpAny_bind (wpAny_listPart pu (wpAny_pure ?_))))
  first
    | simp only [hsame,Bool.false_eq_true,if_false]
    | refine PySem.W.KFB.if_not hsame ?_
    | (dsimp only
       rw [if_neg (by rw [hsame]; exact Bool.false_ne_true)])
  refine wpAny_bind (m := Builtin.List.listAllItems (.ref b) "must assign iterable to extended slice") ?_
  unfold Builtin.List.listAllItems
  refine wpAny_bind (wpAny_typeOf hb.typeIs ?_)
  first
    | refine PySem.W.KFB.if_so (by decide) ?_
    | rw [if_pos (by decide)]
    | simp only [beq_self_eq_true,Bool.true_or,if_true]
  unfold Builtin.List.listItems
  refine wpAny_bind (wpAny_seqItems e2 rfl (wpAny_pure ?_))
  refine wpAny_bind (wpAny_bind (wpAny_seqItems e rfl (wpAny_pure ?_)))
  refine wpAny_bind (wpAny_of_eq ((sliceIndices_raw (some (a : Int)) (some (c : Int)) none items.size (by simp)).trans (congrArg (pure : Int×Int×Int → Sem (Int×Int×Int)) (bounds_run hac hc))) ?_)
  show wpAny _ _ (if ((1 : Int) == 1)=true then _ else _) _ _ s
  rw [if_pos (by decide)]
  refine wpAny_bind (wpAny_rule ?_)
  first
    | simp only [notLongL hsz,Bool.false_eq_true,if_false]
    | refine PySem.W.KFB.if_not (notLongL hsz) ?_
  first | refine wpAny_bind (wpAny_pure ?_) | skip
  show wpAny _ _ (updateSeq l (fun xs => xs.extract 0 ((a : Int)).toNat++new++xs.extract (max (a : Int) (c : Int)).toNat xs.size) >>= _) _ _ s
  rw [hmax,Int.toNat_natCast]
  refine wpAny_bind (wpAny_updateSeq (hz := Nat.le_trans (Nat.le_add_right _ _) hsz) (_hz' := hz') e rfl ?_)
  refine wpAny_bind (wpAny_letGo ?_)
  first
    | exact wpAny_bind (wpAny_pure (wpAny_pure ⟨.none,rfl,wpAny_pure h⟩))
    | exact wpAny_pure ⟨.none,rfl,wpAny_pure h⟩
end
end L2
namespace Att
open PySem PySem.W PySem.Calls PyProof.Rows
theorem ints_of_wellAll {P:Params} {h:Heap}:∀ (ns:List Int) (vs:List Value),WellAll P h vs (ns.map WData.int) -> IntsAre vs ns:=by
 intro ns
 induction ns with
 | nil =>
  intro vs w
  rw [List.map_nil] at w
  cases w
  exact .nil
 | cons n ns ih =>
  intro vs w
  rw [List.map_cons] at w
  cases w with
  | cons a b =>
   cases a
   exact .cons _ _ (ih _ b)
theorem script_of {l:OpenLaw} {n:Nat} (hn:l.most=some n) {P:Params} {h:Heap} {args:List WData} {vals:List Value}
  (hpre:l.row.toRowW.claim.pre args=true) (hwl:WellAll P h vals args) :
  ∃ a vs ns,vals=[Value.ref a]∧args=[WData.list (ns.map WData.int)]∧h.get? a=some { cls:=.type "list",data:=.seq vs.toArray }∧IntsAre vs ns∧ns.length≤n:=by
 have hsh:WShape.hasAll [] args [.list .int]=true:=(pre_splitW hpre).1
 have hc:l.pre.holds [] { args:=args }=true:=(pre_splitW hpre).2
 obtain ⟨d,r,rfl,h1,h2⟩:=hasAllW_cons hsh
 obtain rfl:=hasAllW_nil h2
 obtain ⟨xs,rfl,h3⟩:=hasW_list h1
 obtain ⟨ns,rfl⟩:=items_int h3
 have hlen:ns.length≤n:=by
  unfold OpenLaw.pre at hc
  have h4:(WTm.not (.lt (.lit (.int (n:Int))) (.len (.arg 0)))).holds [] { args:=[.list (ns.map .int)] }=true:=by
   have h4:=(holds_andW hc).1
   rw [hn] at h4
   exact h4
  have h5:=condW_of h4 (w_not (w_lt w_lit (w_len_list (w_arg rfl))))
  rw [List.length_map] at h5
  refine Nat.le_of_not_lt fun q => ?_
  have q':(n:Int) < ((ns.length:Nat):Int):=by trivial
  first
   | (rw [decide_eq_true q'] at h5; exact absurd h5 (by decide))
   | (simp at h5; trivial)
 cases hwl with
 | cons w1 w2 =>
  cases w2
  cases w1 with
  | list ho hall => exact ⟨_,_,ns,rfl,rfl,ho,ints_of_wellAll ns _ hall,hlen⟩
theorem post_true (l:OpenLaw) (args:List WData):l.row.toRowW.claim.post args (.bool true) args=true :=
 postW_of (r:=l.row.toRowW) (X:=(true == true))
  (show WShape.has [] (.bool true) .bool=true by first | rfl | decide | simp [WShape.has,WShape.arms,WShape.armsAll])
  (show (WTm.eq .res (.lit (.bool true))).value [] { args:=args,res:=some (.bool true),after:=args }=some (.bool (true == true)) from w_eq_bool (w_res rfl) w_lit) rfl
theorem attach_call {l:OpenLaw} {n:Nat} {q:Program} {loose:List Str} {XP:(Str -> Option Value) -> Heap -> Prop} {YP:World -> Heap -> Prop} {d:DefRec}
  (hn:l.most=some n) (hdf:d.params.defaults=[])
  (call:∀ (w:World) (s₀ s₁:Shared) (mg mb:Str -> Option Value) (fa:Addr) (o:Obj) (pm cd doc:Value) (a:Addr) (vs:List Value) (ns:List Int),
   Ground q loose [] XP w s₀ mg mb s₁.heap -> YP w s₁.heap →
   s₁.heap.get? fa=some o -> o.data=.func (docDef d.name d.params d.body d.scope pm cd doc) -> s₁.heap.CodeRec cd d.name -> mg d.name=some (.ref fa) →
   s₁.heap.get? a=some { cls:=.type "list",data:=.seq vs.toArray } -> IntsAre vs ns -> ns.length≤n -> s₁.gens=#[] →
   codeAny (model l.prog w) callerA (.call (.ref fa) ⟨[.ref a],[]⟩) (fun r s' => r=.ok (.ret (.bool true))∧OldK s₁.heap s'.heap∧s'.os=s₁.os∧AllBare s'.gens) s₁) :
  WalkO q loose XP YP l.row.toRowW d [] (fun f vs => PySem.call f vs):=by
 intro w s₀ s₁ mg mb G Y fa o pm cd doc dV kV ho hd hcd hD hmg hg args vals as hpre hlay hrd hwl hlo
 obtain rfl:dV=.none:=Dflts.none hD hdf
 obtain rfl:kV=.none:=Dflts.noKw hD
 obtain ⟨a,vs,ns,rfl,rfl,hobj,hints,hlen⟩:=script_of hn hpre hwl
 refine enter_call (codeAny_mono (call w s₀ s₁ mg mb fa o pm cd doc a vs ns G Y ho (fd_plain hd) hcd hmg hobj hints hlen hg) fun r s' hq => ?_)
 obtain ⟨rfl,h2,h3,h4⟩:=hq
 exact ⟨.inl ⟨.bool true,.bool true,[],rfl,fun _ => rfl,.bool true,post_true l _,fun _ => ⟨List.Pairwise.nil,fun _ hm => (nomatch hm)⟩⟩,h2,h3,h4⟩
end Att
namespace L2
open PySem PySem.Spec PyProof.Rows
theorem vals_ints:∀ {vs:List Value} {ns:List Int},IntsAre vs ns -> Vals (ns.map V.int) vs
 | _,_,.nil => .nil
 | _,_,.cons n t h => .cons ⟨t,rfl⟩ (vals_ints h)
noncomputable abbrev KOf {K:PySem.W.Frag} {h:Heap} (_:K.In h):PySem.W.Frag:=K
noncomputable def defArgs (s:Stmt):Arguments:=match s with
 | .FunctionDef _ a _ _ _ _ _ _ _ _ => a
 | _ => { posonlyargs:=[],args:=[],vararg:=none,kwonlyargs:=[],kw_defaults:=[],kwarg:=none,defaults:=[] }
noncomputable def defBody (s:Stmt):List Stmt:=match s with
 | .FunctionDef _ _ b _ _ _ _ _ _ _ => b
 | _ => []
noncomputable def defScope (s:Stmt):Scope:=match s with
 | .FunctionDef _ _ _ _ _ _ sc _ _ _ => sc
 | _ => { kind:=.function,names:=[],isGenerator:=false,isCoroutine:=false }
noncomputable abbrev CX0:CXT:=fun _ _ _ _ _ _ => False
noncomputable abbrev E0:XK:=fun _ _ _ => False
structure Fun (K:PySem.W.Frag) (x qual:Str) (st:Stmt) (f:Addr) (fd:FuncData):Prop where
 ex:∃ (oc:Value) (od:Option Addr) (kV doc pm:Value) (an:Option Addr) (cdv ct:Value) (osl:Array (Option Value)),
  fd=PySem.W.fnOf x qual (defArgs st) (defBody st) (defScope st) .none kV doc pm an cdv ct∧K.lookup f=some ⟨oc,od,.func fd,osl⟩∧PySem.W.codeIn K cdv qual=true
 kp:PySem.W.keepIn K (.ref f)=true
section
variable {P:Program} {w:World} {K:PySem.W.Frag} {mg:Str -> Option Value} {base:Heap}
theorem Fun.ok {x qual:Str} {st:Stmt} {f:Addr} {fd:FuncData} {N ps:List Str} {k:Nat} {sp:Sp} (F:Fun K x qual st f fd) (S:FnScope N ps (defScope st)) (len:∀ vs H Q E,sp vs H Q E -> vs.length=ps.length)
  (hbody:∀ (cdv:Value) (A:Around) (outer:List Env) (s:Shared) (H:Hp) (vs:List V) (Q:VK) (E:XK),Room k (A.deeper (envOfC qual (defScope st) s.heap.objs.size f cdv)) -> sp vs H Q E →
   ∃ t,PSs (cxOf CX0 P w K mg base N qual (defScope st) f cdv A outer s H E).nox (defBody st) t∧t { nx:=fun _ H' => Q .non H',rt:=Q } (start N vs) H):FnOk P w K mg base CX0 (k+1) f fd ps sp:=by
 obtain ⟨oc,od,kV,doc,pm,an,cdv,ct,osl,rfl,lk,hcd⟩:=F.ex
 refine fn_of lk hcd S len fun A outer s H vs Q E hr hsp => ?_
 obtain ⟨t,h,q⟩:=hbody cdv A outer s H vs Q E hr hsp
 exact ⟨t,h.nox,q⟩
theorem Fun.binds {x qual:Str} {st:Stmt} {f:Addr} {fd:FuncData} {ps:List Str} (F:Fun K x qual st f fd)
  (h:∀ (kV doc pm:Value) (an:Option Addr) (cdv ct:Value) (us:List Value),us.length=ps.length -> bindArgs (PySem.W.fnOf x qual (defArgs st) (defBody st) (defScope st) .none kV doc pm an cdv ct) ⟨us,[]⟩=pure (ps.zip us)):Binds K fd ps []:=by
 obtain ⟨oc,od,kV,doc,pm,an,cdv,ct,osl,rfl,lk,hcd⟩:=F.ex
 exact .all (h kV doc pm an cdv ct)
theorem fun_mk {x qual:Str} {st:Stmt} {f:Addr} {oc:Value} {od an:Option Addr} {osl:Array (Option Value)} {kV doc pm cdv ct:Value} (l:K.lookup f=some ⟨oc,od,.func (PySem.W.fnOf x qual (defArgs st) (defBody st) (defScope st) .none kV doc pm an cdv ct),osl⟩)
  (c:PySem.W.codeIn K cdv qual=true) (k:PySem.W.keepIn K (.ref f)=true):Fun K x qual st f (PySem.W.fnOf x qual (defArgs st) (defBody st) (defScope st) .none kV doc pm an cdv ct):=⟨⟨oc,od,kV,doc,pm,an,cdv,ct,osl,rfl,l,c⟩,k⟩
end
theorem hu_of {A:Around} {k:Nat} (hr:Room k A):A.units+1 < cLine:=Nat.lt_of_le_of_lt (Nat.add_le_add_left (by decide:1≤64) _) hr.units
theorem small1000 {n:Nat} (h:n≤1000):n < sizeLine:=Nat.lt_of_le_of_lt h (by decide)
section
variable {X:Cx}
theorem pv (i:Nat) {x:Str} {pos:Pos} (hN:X.N[i]?=some x:=by rfl) (hv:Vis X.env.scope x:=by first | exact Or.inl rfl | exact Or.inr (Or.inl rfl) | exact Or.inr (Or.inr rfl)) (hd:(x == ("__debug__":Str))=false:=by decide)
  (hcd:(x == ("__classdict__":Str))=false:=by decide):PE X (.Name x pos) (tVar i):=pe_var hN hv hd hcd
end
theorem iteF {A B:Prop} (h:B):if false=true then A else B:=by
 rw [if_neg Bool.false_ne_true]
 exact h
theorem iteT {A B:Prop} (h:A):if true=true then A else B:=by
 rw [if_pos rfl]
 exact h
theorem ite2 {c A B:Prop} [Decidable c] (h1:c -> A) (h2:¬ c -> B):if c then A else B:=by
 by_cases h:c
 ·rw [if_pos h]
  exact h1 h
 ·rw [if_neg h]
  exact h2 h
noncomputable def Same (H H':Hp):Prop:=∀ b o,H b=some o -> H' b=some o
theorem Same.refl (H:Hp):Same H H:=fun _ _ h => h
theorem Same.trans {H H1 H2:Hp} (a:Same H H1) (b:Same H1 H2):Same H H2:=fun c o h => b c o (a c o h)
theorem Same.free {H H':Hp} (e:Same H H') {l:Addr} (h:H' l=Option.none):H l=Option.none:=by
 cases q:H l with
 | none => rfl
 | some o =>
  rw [e l o q] at h
  cases h
theorem Same.seq {K:PySem.W.Frag} {H H':Hp} {a:Addr} {xs:List V} (e:Same H H') (h:SqL K H a xs):SqL K H' a xs:=by
 rcases h with (h | ⟨o,h⟩) | h
 ·exact .inl (.inl (e _ _ h))
 ·exact .inl (.inr ⟨o,e _ _ h⟩)
 ·exact .inr h
noncomputable def clos (cells:List (Str×Addr)):List (Str×NameKind) -> List (Str×Addr) -> List (Str×Addr)
 | [],cs => cs
 | (n,k) :: r,cs => if (k == NameKind.free)=true then (match cells.lookup n with | some c => clos cells r ((n,c) :: cs) | none => clos cells r cs) else clos cells r cs
theorem clos_for {env:Env}:∀ (l:List (Str×NameKind)) (cs:List (Str×Addr)),(∀ x∈l,x.2=.free -> ∃ c,env.cells.lookup x.1=some c) →
  (forIn (m:=Sem) l cs fun x r => match x with
   | (name,kind) => if (kind == NameKind.free)=true then do let c ← cellOf env name; pure (ForInStep.yield ((name,c) :: r)) else pure (ForInStep.yield r))=pure (clos env.cells l cs)
 | [],cs,_ => by rfl
 | (n,k) :: r,cs,h => by
  have ih:=fun cs => clos_for r cs fun x hx => h x (List.mem_cons_of_mem _ hx)
  rw [List.forIn_cons]
  unfold clos
  by_cases hk:(k == NameKind.free)=true
  ·obtain ⟨c,hc⟩:=h (n,k) List.mem_cons_self (by simpa using hk)
   have hc':env.cells.lookup n=some c:=hc
   simp only [hk,if_true,hc']
   have e:cellOf env n=pure c:=by unfold cellOf; rw [hc']
   rw [e]
   simp only [pure_bind]
   exact ih _
  ·have hk':(k == NameKind.free)=false:=by simpa using hk
   simp only [hk',Bool.false_eq_true,if_false,pure_bind]
   exact ih _
theorem clos_eq {scope:Scope} {env:Env} (h:∀ x∈scope.names,x.2=.free -> ∃ c,env.cells.lookup x.1=some c):closureFor scope env=pure (clos env.cells scope.names []):=by
 unfold closureFor
 have:=clos_for (env:=env) scope.names [] h
 simp only [this,pure_bind]
theorem clos_sub {cells:List (Str×Addr)} {x:Str} {c:Addr}:∀ (l:List (Str×NameKind)) (cs:List (Str×Addr)),(∀ y d,cs.lookup y=some d -> cells.lookup y=some d) -> (clos cells l cs).lookup x=some c -> cells.lookup x=some c
 | [],cs,h,e => h x c e
 | (n,k) :: r,cs,h,e => by
  unfold clos at e
  split at e
  ·split at e
   ·rename_i d hd
    refine clos_sub r _ (fun y z q => ?_) e
    rw [List.lookup_cons] at q
    split at q
    ·rename_i hy
     cases q
     rw [eq_of_beq hy]; exact hd
    ·exact h y z q
   ·exact clos_sub r cs h e
  ·exact clos_sub r cs h e
theorem clos_keep {cells:List (Str×Addr)} {x:Str}:∀ (l:List (Str×NameKind)) (cs:List (Str×Addr)),(∃ c,cs.lookup x=some c) -> ∃ c,(clos cells l cs).lookup x=some c
 | [],cs,h => h
 | (n,k) :: r,cs,h => by
  unfold clos
  split
  ·split
   ·refine clos_keep r _ ?_
    rw [List.lookup_cons]
    split
    ·exact ⟨_,rfl⟩
    ·exact h
   ·exact clos_keep r cs h
  ·exact clos_keep r cs h
theorem clos_has {cells:List (Str×Addr)} {x:Str}:∀ (l:List (Str×NameKind)) (cs:List (Str×Addr)),(x,NameKind.free)∈l -> (∃ c,cells.lookup x=some c) -> ∃ c,(clos cells l cs).lookup x=some c
 | [],_,h,_ => nomatch h
 | (n,k) :: r,cs,h,⟨c,hc⟩ => by
  unfold clos
  rcases List.mem_cons.mp h with e | h
  ·cases e
   rw [if_pos (by rfl),hc]
   refine clos_keep r _ ⟨c,?_⟩
   simp [List.lookup_cons]
  ·split
   ·split
    ·exact clos_has r _ h ⟨c,hc⟩
    ·exact clos_has r _ h ⟨c,hc⟩
   ·exact clos_has r _ h ⟨c,hc⟩
theorem relabel_free {env:Env}:∀ {names:List (Str×NameKind)} {x:Str},names.lookup x=some .free →
  (names.map fun (n,k) => if (k == NameKind.free && env.scope.kind == .function && env.kindOf n == some .cell) then (n,NameKind.cell) else (n,k)).lookup x=some .cell ∨
  (names.map fun (n,k) => if (k == NameKind.free && env.scope.kind == .function && env.kindOf n == some .cell) then (n,NameKind.cell) else (n,k)).lookup x=some .free
 | [],_,h => by simp at h
 | (n,k) :: r,x,h => by
  have ih:=@relabel_free env r x
  by_cases hc:(k == NameKind.free && env.scope.kind == .function && env.kindOf n == some .cell)=true
  ·simp only [List.map_cons,if_pos hc,List.lookup_cons]
   cases hx:x == n with
   | true => exact .inl rfl
   | false =>
    simp only [List.lookup_cons,hx] at h
    exact ih h
  ·simp only [List.map_cons,if_neg hc,List.lookup_cons]
   cases hx:x == n with
   | true =>
    simp only [List.lookup_cons,hx] at h
    cases h
    exact .inr rfl
   | false =>
    simp only [List.lookup_cons,hx] at h
    exact ih h
theorem relabel_back {env:Env}:∀ {names:List (Str×NameKind)} {x:Str},(∀ y∈names,y.2≠.cell) →
  ((names.map fun (n,k) => if (k == NameKind.free && env.scope.kind == .function && env.kindOf n == some .cell) then (n,NameKind.cell) else (n,k)).lookup x=some .cell ∨
  (names.map fun (n,k) => if (k == NameKind.free && env.scope.kind == .function && env.kindOf n == some .cell) then (n,NameKind.cell) else (n,k)).lookup x=some .free) -> (x,NameKind.free)∈names
 | [],_,_,h => by simp at h
 | (n,k) :: r,x,hn,h => by
  have ih:=@relabel_back env r x fun y hy => hn y (List.mem_cons_of_mem _ hy)
  by_cases hc:(k == NameKind.free && env.scope.kind == .function && env.kindOf n == some .cell)=true
  ·simp only [List.map_cons,if_pos hc,List.lookup_cons] at h
   have hk:k=.free:=by
    simp only [Bool.and_eq_true] at hc
    exact eq_of_beq hc.1.1
   cases hx:x == n with
   | true => rw [eq_of_beq hx,hk]; exact List.mem_cons_self
   | false =>
    simp only [hx] at h
    exact List.mem_cons_of_mem _ (ih h)
  ·simp only [List.map_cons,if_neg hc,List.lookup_cons] at h
   cases hx:x == n with
   | true =>
    simp only [hx] at h
    rcases h with h | h
    ·have e:k=.cell:=Option.some.inj h
     exact absurd e (hn (n,k) List.mem_cons_self)
    ·have e:k=.free:=Option.some.inj h
     rw [eq_of_beq hx,e]; exact List.mem_cons_self
   | false =>
    simp only [hx] at h
    exact List.mem_cons_of_mem _ (ih h)
noncomputable def compCx (X:Cx) (N:List Str) (scope:Scope) (C:Addr) (s:Shared) (H:Hp) (fp:List Addr):Cx where
 prog:=X.prog
 w:=X.w
 K:=X.K
 mg:=X.mg
 base:=X.base
 A:=X.A
 N:=N
 s₀:=s
 H₀:=H
 env:=compEnvC scope (clos X.env.cells scope.names []) C X.env
 outer:=X.stack
 stack:=X.stack
 ex:=fp
 fn:=fun _ => false
 calm:=X.calm
 pn:=[]
 xe:=fun _ _ => False
structure CompScope (X:Cx) (N:List Str) (js:List (Option Nat)) (scope:Scope):Prop where
 kind:scope.kind=.function
 nocell:∀ y∈scope.names,y.2≠.cell
 locs:∀ y∈scope.names,y.2=.local -> scope.names.lookup y.1=some .local
 free:∀ y∈scope.names,y.2=.free -> X.env.kindOf y.1=some .cell∨X.env.kindOf y.1=some .free
 len:js.length=N.length
 js:∀ (i j:Nat) (x:Str),js[i]?=some (some j) -> N[i]?=some x -> X.N[j]?=some x∧scope.names.lookup x=some .free
noncomputable def innerSt (js:List (Option Nat)) (σ:St):St:=js.map fun j => (j.bind fun j => σ[j]?).join
section
variable {X:Cx} {pins:List (Addr×Obj)} {σ:St} {H:Hp} {s:Shared} {N:List Str} {js:List (Option Nat)} {scope:Scope} {fp:List Addr} {C D:Addr} {h₁:Heap} {m:Str -> Option Value} {tk:Nat}
theorem lookup_mem {α β:Type} [BEq α] [LawfulBEq α] {x:α} {y:β}:∀ {l:List (α×β)},l.lookup x=some y -> (x,y)∈l
 | [],h => by simp at h
 | (a,b) :: r,h => by
  rw [List.lookup_cons] at h
  split at h
  ·rename_i hx
   cases h
   rw [eq_of_beq hx]; exact List.mem_cons_self
  ·exact List.mem_cons_of_mem _ (lookup_mem h)
theorem inv_comp (S:CompScope X N js scope) (I:Inv X pins σ H s) (f2:∀ b∈fp,FpOk X pins H b) (hfp:∀ b∈fp,b < s.heap.objs.size) (keep:∀ b o,s.heap.get? b=some o -> h₁.get? b=some o)
  (hD0:s.heap.objs.size≤D) (hC0:s.heap.objs.size≤C) (hDC:D≠C) (hD:∃ n,h₁.get? D=some { cls:=.type "list",data:=.seq ([]:List Value).toArray n }) (hns:h₁.Ns C m) :
  Inv (compCx X N scope C s H fp) [] (innerSt js σ) (upd H D (.lst [])) { s with heap:=h₁,toks:=tk }:=by
 have hc:∀ x∈scope.names,x.2=.free -> ∃ c,X.env.cells.lookup x.1=some c:=fun x hx e => I.ok.has _ (S.free x hx e)
 have sub:∀ x c,(clos X.env.cells scope.names []).lookup x=some c -> X.env.cells.lookup x=some c:=fun x c e => clos_sub _ _ (fun _ _ z => by simp at z) e
 have clt:∀ x c,X.env.cells.lookup x=some c -> c < s.heap.objs.size:=fun x c e => by obtain ⟨v,q⟩:=I.cell x c e; exact q.lt
 have hasF:∀ x,(x,NameKind.free)∈scope.names -> ∃ c,(clos X.env.cells scope.names []).lookup x=some c:=fun x hx => clos_has _ _ hx (hc (x,.free) hx rfl)
 have fD:H D=none:=I.hok.fresh hD0
 have fC:H C=none:=I.hok.fresh hC0
 refine ⟨⟨I.ok.mod,S.kind,I.ok.glob,I.ok.blt,hC0,fun x y c h1 h2 => I.ok.inj x y c (sub _ _ h1) (sub _ _ h2),fun x hx => ?_,fun x c h _ => (Bool.noConfusion h),I.ok.hd,I.ok.frames,.inl rfl,fun b hb => ⟨?_,fun x c e => (f2 b hb).2.2.2.2.1 x c (sub _ _ e)⟩,I.bs,
   Nat.le_trans I.ok.bsz I.sz,fun b o e hb => ?_,fun b hb z => ?_,I.stack,I.stkFree⟩,
  rfl,I.bare,Un.laid keep hD0 fD,⟨m,hns,fun i x v h1 h2 h3 => ?_⟩,fun x c e => ?_,?_,fun x c e => ?_,fun p hp => absurd hp (by simp [compCx]),I.hok.laid keep hD0 ?_,?_⟩
 ·exact hasF x (relabel_back S.nocell hx)
 ·exact Nat.ne_of_lt (Nat.lt_of_lt_of_le (hfp b hb) hC0)
 ·rcases (f2 b hb).2.2.2.1 with q | q
  ·exact I.ok.noex b o e q
  ·exact absurd (Nat.lt_of_lt_of_le (Heap.lt_size e) (Nat.le_trans I.ok.bsz q)) (Nat.lt_irrefl _)
 ·rcases List.mem_cons.mp (I.stkSub b z) with q | q
  ·exact (f2 b hb).2.1 q
  ·exact (f2 b hb).2.2.1 q
 ·have h2':(js[i]?.map fun j => (j.bind fun j => σ[j]?).join)=some (some v):=by rw [← List.getElem?_map]; exact h2
  cases ej:js[i]? with
  | none => rw [ej] at h2'; cases h2'
  | some j =>
   rw [ej] at h2'
   cases j with
   | none => simp at h2'
   | some j =>
    have e2:σ[j]?=some (some v):=by
     simp only [Option.map_some,Option.bind_some,Option.some.injEq] at h2'
     cases q:σ[j]? with
     | none => rw [q] at h2'; simp at h2'
     | some z => rw [q] at h2'; simp at h2'; rw [h2']
    obtain ⟨n1,n2⟩:=S.js i j x ej h1
    have hx:=lookup_mem n2
    have hk:=S.free _ hx rfl
    obtain ⟨m0,_,hl⟩:=I.loc
    obtain ⟨u,r,l⟩:=hl j x v n1 e2 (hk.elim (fun z => .inr (.inl z)) fun z => .inr (.inr z))
    refine ⟨u,r,?_⟩
    rcases l with ⟨k,_⟩ | ⟨_,c,e,z⟩
    ·have k':X.env.kindOf x=some .local:=k
     rcases hk with q | q <;> (rw [show X.env.kindOf x=_ from q] at k'; cases k')
    ·obtain ⟨c',e'⟩:=hasF x hx
     have:=sub _ _ e'
     rw [e] at this; cases this
     exact .inr ⟨relabel_free n2,c,e',z.keeps keep⟩
 ·obtain ⟨v,q⟩:=I.cell x c (sub _ _ e)
  exact ⟨v,q.keeps keep⟩
 ·show upd H D _ C=none
  rw [upd_ne (Ne.symm hDC)]; exact fC
 ·show upd H D _ c=none
  have hlt:=clt x c (sub _ _ e)
  rw [upd_ne (Nat.ne_of_lt (Nat.lt_of_lt_of_le hlt hD0))]
  exact I.freeC x c (sub _ _ e)
 ·obtain ⟨n,hD⟩:=hD
  exact ⟨Nat.zero_le _,[],n,.nil,hD⟩
 ·show (innerSt js σ).length=N.length
  unfold innerSt
  rw [List.length_map,S.len]
end
noncomputable def PIfs (X:Cx) (ifs:List Expr) (t:TT):Prop :=
 ∀ (pins:List (Addr×Obj)) (s:Shared) (σ:St) (H:Hp) (Q:Bool -> Hp -> Prop),Inv X pins σ H s -> t σ H Q →
  wpAny (model X.prog X.w) X.A (forIn ifs true fun c r => if r=true then do let ok ← isTrue c X.env (eval c X.env); pure (ForInStep.yield ok) else pure (ForInStep.yield r)) (TP X pins σ Q) X.xe s
noncomputable def tTrue:TT:=fun _ H Q => Q true H
theorem pif_nil {X:Cx}:PIfs X [] tTrue:=fun _ _ _ H _ I h => wpAny_tests_nil ⟨H,I,h⟩
theorem compLoop_gen {prog:Program} {w:World} {A:Around} {R:Result -> Shared -> Prop} {s:Shared} {elt target iter:Expr} {ifs:List Expr} {scope:Scope} {pos:Pos} {it acc:Value} {env:Env} (I:Nat -> Shared -> Prop)
  (turn:∀ n s,I n s -> wpAny (model prog w) A (pyNext it) (fun r s₁ => match r with
   | none => R (.ok .next) s₁
   | some v => wpAny (model prog w) A (letOwnedTupleGo target it v) (fun _ s₁' => wpAny (model prog w) A (assign target env v) (fun _ s₂ =>
     wpAny (model prog w) A (forIn ifs true fun c r => if r=true then do let ok ← isTrue c env (eval c env); pure (ForInStep.yield ok) else pure (ForInStep.yield r)) (fun ok s₃ =>
      if ok=true then wpAny (model prog w) A (eval elt env) (fun x s₄ =>
       wpAny (model prog w) A (call (.builtin "list.append") [acc,x]) (fun _ s₅ => ∃ m,m < n∧I m s₅) (fun _ _ => False) s₄) (fun _ _ => False) s₃
      else ∃ m,m < n∧I m s₃) (fun _ _ => False) s₂) (fun _ _ => False) s₁') (fun _ _ => False) s₁) (fun _ _ => False) s)
  (n:Nat) (h:I n s) :
  codeAny (model prog w) A (.compLoop (.ListComp elt [⟨target,iter,ifs,0⟩] scope pos) 0 it acc env) R s:=by
 refine codeAny_loop rfl I (fun n s hI => ?_) n h
 show wpAny _ A ((compTurn (.ListComp elt [⟨target,iter,ifs,0⟩] scope pos) 0 it acc env).onRaise (fun x => do noteFrame x env; theTreesLotGoes x)) _ _ s
 refine wpAny_noted ?_
 rw [compTurn_list]
 refine wpAny_bind (wpAny_standAt (wpAny_bind (wpAny_mono (turn n s hI) (fun r s₁ h₁ => ?_) fun _ _ h' => h'.elim)))
 cases r with
 | none => exact wpAny_pure h₁
 | some v =>
  refine wpAny_bind (wpAny_mono h₁ (fun _ s₁' h₁' => ?_) fun _ _ h' => h'.elim)
  refine wpAny_bind (wpAny_mono h₁' (fun _ s₂ h₂ => wpAny_bind (wpAny_mono h₂ (fun ok s₃ h₃ => ?_) fun _ _ h' => h'.elim)) fun _ _ h' => h'.elim)
  cases ok with
  | false => exact wpAny_pure ⟨rfl,h₃⟩
  | true =>
   exact wpAny_bind (wpAny_bind (wpAny_mono h₃ (fun x s₄ h₄ => wpAny_bind (wpAny_mono h₄ (fun _ s₅ h₅ => wpAny_pure (wpAny_pure ⟨rfl,h₅⟩)) fun _ _ h' => h'.elim)) fun _ _ h' => h'.elim))
noncomputable def tComp (js:List (Option Nat)) (wi:TI) (g:TG) (tc:TT) (te:TE):TE:=fun σ H Q =>
 wi σ H fun J H1 => ∀ D,H1 D=none -> ∃ W:Nat -> Nat -> St -> Hp -> Prop,(∃ m,W 0 m (innerSt js σ) (upd H1 D (.lst []))) ∧
  ∀ i m σ' H',W i m σ' H' -> (J.stop i H'∧Q (.ref D) H')∨(J.go i H'∧∀ x H2,J.yld i H' x H2 -> g x σ' H2 fun σ2 H3 => tc σ2 H3 fun b H4 =>
   if b=true then te σ2 H4 fun v H5 => rAppend (.ref D) [v] H5 fun _ H6 => ∃ m',m' < m∧W (i+1) m' σ2 H6 else ∃ m',m' < m∧W (i+1) m' σ2 H4)
theorem pe_comp {X:Cx} {elt tg iter:Expr} {ifs:List Expr} {scope:Scope} {pos:Pos} {N:List Str} {js:List (Option Nat)} {wi:TI} {g:TG} {tc:TT} {te:TE} (hcalm:X.calm=true) (S:CompScope X N js scope)
  (hi:PI X tg iter wi) (hg:∀ C s H fp,PG (compCx X N scope C s H fp) tg g) (ht:∀ C s H fp,PIfs (compCx X N scope C s H fp) ifs tc) (he:∀ C s H fp,PE (compCx X N scope C s H fp) elt te)
  (hs:∀ x,foldedSetIterable iter X.env x=pure x:=by intro _; rfl):PE X (.ListComp elt [⟨tg,iter,ifs,0⟩] scope pos) (tComp js wi g tc te):=by
 intro pins s σ H Q I h
 have hc:∀ x∈scope.names,x.2=.free -> ∃ c,X.env.cells.lookup x.1=some c:=fun x hx e => I.ok.has _ (S.free x hx e)
 rw [eval_ListComp]
 refine wpAny_comprehension_free (use:=none) rfl hs (clos_eq hc) S.kind S.locs (thn (hi pins s σ H _ I h) fun v s1 h1 => thn h1 fun itv s2 h2 => ?_)
 obtain ⟨it,fp,tn,J,H2,e,I2,T,st2,f2,q⟩:=h2
 subst e
 refine wpAny_newObj_type (wpAny_newFunctionEnv S.nocell (by intro y hy; simp at hy) (fun h₁ hns₁ hsb₁ => ?_) S.kind)
 dsimp only at hns₁ hsb₁ ⊢
 generalize hH2:s2.heap.push { cls:=.type "list",dict:=none,data:=.seq ([]:List Value).toArray }=G2 at hns₁ hsb₁ ⊢
 have hC:G2.objs.size=s2.heap.objs.size+1:=by rw [← hH2,Heap.size_push]
 have hDC:s2.heap.objs.size≠G2.objs.size:=by rw [hC]; exact Nat.ne_of_lt (Nat.lt_succ_self _)
 have hC0:s2.heap.objs.size≤G2.objs.size:=by rw [hC]; exact Nat.le_succ _
 have below:∀ b,b < s2.heap.objs.size -> b≠G2.objs.size:=fun b hb => by rw [hC]; exact Nat.ne_of_lt (Nat.lt_succ_of_lt hb)
 have old:∀ b o,s2.heap.get? b=some o -> h₁.get? b=some o:=fun b o e => hsb₁.extBut b o (below b (Heap.lt_size e)) (Heap.get?_push_of_some _ (hH2 ▸ Heap.get?_push_of_some _ e))
 have hacc:h₁.get? s2.heap.objs.size=some { cls:=.type "list",data:=.seq ([]:List Value).toArray }:=hsb₁.extBut _ _ hDC (Heap.get?_push_of_some _ (hH2 ▸ Heap.get?_push_size _ rfl))
 have hfp:∀ b∈fp,b < s2.heap.objs.size:=fun b hb => by obtain ⟨o,e,_⟩:=T.obj 0 _ st2 b hb; exact Heap.lt_size e
 obtain ⟨W,⟨m0,w0⟩,turn⟩:=q s2.heap.objs.size (I2.hok.fresh (Nat.le_refl _))
 have stat:∀ {H':Hp},(∀ b∈fp,H' b=none) -> ∀ b∈fp,FpOk (compCx X N scope G2.objs.size s2 H2 fp) [] H' b:=fun {H'} hn b hb =>
  ⟨hn b hb,below b (hfp b hb),fun z => by
   rcases List.mem_cons.mp (I2.stkSub b z) with q | q
   ·exact (f2 b hb).2.1 q
   ·exact (f2 b hb).2.2.1 q,.inl hb,fun x c e => (f2 b hb).2.2.2.2.1 x c (clos_sub _ _ (fun _ _ z => by simp at z) e),fun p hp => absurd hp (by simp [compCx])⟩
 have loop:∀ s3:Shared,s3={ s2 with heap:=h₁,toks:=s2.toks+([]:List (Str×Value)).length } →
   codeAny (model X.prog X.w) X.A (.compLoop (.ListComp elt [⟨tg,iter,ifs,0⟩] scope pos) 0 (.ref it) (.ref s2.heap.objs.size) (compEnvC scope (clos X.env.cells scope.names []) G2.objs.size X.env))
    (compPost (model X.prog X.w) X.A X.xe none (EP X pins σ Q) (.ref s2.heap.objs.size) G2.objs.size) s3:=by
  rintro s3 rfl
  have I3:Inv (compCx X N scope G2.objs.size s2 H2 fp) [] (innerSt js σ) (upd H2 s2.heap.objs.size (.lst [])) { s2 with heap:=h₁,toks:=s2.toks+([]:List (Str×Value)).length } :=
   inv_comp S I2 f2 hfp old (Nat.le_refl _) hC0 hDC ⟨_,hacc⟩ hns₁
  refine compLoop_gen (fun n s' => ∃ i σ' H',Inv (compCx X N scope G2.objs.size s2 H2 fp) [] σ' H' s'∧tn i s'.heap∧(∀ b∈fp,H' b=none)∧W i n σ' H') ?_ m0
   ⟨0,_,_,I3,T.keep 0 _ _ st2 fun b _ o e => old b o e,fun b hb => by rw [upd_ne (Nat.ne_of_lt (hfp b hb))]; exact (f2 b hb).1,w0⟩
  rintro n s4 ⟨i,σ4,H4,I4,st4,fr4,w4⟩
  rcases turn i n σ4 H4 w4 with ⟨stop,qn⟩ | ⟨go,step⟩
  ·refine thn (T.done (compCx X N scope G2.objs.size s2 H2 fp) rfl rfl rfl hcalm i [] s4 σ4 H4 (fun _ _ => False) I4 (stat fr4) st4 stop) fun r s5 ⟨hr,I5⟩ => ?_
   subst hr
   obtain ⟨m5,n5,_⟩:=I5.loc
   refine ⟨m5,n5,fun h' sb => ?_⟩
   have hos:s5.os=s2.os:=I5.os
   obtain ⟨hh,gg,dd,tt,os5⟩:=s5
   obtain rfl:os5=s2.os:=hos
   have un:Un (frs X.stack) fp H2 H4 s2.heap h':=by
    have u:=I5.base
    have nC:∀ b o,s2.heap.get? b=some o -> b≠G2.objs.size:=fun b o e => below b (Heap.lt_size e)
    exact ⟨fun b o e n hf hx => sb.extBut b o (nC b o e) (u.keep b o e n hf hx),fun b o e n hf hx => by
      obtain ⟨sl,z⟩:=u.slot b o e n hf hx
      exact ⟨sl,sb.extBut b _ (nC b o e) z⟩,u.free,fun b o e hx => by
      obtain ⟨o',z⟩:=u.there b o e hx
      exact ⟨o',sb.extBut b _ (nC b o e) z⟩,u.tups,u.frzs,u.tbls⟩
   have hok:HOk X.prog X.w H4 h':=fun b ob e => (I5.hok b ob e).stay (fun c v hcv z => sb.extBut c v (fun q => by
    rcases hcv with hcv | hcv
    ·rw [← hcv,q] at e
     have:=I5.free
     have this':H4 G2.objs.size=none:=this
     rw [e] at this'; cases this'
    ·rw [q] at hcv
     have this':H4 G2.objs.size=none:=I5.free
     rw [hcv] at this'; cases this') z) (fun _ z => z) fun _ _ z => z
   have IE:=I2.call (h':=h') (g':=gg) (d':=dd) (t':=tt) (ch:=fp) un hok I5.bare fun b hb => ⟨(f2 b hb).2.2.2.1,(f2 b hb).2.1,(f2 b hb).2.2.2.2.1,(f2 b hb).2.2.2.2.2⟩
   exact ⟨.ref s2.heap.objs.size,H4,IE,rfl,qn⟩
  ·refine thn (T.item (compCx X N scope G2.objs.size s2 H2 fp) rfl rfl rfl hcalm i [] s4 σ4 H4 (fun _ _ => False) I4 (stat fr4) st4 go) fun r s5 ⟨u,hr,h5⟩ => ?_
   subst hr
   refine thn h5 fun _ s6 ⟨x,H6,I6,r6,y6,st6,fr6⟩ => ?_
   have I6':=I6.pinned (stat fr6) (T.obj _ _ st6)
   refine thn (hg _ _ _ _ _ s6 σ4 H6 x u _ I6' r6 (step x H6 y6)) fun _ s7 ⟨σ7,H7,I7,q7⟩ => ?_
   refine thn (ht _ _ _ _ _ s7 σ7 H7 _ I7 q7) fun b s8 ⟨H8,I8,q8⟩ => ?_
   have again:∀ {s9:Shared} {H9:Hp},Inv (compCx X N scope G2.objs.size s2 H2 fp) ([]++pinsAt fp s6.heap) σ7 H9 s9 -> (∃ m',m' < n∧W (i+1) m' σ7 H9) -> ∃ m,m < n∧∃ i σ' H',Inv (compCx X N scope G2.objs.size s2 H2 fp) [] σ' H' s9∧tn i s9.heap∧(∀ b∈fp,H' b=none)∧W i m σ' H':=fun {s9 H9} I9 ⟨m',hm,w9⟩ => by
    refine ⟨m',hm,i+1,σ7,H9,I9.unpinned,T.keep _ _ _ st6 fun b hb o e => (I9.pin (b,o) (List.mem_append_right _ (List.mem_append_right _ (mem_pinsAt hb e)))).1,fun b hb => ?_,w9⟩
    obtain ⟨o,e,d⟩:=T.obj _ _ st6 b hb
    exact (I9.pin (b,o) (List.mem_append_right _ (List.mem_append_right _ (mem_pinsAt hb e)))).2.1
   cases b with
   | false =>
    rw [if_neg Bool.false_ne_true] at q8 ⊢
    exact again I8 q8
   | true =>
    rw [if_pos rfl] at q8 ⊢
    refine thn (he _ _ _ _ _ s8 σ7 H8 _ I8 q8) fun xv s9 ⟨xx,H9,I9,r9,q9⟩ => ?_
    refine thn (mt_append _ s9 σ7 H9 (.ref s2.heap.objs.size) [xx] (.ref s2.heap.objs.size) [xv] _ I9 rfl (.cons r9 .nil) q9) fun _ s10 ⟨_,H10,I10,_,q10⟩ => ?_
    exact again I10 q10
 exact codeAny_compStart_list (loop _ rfl) (T.self _ _ _ _ _ (T.keep 0 _ _ st2 fun b _ o e => old b o e) (loop _ rfl))
theorem ObjOk.obj {P:Program} {w:World} {H:Hp} {h:Heap} {a:Addr} {o:HO} (x:ObjOk P w H h a o):∃ ob,h.get? a=some ob:=by
 cases o with
 | lst xs => obtain ⟨_,_,_,_,e⟩:=x; exact ⟨_,e⟩
 | tup xs => obtain ⟨_,_,_,o,e,_⟩:=x; exact ⟨_,e⟩
 | dK kvs => obtain ⟨_,_,_,_,o,_,_,e,_⟩:=x; exact ⟨_,e⟩
 | dT kvs => obtain ⟨_,_,_,_,o,_,_,e,_⟩:=x; exact ⟨_,e⟩
 | set S n => obtain ⟨o,_,_,_,e,_⟩:=x; exact ⟨_,e⟩
 | ins C dx fs => obtain ⟨_,_,_,e,_⟩:=x; exact ⟨_,e⟩
 | own y => exact x
 | xd fs => obtain ⟨_,⟨_,_,_,e,_⟩,_⟩:=x; exact ⟨_,e⟩
 | rng lo hi => obtain ⟨_,_,_,e⟩:=x; exact ⟨_,e⟩
 | frz ob u => obtain ⟨e,_⟩:=x; exact ⟨_,e⟩
 | tbl ps => exact ⟨_,(show h.get? a=some _ from x)⟩
 | met f y => exact ⟨_,(show h.get? a=some _ from x)⟩
 | ext φ => obtain ⟨_,e,_⟩:=x; exact e
noncomputable def CXW (P:Program) (w:World):CXT:=fun outer H s E e s' => ∃ (a:Addr) (cls a0:Value) (H':Hp) (B:Heap),e=.ref a∧s'.os=s.os∧AllBare s'.gens∧Un (frs outer) [] H H' s.heap s'.heap∧HOk P w H' B ∧
 Heap.FlyingW B outer a cls a0 s'.heap∧(∀ b o,s.heap.get? b=some o -> H b=none -> b ∉ frs outer -> B.get? b=some o)∧(∀ b o,s.heap.get? b=some o -> b ∉ frs outer -> ∃ o',B.get? b=some o')∧E cls none H'
theorem passN {P:Program} {w:World} {X:Cx}:Passes (CXW P w) X E0:=fun _ _ _ _ _ _ _ h => by
 obtain ⟨_,_,_,_,_,_,_,_,_,_,_,_,_,hE⟩:=h
 exact hE.elim
theorem mem_frs {env:Env} {L b:Addr} {outer:List Env} (hf:env.frame=some L):b∈frs (env :: outer) ↔ b=L∨b∈frs outer:=by
 unfold frs
 rw [List.filterMap_cons,hf]
 exact List.mem_cons
section
variable {P:Program} {w:World} {K:PySem.W.Frag} {mg:Str -> Option Value} {base:Heap} {N:List Str} {qual:Str} {scope:Scope} {f:Addr} {cd:Value} {A:Around} {outer:List Env} {s:Shared} {H:Hp} {E:XK}
 {pins:List (Addr×Obj)} {σ:St} {H1:Hp} {s1:Shared}
theorem cxw_out (I:Inv (cxOf (CXW P w) P w K mg base N qual scope f cd A outer s H E) pins σ H1 s1) {a:Addr} {cls a0:Value} {H':Hp} {B:Heap} {s2:Shared}
  (hos:s2.os=s1.os) (hb:AllBare s2.gens) (hokB:HOk P w H' B) (hfl:Heap.FlyingW B outer a cls a0 s2.heap)
  (keepB:∀ b o,s1.heap.get? b=some o -> H1 b=none -> b ∉ frs (envOfC qual scope s.heap.objs.size f cd :: outer) -> B.get? b=some o)
  (thereB:∀ b o,s1.heap.get? b=some o -> b ∉ frs (envOfC qual scope s.heap.objs.size f cd :: outer) -> ∃ o',B.get? b=some o')
  (up:∀ b o,s1.heap.get? b=some o -> (∀ vs,o.data≠.fields vs) -> b∈frs outer -> H1 b=none -> ∃ sl,s2.heap.get? b=some { o with slots:=sl })
  (free1:∀ b o,s1.heap.get? b=some o -> H1 b=none -> H' b=none)
  (tups:∀ b xs,H1 b=some (.tup xs) -> H' b=some (.tup xs)) (frzs:∀ b o u,H1 b=some (.frz o u) -> H' b=some (.frz o u)) (tbls:∀ b ps,H1 b=some (.tbl ps) -> ∃ more,H' b=some (.tbl (ps++more)))
  (hE:E cls none H'):CXW P w outer H s E (.ref a) s2:=by
 have u:=I.base
 have notL:∀ b o,s.heap.get? b=some o -> b ∉ frs outer -> b ∉ frs (envOfC qual scope s.heap.objs.size f cd :: outer):=fun b o e nf z => by
  rcases (mem_frs (env:=envOfC qual scope s.heap.objs.size f cd) rfl).mp z with q | q
  ·rw [q] at e; exact absurd (Heap.lt_size e) (Nat.lt_irrefl _)
  ·exact nf q
 have inB:∀ b o,s.heap.get? b=some o -> H b=none -> b ∉ frs outer -> B.get? b=some o:=fun b o e n nf =>
  keepB b o (u.keep b o e n nf (by simp [cxOf])) (u.free b o e n (by simp [cxOf])) (notL b o e nf)
 have thB:∀ b o,s.heap.get? b=some o -> b ∉ frs outer -> ∃ o',B.get? b=some o':=fun b o e nf => by
  obtain ⟨o1,e1⟩:=u.there b o e (by simp [cxOf])
  exact thereB b o1 e1 (notL b o e nf)
 have sl:∀ b o,s.heap.get? b=some o -> H b=none -> b∈frs outer -> ∃ sl,s2.heap.get? b=some { o with slots:=sl }:=fun b o e n hb => by
  obtain ⟨sl1,e1⟩:=u.slot b o e n hb (by simp [cxOf])
  obtain ⟨_,o',e',nf⟩:=I.ok.funs.mem hb
  have e'':s.heap.get? b=some o':=e'
  rw [e] at e''; cases e''
  obtain ⟨sl2,e2⟩:=up b _ e1 nf hb (u.free b o e n (by simp [cxOf]))
  exact ⟨sl2,e2⟩
 refine ⟨a,cls,a0,H',B,rfl,hos.trans I.os,hb,⟨fun b o e n nf _ => hfl.1 b o (inB b o e n nf),fun b o e n hb _ => sl b o e n hb,fun b o e n _ => ?_,fun b o e _ => ?_,fun b xs e => tups b xs (u.tups b xs e),fun b o x e => frzs b o x (u.frzs b o x e),fun b ps e => ?_⟩,hokB,hfl,inB,thB,hE⟩
 ·obtain ⟨o1,e1⟩:=u.there b o e (by simp [cxOf])
  exact free1 b o1 e1 (u.free b o e n (by simp [cxOf]))
 ·by_cases hb:b∈frs outer
  ·obtain ⟨sl,q⟩:=sl b o e (I.ok.frf b hb) hb
   exact ⟨_,q⟩
  ·obtain ⟨o',q⟩:=thB b o e hb
   exact ⟨o',hfl.1 b o' q⟩
 ·obtain ⟨m1,e1⟩:=u.tbls b ps e
  obtain ⟨m2,e2⟩:=tbls b _ e1
  exact ⟨m1++m2,by rw [e2,Array.append_assoc]⟩
theorem passW:Passes (CXW P w) (cxOf (CXW P w) P w K mg base N qual scope f cd A outer s H E) E:=by
 intro pins σ H1 s1 e s' I hx
 obtain ⟨a,cls,a0,H',B,rfl,hos,hb,un,hokB,hfl,keepB,thereB,hE⟩:=hx
 show wpAny _ _ (leaving _ (.ref a)) _ _ s'
 refine wpAny_leaves_onW (L:=s.heap.objs.size) I.ok.frames rfl hfl fun h'' hfl' hup => ?_
 refine cxw_out I (s2:={ s' with heap:=h'' }) hos hb hokB hfl' keepB thereB (fun b o e nf hb n => ?_) (fun b o e n => un.free b o e n (by simp)) un.tups un.frzs un.tbls hE
 obtain ⟨sl,e1⟩:=un.slot b o e n ((mem_frs (env:=envOfC qual scope s.heap.objs.size f cd) rfl).mpr (.inr hb)) (by simp)
 obtain ⟨sl2,e2⟩:=hup b _ e1 nf
 exact ⟨sl2,e2⟩
theorem madeW (I:Inv (cxOf (CXW P w) P w K mg base N qual scope f cd A outer s H E) pins σ H1 s1) {h':Heap} {a:Addr} {cls:Value} {vs:List Value} (hx:Heap.MadeExcOf s1.heap h' a cls vs) (hE:E cls none H1) :
  (cxOf (CXW P w) P w K mg base N qual scope f cd A outer s H E).xe (.ref a) { s1 with heap:=h' }:=by
 have hin:∀ env∈(envOfC qual scope s.heap.objs.size f cd :: outer),∀ b,env.frame=some b -> b∈frs (envOfC qual scope s.heap.objs.size f cd :: outer):=fun env he b hb => List.mem_filterMap.mpr ⟨env,he,hb⟩
 have stk:s1.heap.FunFrames base (envOfC qual scope s.heap.objs.size f cd :: outer):=I.stack
 have fr0:∀ b,b∈frs (envOfC qual scope s.heap.objs.size f cd :: outer) -> H1 b=none:=I.stkFree
 show wpAny _ _ (leaving _ (.ref a)) _ _ _
 refine wpAny_leaves_madeW (base:=PySem.W.hideAll s1.heap (frs (envOfC qual scope s.heap.objs.size f cd :: outer))) (h:=s1.heap) (L:=s.heap.objs.size) (s:={ s1 with heap:=h' }) I.ok.frames rfl (fun b o q => PySem.W.of_hideAll _ q) (PySem.W.funFrames_hide stk hin) hx fun h'' t x1 x2 x3 x4 => ?_
 have hg:∀ b o,s1.heap.get? b=some o -> b ∉ frs (envOfC qual scope s.heap.objs.size f cd :: outer) -> (PySem.W.hideAll s1.heap (frs (envOfC qual scope s.heap.objs.size f cd :: outer))).get? b=some o:=fun b o e nf => PySem.W.hideAll_get _ e nf
 refine cxw_out I (s2:={ s1 with heap:=h'' }) (H':=H1) rfl I.bare (fun b ob e => (I.hok b ob e).stay (fun c v hcv z => hg c v z fun q => ?_) (fun _ z => z) fun _ _ z => z) x1 (fun b o e _ nf => hg b o e nf) (fun b o e nf => ⟨o,hg b o e nf⟩) (fun b o e nf hb n => ?_) (fun _ _ _ n => n) (fun _ _ e => e) (fun _ _ _ e => e) (fun b ps e => ⟨#[],by rw [e]; simp⟩) hE
 ·have z:=fr0 c q
  rcases hcv with r | r
  ·rw [← r,z] at e; cases e
  ·rw [z] at r; cases r
 ·exact x4 b o (hx.keeps b o e) nf
theorem pown:PassesOwn (model (cxOf (CXW P w) P w K mg base N qual scope f cd A outer s H E).prog (cxOf (CXW P w) P w K mg base N qual scope f cd A outer s H E).w) (cxOf (CXW P w) P w K mg base N qual scope f cd A outer s H E).A
  (cxOf (CXW P w) P w K mg base N qual scope f cd A outer s H E).env (cxOf (CXW P w) P w K mg base N qual scope f cd A outer s H E).xe:=PassesOwn.leaving
end
theorem exc_obj {K:PySem.W.Frag} {h:Heap} {C:Addr} {bmB:List Value} {newId:String} (X:K.In h) (q:PySem.W.excIn K C bmB newId=true) :
  ∃ bm N nm qn bs hdct sn sub ab col dd k0 k1 k2 k3 k5 mN,h.get? C=some (excClassObj nm qn C N bs bm hdct sn sub ab col dd k0 k1 k2 k3 k5 newId)∧h.Ns N mN∧mN "__init__" = none∧OwnTail h bmB bm:=by
 unfold PySem.W.excIn at q
 split at q
 ·rename_i dd cd sl ho
  split at q
  ·rename_i C' bm k0 k1 k2 k3 n k5 hm hs
   simp only [Bool.and_eq_true,beq_iff_eq,Bool.not_eq_true'] at q
   obtain ⟨⟨⟨⟨⟨rfl,rfl⟩,hdel⟩,ht⟩,hok⟩,hni⟩:=q
   obtain ⟨nm,bs,mro,ns,qn,hd,sn,sub,ab,col,del⟩:=cd
   dsimp only at hm hdel hok hni
   subst hm hdel
   have hsl:sl=#[k0,k1,k2,k3,some (.builtin n),k5]:=by
    obtain ⟨l⟩:=sl
    simp only at hs
    rw [hs]
   subst hsl
   exact ⟨bm,ns,nm,qn,bs,hd,sn,sub,ab,col,dd,k0,k1,k2,k3,k5,_,X _ _ ho,.of_isNs (PySem.W.isNs_of_in X hok),PySem.W.nsMap_none_of_in X hok hni,PySem.W.tail_of_in X ht⟩
  ·cases q
 ·cases q
noncomputable def tRaise (E:XK) (C:Addr):TS:=fun _ _ H => E (.ref C) none H
theorem ps_raise {P:Program} {w:World} {K:PySem.W.Frag} {mg:Str -> Option Value} {base:Heap} {N:List Str} {qual:Str} {scope:Scope} {f:Addr} {cd:Value} {A:Around} {outer:List Env} {s:Shared} {H:Hp} {E:XK}
  {x msg:Str} {C:Addr} {B newId initId:String} {bmB:List Value} {np cpos pos p3:Pos} {j:Nat} (FB:ExcBaseFacts B newId initId bmB) (q:PySem.W.excIn K C bmB newId=true)
  (hm:mg x=some (.ref C)) (hg:Gl (cxOf (CXW P w) P w K mg base N qual scope f cd A outer s H E) x) (hd:(x == ("__debug__":Str))=false:=by decide) :
  PS (cxOf (CXW P w) P w K mg base N qual scope f cd A outer s H E) (.Raise (some (.Call (.Name x np) [.Constant (.str msg) j p3] [] cpos)) none pos) (tRaise E C):=by
 intro pins s1 σ H1 D I h
 obtain ⟨bm,Nn,nm,qn,bs,hdct,sn,sub,ab,col,dd,k0,k1,k2,k3,k5,mN,hC,hN,hni,T⟩:=exc_obj I.ok.mod.kin q
 refine wpAny_Raise_call_subT (C:=C) (nm:=nm) (q:=qn) (N:=Nn) (bs:=bs) (bm:=bm) (hdct:=hdct) (sn:=sn) (sub:=sub) (ab:=ab) (col:=col) (dd:=dd) (k0:=k0) (k1:=k1) (k2:=k2) (k3:=k3) (k5:=k5)
  FB (mN:=mN) (T.hasType FB.hasBase) (I.ok.hd rfl) rfl hni (ld_glob I hg hm ⟨rfl,?_⟩ hd)
 have ha:PA (cxOf (CXW P w) P w K mg base N qual scope f cd A outer s H E) [.Constant (.str msg) j p3] (tCons (tC (.str msg)) tNil):=pa_cons pe_str pa_nil
 have hw:=ha cpos pins s1 σ H1 (fun vs H2 => vs.length=1∧H2=H1) I ⟨rfl,rfl⟩
 refine Calls.evalArgs_plain (thn hw fun us s2 ⟨vs,H2,I2,r,hl,e2⟩ => ?_)
 subst e2
 refine ⟨rfl,?_,I2.bk _ _ hC,hN.keeps I2.bk,T.keeps I2.bk,fun h' e hx => madeW I2 hx h⟩
 show us.length≤sizeLine
 rw [← r.length,hl]; decide
section
variable {P:Program} {w:World} {K:PySem.W.Frag} {mg:Str -> Option Value} {base:Heap}
theorem Fun.okX {x qual:Str} {st:Stmt} {f:Addr} {fd:FuncData} {N ps:List Str} {k:Nat} {sp:Sp} (F:Fun K x qual st f fd) (S:FnScope N ps (defScope st)) (len:∀ vs H Q E,sp vs H Q E -> vs.length=ps.length)
  (hbody:∀ (cdv:Value) (A:Around) (outer:List Env) (s:Shared) (H:Hp) (vs:List V) (Q:VK) (E:XK),Room k (A.deeper (envOfC qual (defScope st) s.heap.objs.size f cdv)) -> sp vs H Q E →
   ∃ t,PSs (cxOf (CXW P w) P w K mg base N qual (defScope st) f cdv A outer s H E) (defBody st) t∧t { nx:=fun _ H' => Q .non H',rt:=Q } (start N vs) H):FnOk P w K mg base (CXW P w) (k+1) f fd ps sp:=by
 obtain ⟨oc,od,kV,doc,pm,an,cdv,ct,osl,rfl,lk,hcd⟩:=F.ex
 exact fn_of lk hcd S len fun A outer s H vs Q E hr hsp => hbody cdv A outer s H vs Q E hr hsp
theorem Fun.okN {x qual:Str} {st:Stmt} {f:Addr} {fd:FuncData} {N ps:List Str} {k:Nat} {sp:Sp} (F:Fun K x qual st f fd) (S:FnScope N ps (defScope st)) (len:∀ vs H Q E,sp vs H Q E -> vs.length=ps.length)
  (hbody:∀ (cdv:Value) (A:Around) (outer:List Env) (s:Shared) (H:Hp) (vs:List V) (Q:VK) (E:XK),Room k (A.deeper (envOfC qual (defScope st) s.heap.objs.size f cdv)) -> sp vs H Q E →
   ∃ t,PSs (cxOf (CXW P w) P w K mg base N qual (defScope st) f cdv A outer s H E).nox (defBody st) t∧t { nx:=fun _ H' => Q .non H',rt:=Q } (start N vs) H):FnOk P w K mg base (CXW P w) (k+1) f fd ps sp :=
 F.okX S len fun cdv A outer s H vs Q E hr hsp => by
  obtain ⟨t,h,q⟩:=hbody cdv A outer s H vs Q E hr hsp
  exact ⟨t,h.nox,q⟩
end
end L2
namespace L2
open PySem PySem.Spec PyProof.Rows PySem.W
structure ExcC (K:Frag) (C:Addr):Prop where
 ga:findIn K (.ref C) "__getattribute__" = some (some (.builtin "BaseException.__getattribute__"))
 gt:findIn K (.ref C) "__getattr__" = some none
 ca:findIn K (.ref C) "__class__" = some (some (.builtin "object.__class__"))
 ob:mroIn K C (.type "object")=some true
 be:mroIn K C (.type "BaseException")=some true
 ty:typeIn K (.ref C)=some (.type "type")
theorem ExcC.cls {K:Frag} {C:Addr} (T:ExcC K C):(clsIn K C).isSome=true:=by
 have h:=T.ob
 unfold mroIn at h
 cases e:clsIn K C with
 | none => rw [e] at h; cases h
 | some cd => rfl
noncomputable def ExcAt (a C:Addr) (h:Heap):Prop:=∃ o vs,h.get? a=some o∧o.cls=.ref C∧o.data=.fields vs
section
variable {prog:Program} {w:World} {A:Around} {E:Value -> Shared -> Prop} {h:Heap} {g:Array GenState} {d:Drawn} {t:Nat} {os:OsState} {a C:Addr} {o:Obj} {K:Frag}
theorem exc_class_get {R:Result -> Shared -> Prop} (X:K.In h) (T:ExcC K C) (hx:h.get? a=some o) (hc:o.cls=.ref C) (hq:R (.ok (.ret (.ref C))) ⟨h,g,d,t,os⟩) :
  codeAny (model prog w) A (.call (.builtin "getset_descriptor.__get__") ⟨[.builtin "object.__class__",.ref a,.ref C],[]⟩) R ⟨h,g,d,t,os⟩:=by
 have hT5:(⟨h,g,d,t,os⟩:Shared).TypeIs (.builtin "object.__class__") "getset_descriptor":=F.typeOf_object_class
 have L1:=looks_mroIn (M:=model prog w) X T.ob
 refine codeAny_call_builtin F.slot_gs_get.plain F.entry_gs_get (F.slot_gs_get.check _ _ _ _ _ _ _ _ hT5 (F.args_gs_get _ _ _) ?_)
 repeat (any_goals (first | assumption | (with_reducible refine wpAny_loadPart_at hx ?_; rw [hc]) | (rw [F.owner_object_class]; with_reducible refine L1.at ?_) | wp_step))
 refine ⟨Code.quiet_builtin _ (by decide +kernel),codeAny_builtin F.entry_object_class ?_⟩
 repeat (any_goals (first | assumption | (with_reducible refine wpAny_loadPart_at hx ?_; rw [hc]) | wp_step))
theorem exc_class_entry {tk:Tok} {Q:Fin -> Shared -> Prop} (X:K.In h) (T:ExcC K C) (hx:h.get? a=some o) (hc:o.cls=.ref C) (hq:Q (.done (.ret (.ref C))) ⟨h,g,d,t,os⟩) :
  wpAny (model prog w) A (Builtin.«object.__getattribute__» ⟨[.ref a,.str "__class__" tk],[]⟩) Q E ⟨h,g,d,t,os⟩:=by
 have hT5:(⟨h,g,d,t,os⟩:Shared).TypeIs (.builtin "object.__class__") "getset_descriptor":=F.typeOf_object_class
 have f5:=F.typeOf_object_class
 have f6:=F.slot_gs_get.lookup
 have f7:=F.slot_gs_set.lookup
 have L1:=looks_findIn (M:=model prog w) X T.ca
 repeat (any_goals (first | assumption | (with_reducible refine wpAny_loadPart_at hx ?_; rw [hc]) | with_reducible refine L1.at ?_ | wp_step))
 refine exc_class_get X T hx hc ?_
 repeat (any_goals (first | assumption | wp_step))
theorem exc_check_ga {M:Model} {nameV:Value} {Q:Unit -> Shared -> Prop} (X:K.In h) (T:ExcC K C) (hx:h.get? a=some o) (hc:o.cls=.ref C) (hq:Q () ⟨h,g,d,t,os⟩) :
  wpAny M A (checkBuiltinCall "BaseException.__getattribute__" ⟨[.ref a,nameV],[]⟩) Q E ⟨h,g,d,t,os⟩:=by
 have hk:builtinKind "BaseException.__getattribute__" = some .slot:=by decide +kernel
 have hsplit:splitId "BaseException.__getattribute__" = some ("BaseException","__getattribute__"):=by decide +kernel
 have ha:=F.args_bexc_ga (.ref a) nameV
 have L1:=looks_mroIn (M:=M) X T.be
 simp only [checkBuiltinCall,hk,hsplit]
 refine wpAny_bind ?_
 ·unfold isInstance
  repeat (first | (with_reducible refine wpAny_loadPart_at hx ?_; rw [hc]) | with_reducible refine L1.at ?_ | wp_step)
  exact hq
theorem exc_class_by {tk:Tok} {Q:Value -> Shared -> Prop} (X:K.In h) (T:ExcC K C) (hx:h.get? a=some o) (hc:o.cls=.ref C) (hq:Q (.ref C) ⟨h,g,d,t,os⟩) :
  wpAny (model prog w) A (getAttrBy (.ref a) (.str "__class__" tk) false) Q E ⟨h,g,d,t,os⟩:=by
 have FB:=PySem.F.attrBase_ValueError
 have f3:=FB.ga.bind (.ref a)
 have hx0:(false && onTheHeap (Value.builtin "BaseException.__getattribute__"))=false:=rfl
 have hx2:(Value.builtin "BaseException.__getattribute__" == Value.builtin "object.__getattribute__")=false:=by decide +kernel
 have hx1:(onTheHeap (Value.ref C) && Value.builtin "BaseException.__getattribute__" == Value.builtin "object.__getattribute__")=false:=by rw [hx2]; rfl
 have L1:=looks_findIn (M:=model prog w) X T.ga
 have L2:=looks_findIn (M:=model prog w) X T.gt
 repeat (any_goals (first | assumption | (with_reducible refine wpAny_loadPart_at hx ?_; rw [hc]) | with_reducible refine L1.at ?_ | with_reducible refine L2.at ?_ | wp_step))
 refine codeAny_call_builtin FB.ga.plain F.entry_bexc_ga (exc_check_ga X T hx hc (exc_class_entry X T hx hc ?_))
 repeat (any_goals (first | assumption | wp_step))
theorem exc_class_attr {Q:Option Value -> Shared -> Prop} (X:K.In h) (T:ExcC K C) (hx:h.get? a=some o) (hc:o.cls=.ref C) (hq:Q (some (.ref C)) ⟨h,g,d,t+1,os⟩) :
  wpAny (model prog w) A (getAttr? (.ref a) "__class__") Q E ⟨h,g,d,t,os⟩:=by
 unfold getAttr? getAttrBy?
 repeat (any_goals (first | assumption | with_reducible apply exc_class_by X T hx hc | wp_step))
end
theorem kitx_exc {K:Frag} {a C:Addr} (T:ExcC K C):KitX K (.ref a) (.ref C) (ExcAt a C) where
 ty:=fun M h _ p => by
  obtain ⟨o,vs,h1,h2,_⟩:=p
  exact h2 ▸ (Looks.ld h1).andThen .now
 it:=fun _ _ X _ => by
  obtain ⟨cdD,hcD⟩:=Option.isSome_iff_exists.mp T.cls
  unfold clsIn at hcD
  split at hcD
  ·rename_i c' d' cd' sl' ho
   intro A' Q' E' s' k q
   unfold isType loadHead
   exact wpAny_bind (wpAny_loadPart (k _ _ (X _ _ ho)) (wpAny_pure q))
  ·cases hcD
 ne:=fun h tp dd its n sl X htp => by
  obtain ⟨cdD,hcD⟩:=Option.isSome_iff_exists.mp T.cls
  refine Bool.eq_false_iff.mpr fun q => ?_
  have e:C=tp:=Value.ref.inj (beq_iff_eq.mp q)
  subst e
  unfold clsIn at hcD
  split at hcD
  ·rename_i c' d' cd' sl' ho
   have z:=(X _ _ ho).symm.trans htp
   cases z
  ·cases hcD
 ca:=fun {_ _ _ _ _ s} X p k => by
  obtain ⟨o,vs,h1,h2,_⟩:=p
  obtain ⟨hh,g,d,t,os⟩:=s
  exact exc_class_attr X T h1 h2 k
noncomputable def excO (a C:Addr):HO:=.ext (ExcAt a C)
theorem excO_ok {P:Program} {w:World} {H:Hp} {h:Heap} {a C:Addr} (p:ExcAt a C h):ObjOk P w H h a (excO a C):=by
 refine ⟨p,?_,fun h1 h2 q k => ?_⟩
 ·obtain ⟨o,_,e,_⟩:=p; exact ⟨o,e⟩
 ·obtain ⟨o,vs,e,r⟩:=q; exact ⟨o,vs,k o e,r⟩
inductive TyX (K:Frag) (H:Hp):V -> Value -> Prop where
 | of {x:V} {t:Value} (h:TyOf K H x t):TyX K H x t
 | exc {a C:Addr} (T:ExcC K C) (e:H a=some (excO a C)):TyX K H (.ref a) (.ref C)
theorem isinst_x {X:Cx} {pins:List (Addr×Obj)} {σ:St} {H:Hp} {s:Shared} {A:Around} {E:Value -> Shared -> Prop} {Q:Value -> Shared -> Prop} {c:Value} {b:Bool} {x:V} {u t:Value} (I:Inv X pins σ H s) (rx:RelV x u) (ty:TyX X.K H x t)
  (e:kitOne X.K t c=some b) (h:∀ tk,Q (.bool b) { s with toks:=tk }):wpAny (model X.prog X.w) A (call (.builtin "isinstance") [u,c]) Q E s:=by
 cases ty with
 | of ty => exact isinst_ok I rx ty e h
 | @exc a C T ea =>
  cases (show u=Value.ref a from rx)
  obtain ⟨p,_,_⟩:=(show ObjOk X.prog X.w H s.heap a (excO a C) from I.hok a _ ea)
  exact kia_one (kitx_exc T) I.kIn p e (fun z => nomatch z) h
noncomputable def clsV:V -> Option Value
 | .ref a => some (.ref a)
 | .ty n => some (.type n)
 | _ => none
theorem clsV_rel {x:V} {c u:Value} (h:clsV x=some c) (r:RelV x u):u=c:=by
 cases x with
 | ref a => cases h; exact r
 | ty n => cases h; exact r
 | _ => cases h
noncomputable def rIsi (K:Frag):List V -> Hp -> VK -> Prop:=fun xs H Q => ∃ x t vc c b,xs=[x,vc]∧TyX K H x t∧clsV vc=some c∧kitOne K t c=some b∧Q (.bl b) H
theorem call_isi {X:Cx}:CallR X (.builtin "isinstance") (rIsi X.K):=by
 intro pins s σ H xs us Q I rv h
 obtain ⟨x,t,vc,c,b,rfl,ty,rc,e,q⟩:=h
 obtain ⟨u,v,rfl,r1,r2⟩:=rv.two
 rw [clsV_rel rc r2]
 exact isinst_x I r1 ty e fun tk => ⟨.bl b,H,I.tok _,rfl,q⟩
noncomputable def PassesAt (CX:CXT) (X:Cx) (E:XK) (pins:List (Addr×Obj)) (σ:St):Prop:=∀ (H:Hp) (s:Shared) (e:Value) (s':Shared),Inv X pins σ H s -> CX X.stack H s E e s' -> X.xe e s'
noncomputable def PEAt (X:Cx) (pins:List (Addr×Obj)) (σ:St) (e:Expr) (t:TE):Prop:=∀ (s:Shared) (H:Hp) (Q:VK),Inv X pins σ H s -> t σ H Q -> wpAny (model X.prog X.w) X.A (eval e X.env) (EP X pins σ Q) X.xe s
noncomputable def PSsAt (X:Cx) (pins:List (Addr×Obj)) (σ:St) (st:List Stmt) (t:TS):Prop:=∀ (s:Shared) (H:Hp) (D:Ends),Inv X pins σ H s -> t D σ H -> wpAny (model X.prog X.w) X.A (execs st X.env) (SP X pins D) X.xe s
section
variable {X:Cx} {CX:CXT} {k:Nat} {f:Addr} {fd:FuncData} {ps:List Str} {sp:Sp} {dvs:List V} {ds:List Value} {E:XK} {x:Str} {p pos:Pos} {e:Expr} {es:List Expr} {te:TE} {t:TA} {pins:List (Addr×Obj)} {σ:St} {ta tb:TS}
theorem pea_call (F:FnOk X.prog X.w X.K X.mg X.base CX k f fd ps sp) (hr:Room k X.A) (hg:Gl X x) (hm:X.mg x=some (.ref f)) (hk:PySem.W.keepIn X.K (.ref f)=true) (hb:Binds X.K fd ps ds) (hd:Vals dvs ds) (hx:PassesAt CX X E pins σ)
  (ha:PA X (e :: es) t) (hdb:(x == ("__debug__":Str))=false:=by decide) (he:starEach (e :: es) X.env=(false,eval e X.env) :: starEach es X.env:=by rfl) (hpl:(backTo pos (starEach es X.env)).any (·.1)=false:=by rfl) :
  PEAt X pins σ (.Call (.Name x p) (e :: es) [] pos) (tCall sp dvs E t):=by
 intro s H Q I h
 refine wpAny_Call_Name_kw (ld_glob I hg hm ?_ hdb)
 refine PySem.W.callWith_K (h₀:=X.base) I.ok.mod.kin hk (thn (ha pos pins s σ H _ I h) fun us s1 ⟨vs,H1,I1,r,q⟩ => ⟨I1.kIn,?_⟩) he hpl
 have r2:Vals (vs++dvs) (us++ds):=r.append hd
 have hl:(us++ds).length=ps.length:=by rw [← r2.length]; exact F.len _ _ _ _ q
 refine wpAny_call (codeAny_mono (F.run X.A X.stack s1 H1 ⟨us,[]⟩ (us++ds) (vs++dvs) Q E hr I1.env0 (hb s1 us I1.kIn hl) r2 q) fun r s' hq => ?_)
 cases r with
 | error e => exact hx H1 s1 e s' I1 hq
 | ok fl =>
  cases fl with
  | ret u => exact I1.after hq
  | next => exact False.elim hq
  | brk => exact False.elim hq
  | cont => exact False.elim hq
theorem psa_set {i:Nat} {y:Str} {pos':Pos} (hN:X.N.Nodup) (hi:X.N[i]?=some y) (hy:Loc X.env.scope y) (he:PEAt X pins σ e te) (hs:swapsWith e (some (.Name y pos')) pos.line X.env=pure false:=by rfl) (hf:X.fn y=true∨X.env.scope.names.lookup y=some .local:=by first | exact .inl rfl | exact .inr rfl | assumption) :
  PSsAt X pins σ [.Assign [.Name y pos'] e pos] (tAsg te (gName i)):=by
 intro s H D I h
 refine wpAny_execs_cons (wpAny_Assign_Name (thn (he s H _ I h) fun v s1 ⟨z,H1,I1,r1,q1⟩ => ?_) hs)
 exact store_ok I1 hN hi hy r1 (fun s2 I2 => wpAny_execs_nil ⟨_,H1,I2,q1⟩) hf
theorem psa_if {c:Expr} {a b:List Stmt} {tc:TT} (hc:PT X c tc) (ha:PSsAt X pins σ a ta) (hb:PSsAt X pins σ b tb):PSsAt X pins σ [.If c a b pos] (tIfS tc ta tb):=by
 intro s H D I h
 refine wpAny_execs_cons (wpAny_If (thn (hc pins s σ H _ I h) fun d s1 ⟨H1,I1,q1⟩ => ?_))
 have fin:∀ {f:Flow} {s2:Shared},SP X pins D f s2 -> (match f with | .next => wpAny (model X.prog X.w) X.A (execs [] X.env) (SP X pins D) X.xe s2 | f => SP X pins D f s2):=fun {f s2} q => by
  cases f with
  | next => exact wpAny_execs_nil q
  | ret v => exact q
  | brk => exact q
  | cont => exact q
 cases d with
 | true => exact thn (ha s1 H1 D I1 q1) fun f s2 q => fin q
 | false => exact thn (hb s1 H1 D I1 q1) fun f s2 q => fin q
end
theorem HOk.add {P:Program} {w:World} {H:Hp} {h:Heap} {a:Addr} {o:HO} (x:HOk P w H h) (hn:H a=none) (new:ObjOk P w (upd H a o) h a o):HOk P w (upd H a o) h:=fun b u e => by
 by_cases hb:b=a
 ·subst hb; rw [upd_same] at e; cases e; exact new
 ·rw [upd_ne hb] at e
  exact (x b u e).stay (fun c v _ q => q) (fun c q => by rw [upd_ne (ne_of_none q hn)]; exact q) fun c xs q => by rw [upd_ne (ne_of_none q hn)]; exact q
noncomputable abbrev hdCx (X:Cx) (a:Addr):Cx:={ X with A:=X.A.mark (some (.ref a)),calm:=false,xe:=fun _ _ => False }
theorem Inv.hd {X:Cx} {pins:List (Addr×Obj)} {σ:St} {H:Hp} {s:Shared} {a:Addr} (I:Inv X pins σ H s):Inv (hdCx X a) pins σ H s :=
 ⟨⟨I.ok.mod,I.ok.kind,I.ok.glob,I.ok.blt,I.ok.above,I.ok.inj,I.ok.has,I.ok.cab,fun z => Bool.noConfusion z,I.ok.frames,I.ok.stk,I.ok.exf,I.ok.bs,I.ok.bsz,I.ok.noex,I.ok.exfs,I.ok.funs,I.ok.frf⟩,I.os,I.bare,I.base,I.loc,I.cell,I.free,I.freeC,I.pin,I.hok,I.len⟩
theorem Inv.unhd {X:Cx} {pins:List (Addr×Obj)} {σ:St} {H:Hp} {s:Shared} {a:Addr} (hd:X.calm=true -> X.A.handled=none) (I:Inv (hdCx X a) pins σ H s):Inv X pins σ H s :=
 ⟨⟨I.ok.mod,I.ok.kind,I.ok.glob,I.ok.blt,I.ok.above,I.ok.inj,I.ok.has,I.ok.cab,hd,I.ok.frames,I.ok.stk,I.ok.exf,I.ok.bs,I.ok.bsz,I.ok.noex,I.ok.exfs,I.ok.funs,I.ok.frf⟩,I.os,I.bare,I.base,I.loc,I.cell,I.free,I.freeC,I.pin,I.hok,I.len⟩
theorem Inv.gone {X:Cx} {pins:List (Addr×Obj)} {σ:St} {H:Hp} {s:Shared} {n:Str} {i:Nat} {h':Heap} {v:Option Value} {m:Str -> Option Value} {t':Nat} (I:Inv X pins σ H s) (hN:X.N.Nodup) (hi:X.N[i]?=some n)
  (hl:∀ (j:Nat) (x:Str) (v:V),X.N[j]?=some x -> σ[j]?=some (some v) -> Vis X.env.scope x -> ∃ u,RelV v u∧Look X.env s.heap m x u)
  (hn:h'.Ns X.env.locals (fun x => if x=n then v else m x)) (hs:Heap.SameBut X.env.locals s.heap h'):Inv X pins (σ.set i none) H { s with heap:=h',toks:=t' }:=by
 have cne:=I.cne
 have hiσ:i < σ.length:=by rw [I.len]; exact (List.getElem?_eq_some_iff.mp hi).1
 obtain ⟨m0,⟨oL,es,ep,hoL,_⟩,_⟩:=I.loc
 have tracked:HOk X.prog X.w H h':=fun b ob e => by
  refine (I.hok b ob e).stay (fun c w' hc q => (hs.2 c ?_).trans q) (fun _ q => q) fun _ _ q => q
  rintro rfl
  have fr:=I.free
  rcases hc with rfl | hc
  ·rw [fr] at e; cases e
  ·rw [fr] at hc; cases hc
 refine ⟨I.ok,I.os,I.bare,⟨fun b o e n hb hx => ?_,fun b o e n hb hx => ?_,I.base.free,fun b o e hx => ?_,I.base.tups,I.base.frzs,I.base.tbls⟩,⟨_,hn,fun j y v' e1 e2 e3 => ?_⟩,fun y c e => ?_,I.free,I.freeC,fun p hp => ?_,tracked,by simpa using I.len⟩
 ·exact (hs.2 b (Nat.ne_of_lt (Nat.lt_of_lt_of_le (Heap.lt_size e) I.ok.above))).trans (I.base.keep b o e n hb hx)
 ·obtain ⟨sl,e1⟩:=I.base.slot b o e n hb hx
  exact ⟨sl,(hs.2 b (Nat.ne_of_lt (Nat.lt_of_lt_of_le (Heap.lt_size e) I.ok.above))).trans e1⟩
 ·obtain ⟨o',e1⟩:=I.base.there b o e hx
  exact ⟨o',(hs.2 b (Nat.ne_of_lt (Nat.lt_of_lt_of_le (Heap.lt_size e) I.ok.above))).trans e1⟩
 ·by_cases hj:j=i
  ·subst hj
   rw [List.getElem?_set_self hiσ] at e2
   cases e2
  ·rw [List.getElem?_set_ne (Ne.symm hj)] at e2
   obtain ⟨u',r',q⟩:=hl j y v' e1 e2 e3
   refine ⟨u',r',?_⟩
   rcases q with ⟨k,e⟩ | ⟨k,c,e,z⟩
   ·refine .inl ⟨k,?_⟩
    have:y≠n:=fun e => hj (nodup_ix hN e1 (e ▸ hi))
    simp [this,e]
   ·exact .inr ⟨k,c,e,z.sameBut hs (cne y c e)⟩
 ·obtain ⟨w',z⟩:=I.cell y c e
  exact ⟨w',z.sameBut hs (cne y c e)⟩
 ·obtain ⟨e,n,ne,nf,d⟩:=I.pin p hp
  exact ⟨(hs.2 p.1 ne).trans e,n,ne,nf,d⟩
theorem exc_isType {M:Model} {h:Heap} {Cp:Addr} {K:Frag} (X:K.In h) (Tp:ExcC K Cp):Looks M h (isType (.ref Cp)) true:=by
 obtain ⟨cdD,hcD⟩:=Option.isSome_iff_exists.mp Tp.cls
 unfold clsIn at hcD
 split at hcD
 ·rename_i c' d' cd' sl' ho
  intro A' Q' E' s' k q
  unfold isType loadHead
  exact wpAny_bind (wpAny_loadPart (k _ _ (X _ _ ho)) (wpAny_pure q))
 ·cases hcD
theorem exc_matches {M:Model} {A:Around} {E:Value -> Shared -> Prop} {h:Heap} {g:Array GenState} {d:Drawn} {t:Nat} {os:OsState} {a C Cp:Addr} {o:Obj} {K:Frag} {b:Bool} {Q:Bool -> Shared -> Prop} (X:K.In h) (Tp:ExcC K Cp) (hm:mroIn K C (.ref Cp)=some b)
  (hx:h.get? a=some o) (hc:o.cls=.ref C) (hq:Q b ⟨h,g,d,t,os⟩):wpAny M A (excMatches (.ref a) (.ref Cp)) Q E ⟨h,g,d,t,os⟩:=by
 have L1:=looks_typeIn (M:=M) X Tp.ty
 have L3:=looks_mroIn (M:=M) X Tp.be
 have L4:=looks_mroIn (M:=M) X hm
 have L5:Looks M h (isType (.ref Cp)) true:=exc_isType X Tp
 have f:=tc_notTuple
 unfold excMatches
 repeat (first | (with_reducible refine wpAny_loadPart_at hx ?_; rw [hc]) | with_reducible refine L1.at ?_ | with_reducible refine L3.at ?_ | with_reducible refine L4.at ?_ | with_reducible refine L5.at ?_ | wp_step)
 cases b <;> (wp_walk; exact hq)
noncomputable def tTry (K:Frag) (Cp:Addr) (i:Nat) (tb:XK -> TS) (th:TS):TS:=fun D σ H =>
 tb (fun cls _ H' => ∃ C,cls=.ref C∧ExcC K C∧mroIn K C (.ref Cp)=some true∧∀ a,H' a=none -> th { nx:=fun σ2 H2 => D.nx (σ2.set i none) H2,rt:=fun _ _ => False } (σ.set i (some (.ref a))) (upd H' a (excO a C))) D σ H
theorem ps_try {X:Cx} {body suite:List Stmt} {b₀:Stmt} {x n:Str} {np hpos pos:Pos} {Cp:Addr} {i:Nat} {tb:XK -> TS} {th:TS}
  (hstk:X.stack=X.env :: X.outer) (hfr:X.env.frame=some X.env.locals) (hN:X.N.Nodup) (hi:X.N[i]?=some n) (hl:X.env.kindOf n=some .local) (hg:Gl X x) (hm:X.mg x=some (.ref Cp)) (Tp:ExcC X.K Cp)
  (hb:∀ (pins:List (Addr×Obj)) (σ:St) (xe':Value -> Shared -> Prop) (E':XK),PassesAt (CXW X.prog X.w) (X.wish xe') E' pins σ -> PSsAt (X.wish xe') pins σ body (tb E'))
  (hh:∀ a,PSs (hdCx X a) (b₀ :: suite) th) (hd:(x == ("__debug__":Str))=false:=by decide) :
  PS X (.Try body [.ExceptHandler (some (.Name x np)) (some n) (b₀ :: suite) hpos] [] [] pos) (tTry X.K Cp i tb th):=by
 intro pins s σ H D I h
 refine wpAny_Try_except (wpAny_mono (hb pins σ (fun e s₁ => wpAny (model X.prog X.w) X.A (noteFrame e X.env) (fun _ s₂ => wpAny (model X.prog X.w) X.A (setFlight e none) (fun _ s₃ =>
  wpAny (model X.prog X.w) X.A (handleBy e X.env [.ExceptHandler (some (.Name x np)) (some n) (b₀ :: suite) hpos]) (SP X pins D) X.xe s₃) X.xe s₂) X.xe s₁) _ ?pass s H D (I.wish _) h) (fun f s1 q => ?_) (fun e s1 q => q))
 case pass =>
  intro H1 s1 e s' I1 hx
  obtain ⟨a,cls,a0,H',B,rfl,hos,hbare,un,hokB,hfl,keepB,thereB,C,rfl,T,hmC,hth⟩:=hx
  have J:Inv X pins σ H1 s1:=I1.unwish
  have hfl0:Heap.FlyingW B (X.env :: X.outer) a (.ref C) a0 s'.heap:=by rw [← hstk]; exact hfl
  have hfrm:X.A.frames=some (X.env :: X.outer):=by rw [← hstk]; exact J.ok.frames
  have nBa:B.get? a=none:=hfl.2.1
  have nHa:H' a=none:=by
   cases q:H' a with
   | none => rfl
   | some u =>
    obtain ⟨ob,eb⟩:=(hokB a u q).obj
    rw [nBa] at eb; cases eb
  have frame_ne:∀ b,b∈frs X.stack -> b≠a:=fun b hb z => by
   obtain ⟨_,o,ho,nf⟩:=hfl.2.2.1.mem hb
   obtain ⟨oe,vs,_,_,_,he,_,hd',_⟩:=hfl.2.2.2
   rw [z,he] at ho; cases ho
   exact nf vs hd'
  have old_ne:∀ b o,s1.heap.get? b=some o -> b≠a:=fun b o e z => by
   by_cases hb:b∈frs X.stack
   ·exact frame_ne b hb z
   ·obtain ⟨o',e'⟩:=thereB b o e hb
    rw [z,nBa] at e'; cases e'
  -- the heap at any later station
  have station:∀ h5:Heap,Heap.FlyingW B (X.env :: X.outer) a (.ref C) a0 h5 -> s'.heap.UpToSlots h5 -> ∀ t5,Inv X pins σ (upd H' a (excO a C)) { s' with heap:=h5,toks:=t5 }:=fun h5 f5 up5 t5 => by
   have sl:∀ b o,s1.heap.get? b=some o -> H1 b=none -> b∈frs X.stack -> ∃ sl,h5.get? b=some { o with slots:=sl }:=fun b o e n hb => by
    obtain ⟨sl1,e1⟩:=un.slot b o e n hb (by simp)
    obtain ⟨_,o',e',nf⟩:=J.stack.mem hb
    rw [e] at e'; cases e'
    obtain ⟨sl2,e2⟩:=up5 b _ e1 nf
    exact ⟨sl2,e2⟩
   have un5:Un (frs X.stack) [] H1 (upd H' a (excO a C)) s1.heap h5:=⟨fun b o e n nf _ => f5.1 b o (keepB b o e n nf),fun b o e n hb _ => sl b o e n hb,fun b o e n _ => by rw [upd_ne (old_ne b o e)]; exact un.free b o e n (by simp),fun b o e _ => by
     by_cases hb:b∈frs X.stack
     ·obtain ⟨sl,q⟩:=sl b o e (J.stkFree b hb) hb
      exact ⟨_,q⟩
     ·obtain ⟨o',q⟩:=thereB b o e hb
      exact ⟨o',f5.1 b o' q⟩,fun b xs e => by
     have q:=un.tups b xs e
     rw [upd_ne (ne_of_none q nHa)]; exact q,fun b o x e => by
     have q:=un.frzs b o x e
     rw [upd_ne (ne_of_none q nHa)]; exact q,fun b ps e => by
     obtain ⟨m,q⟩:=un.tbls b ps e
     exact ⟨m,by rw [upd_ne (ne_of_none q nHa)]; exact q⟩⟩
   have at5:ExcAt a C h5:=by
    obtain ⟨oe,vs,_,_,_,he,hc,hd',_⟩:=f5.2.2.2
    exact ⟨oe,vs,he,hc.1,hd'⟩
   have hok5:HOk X.prog X.w (upd H' a (excO a C)) h5:=HOk.add (hokB.kept f5.1) nHa (excO_ok at5)
   obtain ⟨hh',gg,dd,tt,os'⟩:=s'
   obtain rfl:os'=s1.os:=hos
   have IE:=J.call (h':=h5) (g':=gg) (d':=dd) (t':=t5) (ch:=[]) un5 hok5 hbare (fun b z => absurd z (by simp))
   exact IE
  refine wpAny_looks_onW hfrm hfr hfl0 fun h4 held4 up4 => ?_
  refine wpAny_landsW held4 fun h5 f5 up5 => ?_
  have up5':=up4.trans up5
  have I5:=(station h5 f5 up5' s'.toks).hd (a:=a)
  have at5:ExcAt a C h5:=by
   obtain ⟨oe,vs,_,_,_,he,hc,hd',_⟩:=f5.2.2.2
   exact ⟨oe,vs,he,hc.1,hd'⟩
  refine wpAny_handleBy_cons (codeAny_handlers_test ?_) (by intro q; cases q)
  refine ld_glob (X:=hdCx X a) I5 hg hm ?_ hd
  obtain ⟨oe,vs,he,hc,_⟩:=at5
  refine exc_matches I5.kIn Tp hmC he hc ?_
  refine codeAny_handlers_suite_as ?_
  refine lands_againW f5 fun h6 f6 up6 => ?_
  have I6:=(station h6 f6 (up5'.trans up6) s'.toks).hd (a:=a)
  refine store_ok (X:=hdCx X a) I6 hN hi (.inl hl) (v:=.ref a) rfl (fun s7 I7 => ?_) (.inr hl)
  refine wpAny_mono (hh a pins s7 _ _ { nx:=fun σ2 H2 => D.nx (σ2.set i none) H2,rt:=fun _ _ => False } I7 (hth a nHa)) (fun f s8 q8 => ?_) fun _ _ z => z.elim
  cases f with
  | brk => obtain ⟨_,_,_,z⟩:=q8; exact z.elim
  | cont => obtain ⟨_,_,_,z⟩:=q8; exact z.elim
  | ret v => obtain ⟨_,_,_,_,_,z⟩:=q8; exact z.elim
  | next =>
   obtain ⟨σ8,H8,I8,q8⟩:=q8
   have J8:Inv X pins σ8 H8 s8:=I8.unhd J.ok.hd
   obtain ⟨m8,n8,l8⟩:=J8.loc
   refine wpAny_nameGoes_keeps hl n8 (by rw [J8.ok.kind]; rfl) fun h9 v n9 sb9 => ?_
   exact ⟨σ8.set i none,H8,J8.gone hN hi l8 n9 sb9,q8⟩
 ·have q':=q.unwish
  cases f with
  | next => exact wpAny_execs_nil q'
  | ret v => exact q'
  | brk => exact q'
  | cont => exact q'
inductive DV where
 | non | bl (b:Bool) | int (i:Int) | str (x:Str) | lst (xs:List DV) | tup (xs:List DV)
mutual
noncomputable def eqD:DV -> DV -> Bool
 | .non,.non => true
 | .bl a,.bl b => a == b
 | .bl a,.int b => (if a then 1 else 0) == b
 | .int a,.bl b => a == (if b then 1 else 0)
 | .int a,.int b => a == b
 | .str a,.str b => a == b
 | .lst a,.lst b => eqDs a b
 | .tup a,.tup b => eqDs a b
 | _,_ => false
noncomputable def eqDs:List DV -> List DV -> Bool
 | [],[] => true
 | a :: r,b :: t => eqD a b && eqDs r t
 | _,_ => false
end
mutual
noncomputable def ht:DV -> Nat
 | .lst xs => hts xs+1
 | .tup xs => hts xs+1
 | _ => 0
noncomputable def hts:List DV -> Nat
 | [] => 0
 | a :: r => max (ht a) (hts r)
end
theorem ht_lst (ds:List DV):ht (.lst ds)=hts ds+1:=by unfold ht; rfl
theorem ht_tup (ds:List DV):ht (.tup ds)=hts ds+1:=by unfold ht; rfl
mutual
inductive Deep (K:Frag) (H:Hp):V -> DV -> Prop where
 | non:Deep K H .non .non
 | bl (b:Bool):Deep K H (.bl b) (.bl b)
 | int (i:Int):Deep K H (.int i) (.int i)
 | str (x:Str):Deep K H (.str x) (.str x)
 | lst {a:Addr} {xs:List V} {ds:List DV} (h:SqL K H a xs) (t:Deeps K H xs ds):Deep K H (.ref a) (.lst ds)
 | tup {a:Addr} {xs:List V} {ds:List DV} (h:SqT K H a xs) (t:Deeps K H xs ds):Deep K H (.ref a) (.tup ds)
inductive Deeps (K:Frag) (H:Hp):List V -> List DV -> Prop where
 | nil:Deeps K H [] []
 | cons {x:V} {d:DV} {xs:List V} {ds:List DV} (h:Deep K H x d) (t:Deeps K H xs ds):Deeps K H (x :: xs) (d :: ds)
end
theorem Deeps.length {K:Frag} {H:Hp}:∀ {xs:List V} {ds:List DV},Deeps K H xs ds -> xs.length=ds.length
 | _,_,.nil => rfl
 | _,_,.cons _ t => by rw [List.length_cons,List.length_cons,Deeps.length t]
theorem Deeps.get {K:Frag} {H:Hp}:∀ {xs:List V} {ds:List DV} {i:Nat} {d:DV},Deeps K H xs ds -> ds[i]?=some d -> ∃ x,xs[i]?=some x∧Deep K H x d
 | _,_,_,_,.nil,e => by simp at e
 | _,_,0,_,.cons h _,e => by simp at e; subst e; exact ⟨_,rfl,h⟩
 | _,_,i+1,d,.cons _ t,e => by
  obtain ⟨x,h1,h2⟩:=Deeps.get (i:=i) (d:=d) t (by simpa using e)
  exact ⟨x,by simpa using h1,h2⟩
theorem Deeps.ints {K:Frag} {H:Hp}:∀ ns:List Int,Deeps K H (ns.map V.int) (ns.map DV.int)
 | [] => .nil
 | n :: r => .cons (.int n) (Deeps.ints r)
theorem eqDs_len:∀ {a b:List DV},eqDs a b=true -> a.length=b.length
 | [],[],_ => rfl
 | a :: r,b :: t,h => by
  unfold eqDs at h
  rw [Bool.and_eq_true] at h
  rw [List.length_cons,List.length_cons,eqDs_len h.2]
 | [],_ :: _,h => by unfold eqDs at h; cases h
 | _ :: _,[],h => by unfold eqDs at h; cases h
noncomputable def eAt (ds es:List DV) (j:Nat):Bool:=match ds[j]?,es[j]? with
 | some d,some e => eqD d e
 | _,_ => true
theorem all_eAt:∀ (ds es:List DV),ds.length=es.length -> (List.range ds.length).all (eAt ds es)=eqDs ds es
 | [],[],_ => by unfold eqDs; rfl
 | d :: r,e :: t,h => by
  have ih:=all_eAt r t (by simpa using h)
  rw [List.length_cons,List.range_succ_eq_map,List.all_cons,List.all_map]
  unfold eqDs
  rw [← ih]
  congr 1
 | [],_ :: _,h => by cases h
 | _ :: _,[],h => by cases h
theorem all_eAt_min:∀ (ds es:List DV),((List.range (min ds.length es.length)).all (eAt ds es) && ds.length == es.length)=eqDs ds es:=fun ds es => by
 by_cases h:ds.length=es.length
 ·rw [h,Nat.min_self,← h,all_eAt ds es h]; simp
 ·have h1:(ds.length == es.length)=false:=by simpa using h
  rw [h1,Bool.and_false]
  cases q:eqDs ds es with
  | false => rfl
  | true => exact absurd (eqDs_len q) h
theorem hts_get:∀ {ds:List DV} {i:Nat} {d:DV},ds[i]?=some d -> ht d≤hts ds
 | [],_,_,e => by simp at e
 | a :: r,0,d,e => by simp at e; subst e; unfold hts; exact Nat.le_max_left _ _
 | a :: r,i+1,d,e => by
  have:=hts_get (ds:=r) (i:=i) (d:=d) (by simpa using e)
  unfold hts; exact Nat.le_trans this (Nat.le_max_right _ _)
section
variable {X:Cx} {pins:List (Addr×Obj)} {σ:St} {H:Hp} {s:Shared}
theorem lt_ne {a:Addr} {xs ys:List V} (I:Inv X pins σ H s) (h1:SqL X.K H a xs) (h2:SqT X.K H a ys):False:=by
 obtain ⟨its,_,p,_⟩:=I.list h1
 obtain ⟨its2,_,q,_⟩:=I.tuple h2
 exact SeqAt.ne_of_list_tuple p.isList (show s.heap.IsTuple a its2.toArray from q) rfl
mutual
theorem Deep.inj (I:Inv X pins σ H s):∀ {d:DV} {x:V} {e:DV},Deep X.K H x d -> Deep X.K H x e -> d=e
 | .non,_,_,.non,h => by cases h; rfl
 | .bl b,_,_,.bl _,h => by cases h; rfl
 | .int b,_,_,.int _,h => by cases h; rfl
 | .str b,_,_,.str _,h => by cases h; rfl
 | .lst ds,_,_,.lst h t,h' => by
  cases h' with
  | lst h2 t2 =>
   have e:=I.list_inj h h2
   subst e
   rw [Deeps.inj I t t2]
  | tup h2 t2 => exact (lt_ne I h h2).elim
 | .tup ds,_,_,.tup h t,h' => by
  cases h' with
  | tup h2 t2 =>
   have e:=I.tuple_inj h h2
   subst e
   rw [Deeps.inj I t t2]
  | lst h2 t2 => exact (lt_ne I h2 h).elim
theorem Deeps.inj (I:Inv X pins σ H s):∀ {ds:List DV} {xs:List V} {es:List DV},Deeps X.K H xs ds -> Deeps X.K H xs es -> ds=es
 | [],_,_,.nil,h => by cases h; rfl
 | d :: ds,_,_,.cons h t,h' => by
  cases h' with
  | cons h2 t2 => rw [Deep.inj I h h2,Deeps.inj I t t2]
end
mutual
theorem eqD_refl:∀ d:DV,eqD d d=true
 | .non => by unfold eqD; rfl
 | .bl b => by unfold eqD; simp
 | .int b => by unfold eqD; simp
 | .str b => by unfold eqD; simp
 | .lst ds => by unfold eqD; exact eqDs_refl ds
 | .tup ds => by unfold eqD; exact eqDs_refl ds
theorem eqDs_refl:∀ ds:List DV,eqDs ds ds=true
 | [] => by unfold eqDs; rfl
 | d :: r => by unfold eqDs; rw [eqD_refl d,eqDs_refl r]; rfl
end
theorem items_eq {A:Around} {xs ys:List V} {us vs:List Value} {ds es:List DV} (rx:Vals xs us) (ry:Vals ys vs) (t1:Deeps X.K H xs ds) (t2:Deeps X.K H ys es)
  (ih:∀ d∈ds,∀ (e:DV) (x y:V) (u v:Value),Deep X.K H x d -> Deep X.K H y e -> RelV x u -> RelV y v -> SeqAt.EqAt A s u v (eqD d e)) (j:Nat) (h1:j < us.toArray.size) (h2:j < vs.toArray.size) :
  SeqAt.EqAt A s us.toArray[j] vs.toArray[j] (eAt ds es j):=by
 have l1:=rx.length
 have l2:=ry.length
 have m1:=t1.length
 have m2:=t2.length
 simp only [List.size_toArray] at h1 h2
 have g1:ds[j]?=some ds[j]:=List.getElem?_eq_getElem (by trivial)
 have g2:es[j]?=some es[j]:=List.getElem?_eq_getElem (by trivial)
 obtain ⟨x,ex,dx⟩:=t1.get g1
 obtain ⟨y,ey,dy⟩:=t2.get g2
 obtain ⟨u,eu,ru⟩:=rx.get ex
 obtain ⟨v,ev,rv⟩:=ry.get ey
 have e1:us.toArray[j]=u:=by
  rw [List.getElem_toArray]
  exact Option.some.inj ((List.getElem?_eq_getElem h1).symm.trans eu)
 have e2:vs.toArray[j]=v:=by
  rw [List.getElem_toArray]
  exact Option.some.inj ((List.getElem?_eq_getElem h2).symm.trans ev)
 have e3:eAt ds es j=eqD ds[j] es[j]:=by unfold eAt; rw [g1,g2]
 rw [e1,e2,e3]
 exact ih _ (List.getElem_mem _) _ x y u v dx dy ru rv
theorem rc_deep (I:Inv X pins σ H s) {A:Around} (d e:DV) (x y:V) (u v:Value) (hx:Deep X.K H x d) (hy:Deep X.K H y e) (rx:RelV x u) (ry:RelV y v) (hu:A.units < cLine)
  (ih:∀ (d':DV),ht d' < ht d -> ∀ (e:DV) (x y:V) (u v:Value),Deep X.K H x d' -> Deep X.K H y e -> RelV x u -> RelV y v -> SeqAt.EqAt A.in1 s u v (eqD d' e)):SeqAt.RcAt A s u v (eqD d e):=by
 have hlt:∀ {ds:List DV} {d':DV},d'∈ds -> ht d' < hts ds+1:=fun {ds d'} hm => by
  obtain ⟨i,hi,e⟩:=List.getElem_of_mem hm
  exact Nat.lt_succ_of_le (hts_get (i:=i) (by rw [List.getElem?_eq_getElem hi,e]))
 cases hx with
 | non =>
  cases (show u=Value.none from rx)
  cases hy with
  | non => cases (show v=Value.none from ry); unfold eqD; exact SeqAt.RcAt.none_none
  | bl b => cases (show v=Value.bool b from ry); unfold eqD; exact SeqAt.RcAt.none_bool b
  | int b => obtain ⟨t,rfl⟩:=ry; unfold eqD; exact SeqAt.RcAt.none_int b t
  | str b => obtain ⟨t,rfl⟩:=ry; unfold eqD; exact SeqAt.RcAt.none_str b t
  | lst h t => cases ry; obtain ⟨its,r,p,_⟩:=I.list h; unfold eqD; exact SeqAt.RcAt.none_list p.isList hu
  | tup h t => cases ry; obtain ⟨its,r,p,_⟩:=I.tuple h; unfold eqD; exact SeqAt.RcAt.none_tuple (show s.heap.IsTuple _ its.toArray from p) hu
 | bl a =>
  cases (show u=Value.bool a from rx)
  cases hy with
  | non => cases (show v=Value.none from ry); unfold eqD; exact SeqAt.RcAt.bool_none a
  | bl b => cases (show v=Value.bool b from ry); unfold eqD; exact SeqAt.RcAt.bool_bool a b
  | int b => obtain ⟨t,rfl⟩:=ry; unfold eqD; exact SeqAt.RcAt.bool_int a b t
  | str b => obtain ⟨t,rfl⟩:=ry; unfold eqD; exact SeqAt.RcAt.bool_str a b t
  | lst h t => cases ry; obtain ⟨its,r,p,_⟩:=I.list h; unfold eqD; exact SeqAt.RcAt.bool_list a p.isList hu
  | tup h t => cases ry; obtain ⟨its,r,p,_⟩:=I.tuple h; unfold eqD; exact SeqAt.RcAt.bool_tuple a (show s.heap.IsTuple _ its.toArray from p) hu
 | int a =>
  obtain ⟨t',rfl⟩:=rx
  cases hy with
  | non => cases (show v=Value.none from ry); unfold eqD; exact SeqAt.RcAt.int_none a t'
  | bl b => cases (show v=Value.bool b from ry); unfold eqD; exact SeqAt.RcAt.int_bool a t' b
  | int b => obtain ⟨t,rfl⟩:=ry; unfold eqD; exact SeqAt.RcAt.int_int a t' b t
  | str b => obtain ⟨t,rfl⟩:=ry; unfold eqD; exact SeqAt.RcAt.int_str a t' b t
  | lst h t => cases ry; obtain ⟨its,r,p,_⟩:=I.list h; unfold eqD; exact SeqAt.RcAt.int_list a t' p.isList hu
  | tup h t => cases ry; obtain ⟨its,r,p,_⟩:=I.tuple h; unfold eqD; exact SeqAt.RcAt.int_tuple a t' (show s.heap.IsTuple _ its.toArray from p) hu
 | str a =>
  obtain ⟨t',rfl⟩:=rx
  cases hy with
  | non => cases (show v=Value.none from ry); unfold eqD; exact SeqAt.RcAt.str_none a t'
  | bl b => cases (show v=Value.bool b from ry); unfold eqD; exact SeqAt.RcAt.str_bool a t' b
  | int b => obtain ⟨t,rfl⟩:=ry; unfold eqD; exact SeqAt.RcAt.str_int a t' b t
  | str b => obtain ⟨t,rfl⟩:=ry; unfold eqD; exact SeqAt.RcAt.str_str a t' b t
  | lst h t => cases ry; obtain ⟨its,r,p,_⟩:=I.list h; unfold eqD; exact SeqAt.RcAt.str_list a t' p.isList hu
  | tup h t => cases ry; obtain ⟨its,r,p,_⟩:=I.tuple h; unfold eqD; exact SeqAt.RcAt.str_tuple a t' (show s.heap.IsTuple _ its.toArray from p) hu
 | @lst a xs ds h t1 =>
  cases rx
  obtain ⟨its,r,p,_⟩:=I.list h
  cases hy with
  | non => cases (show v=Value.none from ry); unfold eqD; exact SeqAt.RcAt.list_none p.isList hu
  | bl b => cases (show v=Value.bool b from ry); unfold eqD; exact SeqAt.RcAt.list_bool b p.isList hu
  | int b => obtain ⟨t,rfl⟩:=ry; unfold eqD; exact SeqAt.RcAt.list_int b t p.isList hu
  | str b => obtain ⟨t,rfl⟩:=ry; unfold eqD; exact SeqAt.RcAt.list_str b t p.isList hu
  | @lst b ys es h2 t2 =>
   cases ry
   obtain ⟨its2,r2,p2,_⟩:=I.list h2
   have l1:=r.length
   have l2:=r2.length
   have m1:=t1.length
   have m2:=t2.length
   have it:=items_eq (A:=A.in1) r r2 t1 t2 fun d' hd' e x y u v a b c d => ih d' (by rw [ht_lst]; exact hlt hd') e x y u v a b c d
   unfold eqD
   by_cases hl:ds.length=es.length
   ·have q:=SeqAt.RcAt.lists (e:=eAt ds es) p.isList p2.isList (by simp only [List.size_toArray]; trivial) hu it
    rw [← all_eAt ds es hl]
    have e1:its.toArray.size=ds.length:=by simp only [List.size_toArray]; trivial
    rw [e1] at q
    exact q
   ·have q:=SeqAt.RcAt.lists_lengths (A:=A) p.isList p2.isList (by simp only [List.size_toArray,bne_iff_ne]; trivial) hu
    cases z:eqDs ds es with
    | false => exact q
    | true => exact absurd (eqDs_len z) hl
  | @tup b ys es h2 t2 =>
   cases ry
   obtain ⟨its2,r2,p2,_⟩:=I.tuple h2
   unfold eqD
   exact SeqAt.RcAt.list_tuple p.isList (show s.heap.IsTuple b its2.toArray from p2) hu
 | @tup a xs ds h t1 =>
  cases rx
  obtain ⟨its,r,p,_⟩:=I.tuple h
  have p':s.heap.IsTuple a its.toArray:=p
  cases hy with
  | non => cases (show v=Value.none from ry); unfold eqD; exact SeqAt.RcAt.tuple_none p' hu
  | bl b => cases (show v=Value.bool b from ry); unfold eqD; exact SeqAt.RcAt.tuple_bool b p' hu
  | int b => obtain ⟨t,rfl⟩:=ry; unfold eqD; exact SeqAt.RcAt.tuple_int b t p' hu
  | str b => obtain ⟨t,rfl⟩:=ry; unfold eqD; exact SeqAt.RcAt.tuple_str b t p' hu
  | @lst b ys es h2 t2 =>
   cases ry
   obtain ⟨its2,r2,p2,_⟩:=I.list h2
   unfold eqD
   exact SeqAt.RcAt.tuple_list p' p2.isList hu
  | @tup b ys es h2 t2 =>
   cases ry
   obtain ⟨its2,r2,p2,_⟩:=I.tuple h2
   have p2':s.heap.IsTuple b its2.toArray:=p2
   have l1:=r.length
   have l2:=r2.length
   have m1:=t1.length
   have m2:=t2.length
   have it:=items_eq (A:=A.in1) r r2 t1 t2 fun d' hd' e x y u v a b c d => ih d' (by rw [ht_tup]; exact hlt hd') e x y u v a b c d
   unfold eqD
   have q:=SeqAt.RcAt.tuples (e:=eAt ds es) p' p2' hu it
   have e1:its.toArray.size=ds.length:=by simp only [List.size_toArray]; trivial
   have e2:its2.toArray.size=es.length:=by simp only [List.size_toArray]; trivial
   rw [e1,e2,all_eAt_min] at q
   exact q
theorem eq_deep (I:Inv X pins σ H s):∀ (n:Nat) {A:Around} (d:DV),ht d≤n -> A.units+n < cLine -> ∀ (e:DV) (x y:V) (u v:Value),Deep X.K H x d -> Deep X.K H y e -> RelV x u -> RelV y v -> SeqAt.EqAt A s u v (eqD d e):=by
 intro n
 induction n with
 | zero =>
  intro A d hd hu e x y u v hx hy rx ry
  have rc:=rc_deep I (A:=A) d e x y u v hx hy rx ry (by trivial) (fun d' h => absurd h (by trivial))
  exact eq_of_rc I hx hy rx ry rc
 | succ n ihn =>
  intro A d hd hu e x y u v hx hy rx ry
  have rc:=rc_deep I (A:=A) d e x y u v hx hy rx ry (by trivial) (fun d' h => ihn (A:=A.in1) d' (by trivial) (by rw [Around.in1_units]; trivial))
  exact eq_of_rc I hx hy rx ry rc
where
 eq_of_rc (I:Inv X pins σ H s) {A:Around} {d e:DV} {x y:V} {u v:Value} (hx:Deep X.K H x d) (hy:Deep X.K H y e) (rx:RelV x u) (ry:RelV y v) (rc:SeqAt.RcAt A s u v (eqD d e)):SeqAt.EqAt A s u v (eqD d e):=by
  intro prog w E Q hq
  unfold eqBool
  refine wpAny_holding ?_
  refine wpAny_ite_split (fun hab => ?_) (fun hab => ?_)
  ·have e1:x=y:=by
    have e0:=eq_of_beq hab
    rw [e0] at rx
    exact rx.inj ry
   subst e1
   have e2:=Deep.inj I hx hy
   subst e2
   rw [eqD_refl] at hq
   exact wpAny_bind (wpAny_rule (wpAny_pure hq))
  ·cases hx <;> cases hy <;> first
    | (cases rx; cases ry; exact wpAny_bind (rc prog w E _ (wpAny_truthy_bool hq)))
    | (obtain ⟨t,rfl⟩:=rx; cases ry; exact wpAny_bind (rc prog w E _ (wpAny_truthy_bool hq)))
    | (cases rx; obtain ⟨t,rfl⟩:=ry; exact wpAny_bind (rc prog w E _ (wpAny_truthy_bool hq)))
    | (obtain ⟨t,rfl⟩:=rx; obtain ⟨t',rfl⟩:=ry; exact wpAny_bind (rc prog w E _ (wpAny_truthy_bool hq)))
theorem rcne_deep (I:Inv X pins σ H s) {A:Around} (d e:DV) (x y:V) (u v:Value) (hx:Deep X.K H x d) (hy:Deep X.K H y e) (rx:RelV x u) (ry:RelV y v) (hu:A.units < cLine)
  (ih:∀ (d':DV),ht d' < ht d -> ∀ (e:DV) (x y:V) (u v:Value),Deep X.K H x d' -> Deep X.K H y e -> RelV x u -> RelV y v -> SeqAt.EqAt A.in1 s u v (eqD d' e)):SeqAt.RcNeAt A s u v (!eqD d e):=by
 have hlt:∀ {ds:List DV} {d':DV},d'∈ds -> ht d' < hts ds+1:=fun {ds d'} hm => by
  obtain ⟨i,hi,e⟩:=List.getElem_of_mem hm
  exact Nat.lt_succ_of_le (hts_get (i:=i) (by rw [List.getElem?_eq_getElem hi,e]))
 cases hx with
 | non =>
  cases (show u=Value.none from rx)
  cases hy with
  | non => cases (show v=Value.none from ry); unfold eqD; exact SeqAt.RcNeAt.none_none
  | bl b => cases (show v=Value.bool b from ry); unfold eqD; exact SeqAt.RcNeAt.none_bool b
  | int b => obtain ⟨t,rfl⟩:=ry; unfold eqD; exact SeqAt.RcNeAt.none_int b t
  | str b => obtain ⟨t,rfl⟩:=ry; unfold eqD; exact SeqAt.RcNeAt.none_str b t
  | lst h t => cases ry; obtain ⟨its,r,p,_⟩:=I.list h; unfold eqD; exact SeqAt.RcNeAt.none_list p.isList hu
  | tup h t => cases ry; obtain ⟨its,r,p,_⟩:=I.tuple h; unfold eqD; exact SeqAt.RcNeAt.none_tuple (show s.heap.IsTuple _ its.toArray from p) hu
 | bl a =>
  cases (show u=Value.bool a from rx)
  cases hy with
  | non => cases (show v=Value.none from ry); unfold eqD; exact SeqAt.RcNeAt.bool_none a
  | bl b => cases (show v=Value.bool b from ry); unfold eqD; exact SeqAt.RcNeAt.bool_bool a b
  | int b => obtain ⟨t,rfl⟩:=ry; unfold eqD; exact SeqAt.RcNeAt.bool_int a b t
  | str b => obtain ⟨t,rfl⟩:=ry; unfold eqD; exact SeqAt.RcNeAt.bool_str a b t
  | lst h t => cases ry; obtain ⟨its,r,p,_⟩:=I.list h; unfold eqD; exact SeqAt.RcNeAt.bool_list a p.isList hu
  | tup h t => cases ry; obtain ⟨its,r,p,_⟩:=I.tuple h; unfold eqD; exact SeqAt.RcNeAt.bool_tuple a (show s.heap.IsTuple _ its.toArray from p) hu
 | int a =>
  obtain ⟨t',rfl⟩:=rx
  cases hy with
  | non => cases (show v=Value.none from ry); unfold eqD; exact SeqAt.RcNeAt.int_none a t'
  | bl b => cases (show v=Value.bool b from ry); unfold eqD; exact SeqAt.RcNeAt.int_bool a t' b
  | int b => obtain ⟨t,rfl⟩:=ry; unfold eqD; exact SeqAt.RcNeAt.int_int a t' b t
  | str b => obtain ⟨t,rfl⟩:=ry; unfold eqD; exact SeqAt.RcNeAt.int_str a t' b t
  | lst h t => cases ry; obtain ⟨its,r,p,_⟩:=I.list h; unfold eqD; exact SeqAt.RcNeAt.int_list a t' p.isList hu
  | tup h t => cases ry; obtain ⟨its,r,p,_⟩:=I.tuple h; unfold eqD; exact SeqAt.RcNeAt.int_tuple a t' (show s.heap.IsTuple _ its.toArray from p) hu
 | str a =>
  obtain ⟨t',rfl⟩:=rx
  cases hy with
  | non => cases (show v=Value.none from ry); unfold eqD; exact SeqAt.RcNeAt.str_none a t'
  | bl b => cases (show v=Value.bool b from ry); unfold eqD; exact SeqAt.RcNeAt.str_bool a t' b
  | int b => obtain ⟨t,rfl⟩:=ry; unfold eqD; exact SeqAt.RcNeAt.str_int a t' b t
  | str b => obtain ⟨t,rfl⟩:=ry; unfold eqD; exact SeqAt.RcNeAt.str_str a t' b t
  | lst h t => cases ry; obtain ⟨its,r,p,_⟩:=I.list h; unfold eqD; exact SeqAt.RcNeAt.str_list a t' p.isList hu
  | tup h t => cases ry; obtain ⟨its,r,p,_⟩:=I.tuple h; unfold eqD; exact SeqAt.RcNeAt.str_tuple a t' (show s.heap.IsTuple _ its.toArray from p) hu
 | @lst a xs ds h t1 =>
  cases rx
  obtain ⟨its,r,p,_⟩:=I.list h
  cases hy with
  | non => cases (show v=Value.none from ry); unfold eqD; exact SeqAt.RcNeAt.list_none p.isList hu
  | bl b => cases (show v=Value.bool b from ry); unfold eqD; exact SeqAt.RcNeAt.list_bool b p.isList hu
  | int b => obtain ⟨t,rfl⟩:=ry; unfold eqD; exact SeqAt.RcNeAt.list_int b t p.isList hu
  | str b => obtain ⟨t,rfl⟩:=ry; unfold eqD; exact SeqAt.RcNeAt.list_str b t p.isList hu
  | @lst b ys es h2 t2 =>
   cases ry
   obtain ⟨its2,r2,p2,_⟩:=I.list h2
   have l1:=r.length
   have l2:=r2.length
   have m1:=t1.length
   have m2:=t2.length
   have it:=items_eq (A:=A.in1) r r2 t1 t2 fun d' hd' e x y u v a b c d => ih d' (by rw [ht_lst]; exact hlt hd') e x y u v a b c d
   unfold eqD
   by_cases hl:ds.length=es.length
   ·have q:=SeqAt.RcNeAt.lists (e:=eAt ds es) p.isList p2.isList (by simp only [List.size_toArray]; trivial) hu it
    rw [← all_eAt ds es hl]
    have e1:its.toArray.size=ds.length:=by simp only [List.size_toArray]; trivial
    rw [e1] at q
    exact q
   ·have q:=SeqAt.RcNeAt.lists_lengths (A:=A) p.isList p2.isList (by simp only [List.size_toArray,bne_iff_ne]; trivial) hu
    cases z:eqDs ds es with
    | false => exact q
    | true => exact absurd (eqDs_len z) hl
  | @tup b ys es h2 t2 =>
   cases ry
   obtain ⟨its2,r2,p2,_⟩:=I.tuple h2
   unfold eqD
   exact SeqAt.RcNeAt.list_tuple p.isList (show s.heap.IsTuple b its2.toArray from p2) hu
 | @tup a xs ds h t1 =>
  cases rx
  obtain ⟨its,r,p,_⟩:=I.tuple h
  have p':s.heap.IsTuple a its.toArray:=p
  cases hy with
  | non => cases (show v=Value.none from ry); unfold eqD; exact SeqAt.RcNeAt.tuple_none p' hu
  | bl b => cases (show v=Value.bool b from ry); unfold eqD; exact SeqAt.RcNeAt.tuple_bool b p' hu
  | int b => obtain ⟨t,rfl⟩:=ry; unfold eqD; exact SeqAt.RcNeAt.tuple_int b t p' hu
  | str b => obtain ⟨t,rfl⟩:=ry; unfold eqD; exact SeqAt.RcNeAt.tuple_str b t p' hu
  | @lst b ys es h2 t2 =>
   cases ry
   obtain ⟨its2,r2,p2,_⟩:=I.list h2
   unfold eqD
   exact SeqAt.RcNeAt.tuple_list p' p2.isList hu
  | @tup b ys es h2 t2 =>
   cases ry
   obtain ⟨its2,r2,p2,_⟩:=I.tuple h2
   have p2':s.heap.IsTuple b its2.toArray:=p2
   have l1:=r.length
   have l2:=r2.length
   have m1:=t1.length
   have m2:=t2.length
   have it:=items_eq (A:=A.in1) r r2 t1 t2 fun d' hd' e x y u v a b c d => ih d' (by rw [ht_tup]; exact hlt hd') e x y u v a b c d
   unfold eqD
   have q:=SeqAt.RcNeAt.tuples (e:=eAt ds es) p' p2' hu it
   have e1:its.toArray.size=ds.length:=by simp only [List.size_toArray]; trivial
   have e2:its2.toArray.size=es.length:=by simp only [List.size_toArray]; trivial
   rw [e1,e2,all_eAt_min] at q
   exact q
end
noncomputable def rEqD (K:Frag):R2:=fun x y H Q => ∃ d e,Deep K H x d∧Deep K H y e∧ht d≤60∧Q (.bl (eqD d e)) H
theorem op_eqD {X:Cx} (hu:X.A.units+64 < cLine):OpR X (compareOp .Eq) (rEqD X.K):=by
 intro pins s σ H x y v u Q I rx ry h
 obtain ⟨d,e,hx,hy,hh,q⟩:=h
 have rc:=rc_deep I (A:=X.A) d e x y v u hx hy rx ry (by trivial) (fun d' h => eq_deep I 60 d' (by trivial) (by rw [Around.in1_units]; trivial))
 exact rc X.prog X.w X.xe _ ⟨.bl _,H,I,rfl,q⟩
noncomputable def rNeD (K:Frag):R2:=fun x y H Q => ∃ d e,Deep K H x d∧Deep K H y e∧ht d≤60∧Q (.bl (!eqD d e)) H
theorem op_neD {X:Cx} (hu:X.A.units+64 < cLine):OpR X (compareOp .NotEq) (rNeD X.K):=by
 intro pins s σ H x y v u Q I rx ry h
 obtain ⟨d,e,hx,hy,hh,q⟩:=h
 have rc:=rcne_deep I (A:=X.A) d e x y v u hx hy rx ry (by trivial) (fun d' h => eq_deep I 60 d' (by trivial) (by rw [Around.in1_units]; trivial))
 exact rc X.prog X.w X.xe _ ⟨.bl _,H,I,rfl,q⟩
end L2
namespace L2
open PySem PySem.Spec PyProof.Rows PySem.W
noncomputable def compOk (osc:Scope) (XN N:List Str) (js:List (Option Nat)) (scope:Scope):Bool :=
 scope.names.all (fun y => !(y.2 == NameKind.cell)) && scope.names.all (fun y => !(y.2 == NameKind.local) || scope.names.lookup y.1 == some .local) &&
 scope.names.all (fun y => !(y.2 == NameKind.free) || osc.names.lookup y.1 == some .cell || osc.names.lookup y.1 == some .free) && js.length == N.length &&
 (js.zip N).all (fun p => match p.1 with | none => true | some j => XN[j]? == some p.2 && scope.names.lookup p.2 == some .free)
theorem comp_scope {X:Cx} {N:List Str} {js:List (Option Nat)} {scope:Scope} {osc:Scope} {XN:List Str} (hk:scope.kind=.function) (e1:X.env.scope=osc) (e2:X.N=XN) (h:compOk osc XN N js scope=true):CompScope X N js scope:=by
 unfold compOk at h
 simp only [Bool.and_eq_true,List.all_eq_true,Bool.or_eq_true,Bool.not_eq_true',beq_iff_eq] at h
 obtain ⟨⟨⟨⟨h1,h2⟩,h3⟩,h4⟩,h5⟩:=h
 refine ⟨hk,fun y hy z => ?_,fun y hy z => ?_,fun y hy z => ?_,h4,fun i j x ej ex => ?_⟩
 ·have:=h1 y hy
  rw [z] at this; cases this
 ·rcases h2 y hy with q | q
  ·rw [z] at q; cases q
  ·exact q
 ·show X.env.scope.names.lookup y.1=_∨X.env.scope.names.lookup y.1=_
  rw [e1]
  rcases h3 y hy with (q | q) | q
  ·rw [z] at q; cases q
  ·exact .inl q
  ·exact .inr q
 ·have hm:(some j,x)∈js.zip N:=by
   refine List.mem_iff_getElem?.mpr ⟨i,?_⟩
   rw [List.getElem?_zip_eq_some]
   exact ⟨ej,ex⟩
  have q:=h5 _ hm
  simp only [Bool.and_eq_true,beq_iff_eq] at q
  rw [e2]
  exact q
noncomputable def CW (n:Nat) (Pv:Nat -> St -> Hp -> Prop) (i m:Nat) (σ:St) (H:Hp):Prop:=m=n - i∧i≤n∧Pv i σ H
theorem CW.next {n:Nat} {Pv:Nat -> St -> Hp -> Prop} {i:Nat} {σ:St} {H:Hp} (hi:i < n) (h:Pv (i+1) σ H):∃ m',m' < n - i∧CW n Pv (i+1) m' σ H:=⟨n - (i+1),by trivial,rfl,hi,h⟩
theorem comp_rng {lo:Int} {n:Nat} {D:Addr} {σ0:St} {H1:Hp} {Q:VK} {g:TG} {tc:TT} {te:TE} (Pv:Nat -> St -> Hp -> Prop) (h0:Pv 0 σ0 (upd H1 D (.lst [])))
  (hs:∀ i σ' H',i < n -> Pv i σ' H' -> g (.int (lo+i)) σ' H' fun σ2 H3 => tc σ2 H3 fun b H4 => if b=true then te σ2 H4 fun v H5 => rAppend (.ref D) [v] H5 fun _ H6 => ∃ m',m' < n - i∧CW n Pv (i+1) m' σ2 H6 else ∃ m',m' < n - i∧CW n Pv (i+1) m' σ2 H4)
  (hd:∀ σ' H',Pv n σ' H' -> Q (.ref D) H') :
  ∃ W:Nat -> Nat -> St -> Hp -> Prop,(∃ m,W 0 m σ0 (upd H1 D (.lst [])))∧∀ i m σ' H',W i m σ' H' -> ((Itr lo n).stop i H'∧Q (.ref D) H')∨((Itr lo n).go i H'∧∀ x H2,(Itr lo n).yld i H' x H2 -> g x σ' H2 fun σ2 H3 => tc σ2 H3 fun b H4 =>
   if b=true then te σ2 H4 fun v H5 => rAppend (.ref D) [v] H5 fun _ H6 => ∃ m',m' < m∧W (i+1) m' σ2 H6 else ∃ m',m' < m∧W (i+1) m' σ2 H4):=by
 refine ⟨CW n Pv,⟨n,rfl,Nat.zero_le _,h0⟩,?_⟩
 rintro i m σ' H' ⟨rfl,hi,p⟩
 by_cases hlt:i < n
 ·refine .inr ⟨hlt,fun x H2 y => ?_⟩
  obtain ⟨e,y⟩:=y
  subst e y
  exact hs i σ' _ hlt p
 ·have e:i=n:=by trivial
  subst e
  exact .inl ⟨Nat.le_refl _,hd σ' H' p⟩
theorem comp_lst {K:Frag} {a:Addr} {xs:List V} {D:Addr} {σ0:St} {H1:Hp} {Q:VK} {g:TG} {tc:TT} {te:TE} (Pv:Nat -> St -> Hp -> Prop) (h0:Pv 0 σ0 (upd H1 D (.lst []))) (hl:∀ i σ H,i≤xs.length -> Pv i σ H -> SqL K H a xs)
  (hs:∀ i x σ' H',xs[i]?=some x -> Pv i σ' H' -> g x σ' H' fun σ2 H3 => tc σ2 H3 fun b H4 => if b=true then te σ2 H4 fun v H5 => rAppend (.ref D) [v] H5 fun _ H6 => ∃ m',m' < xs.length - i∧CW xs.length Pv (i+1) m' σ2 H6 else ∃ m',m' < xs.length - i∧CW xs.length Pv (i+1) m' σ2 H4)
  (hd:∀ σ' H',Pv xs.length σ' H' -> Q (.ref D) H') :
  ∃ W:Nat -> Nat -> St -> Hp -> Prop,(∃ m,W 0 m σ0 (upd H1 D (.lst [])))∧∀ i m σ' H',W i m σ' H' -> ((Itl K a).stop i H'∧Q (.ref D) H')∨((Itl K a).go i H'∧∀ x H2,(Itl K a).yld i H' x H2 -> g x σ' H2 fun σ2 H3 => tc σ2 H3 fun b H4 =>
   if b=true then te σ2 H4 fun v H5 => rAppend (.ref D) [v] H5 fun _ H6 => ∃ m',m' < m∧W (i+1) m' σ2 H6 else ∃ m',m' < m∧W (i+1) m' σ2 H4):=by
 refine ⟨CW xs.length Pv,⟨xs.length,rfl,Nat.zero_le _,h0⟩,?_⟩
 rintro i m σ' H' ⟨rfl,hi,p⟩
 have q:=hl i σ' H' hi p
 by_cases hlt:i < xs.length
 ·refine .inr ⟨⟨xs,xs[i],q,by simp [hlt]⟩,fun x H2 y => ?_⟩
  obtain ⟨e,y⟩:=y
  subst e
  exact hs i x σ' _ (y xs q) p
 ·have e:i=xs.length:=by trivial
  subst e
  exact .inl ⟨⟨xs,q,Nat.le_refl _⟩,hd σ' H' p⟩
noncomputable def rBitLen:V -> List V -> Hp -> VK -> Prop:=fun x vs H Q => ∃ n,x=.int n∧vs=[]∧Q (.int (Builtin.Int.intBits n)) H
theorem mt_bitlen {X:Cx}:MtR X "int.bit_length" rBitLen:=by
 intro pins s σ H x xs v us Q I rx rv h
 obtain ⟨n,rfl,rfl,q⟩:=h
 obtain ⟨t,rfl⟩:=rx
 cases rv.zero
 exact call_int_bit_length ⟨.int _,H,I.tok _,⟨_,rfl⟩,q⟩
theorem eqDs_ints:∀ (a b:List Int),eqDs (a.map DV.int) (b.map DV.int)=decide (a=b)
 | [],[] => by unfold eqDs; rfl
 | [],_ :: _ => by simp [eqDs]
 | _ :: _,[] => by simp [eqDs]
 | x :: r,y :: t => by
  rw [List.map_cons,List.map_cons]
  unfold eqDs eqD
  rw [eqDs_ints r t]
  by_cases h:x=y <;> by_cases h2:r=t <;> simp [h,h2]
theorem hts_ints:∀ a:List Int,hts (a.map DV.int)=0
 | [] => by unfold hts; rfl
 | x :: r => by rw [List.map_cons]; unfold hts ht; rw [hts_ints r]; rfl
noncomputable def rEqI (K:Frag):R2:=fun x y H Q => ∃ (a b:Addr) (ns ms:List Int),x=.ref a∧y=.ref b∧SqL K H a (ns.map V.int)∧SqL K H b (ms.map V.int)∧Q (.bl (decide (ns=ms))) H
noncomputable def rNeI (K:Frag):R2:=fun x y H Q => ∃ (a b:Addr) (ns ms:List Int),x=.ref a∧y=.ref b∧SqL K H a (ns.map V.int)∧SqL K H b (ms.map V.int)∧Q (.bl (!decide (ns=ms))) H
theorem op_eqL {X:Cx} (hu:X.A.units+64 < cLine):OpR X (compareOp .Eq) (rEqI X.K):=by
 intro pins s σ H x y v u Q I rx ry h
 obtain ⟨a,b,ns,ms,rfl,rfl,h1,h2,q⟩:=h
 refine op_eqD hu pins s σ H _ _ v u Q I rx ry ⟨_,_,.lst h1 (Deeps.ints ns),.lst h2 (Deeps.ints ms),?_,?_⟩
 ·unfold ht; rw [hts_ints]; decide
 ·unfold eqD; rw [eqDs_ints]; exact q
theorem op_neL {X:Cx} (hu:X.A.units+64 < cLine):OpR X (compareOp .NotEq) (rNeI X.K):=by
 intro pins s σ H x y v u Q I rx ry h
 obtain ⟨a,b,ns,ms,rfl,rfl,h1,h2,q⟩:=h
 refine op_neD hu pins s σ H _ _ v u Q I rx ry ⟨_,_,.lst h1 (Deeps.ints ns),.lst h2 (Deeps.ints ms),?_,?_⟩
 ·unfold ht; rw [hts_ints]; decide
 ·unfold eqD; rw [eqDs_ints]; exact q
theorem units_of {A:Around} {k:Nat} (hr:Room k A):A.units+64 < cLine:=by have:=hr.un; trivial
noncomputable def rIndex (K:Frag):V -> List V -> Hp -> VK -> Prop:=fun x vs H Q => ∃ (p:Addr) (pre:List Int) (k:Int) (post:List Int),x=.ref p∧vs=[.int k]∧SqL K H p ((pre++k :: post).map V.int)∧k ∉ pre∧Q (.int (pre.length:Nat)) H
theorem mt_index {X:Cx}:MtR X "list.index" (rIndex X.K):=by
 intro pins s σ H x vs v us Q I rx rv h
 obtain ⟨p,pre,k,post,rfl,rfl,hs,hn,q⟩:=h
 cases rx
 obtain ⟨u,rfl,ru⟩:=rv.one
 obtain ⟨t,rfl⟩:=ru
 obtain ⟨its,r,pl,hz⟩:=I.list hs
 obtain ⟨⟨oc,od,dt,sl⟩,n,e,hc,hdn,hdt⟩:=id pl
 dsimp only at hc hdn hdt
 subst hc hdn hdt
 have hl:=r.length
 rw [List.length_map,List.length_append,List.length_cons] at hl hz
 have fl:((pre++k :: post).map V.int).all flatV=true:=by
  rw [List.all_eq_true]
  intro y hy
  obtain ⟨z,_,rfl⟩:=List.mem_map.mp hy
  rfl
 have at':∀ (j:Nat) (z:Int),(pre++k :: post)[j]?=some z -> ∀ (h:j < its.toArray.size),eqU (.int k) its.toArray[j]=(z == k):=fun j z ez h => by
  obtain ⟨u,eu,ru⟩:=r.get (i:=j) (x:=.int z) (by rw [List.getElem?_map,ez]; rfl)
  have e1:its.toArray[j]=u:=by
   rw [List.getElem_toArray]
   exact Option.some.inj ((List.getElem?_eq_getElem (by simpa using h)).symm.trans eu)
  rw [e1,eqU_of ru rfl]; rfl
 refine call_meets F.slot_list_index ⟨_,e,rfl⟩ F.entry_list_index (F.args_list_index_2 _ _) (SeqAt.list_indexAt p its.toArray n none sl (.int k t) (eqU (.int k)) pre.length (by rw [List.size_toArray]; trivial) ?_ ?_ ?_) ⟨e,fun y hy => mem_eqAt (x:=.int k) ⟨t,rfl⟩ rfl r fl y (by simpa using hy),?_⟩
 ·have h24:sizeLine=16777216:=by decide
  trivial
 ·rw [at' pre.length k (by rw [List.getElem?_append_right (Nat.le_refl _)]; simp)]
  simp
 ·intro m hm hlt
  have hp:m < pre.length:=hlt
  rw [at' m pre[m] (by rw [List.getElem?_append_left hp,List.getElem?_eq_getElem hp])]
  have:pre[m]≠k:=fun z => hn (z ▸ List.getElem_mem hp)
  simpa using this
 ·exact ⟨.int _,H,I.tok _,⟨_,rfl⟩,q⟩
theorem nameT {j:Nat} {v:V} {σ:St} {H:Hp} {A B:St -> Hp -> Prop} (h:A (σ.set j (some v)) H):gName j v σ H (fun σ2 H3 => tTrue σ2 H3 (fun b H4 => if b=true then A σ2 H4 else B σ2 H4)):=by
 show if true=true then A (σ.set j (some v)) H else B (σ.set j (some v)) H
 exact iteT h
end L2
namespace PH
noncomputable def worth (bs:List Int):Int:=bs.foldl (fun a b => a+a+b) 0
noncomputable def horner (bs:List Int):Int:=bs.foldl (fun a b => 2 * a+b) 0
noncomputable def isBits (bs:List Int):Prop:=∀ b∈bs,b=0∨b=1
noncomputable def wl:List Int -> Int
 | [] => 0
 | b :: r => b+2 * wl r
noncomputable def rlow (n:Int):Nat -> List Int
 | 0 => []
 | k+1 => (n % 2) :: rlow (n / 2) k
noncomputable def lowb (n:Int) (k:Nat):List Int:=(rlow n k).reverse
theorem foldl_worth (bs:List Int):∀ a,bs.foldl (fun a b => a+a+b) a=bs.foldl (fun a b => 2 * a+b) a:=by
 induction bs with
 | nil => intro a; rfl
 | cons b r ih => intro a; simp only [List.foldl_cons]; rw [show a+a+b=2 * a+b by trivial]; exact ih _
theorem worth_eq (bs:List Int):horner bs=worth bs:=(foldl_worth bs 0).symm
theorem worth_snoc (bs:List Int) (b:Int):worth (bs++[b])=worth bs+worth bs+b:=by unfold worth; rw [List.foldl_append]; rfl
theorem horner_snoc (bs:List Int) (b:Int):horner (bs++[b])=2 * horner bs+b:=by unfold horner; rw [List.foldl_append]; rfl
theorem wl_cons (b:Int) (r:List Int):wl (b :: r)=b+2 * wl r:=rfl
theorem worth_rev:∀ rs:List Int,worth rs.reverse=wl rs
 | [] => rfl
 | b :: r => by rw [List.reverse_cons,worth_snoc,worth_rev r,wl_cons]; trivial
theorem worth_wl (bs:List Int):worth bs=wl bs.reverse:=by rw [← worth_rev,List.reverse_reverse]
theorem isBits_rev {bs:List Int} (h:isBits bs):isBits bs.reverse:=fun b hb => h b (List.mem_reverse.mp hb)
theorem rlow_length (n:Int) (k:Nat):(rlow n k).length=k:=by
 induction k generalizing n with
 | zero => rfl
 | succ k ih => unfold rlow; rw [List.length_cons,ih]
theorem lowb_length (n:Int) (k:Nat):(lowb n k).length=k:=by unfold lowb; rw [List.length_reverse,rlow_length]
theorem rlow_bits (n:Int) (k:Nat):isBits (rlow n k):=by
 induction k generalizing n with
 | zero => intro b hb; cases hb
 | succ k ih =>
  intro b hb
  unfold rlow at hb
  rcases List.mem_cons.mp hb with e | hb
  ·trivial
  ·exact ih _ b hb
theorem lowb_bits (n:Int) (k:Nat):isBits (lowb n k):=isBits_rev (rlow_bits n k)
theorem rlow_snoc (n:Int) (k:Nat):rlow n (k+1)=rlow n k++[(n / 2 ^ k) % 2]:=by
 induction k generalizing n with
 | zero => unfold rlow rlow; simp
 | succ k ih =>
  rw [show rlow n (k+1+1)=(n % 2) :: rlow (n / 2) (k+1) from rfl,ih]
  rw [show rlow n (k+1)=(n % 2) :: rlow (n / 2) k from rfl,List.cons_append]
  congr 3
  rw [Int.pow_succ,Int.mul_comm,← Int.ediv_ediv_of_nonneg (by decide)]
theorem div_pow_succ (n:Int) (k:Nat):n / 2 ^ k / 2=n / 2 ^ (k+1):=by
 rw [Int.ediv_ediv_of_nonneg (Int.le_of_lt (Int.pow_pos (by decide))),Int.pow_succ]
theorem rlow_zero (k:Nat):rlow 0 k=List.replicate k 0:=by
 induction k with
 | zero => rfl
 | succ k ih => unfold rlow; rw [List.replicate_succ]; simp [ih]
theorem rlow_wl:∀ (rs:List Int),isBits rs -> ∀ m,rlow (wl rs) (rs.length+m)=rs++List.replicate m 0
 | [],_,m => by rw [List.length_nil,Nat.zero_add]; unfold wl; rw [rlow_zero]; rfl
 | b :: r,h,m => by
  have hb:=h b List.mem_cons_self
  have ih:=rlow_wl r (fun c hc => h c (List.mem_cons_of_mem _ hc)) m
  rw [show (b :: r).length+m=(r.length+m)+1 by rw [List.length_cons]; trivial]
  unfold rlow
  have e1:wl (b :: r) % 2=b:=by rw [wl_cons]; trivial
  have e2:wl (b :: r) / 2=wl r:=by rw [wl_cons]; trivial
  rw [e1,e2,ih]; rfl
theorem lowb_worth {bs:List Int} (h:isBits bs) (m:Nat):lowb (worth bs) (bs.length+m)=List.replicate m 0++bs:=by
 unfold lowb
 rw [worth_wl,show bs.length=bs.reverse.length by rw [List.length_reverse],rlow_wl _ (isBits_rev h),List.reverse_append,List.reverse_reverse,List.reverse_replicate]
theorem wl_bound:∀ (rs:List Int),isBits rs -> 0≤wl rs∧wl rs < 2 ^ rs.length
 | [],_ => by unfold wl; simp
 | b :: r,h => by
  have hb:=h b List.mem_cons_self
  have ih:=wl_bound r fun c hc => h c (List.mem_cons_of_mem _ hc)
  rw [List.length_cons,Int.pow_succ,wl_cons]
  trivial
theorem worth_bound {bs:List Int} (h:isBits bs):0≤worth bs∧worth bs < 2 ^ bs.length:=by
 have:=wl_bound _ (isBits_rev h)
 rw [List.length_reverse,← worth_wl] at this
 exact this
theorem foldl_shift (bs:List Int):∀ a,bs.foldl (fun a b => a+a+b) a=a * 2 ^ bs.length+worth bs:=by
 induction bs with
 | nil => intro a; unfold worth; simp
 | cons b r ih =>
  intro a
  rw [List.foldl_cons,ih]
  show _=a * 2 ^ (r.length+1)+(r.foldl _ (0+0+b))
  rw [ih (0+0+b),Int.pow_succ,Int.add_mul,Int.add_mul]
  rw [show a * (2 ^ r.length * 2)=a * 2 ^ r.length * 2 by rw [Int.mul_assoc]]
  generalize a * 2 ^ r.length=z
  have:(0+0+b) * 2 ^ r.length=b * 2 ^ r.length:=by rw [show (0:Int)+0+b=b by trivial]
  rw [this]
  trivial
theorem worth_one (t:List Int) (h:isBits t):2 ^ t.length≤worth (1 :: t)∧worth (1 :: t) < 2 ^ (t.length+1):=by
 have e:worth (1 :: t)=1 * 2 ^ t.length+worth t:=by
  show t.foldl _ (0+0+1)=_
  rw [foldl_shift]; rfl
 have:=worth_bound h
 rw [Int.pow_succ]
 trivial
noncomputable def blen (n:Int):Nat:=if n == 0 then 0 else n.natAbs.log2+1
theorem blen_le {n:Int} {m:Nat}:blen n≤m ↔ n.natAbs < 2 ^ m:=by
 unfold blen
 by_cases h0:n=0
 ·subst h0
  simp [Nat.pow_pos]
 ·have h1:(n == 0)=false:=by simpa using h0
  rw [h1]
  simp only [Bool.false_eq_true,if_false]
  have hn:n.natAbs≠0:=by trivial
  rw [Nat.add_one_le_iff]
  exact Nat.log2_lt hn
theorem blen_one {t:List Int} (h:isBits t):blen (worth (1 :: t))=t.length+1:=by
 have b:=worth_one t h
 have p0:(0:Int) < 2 ^ t.length:=Int.pow_pos (by decide)
 have e:((worth (1 :: t)).natAbs:Int)=worth (1 :: t):=Int.natAbs_of_nonneg (by trivial)
 have c1:(((2:Nat) ^ t.length:Nat):Int)=(2:Int) ^ t.length:=by norm_cast
 have c2:(((2:Nat) ^ (t.length+1):Nat):Int)=(2:Int) ^ (t.length+1):=by norm_cast
 have h1:blen (worth (1 :: t))≤t.length+1:=blen_le.mpr (by trivial)
 have h2:¬ blen (worth (1 :: t))≤t.length:=fun z => by have:=blen_le.mp z; trivial
 trivial
theorem blen_pos {n:Int} (h:1≤n):1≤blen n:=by
 have:¬ blen n≤0:=fun z => by have:=blen_le.mp z; trivial
 trivial
theorem lt_blen {n:Int} (h:0≤n):n < 2 ^ blen n:=by
 have:=(blen_le (n:=n) (m:=blen n)).mp (Nat.le_refl _)
 have e:(n.natAbs:Int)=n:=Int.natAbs_of_nonneg h
 have c1:(((2:Nat) ^ blen n:Nat):Int)=(2:Int) ^ blen n:=by norm_cast
 trivial
noncomputable def endb (n:Int):List Int:=List.replicate (blen n - 1) 0++lowb n (blen n)
theorem endb_one {t:List Int} (h:isBits t):endb (worth (1 :: t))=List.replicate t.length 0++(1 :: t):=by
 unfold endb
 have hb:isBits (1 :: t):=fun c hc => by
  rcases List.mem_cons.mp hc with r | r
  ·exact .inr r
  ·exact h c r
 have l:=lowb_worth hb 0
 rw [Nat.add_zero,List.length_cons] at l
 rw [blen_one h,l]
 rfl
end PH
set_option maxHeartbeats 4000000
namespace PH
open PySem L2 PySem.W
theorem same_new {H:Hp} {p:Addr} (h:H p=none) (o:HO):Same H (upd H p o):=fun b u q => by rw [upd_ne (ne_of_none q h)]; exact q
noncomputable def deckO (a b c:Int):HO:=.lst [.int a,.int b,.int c]
noncomputable def lsI (ns:List Int):HO:=.lst (ns.map V.int)
noncomputable def spWorth (K:PySem.W.Frag):Sp:=fun vs H Q _ => ∃ (a:Addr) (bs:List Int),vs=[.ref a]∧SqL K H a (bs.map V.int)∧Q (.int (worth bs)) H
theorem int_at {ns:List Int} {i:Nat} {y:V} (h:(ns.map V.int)[i]?=some y):∃ z,y=V.int z∧ns[i]?=some z:=by
 rw [List.getElem?_map] at h
 cases e:ns[i]? with
 | none => rw [e] at h; cases h
 | some z => rw [e] at h; exact ⟨z,(Option.some.inj h).symm,rfl⟩
theorem take_at {α:Type} {ns:List α} {i:Nat} {z:α} (h:ns[i]?=some z):ns.take (i+1)=ns.take i++[z]:=by rw [List.take_add_one,h]; rfl
theorem cut_to {α:Type} {f:Int -> V} (ns:List Int) (k:Nat):cutV (ns.map f) none (some (k:Int))=(ns.take k).map f:=by
 unfold cutV
 rw [HT.sIx_none,HT.sIx_nat,List.drop_zero,Nat.sub_zero,List.length_map,← List.map_take]
 congr 1
 rcases Nat.le_total k ns.length with h | h
 ·rw [Nat.min_eq_left h]
 ·rw [Nat.min_eq_right h,List.take_of_length_le (Nat.le_refl _),List.take_of_length_le h]
abbrev bmV:List Value:=[.type "ValueError",.type "Exception",.type "BaseException",.type "object"]
structure Ex (K:Frag) (mg:Str -> Option Value) (x:Str) (C:Addr):Prop where
 mg:mg x=some (.ref C)
 ex:excIn K C bmV "ValueError.__new__" = true
 cl:ExcC K C
theorem bits_over {n:Int} {k:Nat} (h0:0≤n):decide (((k:Nat):Int) < ((Builtin.Int.intBits n:Nat):Int))=decide (2 ^ k≤n):=by
 have h:=intBits_le_iff (m:=k) (x:=n)
 have e:((n.natAbs:Nat):Int)=n:=Int.natAbs_of_nonneg h0
 have e2:(((2 ^ k:Nat)):Int)=(2:Int) ^ k:=by norm_cast
 apply decide_eq_decide.mpr
 constructor
 ·intro q
  have:¬ n.natAbs < 2 ^ k:=fun z => by have:=h.mpr z; trivial
  trivial
 ·intro q
  have:¬ Builtin.Int.intBits n≤k:=fun z => by have:=h.mp z; trivial
  trivial
noncomputable def spLow (cN:Addr):Sp:=fun vs H Q E => ∃ (n:Int) (k:Nat),vs=[.int n,.int k]∧k≤1000∧(((n < 0∨2 ^ k≤n)∧E (.ref cN) none H)∨((0≤n∧n < 2 ^ k)∧∀ p,H p=none -> Q (.ref p) (upd H p (lsI (lowb n k)))))
theorem kit_refl (K:Frag) (t:Value):kitOne K t t=some true:=by unfold kitOne; rw [if_pos (beq_self_eq_true t)]
theorem kit_ib (K:Frag):kitOne K (.type "int") (.type "bool")=some false:=by rfl
theorem boot_isi:bootBuiltins "isinstance" = some (.builtin "isinstance"):=by decide +kernel
theorem boot_list':bootBuiltins "list" = some (.type "list"):=by decide +kernel
theorem boot_int':bootBuiltins "int" = some (.type "int"):=by decide +kernel
theorem boot_bool':bootBuiltins "bool" = some (.type "bool"):=by decide +kernel
structure Bl (mg:Str -> Option Value):Prop where
 isi:mg "isinstance" = none
 list:mg "list" = none
 int:mg "int" = none
 bool:mg "bool" = none
 len:mg "len" = none
 range:mg "range" = none
 max:mg "max" = none
 ve:mg "ValueError" = none
theorem cut_from (ns:List Int) (k:Nat):cutV (ns.map V.int) (some (k:Int)) none=(ns.drop k).map V.int:=by
 unfold cutV
 rw [HT.sIx_none,HT.sIx_nat,List.length_map]
 rcases Nat.le_total k ns.length with h | h
 ·rw [Nat.min_eq_left h,← List.map_drop,List.take_of_length_le (by rw [List.length_map,List.length_drop]; exact Nat.le_refl _)]
 ·rw [Nat.min_eq_right h,Nat.sub_self,List.take_zero,List.drop_of_length_le h]; rfl
theorem rep_ints (m:Nat) (x:Int):(List.replicate m [V.int x]).flatten=(List.replicate m x).map V.int:=by
 induction m with
 | zero => rfl
 | succ m ih => rw [List.replicate_succ,List.replicate_succ,List.flatten_cons,List.map_cons,ih]; rfl
theorem fits {n:Nat} (h:n≤1000000):n≤sizeLine:=by
 have:sizeLine=16777216:=by decide
 trivial
theorem fits_lt {n:Nat} (h:n≤1000000):n < sizeLine:=by
 have:sizeLine=16777216:=by decide
 trivial
end PH
namespace PH
noncomputable def firstOne:List Int -> Option Nat
 | [] => none
 | b :: r => if b=1 then some 0 else (firstOne r).map (·+1)
noncomputable def readE (bs:List Int) (at_:Int):Option (Int×Nat) :=
 if at_ < 0 then none else
 match firstOne (bs.drop at_.toNat) with
 | none => none
 | some d => if bs.length < at_.toNat+d+d+1 then none else some (worth ((bs.drop (at_.toNat+d)).take (d+1)),at_.toNat+d+d+1)
theorem firstOne_lt:∀ {bs:List Int} {d:Nat},firstOne bs=some d -> d < bs.length
 | [],_,h => by cases h
 | b :: r,d,h => by
  unfold firstOne at h
  split at h
  ·cases h; exact Nat.succ_pos _
  ·cases e:firstOne r with
   | none => rw [e] at h; cases h
   | some k =>
    rw [e] at h
    have:k+1=d:=Option.some.inj h
    have:=firstOne_lt e
    rw [List.length_cons]; trivial
theorem firstOne_step {bs:List Int} {k:Nat} {z:Int} (h:bs[k]?=some z):firstOne (bs.drop k)=if z=1 then some 0 else (firstOne (bs.drop (k+1))).map (·+1):=by
 obtain ⟨hk,e⟩:=List.getElem?_eq_some_iff.mp h
 rw [List.drop_eq_getElem_cons hk,e]; rfl
theorem firstOne_end {bs:List Int} {k:Nat} (h:bs.length≤k):firstOne (bs.drop k)=none:=by rw [List.drop_of_length_le h]; rfl
end PH
namespace L2
open PySem PySem.Spec PyProof.Rows PySem.W
theorem comp_rngQ {lo:Int} {n:Nat} {D:Addr} {σ0:St} {H1:Hp} {Qd:Hp -> Prop} {g:TG} {tc:TT} {te:TE} (Pv:Nat -> St -> Hp -> Prop) (h0:Pv 0 σ0 (upd H1 D (.lst [])))
  (hs:∀ i σ' H',i < n -> Pv i σ' H' -> g (.int (lo+i)) σ' H' fun σ2 H3 => tc σ2 H3 fun b H4 => if b=true then te σ2 H4 fun v H5 => rAppend (.ref D) [v] H5 fun _ H6 => ∃ m',m' < n - i∧CW n Pv (i+1) m' σ2 H6 else ∃ m',m' < n - i∧CW n Pv (i+1) m' σ2 H4)
  (hd:∀ σ' H',Pv n σ' H' -> Qd H') :
  ∃ W:Nat -> Nat -> St -> Hp -> Prop,(∃ m,W 0 m σ0 (upd H1 D (.lst [])))∧∀ i m σ' H',W i m σ' H' -> ((Itr lo n).stop i H'∧Qd H')∨((Itr lo n).go i H'∧∀ x H2,(Itr lo n).yld i H' x H2 -> g x σ' H2 fun σ2 H3 => tc σ2 H3 fun b H4 =>
   if b=true then te σ2 H4 fun v H5 => rAppend (.ref D) [v] H5 fun _ H6 => ∃ m',m' < m∧W (i+1) m' σ2 H6 else ∃ m',m' < m∧W (i+1) m' σ2 H4) :=
 comp_rng (Q:=fun _ H => Qd H) Pv h0 hs hd
theorem comp_lstQ {K:Frag} {a:Addr} {xs:List V} {D:Addr} {σ0:St} {H1:Hp} {Qd:Hp -> Prop} {g:TG} {tc:TT} {te:TE} (Pv:Nat -> St -> Hp -> Prop) (h0:Pv 0 σ0 (upd H1 D (.lst []))) (hl:∀ i σ H,i≤xs.length -> Pv i σ H -> SqL K H a xs)
  (hs:∀ i x σ' H',xs[i]?=some x -> Pv i σ' H' -> g x σ' H' fun σ2 H3 => tc σ2 H3 fun b H4 => if b=true then te σ2 H4 fun v H5 => rAppend (.ref D) [v] H5 fun _ H6 => ∃ m',m' < xs.length - i∧CW xs.length Pv (i+1) m' σ2 H6 else ∃ m',m' < xs.length - i∧CW xs.length Pv (i+1) m' σ2 H4)
  (hd:∀ σ' H',Pv xs.length σ' H' -> Qd H') :
  ∃ W:Nat -> Nat -> St -> Hp -> Prop,(∃ m,W 0 m σ0 (upd H1 D (.lst [])))∧∀ i m σ' H',W i m σ' H' -> ((Itl K a).stop i H'∧Qd H')∨((Itl K a).go i H'∧∀ x H2,(Itl K a).yld i H' x H2 -> g x σ' H2 fun σ2 H3 => tc σ2 H3 fun b H4 =>
   if b=true then te σ2 H4 fun v H5 => rAppend (.ref D) [v] H5 fun _ H6 => ∃ m',m' < m∧W (i+1) m' σ2 H6 else ∃ m',m' < m∧W (i+1) m' σ2 H4) :=
 comp_lst (Q:=fun _ H => Qd H) Pv h0 hl hs hd
end L2
namespace PH
open PySem L2 PySem.W
theorem boot_tuple':bootBuiltins "tuple" = some (.type "tuple"):=by decide +kernel
noncomputable def spFirst (K:Frag) (cB:Addr):Sp:=fun vs H Q E => ∃ (a:Addr) (bs:List Int) (i:Int),vs=[.ref a,.int i]∧SqL K H a (bs.map V.int)∧bs.length≤100000∧i≤1000000 ∧
 ((i < 0∧E (.ref cB) none H)∨(0≤i∧match firstOne (bs.drop i.toNat) with | none => E (.ref cB) none H | some d => Q (.int ((i.toNat+d:Nat):Int)) H))
noncomputable def spRead (K:Frag) (cB:Addr):Sp:=fun vs H Q E => ∃ (a:Addr) (bs:List Int) (i:Int),vs=[.ref a,.int i]∧SqL K H a (bs.map V.int)∧bs.length≤100000∧i≤1000000 ∧
 (match readE bs i with | none => E (.ref cB) none H | some (n,b) => ∀ (t:Addr) (H':Hp),Same H H' -> H t=none -> H' t=some (.tup [.int n,.int b]) -> Q (.ref t) H')
structure ExR (K:Frag) (cP cN c1 c2 c3 c4 c5 c6:Addr):Prop where
 m:mroIn K cN (.ref cP)=some true
 v:kitOne K (.ref cN) (.type "ValueError")=some true
 o:kitAny K (.ref cN) [.ref c1,.ref c2,.ref c3,.ref c4,.ref c5,.ref c6]=some false
theorem cut_two (ns:List Int) (i j:Nat):cutV (ns.map V.int) (some (i:Int)) (some (j:Int))=((ns.drop i).take (j - i)).map V.int:=by
 unfold cutV
 rw [HT.sIx_nat,HT.sIx_nat,List.length_map,← List.map_drop,← List.map_take]
 congr 1
 rcases Nat.le_total i ns.length with h | h
 ·rw [Nat.min_eq_left h]
  rcases Nat.le_total j ns.length with h2 | h2
  ·rw [Nat.min_eq_left h2]
  ·rw [Nat.min_eq_right h2,List.take_of_length_le (by rw [List.length_drop]; exact Nat.le_refl _),List.take_of_length_le (by rw [List.length_drop]; trivial)]
 ·rw [Nat.min_eq_right h,List.drop_of_length_le (Nat.le_refl _),List.drop_of_length_le h,List.take_nil,List.take_nil]
end PH
namespace PH
theorem wl_rlow (n:Int) (k:Nat):wl (rlow n k)=n % 2 ^ k:=by
 induction k generalizing n with
 | zero => unfold rlow wl; simp [Int.emod_one]
 | succ k ih =>
  unfold rlow
  rw [wl_cons,ih,Int.pow_succ]
  have p:(0:Int) < 2 ^ k:=Int.pow_pos (by decide)
  generalize (2:Int) ^ k=m at *
  have h1:=Int.mul_ediv_add_emod (n / 2) m
  have h2:=Int.mul_ediv_add_emod n (m * 2)
  have h3:n / 2 / m=n / (2 * m):=Int.ediv_ediv_of_nonneg (by decide)
  rw [h3,Int.mul_comm 2 m] at h1
  generalize n / (m * 2)=z at *
  have h4:m * 2 * z=2 * (m * z):=by rw [Int.mul_comm m 2,Int.mul_assoc]
  rw [h4] at h2
  generalize m * z=y at *
  trivial
theorem worth_lowb {n:Int} {k:Nat} (h0:0≤n) (h1:n < 2 ^ k):worth (lowb n k)=n:=by
 unfold lowb
 rw [worth_rev,wl_rlow,Int.emod_eq_of_lt h0 h1]
theorem drop_pre {α:Type} (pre r:List α):(pre++r).drop pre.length=r:=by simp
theorem readE_le {bs:List Int} {i:Int} {n:Int} {b:Nat} (h:readE bs i=some (n,b)):0≤i∧i < b∧b≤bs.length:=by
 unfold readE at h
 split at h
 ·cases h
 ·cases e:firstOne (bs.drop i.toNat) with
  | none => rw [e] at h; cases h
  | some d =>
   rw [e] at h
   dsimp only at h
   split at h
   ·cases h
   ·have:=(Prod.mk.inj (Option.some.inj h)).2
    trivial
noncomputable def readN:Nat -> List Int -> Nat -> Option (List Int×Nat)
 | 0,_,b => some ([],b)
 | m+1,bs,b => match readE bs b with
  | none => none
  | some (n,b') => (readN m bs b').map fun r => ((n - 1) :: r.1,r.2)
noncomputable def readRow (bs:List Int) (i:Int):Option (List Int×Nat):=match readE bs i with
 | none => none
 | some (m,b) => readN (m - 1).toNat bs b
noncomputable def flatb (ns:List Int):List Int:=(ns.map fun n => endb (n+1)).flatten
noncomputable def rowb (ns:List Int):List Int:=endb ((ns.length:Int)+1)++flatb ns
theorem flatb_cons (n:Int) (r:List Int):flatb (n :: r)=endb (n+1)++flatb r:=rfl
theorem flatb_append (a b:List Int):flatb (a++b)=flatb a++flatb b:=by unfold flatb; rw [List.map_append,List.flatten_append]
theorem readRow_none {bs:List Int} {i:Int} (h:readE bs i=none):readRow bs i=none:=by unfold readRow; rw [h]
theorem readN_step {m:Nat} {bs:List Int} {b:Nat} {n:Int} {b':Nat} (h:readE bs b=some (n,b')):readN (m+1) bs b=(readN m bs b').map fun r => ((n - 1) :: r.1,r.2):=by
 rw [readN,h]
theorem readN_stop {m:Nat} {bs:List Int} {b:Nat} (h:readE bs b=none):readN (m+1) bs b=none:=by
 rw [readN,h]
theorem endb_length (n:Int):(endb n).length=blen n - 1+blen n:=by unfold endb; rw [List.length_append,List.length_replicate,lowb_length]
end PH
namespace PH
open PySem L2 PySem.W
theorem boot_min':bootBuiltins "min" = some (.builtin "min"):=by decide +kernel
structure Bls (mg:Str -> Option Value):Prop where
 isi:mg "isinstance" = none
 list:mg "list" = none
 int:mg "int" = none
 bool:mg "bool" = none
 len:mg "len" = none
 range:mg "range" = none
 max:mg "max" = none
 ve:mg "ValueError" = none
 tuple:mg "tuple" = none
 min:mg "min" = none
 sorted:mg "sorted" = none
 all:mg "all" = none
 dict:mg "dict" = none
theorem Bls.bl {mg:Str -> Option Value} (B:Bls mg):Bl mg:=⟨B.isi,B.list,B.int,B.bool,B.len,B.range,B.max,B.ve⟩
noncomputable def spEnd (cN:Addr):Sp:=fun vs H Q E => ∃ n:Int,vs=[.int n]∧((n < 1∧E (.ref cN) none H)∨(1≤n∧blen n≤900∧∀ (p:Addr) (H':Hp),Same H H' -> H p=none -> H' p=some (lsI (endb n)) -> Q (.ref p) H'))
theorem blen_small {n:Int} (h0:0≤n) (h:n < 1048576):blen n≤900 :=
 blen_le.mpr (Nat.lt_of_lt_of_le (m:=2 ^ 20) (by
   have:(2:Nat) ^ 20=1048576:=by decide
   trivial) (Nat.pow_le_pow_right (by decide) (by decide)))
theorem same_upd {H H':Hp} (s:Same H H') {q:Addr} (u:HO) (hq:H q=none):Same H (upd H' q u):=fun b w e => by
 rw [upd_ne (ne_of_none e hq)]; exact s b w e
theorem lsI_app (a b:List Int):(.lst (a.map V.int++b.map V.int):HO)=lsI (a++b):=by unfold lsI; rw [List.map_append]
theorem lsI_app1 (a:List Int) (z:Int):(.lst (a.map V.int++[V.int z]):HO)=lsI (a++[z]):=by unfold lsI; rw [List.map_append]; rfl
theorem len_lsI (a:List Int):(a.map V.int).length=a.length:=List.length_map _
noncomputable def spRow (K:Frag) (cN:Addr):Sp:=fun vs H Q E => ∃ (a:Addr) (ns:List Int),vs=[.ref a]∧SqL K H a (ns.map V.int)∧ns.length≤500∧(∀ n∈ns,0≤n -> blen (n+1)≤900) ∧
 ((∃ n∈ns,n < 0) -> ∀ H',Same H H' -> E (.ref cN) none H')∧((∀ n∈ns,0≤n) -> ∀ (p:Addr) (H':Hp),Same H H' -> H p=none -> H' p=some (lsI (rowb ns)) -> Q (.ref p) H')
noncomputable def spRdRow (K:Frag) (cB:Addr):Sp:=fun vs H Q E => ∃ (a:Addr) (bs:List Int) (i:Int),vs=[.ref a,.int i]∧SqL K H a (bs.map V.int)∧bs.length≤100000∧i≤1000000 ∧
 (match readRow bs i with | none => ∀ H',Same H H' -> E (.ref cB) none H' | some (ns,b) => ∀ (l t:Addr) (H':Hp),Same H H' -> H l=none -> H t=none -> l≠t -> H' l=some (lsI ns) -> H' t=some (.tup [.ref l,.int b]) -> Q (.ref t) H')
theorem flatb_take {ns:List Int} {i:Nat} {z:Int} (h:ns[i]?=some z):flatb (ns.take (i+1))=flatb (ns.take i)++endb (z+1):=by
 rw [take_at h,flatb_append]
 congr 1
 unfold flatb
 simp
end PH
namespace PH
open PySem L2 PySem.W
structure Dks (ps:List Addr) (D:Addr) (H:Hp):Prop where
 at_:H D=some (.lst (ps.map V.ref))
 each:∀ p∈ps,p≠D∧∃ a b c,H p=some (deckO a b c)
theorem ht_pair (ns:List Int) (b:Int):ht (.tup [.lst (ns.map DV.int),.int b])≤60:=by
 rw [ht_tup]
 unfold hts
 rw [ht_lst,hts_ints]
 unfold hts
 unfold ht
 unfold hts
 decide
end PH
namespace L2
open PySem PySem.Spec PyProof.Rows
section
variable {κ:Type} [DecidableEq κ]
noncomputable def valV (kvs:List (κ×V)) (k:κ):Option V:=(kvs.find? fun kv => decide (kv.1=k)).map (·.2)
noncomputable def putK (kvs:List (κ×V)) (k:κ) (v:V):List (κ×V) :=
 if (kvs.any fun kv => decide (kv.1=k))=true then kvs.map (fun kv => if kv.1=k then (kv.1,v) else kv) else kvs++[(k,v)]
theorem valV_pos {p:κ×V} {r:List (κ×V)} {k:κ} (e:p.1=k):valV (p :: r) k=some p.2:=by simp [valV,List.find?_cons,e]
theorem valV_neg {p:κ×V} {r:List (κ×V)} {k:κ} (e:¬ p.1=k):valV (p :: r) k=valV r k:=by simp [valV,List.find?_cons,e]
theorem valV_any (k:κ):∀ kvs:List (κ×V),(kvs.any fun kv => decide (kv.1=k))=(valV kvs k).isSome
 | [] => rfl
 | p :: r => by
  rw [List.any_cons]
  by_cases e:p.1=k
  ·simp only [valV_pos e,decide_eq_true e,Bool.true_or,Option.isSome_some]
  ·rw [valV_neg e,decide_eq_false e,Bool.false_or]; exact valV_any k r
theorem valV_map (k j:κ) (y:V):∀ kvs:List (κ×V),valV (kvs.map fun kv => if kv.1=k then (kv.1,y) else kv) j=(valV kvs j).map fun x => if j=k then y else x
 | [] => rfl
 | p :: r => by
  have ih:=valV_map k j y r
  rw [List.map_cons]
  by_cases h:p.1=k
  ·rw [if_pos h]
   by_cases e:p.1=j
   ·rw [valV_pos (p:=(p.1,y)) e,valV_pos e,Option.map_some,if_pos (e.symm.trans h)]
   ·rw [valV_neg (p:=(p.1,y)) e,valV_neg e,ih]
  ·rw [if_neg h]
   by_cases e:p.1=j
   ·rw [valV_pos (p:=p) e,valV_pos e,Option.map_some,if_neg (fun z => h (e.trans z))]
   ·rw [valV_neg (p:=p) e,valV_neg e,ih]
theorem valV_snoc (k j:κ) (y:V):∀ kvs:List (κ×V),valV kvs k=none -> valV (kvs++[(k,y)]) j=if j=k then some y else valV kvs j
 | [],_ => by
  by_cases e:k=j
  ·rw [if_pos e.symm]; exact valV_pos (p:=(k,y)) e
  ·rw [if_neg (fun z => e z.symm)]; exact valV_neg (p:=(k,y)) e
 | p :: r,hn => by
  rw [List.cons_append]
  have hk:¬ p.1=k:=fun z => by rw [valV_pos z] at hn; cases hn
  rw [valV_neg hk] at hn
  have ih:=valV_snoc k j y r hn
  by_cases e:p.1=j
  ·rw [valV_pos e,valV_pos e,if_neg (fun z => hk (e.trans z))]
  ·rw [valV_neg e,valV_neg e,ih]
theorem valV_put (kvs:List (κ×V)) (k j:κ) (y:V):valV (putK kvs k y) j=if j=k then some y else valV kvs j:=by
 unfold putK
 by_cases a:(kvs.any fun kv => decide (kv.1=k))=true
 ·rw [if_pos a,valV_map]
  rw [valV_any] at a
  by_cases e:j=k
  ·obtain ⟨x,hx⟩:=Option.isSome_iff_exists.mp a
   rw [if_pos e,e,hx,Option.map_some,if_pos rfl]
  ·rw [if_neg e]
   cases valV kvs j with
   | none => rfl
   | some x => rw [Option.map_some,if_neg e]
 ·rw [if_neg a]
  refine valV_snoc k j y kvs ?_
  rw [valV_any] at a
  cases q:valV kvs k with
  | none => rfl
  | some x => rw [q] at a; exact (a rfl).elim
theorem length_putK (kvs:List (κ×V)) (k:κ) (v:V):(putK kvs k v).length≤kvs.length+1:=by
 unfold putK
 split
 ·rw [List.length_map]; trivial
 ·rw [List.length_append,List.length_cons,List.length_nil]; trivial
theorem RelO.isSome_eq {o:Option V} {u:Option Value} (r:RelO o u):o.isSome=u.isSome:=by
 cases o with
 | none => cases u with
  | none => rfl
  | some _ => exact (show False from r).elim
 | some _ => cases u with
  | none => exact (show False from r).elim
  | some _ => rfl
theorem RelO.getD {o:Option V} {u:Option Value} {d:V} {d':Value} (r:RelO o u) (rd:RelV d d'):RelV (o.getD d) (u.getD d'):=by
 cases o with
 | none => cases u with
  | none => exact rd
  | some _ => exact (show False from r).elim
 | some _ => cases u with
  | none => exact (show False from r).elim
  | some _ => exact r
theorem KV.val {kvs:List (κ×V)} {vs:List (κ×Value)} (r:KV kvs vs) (k:κ):RelO (valV kvs k) (valueAt vs k):=by
 unfold KV at r
 induction r with
 | nil => exact True.intro
 | @cons p q ps qs h t ih =>
  obtain ⟨h1,h2⟩:=h
  by_cases e:p.1=k
  ·have e':q.1=k:=h1.symm.trans e
   have b:valueAt (q :: qs) k=some q.2:=by simp [valueAt,List.find?_cons,e']
   rw [valV_pos e,b]; exact h2
  ·have e':¬ q.1=k:=fun z => e (h1.trans z)
   have b:valueAt (q :: qs) k=valueAt qs k:=by simp [valueAt,List.find?_cons,e']
   rw [valV_neg e,b]; exact ih
theorem KV.any {kvs:List (κ×V)} {vs:List (κ×Value)} (r:KV kvs vs) (k:κ):(kvs.any fun kv => decide (kv.1=k))=vs.any fun kv => decide (kv.1=k):=by
 unfold KV at r
 induction r with
 | nil => rfl
 | cons h t ih => rw [List.any_cons,List.any_cons,ih,h.1]
theorem KV.repl {kvs:List (κ×V)} {vs:List (κ×Value)} (r:KV kvs vs) (k:κ) {y:V} {u:Value} (ry:RelV y u) :
  KV (kvs.map fun kv => if kv.1=k then (kv.1,y) else kv) (vs.map fun kv => if kv.1=k then (kv.1,u) else kv):=by
 unfold KV at r ⊢
 induction r with
 | nil => exact .nil
 | @cons p q ps qs h t ih =>
  rw [List.map_cons,List.map_cons]
  refine .cons ?_ ih
  obtain ⟨h1,h2⟩:=h
  by_cases e:p.1=k
  ·rw [if_pos e,if_pos (h1.symm.trans e)]; exact ⟨h1,ry⟩
  ·rw [if_neg e,if_neg (fun z => e (h1.trans z))]; exact ⟨h1,h2⟩
theorem KV.put {kvs:List (κ×V)} {vs:List (κ×Value)} (r:KV kvs vs) (k:κ) {y:V} {u:Value} (ry:RelV y u):KV (putK kvs k y) (stored vs k u):=by
 unfold putK stored
 rw [r.any k]
 by_cases e:(vs.any fun kv => decide (kv.1=k))=true
 ·rw [if_pos e,if_pos e]; exact r.repl k ry
 ·rw [if_neg e,if_neg e]; exact Paired.snoc r ⟨rfl,ry⟩
theorem KV.length {kvs:List (κ×V)} {vs:List (κ×Value)} (r:KV kvs vs):kvs.length=vs.length:=Paired.length r
end
theorem kV_is {P:Program} {w:World} {k:Key} {u:Value} (r:RelV (kV k) u):(mixKind P w).is k u=true:=by
 cases k with
 | inl i => obtain ⟨t,e⟩:=(show ∃ t,u=Value.int i t from r); subst e; exact mixKind_int P w i t
 | inr x => obtain ⟨t,e⟩:=(show ∃ t,u=Value.str x t from r); subst e; exact mixKind_str P w x t
theorem items_are {P:Program} {w:World}:∀ {ks:List Key} {us:List Value},Vals (ks.map kV) us -> ItemsAre (mixKind P w) ks us
 | [],_,r => by rw [List.map_nil] at r; cases r; exact .nil
 | k :: ks,_,r => by
  rw [List.map_cons] at r
  cases r with
  | cons h t => exact .cons (kV_is h) (items_are t)
noncomputable abbrev KT (H:Hp):List (List Key×V) -> List (List Key×Addr×Value) -> Prop:=Paired fun p q => p.1=q.1∧H q.2.1=some (.tup (p.1.map kV))∧RelV p.2 q.2.2
theorem KT.val {H:Hp} {kvs:List (List Key×V)} {xs:List (List Key×Addr×Value)} (r:KT H kvs xs) (k:List Key):RelO (valV kvs k) ((atKey xs k).map (·.2)):=by
 induction r with
 | nil => exact True.intro
 | @cons p q ps qs h t ih =>
  obtain ⟨h1,_,h2⟩:=h
  by_cases e:p.1=k
  ·have e':q.1=k:=h1.symm.trans e
   have b:atKey (q :: qs) k=some q.2:=by simp [atKey,List.find?_cons,e']
   rw [valV_pos e,b]; exact h2
  ·have e':¬ q.1=k:=fun z => e (h1.trans z)
   have b:atKey (q :: qs) k=atKey qs k:=by simp [atKey,List.find?_cons,e']
   rw [valV_neg e,b]; exact ih
theorem KT.repl {H:Hp} {kvs:List (List Key×V)} {xs:List (List Key×Addr×Value)} (r:KT H kvs xs) (k:List Key) {y:V} {u:Value} (ry:RelV y u) :
  KT H (kvs.map fun kv => if kv.1=k then (kv.1,y) else kv) (xs.map (putAt k u)):=by
 induction r with
 | nil => exact .nil
 | @cons p q ps qs h t ih =>
  rw [List.map_cons,List.map_cons]
  refine .cons ?_ ih
  obtain ⟨h1,h2,h3⟩:=h
  unfold putAt
  by_cases e:p.1=k
  ·rw [if_pos e,if_pos (h1.symm.trans e)]; exact ⟨h1,h2,ry⟩
  ·rw [if_neg e,if_neg (fun z => e (h1.trans z))]; exact ⟨h1,h2,h3⟩
theorem KT.put {H:Hp} {kvs:List (List Key×V)} {xs:List (List Key×Addr×Value)} (r:KT H kvs xs) (k:List Key) {b:Addr} {y:V} {u:Value} (hb:H b=some (.tup (k.map kV))) (ry:RelV y u) :
  KT H (putK kvs k y) (storedH xs k b u):=by
 have e:(kvs.any fun kv => decide (kv.1=k))=(atKey xs k).isSome:=by
  rw [valV_any,(r.val k).isSome_eq,Option.isSome_map]
 unfold putK storedH
 rw [e]
 by_cases q:(atKey xs k).isSome=true
 ·rw [if_pos q,if_pos q]; exact r.repl k ry
 ·rw [if_neg q,if_neg q]; exact Paired.snoc r ⟨rfl,hb,ry⟩
theorem KT.keeps {H H':Hp} {kvs:List (List Key×V)} {xs:List (List Key×Addr×Value)} (r:KT H kvs xs) (ht:∀ b ys,H b=some (.tup ys) -> H' b=some (.tup ys)):KT H' kvs xs :=
 Paired.mapP r fun _ _ z => ⟨z.1,ht _ _ z.2.1,z.2.2⟩
section
variable {P:Program} {w:World} {H:Hp} {h:Heap} {a:Addr}
theorem rd_of {u:HO} (ok:HOk P w H h) (e:Rd H a u):ObjOk P w H h a u:=e.ok ok
theorem dk_rd {kvs:List (Key×V)} (ok:HOk P w H h) (e:Rd H a (.dK kvs)):kvs.length≤sizeLine∧(a == sysModules)=false∧∃ vs,KV kvs vs∧h.DictOf (mixKind P w) a vs :=
 show ObjOk P w H h a (.dK kvs) from rd_of ok e
theorem dk_of {kvs:List (Key×V)} (ok:HOk P w H h) (e:H a=some (.dK kvs)):kvs.length≤sizeLine∧(a == sysModules)=false∧∃ vs,KV kvs vs∧h.DictOf (mixKind P w) a vs:=dk_rd ok (.inl e)
theorem key_of {ks:List Key} (ok:HOk P w H h) (e:H a=some (.tup (ks.map kV))):(tupleKind (mixKind P w)).is h ks a:=by
 obtain ⟨_,its,r,o,h1,h2,n,h3⟩:=(show ObjOk P w H h a (.tup (ks.map kV)) from ok a _ e)
 exact ⟨o,its.toArray,n,h1,h2,h3,by simpa using items_are r⟩
theorem dt_rd {kvs:List (List Key×V)} (ok:HOk P w H h) (e:Rd H a (.dT kvs)):kvs.length≤sizeLine∧(a == sysModules)=false ∧
  ∃ xs,KT H kvs xs∧h.DictOfH (tupleKind (mixKind P w)) a xs:=by
 obtain ⟨z,y,xs,r,o,es,ep,h1,h2,h3,h4,h5⟩:=(show ObjOk P w H h a (.dT kvs) from rd_of ok e)
 refine ⟨z,y,xs,r,o,es,ep,h1,h2,h3,h4,fun x hx => ?_,h5⟩
 have all:∀ {l:List (List Key×V)} {m:List (List Key×Addr×Value)},KT H l m -> ∀ x∈m,(tupleKind (mixKind P w)).is h x.1 x.2.1:=by
  intro l m q
  induction q with
  | nil => intro x hx; exact nomatch hx
  | @cons p q ps qs hq t ih =>
   intro x hx
   rcases List.mem_cons.mp hx with e | hx
   ·subst e
    exact key_of ok (by rw [← hq.1]; exact hq.2.1)
   ·exact ih x hx
 exact all r x hx
theorem dt_of {kvs:List (List Key×V)} (ok:HOk P w H h) (e:H a=some (.dT kvs)):kvs.length≤sizeLine∧(a == sysModules)=false ∧
  ∃ xs,KT H kvs xs∧h.DictOfH (tupleKind (mixKind P w)) a xs:=dt_rd ok (.inl e)
end
noncomputable def DGet (H:Hp) (a:Addr) (y:V) (r:Option V):Prop :=
 (∃ kvs k,Rd H a (.dK kvs)∧y=kV k∧r=valV kvs k)∨∃ kvs k b,Rd H a (.dT kvs)∧y=.ref b∧H b=some (.tup (k.map kV))∧r=valV kvs k
noncomputable def DPut (H:Hp) (a:Addr) (y v:V) (H':Hp):Prop :=
 (∃ kvs k,H a=some (.dK kvs)∧y=kV k∧kvs.length < sizeLine∧H'=upd H a (.dK (putK kvs k v))) ∨
 ∃ kvs k b,H a=some (.dT kvs)∧y=.ref b∧H b=some (.tup (k.map kV))∧kvs.length < sizeLine∧H'=upd H a (.dT (putK kvs k v))
theorem DGet.k {H:Hp} {a:Addr} {kvs:List (Key×V)} {k:Key} (e:H a=some (.dK kvs)):DGet H a (kV k) (valV kvs k):=.inl ⟨kvs,k,.inl e,rfl,rfl⟩
theorem DGet.t {H:Hp} {a b:Addr} {kvs:List (List Key×V)} {k:List Key} (e:H a=some (.dT kvs)) (eb:H b=some (.tup (k.map kV))):DGet H a (.ref b) (valV kvs k):=.inr ⟨kvs,k,b,.inl e,rfl,eb,rfl⟩
theorem DPut.k {H:Hp} {a:Addr} {kvs:List (Key×V)} {k:Key} {v:V} (e:H a=some (.dK kvs)) (hl:kvs.length < sizeLine):DPut H a (kV k) v (upd H a (.dK (putK kvs k v))):=.inl ⟨kvs,k,e,rfl,hl,rfl⟩
theorem DPut.t {H:Hp} {a b:Addr} {kvs:List (List Key×V)} {k:List Key} {v:V} (e:H a=some (.dT kvs)) (eb:H b=some (.tup (k.map kV))) (hl:kvs.length < sizeLine) :
  DPut H a (.ref b) v (upd H a (.dT (putK kvs k v))):=.inr ⟨kvs,k,b,e,rfl,eb,hl,rfl⟩
section
variable {X:Cx} {pins:List (Addr×Obj)} {σ:St} {H:Hp} {s:Shared} {a:Addr} {y v:V} {u r:Value} {o:Option V} {A:Around} {E:Value -> Shared -> Prop}
theorem Inv.big (I:Inv X pins σ H s):sysModules < s.heap.objs.size:=by
 have h:mainGlobals < s.heap.objs.size:=(I.mod.glob.keeps I.bk).lt
 exact Nat.lt_trans (by decide) h
theorem d_getItem {Q:Value -> Shared -> Prop} (hu:A.units+1 < cLine) (I:Inv X pins σ H s) (g:DGet H a y (some v)) (ry:RelV y u) (h:∀ w' s',Inv X pins σ H s' -> RelV v w' -> Q w' s') :
  wpAny (model X.prog X.w) A (getItem (.ref a) u) Q E s:=by
 rcases g with ⟨kvs,k,e,ey,l⟩ | ⟨kvs,k,b,e,ey,eb,l⟩
 ·subst ey
  obtain ⟨z,hd,vs,rel,dd⟩:=dk_rd I.hok e
  obtain ⟨w',hw,rw'⟩:=RelO.some_of (v:=v) (o:=valueAt vs k) (by rw [l]; exact rel.val k)
  exact wpAny_getItem_of (kV_is ry) dd.mapOf hw (h w' _ (I.tok _) rw')
 ·subst ey
  cases (show u=Value.ref b from ry)
  obtain ⟨z,hd,xs,rel,dd⟩:=dt_rd I.hok e
  obtain ⟨w',hw,rw'⟩:=RelO.some_of (v:=v) (o:=(atKey xs k).map (·.2)) (by rw [l]; exact rel.val k)
  obtain ⟨p,hp,hp2⟩:=Option.map_eq_some_iff.mp hw
  refine wpAny_getItem_heap (tupleKind_room_in1 hu) (key_of I.hok eb) dd hp ?_
  rw [hp2]
  exact h w' _ (I.tok _) rw'
theorem d_notIn {Q:Value -> Shared -> Prop} (hu:A.units+1 < cLine) (I:Inv X pins σ H s) (g:DGet H a y o) (ry:RelV y u) (h:∀ s',Inv X pins σ H s' -> Q (.bool (!o.isSome)) s') :
  wpAny (model X.prog X.w) A (compareOp .NotIn u (.ref a)) Q E s:=by
 rcases g with ⟨kvs,k,e,ey,l⟩ | ⟨kvs,k,b,e,ey,eb,l⟩
 ·subst ey
  obtain ⟨z,hd,vs,rel,dd⟩:=dk_rd I.hok e
  refine wpAny_notIn_of (kV_is ry) hd dd.mapOf ?_
  rw [← (rel.val k).isSome_eq,← l]
  exact h _ (I.tok _)
 ·subst ey
  cases (show u=Value.ref b from ry)
  obtain ⟨z,hd,xs,rel,dd⟩:=dt_rd I.hok e
  refine wpAny_notIn_heap (tupleKind_room_in1 hu) (key_of I.hok eb) hd dd ?_
  have q:=(rel.val k).isSome_eq
  rw [Option.isSome_map] at q
  rw [← q,← l]
  exact h _ (I.tok _)
theorem d_write {h':Heap} {t':Nat} {ob:HO} (I:Inv X pins σ H s) (mu:Mut (H a)) (hs:Heap.SameBut a s.heap h') (he:∃ q,h'.get? a=some q) (new:ObjOk X.prog X.w (upd H a ob) h' a ob) :
  Inv X pins σ (upd H a ob) { s with heap:=h',toks:=t' } :=
 I.write (x:=a) (e:=a) mu (.inl rfl) (fun b q hb z => (hs.2 b hb).trans z) he new
theorem dk_new {P:Program} {w:World} {H':Hp} {h':Heap} {kvs:List (Key×V)} {vs:List (Key×Value)} (z:kvs.length≤sizeLine) (hd:(a == sysModules)=false) (rel:KV kvs vs) (dd:h'.DictOf (mixKind P w) a vs) :
  ObjOk P w H' h' a (.dK kvs):=⟨z,hd,vs,rel,dd⟩
theorem d_setItem {H':Hp} {Q:Unit -> Shared -> Prop} (hu:A.units+1 < cLine) (I:Inv X pins σ H s) (g:DPut H a y v H') (ry:RelV y u) (rv:RelV v r) (h:∀ s',Inv X pins σ H' s' -> Q () s') :
  wpAny (model X.prog X.w) A (setItem (.ref a) u r) Q E s:=by
 rcases g with ⟨kvs,k,e,ey,l,eH⟩ | ⟨kvs,k,b,e,ey,eb,l,eH⟩
 ·subst ey eH
  obtain ⟨z,hd,vs,rel,dd⟩:=dk_of I.hok e
  have hz:vs.length≤sizeLine:=by rw [← rel.length]; exact z
  have hl:(putK kvs k v).length≤sizeLine:=by have:=length_putK kvs k v; trivial
  refine wpAny_setItem_pairs (hsz:=hz) (kV_is ry) dd fun h' dd' hs => h _ ?_
  have he:∃ q,h'.get? a=some q:=let ⟨q,_,_,hq,_⟩:=dd'; ⟨q,hq⟩
  exact d_write I (by rw [e]; exact True.intro) hs he (dk_new hl hd (rel.put k rv) dd')
 ·subst ey eH
  cases (show u=Value.ref b from ry)
  obtain ⟨z,hd,xs,rel,dd⟩:=dt_of I.hok e
  have hz:xs.length≤sizeLine:=by rw [← Paired.length rel]; exact z
  have hl:(putK kvs k v).length≤sizeLine:=by have:=length_putK kvs k v; trivial
  refine wpAny_setItem_heap (hsz:=hz) (tupleKind_room_in1 hu) (key_of I.hok eb) dd fun h' dd' hs => h _ ?_
  obtain ⟨q,es,ep,hq,h2,h3,h4,_,h5⟩:=dd'
  refine d_write I (by rw [e]; exact True.intro) hs ⟨q,hq⟩ ⟨hl,hd,_,(rel.put k eb rv).keeps fun c ys ec => ?_,q,es,ep,hq,h2,h3,h4,h5⟩
  rw [upd_ne (ne_of ec e (fun z => nomatch z))]
  exact ec
end
section
variable {X:Cx} {pins:List (Addr×Obj)} {σ:St} {H:Hp} {s:Shared} {a:Addr} {kvs:List (Key×V)} {k:Key} {u:Value} {A:Around} {E:Value -> Shared -> Prop}
theorem d_len {Q:Value -> Shared -> Prop} (I:Inv X pins σ H s) (e:Rd H a (.dK kvs)) (h:∀ t s',Inv X pins σ H s' -> Q (.int kvs.length t) s'):wpAny (model X.prog X.w) A (call (.builtin "len") [.ref a]) Q E s:=by
 obtain ⟨z,hd,vs,rel,dd⟩:=dk_rd I.hok e
 refine call_len_dict hd dd (by rw [← rel.length]; rw [sizeLine_eq] at z; trivial) ?_
 rw [← rel.length]
 exact h _ _ (I.tok _)
end
noncomputable def NoSl (i:Expr):Prop:=∀ ov iv,subscripted i false ov iv=operate [ov,iv] (getItem ov iv)
theorem subD_of {prog:Program} {w:World} {A:Around} {E:Value -> Shared -> Prop} {s:Shared} {env:Env} {value slice:Expr} {pos:Pos} {T id:String} {Q:Value -> Shared -> Prop}
  (hl:typeLookup (.type T) "__getitem__" = pure (some (.builtin id))) (hs:NoSl slice)
  (h:wpAny (model prog w) A (eval value env) (fun o s₁ => wpAny (model prog w) A (eval slice env) (fun i s₂ => s₂.TypeIs o T∧wpAny (model prog w) A (getItem o i) Q E s₂) E s₁) E s) :
  wpAny (model prog w) A (eval (.Subscript value slice pos) env) Q E s:=by
 refine Subscript_ (wpAny_mono h (fun o s₁ h₁ => wpAny_mono h₁ (fun i s₂ h₂ => ?_) fun _ _ x => x) fun _ _ x => x)
 obtain ⟨hT,h₂⟩:=h₂
 unfold subscriptTail
 refine wpAny_bind ?_
 rw [getitemInPython_of_ne hT.not_modules]
 refine wpAny_bind (wpAny_specialOf hT hl ?_)
 have fin:wpAny (model prog w) A (subscripted slice false o i) (fun r s₃ => wpAny (model prog w) A (letTemporaryGo value o r >>= fun _ => pure r) Q E s₃) E s₂:=by
  rw [hs o i]
  exact wpAny_operating (wpAny_mono h₂ (fun r s₃ h₃ => wpAny_bind (wpAny_letTemporaryGo (wpAny_pure h₃))) fun _ _ x => x)
 first
  | exact wpAny_pure (wpAny_bind fin)
  | exact wpAny_bind (wpAny_pure (wpAny_bind fin))
  | exact wpAny_bind fin
theorem dict_typeIs {X:Cx} {pins:List (Addr×Obj)} {σ:St} {H:Hp} {s:Shared} {a:Addr} {y:V} {o:Option V} (I:Inv X pins σ H s) (g:DGet H a y o):s.TypeIs (.ref a) "dict":=by
 rcases g with ⟨kvs,k,e,_,_⟩ | ⟨kvs,k,b,e,_,_,_⟩
 ·obtain ⟨_,_,vs,_,dd⟩:=dk_rd I.hok e
  exact dd.typeIs
 ·obtain ⟨_,_,xs,_,dd⟩:=dt_rd I.hok e
  exact dd.typeIs
noncomputable def tDGet (td ty:TE):TE:=fun σ H Q => td σ H fun x H1 => ty σ H1 fun y H2 => ∃ a v,x=.ref a∧DGet H2 a y (some v)∧Q v H2
noncomputable def tDNotIn (ty td:TE):TE:=fun σ H Q => ty σ H fun y H1 => td σ H1 fun x H2 => ∃ a o,x=.ref a∧DGet H2 a y o∧Q (.bl (!o.isSome)) H2
noncomputable def sDPut (td ty tv:TE):TS:=fun D σ H => tv σ H fun v H1 => td σ H1 fun x H2 => ty σ H2 fun y H3 => ∃ a H4,x=.ref a∧DPut H3 a y v H4∧D.nx σ H4
section
variable {X:Cx} {o i e value:Expr} {pos pos' tpos:Pos} {td ty tv:TE}
theorem pe_dget (hu:X.A.units+1 < cLine) (ho:PE X o td) (hi:PE X i ty) (hs:NoSl i):PE X (.Subscript o i pos) (tDGet td ty):=by
 intro pins s σ H Q I h
 refine subD_of PySem.F.slot_dict_getitem.lookup hs (thn (ho pins s σ H _ I h) fun u s1 ⟨x,H1,I1,rx,q1⟩ => thn (hi pins s1 σ H1 _ I1 q1) fun iv s2 ⟨y,H2,I2,ry,a,v,ex,g,q2⟩ => ?_)
 subst ex
 obtain rfl:u=Value.ref a:=rx
 exact ⟨dict_typeIs I2 g,d_getItem hu I2 g ry fun w' s3 I3 rw' => ⟨v,H2,I3,rw',q2⟩⟩
theorem pc_dnotin (hu:X.A.units+1 < cLine) (hi:PE X i ty) (ho:PE X o td):PC X .NotIn i o (tDNotIn ty td):=by
 intro pins s σ H Q I h
 refine thn (hi pins s σ H _ I h) fun iv s1 ⟨y,H1,I1,ry,q1⟩ => thn (ho pins s1 σ H1 _ I1 q1) fun u s2 ⟨x,H2,I2,rx,a,ov,ex,g,q2⟩ => ?_
 subst ex
 obtain rfl:u=Value.ref a:=rx
 exact d_notIn hu I2 g ry fun s3 I3 => ⟨.bl (!ov.isSome),H2,I3,rfl,q2⟩
theorem ps_dput (hu:X.A.units+1 < cLine) (ho:PE X o td) (hi:PE X i ty) (hv:PE X value tv) (hs:swapsWith value (some (.Subscript o i pos')) pos.line X.env=pure false) :
  PS X (.Assign [.Subscript o i pos'] value pos) (sDPut td ty tv):=by
 intro pins s σ H D I h
 refine wpAny_Assign_Subscript (thn (hv pins s σ H _ I h) fun r s1 ⟨v,H1,I1,rv,q1⟩ => thn (ho pins s1 σ H1 _ I1 q1) fun u s2 ⟨x,H2,I2,rx,q2⟩ => thn (hi pins s2 σ H2 _ I2 q2) fun iv s3 ⟨y,H3,I3,ry,a,H4,ex,g,q3⟩ => ?_) hs
 subst ex
 obtain rfl:u=Value.ref a:=rx
 exact d_setItem hu I3 g ry rv fun s4 I4 => ⟨σ,H4,I4,q3⟩
end
theorem dk_empty {P:Program} {w:World} {H:Hp} (h:Heap) (hb:sysModules < h.objs.size):ObjOk P w H (h.push { cls:=.type "dict",data:=.dict #[] }) h.objs.size (.dK []) :=
 ⟨Nat.zero_le _,beq_eq_false_iff_ne.mpr (Ne.symm (Nat.ne_of_lt hb)),[],.nil,Heap.DictOf.new h⟩
noncomputable def tDNewK:TE:=fun _ H Q => ∀ p,H p=none -> Q (.ref p) (upd H p (.dK []))
section
variable {X:Cx} {pos:Pos}
theorem pe_dnewK:PE X (.Dict [] [] pos) tDNewK:=fun pins s σ H Q I h =>
 wpAny_Dict_empty ⟨.ref s.heap.objs.size,_,I.laid (a:=s.heap.objs.size) (o:=.dK []) (t':=s.toks) (fun _ _ q => Heap.get?_push_of_some _ q) (Nat.le_refl _) (dk_empty s.heap I.big),rfl,h _ (I.hok.fresh (Nat.le_refl _))⟩
end
structure M1 (X:Cx) (o:Expr) (m:Str) (apos:Pos) (e:Expr) (cpos:Pos):Prop where
 base:attributeBase o m X.env (eval o X.env)=eval o X.env
 few:((backTo cpos (starEach [e] X.env)).all (fun x => !x.1) && (backToKw cpos (keywordEach [] X.env)).all (fun x => x.1.isSome)
  && decide (([e]:List Expr).length+([]:List Keyword).length+(if ([]:List Keyword).isEmpty then 0 else 1) < 30))=true
 line:(apos.endLine == cpos.line)=true
 trees:backTo cpos (starEach [e] X.env)=[(false,eval e X.env)]
structure M2 (X:Cx) (o:Expr) (m:Str) (apos:Pos) (e f:Expr) (cpos:Pos):Prop where
 base:attributeBase o m X.env (eval o X.env)=eval o X.env
 few:((backTo cpos (starEach [e,f] X.env)).all (fun x => !x.1) && (backToKw cpos (keywordEach [] X.env)).all (fun x => x.1.isSome)
  && decide (([e,f]:List Expr).length+([]:List Keyword).length+(if ([]:List Keyword).isEmpty then 0 else 1) < 30))=true
 line:(apos.endLine == cpos.line)=true
 trees:backTo cpos (starEach [e,f] X.env)=[(false,eval e X.env),(false,eval f X.env)]
noncomputable def IsD (H:Hp) (a:Addr):Prop:=(∃ kvs,Rd H a (.dK kvs))∨∃ kvs,Rd H a (.dT kvs)
theorem isD_at {X:Cx} {pins:List (Addr×Obj)} {σ:St} {H:Hp} {s:Shared} {a:Addr} (I:Inv X pins σ H s) (d:IsD H a) :
  s.TypeIs (.ref a) "dict"∧(∀ b,Value.ref a=.ref b -> ∃ ob,s.heap.get? b=some ob∧ob.dict=none)∧(a == sysModules)=false:=by
 rcases d with ⟨kvs,e⟩ | ⟨kvs,e⟩
 ·obtain ⟨_,hd,vs,_,dd⟩:=dk_rd I.hok e
  refine ⟨dd.typeIs,fun b q => ?_,hd⟩
  cases q
  obtain ⟨ob,_,_,h1,h2,_⟩:=dd
  exact ⟨ob,h1,h2.2.1⟩
 ·obtain ⟨_,hd,xs,_,dd⟩:=dt_rd I.hok e
  refine ⟨dd.typeIs,fun b q => ?_,hd⟩
  cases q
  obtain ⟨ob,_,_,h1,h2,_⟩:=dd
  exact ⟨ob,h1,h2.2.1⟩
section
variable {X:Cx} {pins:List (Addr×Obj)} {σ:St} {H:Hp} {s:Shared} {a:Addr} {y d:V} {u r:Value} {o:Option V} {A:Around} {E:Value -> Shared -> Prop}
theorem d_get2 {Q:Value -> Shared -> Prop} (hu:A.units+1 < cLine) (I:Inv X pins σ H s) (g:DGet H a y o) (ry:RelV y u) (rd:RelV d r) (h:∀ w' s',Inv X pins σ H s' -> RelV (o.getD d) w' -> Q w' s') :
  wpAny (model X.prog X.w) A (call (.builtin "dict.get") [.ref a,u,r]) Q E s:=by
 rcases g with ⟨kvs,k,e,ey,l⟩ | ⟨kvs,k,b,e,ey,eb,l⟩
 ·subst ey
  obtain ⟨z,hd,vs,rel,dd⟩:=dk_rd I.hok e
  refine call_meetsIn PySem.F.slot_dict_get dd.typeIs PySem.F.entry_dict_get (PySem.F.args_dict_get_3 _ _ _) (meets_dict_get_default (mixKind X.prog X.w) a (kV_is ry) hd r) ⟨_,dd.mapOf,h _ _ (I.tok _) ?_⟩
  rw [l]
  exact (rel.val k).getD rd
 ·subst ey
  cases (show u=Value.ref b from ry)
  obtain ⟨z,hd,xs,rel,dd⟩:=dt_rd I.hok e
  refine call_meetsIn PySem.F.slot_dict_get dd.typeIs PySem.F.entry_dict_get (PySem.F.args_dict_get_3 _ _ _) (meetsH_dict_get_default (tupleKind (mixKind X.prog X.w)) a b hd r) ⟨tupleKind_room_in1 hu,k,xs,key_of I.hok eb,dd,h _ _ (I.tok _) ?_⟩
  rw [l]
  exact (rel.val k).getD rd
end
noncomputable def tDGet2 (td ty tx:TE):TE:=fun σ H Q => td σ H fun x H1 => ∃ a,x=.ref a∧IsD H1 a∧ty σ H1 fun y H2 => tx σ H2 fun z H3 => ∃ o,DGet H3 a y o∧Q (o.getD z) H3
section
variable {X:Cx} {o e f:Expr} {apos cpos:Pos} {td ty tx:TE}
theorem pe_dget2 (hu:X.A.units+1 < cLine) (ho:PE X o td) (he:PE X e ty) (hf:PE X f tx) (m:M2 X o "get" apos e f cpos):PE X (.Call (.Attribute o "get" apos) [e,f] [] cpos) (tDGet2 td ty tx):=by
 intro pins s σ H Q I h
 refine wpAny_Call_method m.base m.few m.line PySem.F.plainAttrs_dict PySem.F.slot_dict_get PySem.F.type_dict_get (thn (ho pins s σ H _ I h) fun u s1 ⟨x,H1,I1,rx,a,ex,d,q1⟩ => ?_)
 subst ex
 obtain rfl:u=Value.ref a:=rx
 obtain ⟨t1,t2,_⟩:=isD_at I1 d
 refine ⟨t1,t2,?_⟩
 rw [m.trees]
 refine Calls.callWith_builtin rfl (Calls.evalArgs_plain (Calls.spliced_cons (thn (he pins s1 σ H1 _ I1 q1) fun iv s2 ⟨y,H2,I2,ry,q2⟩ =>
  Calls.spliced_cons (thn (hf pins s2 σ H2 _ I2 q2) fun fv s3 ⟨z,H3,I3,rz,ov,g,q3⟩ => Calls.spliced_nil ?_))))
 exact d_get2 hu I3 g ry rz fun w' s4 I4 rw' => ⟨_,H3,I4,rw',q3⟩
end
end L2
namespace L2
open PySem PySem.Spec PyProof.Rows
section
variable {X:Cx}
theorem call_lenD:CallR X (.builtin "len") (fun xs H Q => ∃ a kvs,xs=[V.ref a]∧H a=some (.dK kvs)∧Q (.int kvs.length) H):=by
 intro pins s σ H xs us Q I r h
 obtain ⟨a,kvs,rfl,ha,q⟩:=h
 obtain ⟨u,rfl,ru⟩:=vals1 r
 cases ru
 exact d_len I (.inl ha) fun t s' I' => ⟨.int kvs.length,H,I',⟨t,rfl⟩,q⟩
end
section
variable {κ:Type} [DecidableEq κ]
theorem nd_snoc:∀ {l:List κ} {k:κ},l.Nodup -> ¬ k∈l -> (l++[k]).Nodup
 | [],k,_,_ => by simp
 | a :: r,k,h,hk => by
  obtain ⟨h1,h2⟩:=List.nodup_cons.mp h
  show (a :: (r++[k])).Nodup
  refine List.nodup_cons.mpr ⟨fun m => ?_,nd_snoc h2 fun m => hk (List.mem_cons.mpr (Or.inr m))⟩
  rcases List.mem_append.mp m with q | q
  ·exact h1 q
  ·exact hk (List.mem_cons.mpr (Or.inl (List.mem_singleton.mp q).symm))
end
end L2
namespace TS
open PySem PyProof.Rows
noncomputable def gallop':Bool -> Keyed -> Array Keyed -> Nat -> Nat -> Nat -> StateT SortSt Sem (Option Nat):=sortPriv% PySem.Builtin.gallop
noncomputable def mergeLo':Array Keyed -> Array Keyed -> StateT SortSt Sem (Array Keyed):=sortPriv% PySem.Builtin.mergeLo
noncomputable def mergeHi':Array Keyed -> Array Keyed -> StateT SortSt Sem (Array Keyed):=sortPriv% PySem.Builtin.mergeHi
noncomputable def mergeAt':Nat -> StateT SortSt Sem Bool:=sortPriv% PySem.Builtin.mergeAt
section
variable {prog:Program} {w:World} {A:Around} {E:Value -> Shared -> Prop} {s:Shared}
structure Cmp (prog:Program) (w:World) (A:Around) (s:Shared) (kd:SortKind) (O:KeyOrd) (ky:Keyed -> O.α) (S:Keyed -> Prop):Prop where
 lt:∀ p q,S p -> S q -> ∀ {E:Value -> Shared -> Prop} {Q:Bool -> Shared -> Prop},Q (O.blt (ky p) (ky q)) s -> wpAny (model prog w) A (keyLt' kd p.1 q.1) Q E s
variable {kd:SortKind} {O:KeyOrd} {ky:Keyed -> O.α} {S:Keyed -> Prop}
theorem wpS_lt (C:Cmp prog w A s kd O ky S) {st:SortSt} {p q:Keyed} {Q:Option Bool -> SortSt -> Prop} (hk:kindOf st=kd) (hp:S p) (hq:S q) (h:Q (some (O.blt (ky p) (ky q))) st):wpS (model prog w) A E s (lt' p q) Q st:=by
 rw [lt'_eq]
 refine wpS_bind (wpS_get ?_)
 rw [hk]
 refine wpS_bind (wpS_lift (wpAny_attempt (C.lt p q hp hq ⟨rfl,?_⟩)))
 exact wpS_pure h
theorem wpS_elem {arr:Array Keyed} {i:Nat} {p:Keyed} {Q:Keyed -> SortSt -> Prop} {st:SortSt} (h:arr[i]?=some p) (hq:Q p st):wpS (model prog w) A E s (elem' arr i) Q st:=by
 rw [elem'_eq,h]
 exact wpS_pure hq
noncomputable def bey (O:KeyOrd) (ky:Keyed -> O.α) (left:Bool) (key p:Keyed):Bool:=if left then O.blt (ky p) (ky key) else !O.blt (ky key) (ky p)
theorem wpS_bey (C:Cmp prog w A s kd O ky S) {st:SortSt} {left:Bool} {key p:Keyed} {arr:Array Keyed} {i:Nat} {Q:Option Bool -> SortSt -> Prop} (hk:kindOf st=kd) (hs:S key) (hp:arr[i]?=some p) (hsp:S p) (h:Q (some (bey O ky left key p)) st) :
  wpS (model prog w) A E s (do
   let x ← elem' arr i
   if left=true then lt' x key else do
    let r ← lt' key x
    pure (Option.map (fun x => !x) r)) Q st:=by
 refine wpS_bind (wpS_elem hp ?_)
 unfold bey at h
 cases left with
 | true =>
  rw [if_pos rfl] at h ⊢
  exact wpS_lt C hk hsp hs h
 | false =>
  rw [if_neg Bool.false_ne_true] at h ⊢
  exact wpS_bind (wpS_lt C hk hs hsp (wpS_pure h))
theorem wpS_gallop (C:Cmp prog w A s kd O ky S) {st:SortSt} {left:Bool} {key:Keyed} {arr:Array Keyed} {base n hint:Nat} {Q:Option Nat -> SortSt -> Prop} (hk:kindOf st=kd) (hs:S key) {el:Nat -> Keyed} (hel:∀ i,i < n -> arr[base+i]?=some (el i)∧S (el i))
  (anti:∀ i j,i≤j -> j < n -> bey O ky left key (el j)=true -> bey O ky left key (el i)=true) (hh:hint < n)
  (h:∀ k,k≤n -> (∀ i,i < k -> bey O ky left key (el i)=true) -> (∀ i,k≤i -> i < n -> bey O ky left key (el i)=false) -> Q (some k) st) :
  wpS (model prog w) A E s (gallop' left key arr base n hint) Q st:=by
 have anti':∀ i j,i≤j -> j < n -> bey O ky left key (el i)=false -> bey O ky left key (el j)=false:=fun i j h1 h2 h3 => by
  cases e:bey O ky left key (el j) with
  | false => rfl
  | true => rw [anti i j h1 h2 e] at h3; cases h3
 have ask:∀ (i:Nat) {Q:Option Bool -> SortSt -> Prop},i < n -> Q (some (bey O ky left key (el i))) st -> wpS (model prog w) A E s (do
   let x ← elem' arr (base+i)
   if left=true then lt' x key else do
    let r ← lt' key x
    pure (Option.map (fun x => !x) r)) Q st:=fun i Q hi hq => wpS_bey C hk hs (hel i hi).1 (hel i hi).2 hq
 unfold gallop'
 refine wpS_bind (ask hint hh ?_)
 -- the last search
 have fin:∀ lo hi,lo≤hi -> hi≤n -> (∀ i,i < lo -> bey O ky left key (el i)=true) -> (∀ i,hi≤i -> i < n -> bey O ky left key (el i)=false) -> ∀ {f:Nat -> Option (Option Nat)×Nat×Nat -> StateT SortSt Sem (ForInStep (Option (Option Nat)×Nat×Nat))},
   (∀ (x:Nat) lo hi,lo≤hi -> hi≤n -> ∀ {R:ForInStep (Option (Option Nat)×Nat×Nat) -> SortSt -> Prop},(lo ≥ hi -> R (.done (none,lo,hi)) st) -> (∀ m,lo≤m -> m < hi -> bey O ky left key (el m)=true -> R (.yield (none,m+1,hi)) st) -> (∀ m,lo≤m -> m < hi -> bey O ky left key (el m)=false -> R (.yield (none,lo,m)) st) -> wpS (model prog w) A E s (f x (none,lo,hi)) R st) →
   ∀ {g:Option (Option Nat)×Nat×Nat -> StateT SortSt Sem (Option Nat)},(∀ lo hi,g (none,lo,hi)=pure (some hi)) -> wpS (model prog w) A E s (forIn [:n] (none,lo,hi) f >>= g) Q st:=by
  intro lo hi h1 h2 h3 h4 f hf g hg
  refine wpS_bind (wpS_mono (wpS_forRange (I:=fun x c st' => st'=st∧∃ lo hi,c=(none,lo,hi)∧lo≤hi∧hi≤n∧hi - lo≤n - x∧(∀ i,i < lo -> bey O ky left key (el i)=true)∧(∀ i,hi≤i -> i < n -> bey O ky left key (el i)=false))
   (Q:=fun c st' => st'=st∧∃ hi,c=(none,hi,hi)∧hi≤n∧(∀ i,i < hi -> bey O ky left key (el i)=true)∧(∀ i,hi≤i -> i < n -> bey O ky left key (el i)=false)) ?step ?fin ⟨rfl,lo,hi,rfl,h1,h2,by trivial,h3,h4⟩) ?post)
  case fin =>
   rintro c st' ⟨rfl,lo,hi,rfl,a1,a2,a3,a4,a5⟩
   have:lo=hi:=by trivial
   subst this
   exact ⟨rfl,lo,rfl,a2,a4,a5⟩
  case post =>
   rintro c st' ⟨rfl,hi,rfl,a2,a4,a5⟩
   rw [hg]
   exact wpS_pure (h hi a2 a4 a5)
  case step =>
   rintro x c st' _ hx ⟨rfl,lo,hi,rfl,a1,a2,a3,a4,a5⟩
   refine hf x lo hi a1 a2 (fun q => ?_) (fun m m1 m2 mb => ?_) (fun m m1 m2 mb => ?_)
   ·have:lo=hi:=by trivial
    subst this
    exact ⟨rfl,lo,rfl,a2,a4,a5⟩
   ·exact ⟨rfl,m+1,hi,rfl,by trivial,a2,by trivial,fun i hi' => anti i m (by trivial) (by trivial) mb,a5⟩
   ·exact ⟨rfl,lo,m,rfl,m1,by trivial,by trivial,a4,fun i i1 i2 => anti' m i i1 i2 mb⟩
 have body:∀ (x:Nat) lo hi,lo≤hi -> hi≤n -> ∀ {R:ForInStep (Option (Option Nat)×Nat×Nat) -> SortSt -> Prop},(lo ≥ hi -> R (.done (none,lo,hi)) st) -> (∀ m,lo≤m -> m < hi -> bey O ky left key (el m)=true -> R (.yield (none,m+1,hi)) st) -> (∀ m,lo≤m -> m < hi -> bey O ky left key (el m)=false -> R (.yield (none,lo,m)) st) →
   wpS (model prog w) A E s (if lo ≥ hi then pure (ForInStep.done ((none:Option (Option Nat)),lo,hi)) else do
    let r ← (do
     let x ← elem' arr (base+(lo+(hi - lo) / 2))
     if left=true then lt' x key else do
      let r ← lt' key x
      pure (Option.map (fun x => !x) r))
    match r with
     | some more => if more=true then pure (ForInStep.yield (none,lo+(hi - lo) / 2+1,hi)) else pure (ForInStep.yield (none,lo,lo+(hi - lo) / 2))
     | x => pure (ForInStep.done (some none,lo,hi))) R st:=by
  intro x lo hi h1 h2 R r1 r2 r3
  by_cases hge:lo ≥ hi
  ·rw [if_pos hge]; exact wpS_pure (r1 hge)
  ·rw [if_neg hge]
   refine wpS_bind (ask _ (by trivial) ?_)
   dsimp only
   cases e:bey O ky left key (el (lo+(hi - lo) / 2)) with
   | true => rw [if_pos rfl]; exact wpS_pure (r2 _ (by trivial) (by trivial) e)
   | false => rw [if_neg Bool.false_ne_true]; exact wpS_pure (r3 _ (by trivial) (by trivial) e)
 dsimp only
 cases e0:bey O ky left key (el hint) with
 | true =>
  rw [if_pos rfl]
  refine wpS_bind (wpS_mono (wpS_forRange (I:=fun x c st' => st'=st∧∃ la of_,c=(none,la,of_)∧la < of_∧hint+la < n∧x+1≤of_∧bey O ky left key (el (hint+la))=true)
   (Q:=fun c st' => st'=st∧∃ la of_,c=(none,la,of_)∧la < of_∧hint+la < n∧bey O ky left key (el (hint+la))=true∧(n - hint≤of_∨(hint+of_ < n∧bey O ky left key (el (hint+of_))=false))) ?step ?fin ⟨rfl,0,1,rfl,by trivial,by trivial,by trivial,e0⟩) ?post)
  case fin =>
   rintro c st' ⟨rfl,la,of_,rfl,a1,a2,a3,a4⟩
   exact ⟨rfl,la,of_,rfl,a1,a2,a4,.inl (by trivial)⟩
  case step =>
   rintro x c st' _ hx ⟨rfl,la,of_,rfl,a1,a2,a3,a4⟩
   dsimp only
   by_cases hge:of_ ≥ n - hint
   ·rw [if_pos hge]; exact wpS_pure ⟨rfl,la,of_,rfl,a1,a2,a4,.inl hge⟩
   ·rw [if_neg hge]
    refine wpS_bind (ask (hint+of_) (by trivial) ?_)
    dsimp only
    cases e:bey O ky left key (el (hint+of_)) with
    | true =>
     rw [if_neg (by decide)]
     exact wpS_pure ⟨rfl,of_,2 * of_+1,rfl,by trivial,by trivial,by trivial,e⟩
    | false =>
     rw [if_pos (by decide)]
     exact wpS_pure ⟨rfl,la,of_,rfl,a1,a2,a4,.inr ⟨by trivial,e⟩⟩
  case post =>
   rintro c st' ⟨rfl,la,of_,rfl,a1,a2,a4,a5⟩
   dsimp only
   refine fin (hint+la+1) (hint+min of_ (n - hint)) (by trivial) (by trivial) (fun i hi => anti i (hint+la) (by trivial) a2 a4) (fun i i1 i2 => ?_) (body) (fun lo hi => rfl)
   rcases a5 with a5 | ⟨a5,a6⟩
   ·trivial
   ·exact anti' (hint+of_) i (by trivial) i2 a6
 | false =>
  rw [if_neg Bool.false_ne_true]
  refine wpS_bind (wpS_mono (wpS_forRange (I:=fun x c st' => st'=st∧∃ la of_,c=(none,la,of_)∧la < of_∧la≤hint∧x+1≤of_∧bey O ky left key (el (hint - la))=false)
   (Q:=fun c st' => st'=st∧∃ la of_,c=(none,la,of_)∧la < of_∧la≤hint∧bey O ky left key (el (hint - la))=false∧(hint+1≤of_∨(of_≤hint∧bey O ky left key (el (hint - of_))=true))) ?step ?fin ⟨rfl,0,1,rfl,by trivial,by trivial,by trivial,e0⟩) ?post)
  case fin =>
   rintro c st' ⟨rfl,la,of_,rfl,a1,a2,a3,a4⟩
   exact ⟨rfl,la,of_,rfl,a1,a2,a4,.inl (by trivial)⟩
  case step =>
   rintro x c st' _ hx ⟨rfl,la,of_,rfl,a1,a2,a3,a4⟩
   dsimp only
   by_cases hge:of_ ≥ hint+1
   ·rw [if_pos hge]; exact wpS_pure ⟨rfl,la,of_,rfl,a1,a2,a4,.inl hge⟩
   ·rw [if_neg hge]
    refine wpS_bind (ask (hint - of_) (by trivial) ?_)
    dsimp only
    cases e:bey O ky left key (el (hint - of_)) with
    | true =>
     rw [if_pos rfl]
     exact wpS_pure ⟨rfl,la,of_,rfl,a1,a2,a4,.inr ⟨by trivial,e⟩⟩
    | false =>
     rw [if_neg Bool.false_ne_true]
     exact wpS_pure ⟨rfl,of_,2 * of_+1,rfl,by trivial,by trivial,by trivial,e⟩
  case post =>
   rintro c st' ⟨rfl,la,of_,rfl,a1,a2,a4,a5⟩
   dsimp only
   refine fin (hint+1 - min of_ (hint+1)) (hint - la) (by trivial) (by trivial) (fun i hi => ?_) (fun i i1 i2 => anti' (hint - la) i (by trivial) i2 a4) (body) (fun lo hi => rfl)
   rcases a5 with a5 | ⟨a5,a6⟩
   ·trivial
   ·exact anti i (hint - of_) (by trivial) (by trivial) a6
end
end TS
namespace TT
open PySem PyProof.Rows TS
section
variable (O:KeyOrd) (ky:Keyed -> O.α) (ix:Keyed -> Nat)
noncomputable def R (p q:Keyed):Prop:=O.kle (ky p) (ky q)∧(O.kle (ky q) (ky p) -> ix p≤ix q)
theorem R.refl {O:KeyOrd} {ky:Keyed -> O.α} {ix:Keyed -> Nat} (p:Keyed):R O ky ix p p:=⟨KeyOrd.kle_refl _,fun _ => Nat.le_refl _⟩
theorem R.trans {O:KeyOrd} {ky:Keyed -> O.α} {ix:Keyed -> Nat} {p q r:Keyed} (h:R O ky ix p q) (h':R O ky ix q r):R O ky ix p r:=⟨KeyOrd.kle_trans h.1 h'.1,fun z => Nat.le_trans (h.2 (KeyOrd.kle_trans h'.1 z)) (h'.2 (KeyOrd.kle_trans z h.1))⟩
theorem R.lt {O:KeyOrd} {ky:Keyed -> O.α} {ix:Keyed -> Nat} {p q:Keyed} (h:O.klt (ky p) (ky q)):R O ky ix p q:=⟨KeyOrd.kle_of_klt h,fun z => by
 unfold KeyOrd.klt at h
 unfold KeyOrd.kle at z
 rw [h] at z; cases z⟩
theorem R.le {O:KeyOrd} {ky:Keyed -> O.α} {ix:Keyed -> Nat} {p q:Keyed} (h:O.kle (ky p) (ky q)) (h':ix p≤ix q):R O ky ix p q:=⟨h,fun _ => h'⟩
noncomputable def Srt (l:List Keyed):Prop:=l.Pairwise (R O ky ix)
structure MI (a b out:Array Keyed) (ia ib:Nat):Prop where
 ha:ia≤a.size
 hb:ib≤b.size
 perm:out.toList.Perm (a.toList.take ia++b.toList.take ib)
 srt:Srt O ky ix out.toList
 ra:∀ x∈out.toList,∀ y∈a.toList.drop ia,R O ky ix x y
 rb:∀ x∈out.toList,∀ y∈b.toList.drop ib,R O ky ix x y
noncomputable def Good (a b o:Array Keyed):Prop:=o.toList.Perm (a.toList++b.toList)∧Srt O ky ix o.toList
variable {O ky ix} {a b out o:Array Keyed} {ia ib:Nat}
theorem drop_srt {l:List Keyed} (h:Srt O ky ix l) (k:Nat):Srt O ky ix (l.drop k):=List.Pairwise.sublist (List.drop_sublist k l) h
theorem take_srt {l:List Keyed} (h:Srt O ky ix l) (k:Nat):Srt O ky ix (l.take k):=List.Pairwise.sublist (List.take_sublist k l) h
theorem split_srt {l:List Keyed} (h:Srt O ky ix l) (k:Nat):∀ x∈l.take k,∀ y∈l.drop k,R O ky ix x y:=by
 have e:=(List.take_append_drop k l).symm
 unfold Srt at h
 rw [e,List.pairwise_append] at h
 exact h.2.2
theorem mem_drop_le {l:List Keyed} {i j:Nat} (h:i≤j) {x:Keyed} (hx:x∈l.drop j):x∈l.drop i:=by
 rw [show j=i+(j - i) by trivial,← List.drop_drop] at hx
 exact List.mem_of_mem_drop hx
theorem mem_take_le {l:List Keyed} {i j:Nat} (h:i≤j) {x:Keyed} (hx:x∈l.take i):x∈l.take j:=by
 rw [show i=min i j by trivial,← List.take_take] at hx
 exact List.mem_of_mem_take hx
theorem MI.addA (h:MI O ky ix a b out ia ib) (sa:Srt O ky ix a.toList) {k:Nat} (hk:ia+k≤a.size) (hx:∀ x∈(a.toList.drop ia).take k,∀ y∈b.toList.drop ib,R O ky ix x y) (ho:o.toList=out.toList++(a.toList.drop ia).take k):MI O ky ix a b o (ia+k) ib:=by
 refine ⟨hk,h.hb,?_,?_,fun x hm y hy => ?_,fun x hm y hy => ?_⟩
 ·rw [ho,List.take_add,List.append_assoc]
  refine (h.perm.append_right _).trans ?_
  rw [List.append_assoc]
  exact List.Perm.append_left _ List.perm_append_comm
 ·unfold Srt
  rw [ho,List.pairwise_append]
  exact ⟨h.srt,take_srt (drop_srt sa _) _,fun x hx' y hy => h.ra x hx' y (List.mem_of_mem_take hy)⟩
 ·rw [ho] at hm
  rcases List.mem_append.mp hm with hm | hm
  ·exact h.ra x hm y (mem_drop_le (by trivial) hy)
  ·rw [← List.drop_drop] at hy
   exact split_srt (drop_srt sa ia) k x hm y hy
 ·rw [ho] at hm
  rcases List.mem_append.mp hm with hm | hm
  ·exact h.rb x hm y hy
  ·exact hx x hm y hy
theorem MI.swap (h:MI O ky ix a b out ia ib):MI O ky ix b a out ib ia:=⟨h.hb,h.ha,h.perm.trans List.perm_append_comm,h.srt,h.rb,h.ra⟩
theorem MI.addB (h:MI O ky ix a b out ia ib) (sb:Srt O ky ix b.toList) {k:Nat} (hk:ib+k≤b.size) (hx:∀ x∈(b.toList.drop ib).take k,∀ y∈a.toList.drop ia,R O ky ix x y) (ho:o.toList=out.toList++(b.toList.drop ib).take k):MI O ky ix a b o ia (ib+k):=(h.swap.addA sb hk hx ho).swap
theorem ext_all (x:Array Keyed) (i:Nat):(x.extract i x.size).toList=x.toList.drop i:=by simp [List.extract,List.take_of_length_le]
theorem ext_some (x:Array Keyed) (i k:Nat):(x.extract i (i+k)).toList=(x.toList.drop i).take k:=by simp [List.extract]
theorem MI.done (h:MI O ky ix a b out ia ib) (sa:Srt O ky ix a.toList) (sb:Srt O ky ix b.toList) (hor:ia=a.size∨ib=b.size):Good O ky ix a b (out++a.extract ia a.size++b.extract ib b.size):=by
 unfold Good Srt
 rw [Array.toList_append,Array.toList_append,ext_all,ext_all]
 refine ⟨?_,?_⟩
 ·have e1:=List.take_append_drop ia a.toList
  have e2:=List.take_append_drop ib b.toList
  conv => rhs; rw [← e1,← e2]
  rw [List.append_assoc]
  refine (h.perm.append_right _).trans ?_
  rw [List.append_assoc,List.append_assoc]
  refine List.Perm.append_left _ ?_
  rw [← List.append_assoc,← List.append_assoc]
  exact List.perm_append_comm.append_right _
 ·rw [List.pairwise_append,List.pairwise_append]
  refine ⟨⟨h.srt,drop_srt sa _,h.ra⟩,drop_srt sb _,fun x hx y hy => ?_⟩
  rcases List.mem_append.mp hx with hx | hx
  ·exact h.rb x hx y hy
  ·rcases hor with q | q
   ·rw [q,List.drop_of_length_le (by simp)] at hx; cases hx
   ·rw [q,List.drop_of_length_le (by simp)] at hy; cases hy
theorem MI.last (h:MI O ky ix a b out ia ib) (sa:Srt O ky ix a.toList) (sb:Srt O ky ix b.toList) (hl:∀ y∈b.toList,∀ x∈a.toList.drop ia,R O ky ix y x):Good O ky ix a b (out++b.extract ib b.size++a.extract ia a.size):=by
 unfold Good Srt
 rw [Array.toList_append,Array.toList_append,ext_all,ext_all]
 refine ⟨?_,?_⟩
 ·have e1:=List.take_append_drop ia a.toList
  have e2:=List.take_append_drop ib b.toList
  conv => rhs; rw [← e1,← e2]
  rw [List.append_assoc]
  refine (h.perm.append_right _).trans ?_
  rw [List.append_assoc,List.append_assoc]
  refine List.Perm.append_left _ ?_
  rw [← List.append_assoc]
  exact List.perm_append_comm
 ·rw [List.pairwise_append,List.pairwise_append]
  refine ⟨⟨h.srt,drop_srt sb _,h.rb⟩,drop_srt sa _,fun x hx y hy => ?_⟩
  rcases List.mem_append.mp hx with hx | hx
  ·exact h.ra x hx y hy
  ·exact hl x (List.mem_of_mem_drop hx) y hy
structure MH (O:KeyOrd) (ky:Keyed -> O.α) (ix:Keyed -> Nat) (a b out:Array Keyed) (na nb:Nat):Prop where
 ha:na≤a.size
 hb:nb≤b.size
 perm:out.toList.Perm (a.toList.drop na++b.toList.drop nb)
 srt:out.toList.Pairwise fun x y => R O ky ix y x
 ra:∀ x∈out.toList,∀ y∈a.toList.take na,R O ky ix y x
 rb:∀ x∈out.toList,∀ y∈b.toList.take nb,R O ky ix y x
theorem MH.swap {na nb:Nat} (h:MH O ky ix a b out na nb):MH O ky ix b a out nb na:=⟨h.hb,h.ha,h.perm.trans List.perm_append_comm,h.srt,h.rb,h.ra⟩
theorem MH.addA {na nb k:Nat} (h:MH O ky ix a b out na nb) (sa:Srt O ky ix a.toList) (hk:k≤na) (hx:∀ x∈(a.toList.take na).drop k,∀ y∈b.toList.take nb,R O ky ix y x) (ho:o.toList=out.toList++((a.toList.take na).drop k).reverse):MH O ky ix a b o k nb:=by
 have hd:a.toList.drop k=(a.toList.take na).drop k++a.toList.drop na:=by
  conv => lhs; rw [← List.take_append_drop na a.toList]
  rw [List.drop_append_of_le_length (by have:=h.ha; rw [List.length_take]; simp; trivial)]
 refine ⟨Nat.le_trans hk h.ha,h.hb,?_,?_,fun x hm y hy => ?_,fun x hm y hy => ?_⟩
 ·rw [ho,hd]
  refine (h.perm.append_right _).trans ?_
  refine (List.perm_append_comm).trans ?_
  rw [← List.append_assoc]
  exact ((List.reverse_perm _).append_right _).append_right _
 ·rw [ho,List.pairwise_append]
  refine ⟨h.srt,?_,fun x hx' y hy => h.ra x hx' y (List.mem_of_mem_drop (List.mem_reverse.mp hy))⟩
  rw [List.pairwise_reverse]
  exact drop_srt (take_srt sa _) _
 ·rw [ho] at hm
  rcases List.mem_append.mp hm with hm | hm
  ·exact h.ra x hm y (mem_take_le hk hy)
  ·have:=split_srt (take_srt sa na) k y (by rw [List.take_take,Nat.min_eq_left hk]; exact hy) x (List.mem_reverse.mp hm)
   exact this
 ·rw [ho] at hm
  rcases List.mem_append.mp hm with hm | hm
  ·exact h.rb x hm y hy
  ·exact hx x (List.mem_reverse.mp hm) y hy
theorem MH.addB {na nb k:Nat} (h:MH O ky ix a b out na nb) (sb:Srt O ky ix b.toList) (hk:k≤nb) (hx:∀ x∈(b.toList.take nb).drop k,∀ y∈a.toList.take na,R O ky ix y x) (ho:o.toList=out.toList++((b.toList.take nb).drop k).reverse):MH O ky ix a b o na k:=(h.swap.addA sb hk hx ho).swap
theorem ext0 (x:Array Keyed) (k:Nat):(x.extract 0 k).toList=x.toList.take k:=by simp [List.extract]
theorem ext2 (x:Array Keyed) {i j:Nat}:(x.extract i j).toList=(x.toList.take j).drop i:=by
 simp [List.extract]
 rw [List.drop_take]
theorem MH.done {na nb:Nat} (h:MH O ky ix a b out na nb) (sa:Srt O ky ix a.toList) (sb:Srt O ky ix b.toList) (hor:na=0∨nb=0):Good O ky ix a b (a.extract 0 na++b.extract 0 nb++out.reverse):=by
 unfold Good Srt
 rw [Array.toList_append,Array.toList_append,ext0,ext0,Array.toList_reverse]
 refine ⟨?_,?_⟩
 ·have e1:=List.take_append_drop na a.toList
  have e2:=List.take_append_drop nb b.toList
  conv => rhs; rw [← e1,← e2]
  refine (List.Perm.append_left _ ((List.reverse_perm _).trans h.perm)).trans ?_
  rw [List.append_assoc,List.append_assoc]
  refine List.Perm.append_left _ ?_
  rw [← List.append_assoc,← List.append_assoc]
  exact List.perm_append_comm.append_right _
 ·rw [List.pairwise_append,List.pairwise_append,List.pairwise_reverse]
  refine ⟨⟨take_srt sa _,take_srt sb _,fun x hx y hy => ?_⟩,h.srt,fun x hx y hy => ?_⟩
  ·rcases hor with q | q
   ·rw [q,List.take_zero] at hx; cases hx
   ·rw [q,List.take_zero] at hy; cases hy
  ·rcases List.mem_append.mp hx with hx | hx
   ·exact h.ra y (List.mem_reverse.mp hy) x hx
   ·exact h.rb y (List.mem_reverse.mp hy) x hx
theorem MH.first {na nb:Nat} (h:MH O ky ix a b out na nb) (sa:Srt O ky ix a.toList) (sb:Srt O ky ix b.toList) (hl:∀ x∈b.toList.take nb,∀ y∈a.toList,R O ky ix x y):Good O ky ix a b (b.extract 0 nb++a.extract 0 na++out.reverse):=by
 unfold Good Srt
 rw [Array.toList_append,Array.toList_append,ext0,ext0,Array.toList_reverse]
 refine ⟨?_,?_⟩
 ·have e1:=List.take_append_drop na a.toList
  have e2:=List.take_append_drop nb b.toList
  conv => rhs; rw [← e1,← e2]
  refine (List.Perm.append_left _ ((List.reverse_perm _).trans h.perm)).trans ?_
  refine (List.perm_append_comm.append_right _).trans ?_
  rw [List.append_assoc,List.append_assoc]
  refine List.Perm.append_left _ ?_
  rw [← List.append_assoc,← List.append_assoc]
  exact List.perm_append_comm.append_right _
 ·rw [List.pairwise_append,List.pairwise_append,List.pairwise_reverse]
  refine ⟨⟨take_srt sb _,take_srt sa _,fun x hx y hy => hl x hx y (List.mem_of_mem_take hy)⟩,h.srt,fun x hx y hy => ?_⟩
  rcases List.mem_append.mp hx with hx | hx
  ·exact h.rb y (List.mem_reverse.mp hy) x hx
  ·exact h.ra y (List.mem_reverse.mp hy) x hx
end
end TT
namespace TT
open PySem PyProof.Rows TS
structure SameSt (st st':SortSt):Prop where
 kind:kindOf st'=kindOf st
 arr:arrOf st'=arrOf st
 pend:pendingOf st'=pendingOf st
 fail:failedOf st'=failedOf st
theorem SameSt.refl (st:SortSt):SameSt st st:=⟨rfl,rfl,rfl,rfl⟩
noncomputable def at_ (a:Array Keyed) (i:Nat):Keyed:=(a[i]?).getD (.none,.none)
theorem at_eq {a:Array Keyed} {i:Nat} (h:i < a.size):a[i]?=some (at_ a i):=by unfold at_; rw [getElem?_pos a i h]; rfl
theorem at_list {a:Array Keyed} {i:Nat} (h:i < a.size):a.toList[i]?=some (at_ a i):=by rw [← at_eq h]; simp
theorem at_mem {a:Array Keyed} {i:Nat} (h:i < a.size):at_ a i∈a.toList:=List.mem_of_getElem? (at_list h)
theorem at_cons {a:Array Keyed} {i:Nat} (h:i < a.size):a.toList.drop i=at_ a i :: a.toList.drop (i+1):=by
 have e:=at_list h
 obtain ⟨hl,e2⟩:=List.getElem?_eq_some_iff.mp e
 rw [List.drop_eq_getElem_cons hl,e2]
theorem at_one {a:Array Keyed} {i:Nat} (h:i < a.size):(a.toList.drop i).take 1=[at_ a i]:=by rw [at_cons h]; rfl
section
variable {O:KeyOrd} {ky:Keyed -> O.α} {ix:Keyed -> Nat}
theorem at_le {a:Array Keyed} (sa:Srt O ky ix a.toList) {i:Nat} (h:i < a.size):∀ y∈a.toList.drop i,R O ky ix (at_ a i) y:=by
 intro y hy
 have s:=drop_srt sa i
 rw [at_cons h] at hy s
 rcases List.mem_cons.mp hy with e | hy
 ·rw [e]; exact R.refl _
 ·exact (List.pairwise_cons.mp s).1 y hy
theorem at_ij {a:Array Keyed} (sa:Srt O ky ix a.toList) {i j:Nat} (hij:i≤j) (h:j < a.size):R O ky ix (at_ a i) (at_ a j):=at_le sa (by trivial) _ (by
 have:at_ a j∈a.toList.drop j:=by rw [at_cons h]; exact List.mem_cons_self
 exact mem_drop_le hij this)
theorem mem_at {a:Array Keyed} {i k:Nat} {x:Keyed} (hx:x∈(a.toList.drop i).take k):∃ j,j < k∧i+j < a.size∧x=at_ a (i+j):=by
 obtain ⟨j,hj,e⟩:=List.getElem_of_mem hx
 rw [List.length_take,List.length_drop] at hj
 have hl:i+j < a.size:=by simp at hj; trivial
 refine ⟨j,by trivial,hl,?_⟩
 have e2:((a.toList.drop i).take k)[j]?=some x:=by rw [← e]; exact List.getElem?_eq_getElem _
 rw [List.getElem?_take,if_pos (by trivial),List.getElem?_drop,at_list hl] at e2
 exact (Option.some.inj e2).symm
end
section
variable {prog:Program} {w:World} {A:Around} {E:Value -> Shared -> Prop} {s:Shared}
variable {kd:SortKind} {O:KeyOrd} {ky:Keyed -> O.α} {ix:Keyed -> Nat} {S:Keyed -> Prop}
theorem wpS_gal (C:Cmp prog w A s kd O ky S) {st:SortSt} {left:Bool} {key:Keyed} {arr:Array Keyed} {base n hint:Nat} {Q:Option Nat -> SortSt -> Prop} (hk:kindOf st=kd) (hs:S key) (hS:∀ p∈arr.toList,S p) (sr:∀ i j,i≤j -> j < n -> R O ky ix (at_ arr (base+i)) (at_ arr (base+j))) (hix:∀ i,i < n -> if left then ix key≤ix (at_ arr (base+i)) else ix (at_ arr (base+i))≤ix key) (hn:base+n≤arr.size) (hh:hint < n)
  (h:∀ k,k≤n -> (∀ i,i < k -> if left then O.klt (ky (at_ arr (base+i))) (ky key) else R O ky ix (at_ arr (base+i)) key) -> (∀ i,k≤i -> i < n -> if left then R O ky ix key (at_ arr (base+i)) else O.klt (ky key) (ky (at_ arr (base+i)))) -> Q (some k) st) :
  wpS (model prog w) A E s (gallop' left key arr base n hint) Q st:=by
 refine wpS_gallop C hk hs (el:=fun i => at_ arr (base+i)) (fun i hi => ⟨at_eq (by trivial),hS _ (at_mem (by trivial))⟩) (fun i j hij hj hb => ?_) hh (fun k hkn h1 h2 => h k hkn (fun i hi => ?_) (fun i hi hin => ?_))
 ·have r:=sr i j hij hj
  unfold bey at hb ⊢
  cases left with
  | true =>
   rw [if_pos rfl] at hb ⊢
   exact KeyOrd.klt_of_kle_of_klt r.1 hb
  | false =>
   rw [if_neg Bool.false_ne_true] at hb ⊢
   have hb':O.blt (ky key) (ky (at_ arr (base+j)))=false:=by simpa using hb
   have:O.kle (ky (at_ arr (base+i))) (ky key):=KeyOrd.kle_trans r.1 hb'
   unfold KeyOrd.kle at this
   rw [this]; rfl
 ·have:=h1 i hi
  unfold bey at this
  cases left with
  | true =>
   rw [if_pos rfl] at this ⊢
   exact this
  | false =>
   rw [if_neg Bool.false_ne_true] at this ⊢
   have hb':O.blt (ky key) (ky (at_ arr (base+i)))=false:=by simpa using this
   have hx:=hix i (by trivial)
   rw [if_neg Bool.false_ne_true] at hx
   exact R.le hb' hx
 ·have:=h2 i hi hin
  unfold bey at this
  cases left with
  | true =>
   rw [if_pos rfl] at this ⊢
   have hx:=hix i hin
   rw [if_pos rfl] at hx
   exact R.le this hx
  | false =>
   rw [if_neg Bool.false_ne_true] at this ⊢
   have hb':O.blt (ky key) (ky (at_ arr (base+i)))=true:=by simpa using this
   exact hb'
theorem wpS_mergeLo (C:Cmp prog w A s kd O ky S) {st:SortSt} {a b:Array Keyed} {Q:Array Keyed -> SortSt -> Prop} (hk:kindOf st=kd) (hSa:∀ p∈a.toList,S p) (hSb:∀ p∈b.toList,S p) (sa:Srt O ky ix a.toList) (sb:Srt O ky ix b.toList) (hix:∀ x∈a.toList,∀ y∈b.toList,ix x≤ix y) (na:1≤a.size) (nb:1≤b.size)
  (h0:∀ y∈a.toList,R O ky ix (at_ b 0) y) (hl:∀ y∈b.toList,R O ky ix y (at_ a (a.size - 1))) (h:∀ o st',Good O ky ix a b o -> SameSt st st' -> Q o st'):wpS (model prog w) A E s (mergeLo' a b) Q st:=by
 have lst:∀ {ia},ia+1=a.size -> ∀ y∈b.toList,∀ x∈a.toList.drop ia,R O ky ix y x:=fun {ia} e y hy x hx => by
  rw [at_cons (by trivial),List.drop_of_length_le (by simp; trivial)] at hx
  have:x=at_ a ia:=by simpa using hx
  rw [this,show ia=a.size - 1 by trivial]
  exact hl y hy
 unfold mergeLo'
 refine wpS_bind (wpS_lift (wpAny_rule ⟨rfl,?_⟩))
 dsimp only
 refine wpS_bind (wpS_elem (at_eq (by trivial)) ?_)
 have m0:MI O ky ix a b #[at_ b 0] 0 1:=by
  have z:MI O ky ix a b #[] 0 0:=⟨by trivial,by trivial,by simp,List.Pairwise.nil,fun x hx => by simp at hx,fun x hx => by simp at hx⟩
  have:=z.addB sb (k:=1) (o:=#[at_ b 0]) (by trivial) (fun x hx y hy => ?_) (by rw [at_one (by trivial)]; rfl)
  ·exact this
  ·rw [at_one (by trivial)] at hx
   have:x=at_ b 0:=by simpa using hx
   rw [this]; exact h0 y hy
 by_cases e1:(1 == b.size)=true
 ·rw [if_pos e1]
  exact wpS_pure (h _ _ (m0.done sa sb (.inr (by simpa using e1))) (SameSt.refl _))
 rw [if_neg e1]
 have e1':¬ 1=b.size:=by simpa using e1
 by_cases e2:(0+1 == a.size)=true
 ·rw [if_pos e2]
  exact wpS_pure (h _ _ (m0.last sa sb (lst (by simpa using e2))) (SameSt.refl _))
 rw [if_neg e2]
 have e2':¬ 0+1=a.size:=by simpa using e2
 refine wpS_bind (wpS_get ?_)
 refine wpS_bind (wpS_mono (wpS_forRange
  (I:=fun x c st' => SameSt st st'∧c.1=none∧MI O ky ix a b c.2.1 c.2.2.1 c.2.2.2.1∧c.2.2.1+1 < a.size∧c.2.2.2.1 < b.size∧x+1≤c.2.2.1+c.2.2.2.1)
  (Q:=fun c st' => SameSt st st'∧∃ r,c.1=some r∧Good O ky ix a b r) ?step ?fin ⟨SameSt.refl _,rfl,m0,by dsimp only; trivial,by dsimp only; trivial,by dsimp only; trivial⟩) ?post)
 case fin =>
  rintro c st' ⟨_,_,m,c1,c2,c3⟩
  trivial
 case post =>
  rintro ⟨r,out,ia,ib,mg⟩ st' ⟨ss,r',hr,g⟩
  dsimp only at hr ⊢
  subst hr
  exact wpS_pure (h _ _ g ss)
 case step =>
  rintro x ⟨r,out,ia,ib,mg⟩ st1 _ hx ⟨ss,hr,m,c1,c2,c3⟩
  dsimp only at hr m c1 c2 c3 ⊢
  subst hr
  -- one by one
  refine wpS_bind (wpS_mono (wpS_forRange
   (I:=fun y c st' => st'=st1∧c.1=none∧MI O ky ix a b c.2.1 c.2.2.1 c.2.2.2.1∧c.2.2.1+1 < a.size∧c.2.2.2.1 < b.size∧ia+ib+y≤c.2.2.1+c.2.2.2.1)
   (Q:=fun c st' => st'=st1∧((∃ r,c.1=some r∧Good O ky ix a b r)∨(c.1=none∧MI O ky ix a b c.2.1 c.2.2.1 c.2.2.2.1∧c.2.2.1+1 < a.size∧c.2.2.2.1 < b.size∧ia+ib+1≤c.2.2.1+c.2.2.2.1))) ?step1 ?fin1 ⟨rfl,rfl,m,c1,c2,by dsimp only; trivial⟩) ?post1)
  case fin1 =>
   rintro c st' ⟨_,_,m,c1,c2,c3⟩
   trivial
  case step1 =>
   rintro y ⟨r,out,ia',ib',ac,bc⟩ st' _ hy ⟨rfl,hr,m,c1,c2,c3⟩
   dsimp only at hr m c1 c2 c3 ⊢
   subst hr
   have ka:kindOf st'=kd:=ss.kind.trans hk
   refine wpS_bind (wpS_elem (at_eq c2) (wpS_bind (wpS_elem (at_eq (by trivial)) (wpS_bind (wpS_lt C ka (hSb _ (at_mem c2)) (hSa _ (at_mem (by trivial))) ?_)))))
   dsimp only
   cases hw:O.blt (ky (at_ b ib')) (ky (at_ a ia')) with
   | true =>
    rw [if_pos rfl]
    have m1:MI O ky ix a b (out.push (at_ b ib')) ia' (ib'+1):=m.addB sb (k:=1) (by trivial) (fun x hx y hy => by
     rw [at_one c2] at hx
     have:x=at_ b ib':=by simpa using hx
     rw [this]
     exact R.trans (R.lt hw) (at_le sa (by trivial) y hy)) (by rw [at_one c2]; simp)
    refine wpS_bind (wpS_elem (at_eq c2) ?_)
    split
    ·rename_i q
     exact wpS_pure ⟨rfl,.inl ⟨_,rfl,m1.done sa sb (.inr (by simpa using q))⟩⟩
    ·rename_i q
     have q':¬ ib'+1=b.size:=by simpa using q
     split
     ·exact wpS_pure ⟨rfl,.inr ⟨rfl,m1,c1,by dsimp only; trivial,by dsimp only; trivial⟩⟩
     ·exact wpS_pure ⟨rfl,rfl,m1,c1,by dsimp only; trivial,by dsimp only; trivial⟩
   | false =>
    rw [if_neg Bool.false_ne_true]
    have m1:MI O ky ix a b (out.push (at_ a ia')) (ia'+1) ib':=m.addA sa (k:=1) (by trivial) (fun x hx y hy => by
     rw [at_one (by trivial)] at hx
     have:x=at_ a ia':=by simpa using hx
     rw [this]
     exact R.trans (R.le hw (hix _ (at_mem (by trivial)) _ (at_mem c2))) (at_le sb c2 y hy)) (by rw [at_one (by trivial)]; simp)
    refine wpS_bind (wpS_elem (at_eq (by trivial)) ?_)
    split
    ·rename_i q
     exact wpS_pure ⟨rfl,.inl ⟨_,rfl,m1.last sa sb (lst (by simpa using q))⟩⟩
    ·rename_i q
     have q':¬ ia'+1+1=a.size:=by simpa using q
     split
     ·exact wpS_pure ⟨rfl,.inr ⟨rfl,m1,by dsimp only; trivial,c2,by dsimp only; trivial⟩⟩
     ·exact wpS_pure ⟨rfl,rfl,m1,by dsimp only; trivial,c2,by dsimp only; trivial⟩
  case post1 =>
   rintro ⟨r,out,ia1,ib1,ac,bc⟩ st' ⟨rfl,hc⟩
   dsimp only at hc ⊢
   rcases hc with ⟨r,rfl,g⟩ | ⟨rfl,m,c1',c2',c3'⟩
   ·exact wpS_pure ⟨ss,r,rfl,g⟩
   dsimp only
   refine wpS_bind (wpS_lift (wpAny_rule ⟨rfl,?_⟩))
   refine wpS_bind (wpS_mono (wpS_forRange
    (I:=fun y c st' => SameSt st st'∧c.1=none∧MI O ky ix a b c.2.1 c.2.2.1 c.2.2.2.1∧c.2.2.1+1 < a.size∧c.2.2.2.1 < b.size∧ia+ib+1≤c.2.2.1+c.2.2.2.1)
    (Q:=fun c st' => SameSt st st'∧((∃ r,c.1=some r∧Good O ky ix a b r)∨(c.1=none∧MI O ky ix a b c.2.1 c.2.2.1 c.2.2.2.1∧c.2.2.1+1 < a.size∧c.2.2.2.1 < b.size∧ia+ib+1≤c.2.2.1+c.2.2.2.1))) ?step2 ?fin2 ⟨ss,rfl,m,c1',c2',by dsimp only; trivial⟩) ?post2)
   case fin2 =>
    rintro c st' ⟨s',h1,h2,h3,h4,h5⟩
    exact ⟨s',.inr ⟨h1,h2,h3,h4,h5⟩⟩
   case post2 =>
    rintro ⟨r,out,ia2,ib2,mg2,ac2,bc2⟩ st2 ⟨s2,hc⟩
    dsimp only at hc ⊢
    rcases hc with ⟨r,rfl,g⟩ | ⟨rfl,m,d1,d2,d3⟩
    ·exact wpS_pure ⟨s2,r,rfl,g⟩
    dsimp only
    refine wpS_bind (wpS_modify (wpS_pure ⟨⟨s2.kind,s2.arr,s2.pend,s2.fail⟩,rfl,m,d1,d2,by dsimp only; trivial⟩))
   case step2 =>
    rintro y ⟨r,out,ia',ib',mg',ac',bc'⟩ st2 _ hy ⟨s2,hr,m,c1,c2,c3⟩
    dsimp only at hr m c1 c2 c3 ⊢
    subst hr
    -- behind the gallop in a
    have T2:∀ {out:Array Keyed} {ia2 ib2:Nat},MI O ky ix a b out ia2 ib2 -> ia2+1 < a.size -> ib2 < b.size -> ia+ib+1≤ia2+ib2 -> (∀ y∈b.toList.drop ib2,R O ky ix (at_ a ia2) y) -> MI O ky ix a b (out.push (at_ a ia2)) (ia2+1) ib2:=fun {out ia2 ib2} m i1 i2 i3 hle => m.addA sa (k:=1) (by trivial) (fun x hx y hy => by
      rw [at_one (by trivial)] at hx
      have:x=at_ a ia2:=by simpa using hx
      rw [this]; exact hle y hy) (by rw [at_one (by trivial)]; simp)
    have T1:∀ {out:Array Keyed} {ia2 ib2:Nat},MI O ky ix a b out ia2 ib2 -> ib2 < b.size -> (∀ y∈a.toList.drop ia2,R O ky ix (at_ b ib2) y) -> MI O ky ix a b (out.push (at_ b ib2)) ia2 (ib2+1):=fun {out ia2 ib2} m i2 hle => m.addB sb (k:=1) (by trivial) (fun x hx y hy => by
      rw [at_one (by trivial)] at hx
      have:x=at_ b ib2:=by simpa using hx
      rw [this]; exact hle y hy) (by rw [at_one (by trivial)]; simp)
    by_cases hmg:mg' > 1
    ·rw [if_pos hmg]
     refine wpS_bind (wpS_modify ?_)
     refine wpS_bind (wpS_elem (at_eq c2) ?_)
     refine wpS_bind (wpS_gal C (s2.kind.trans hk) (hSb _ (at_mem c2)) hSa (fun i j hij hj => at_ij sa (by trivial) (by trivial)) (fun i hi => by simp only [Bool.false_eq_true,if_false]; exact hix _ (at_mem (by trivial)) _ (at_mem (by trivial))) (by trivial) (by trivial) fun k hkn k1 k2 => ?_)
     dsimp only
     simp only [Bool.false_eq_true,if_false] at k1 k2
     have hle:∀ y∈a.toList.drop (ia'+k),R O ky ix (at_ b ib') y:=fun y hy => by
      by_cases hlt:ia'+k < a.size
      ·exact R.trans (R.lt (k2 k (Nat.le_refl _) (by trivial))) (at_le sa hlt y hy)
      ·rw [List.drop_of_length_le (by simp; trivial)] at hy; cases hy
     have mA:MI O ky ix a b (out++a.extract ia' (ia'+k)) (ia'+k) ib':=m.addA sa (by trivial) (fun x hx y hy => by
      obtain ⟨j,j1,j2,rfl⟩:=mem_at hx
      exact R.trans (k1 j j1) (at_le sb c2 y hy)) (by rw [Array.toList_append,ext_some])
     by_cases hk0:k > 0
     ·rw [if_pos hk0]
      by_cases p1:(ia'+k+1 == a.size)=true
      ·rw [if_pos p1]
       exact wpS_pure ⟨⟨s2.kind,s2.arr,s2.pend,s2.fail⟩,.inl ⟨_,rfl,mA.last sa sb (lst (by simpa using p1))⟩⟩
      rw [if_neg p1]
      by_cases p2:(ia'+k == a.size)=true
      ·rw [if_pos p2]
       exact wpS_pure ⟨⟨s2.kind,s2.arr,s2.pend,s2.fail⟩,.inl ⟨_,rfl,mA.done sa sb (.inl (by simpa using p2))⟩⟩
      rw [if_neg p2]
      have p1':¬ ia'+k+1=a.size:=by simpa using p1
      have p2':¬ ia'+k=a.size:=by simpa using p2
      refine wpS_bind (wpS_elem (at_eq c2) ?_)
      have m1:=T1 mA c2 hle
      by_cases q1:(ib'+1 == b.size)=true
      ·rw [if_pos q1]
       exact wpS_pure ⟨⟨s2.kind,s2.arr,s2.pend,s2.fail⟩,.inl ⟨_,rfl,m1.done sa sb (.inr (by simpa using q1))⟩⟩
      rw [if_neg q1]
      have q1':¬ ib'+1=b.size:=by simpa using q1
      refine wpS_bind (wpS_elem (at_eq (by trivial)) ?_)
      refine wpS_bind (wpS_gal C (s2.kind.trans hk) (hSa _ (at_mem (by trivial))) hSb (fun i j hij hj => at_ij sb (by trivial) (by trivial)) (fun i hi => by simp only [if_true]; exact hix _ (at_mem (by trivial)) _ (at_mem (by trivial))) (by trivial) (by trivial) fun k' hkn' k1' k2' => ?_)
      dsimp only
      simp only [if_true] at k1' k2'
      have hle2:∀ y∈b.toList.drop (ib'+1+k'),R O ky ix (at_ a (ia'+k)) y:=fun y hy => by
       by_cases hlt:ib'+1+k' < b.size
       ·exact R.trans (k2' k' (Nat.le_refl _) (by trivial)) (at_le sb hlt y hy)
       ·rw [List.drop_of_length_le (by simp; trivial)] at hy; cases hy
      have mB:=m1.addB sb (k:=k') (o:=(out++a.extract ia' (ia'+k)).push (at_ b ib')++b.extract (ib'+1) (ib'+1+k')) (by trivial) (fun x hx y hy => by
       obtain ⟨j,j1,j2,rfl⟩:=mem_at hx
       exact R.trans (R.lt (k1' j j1)) (at_le sa (by trivial) y hy)) (by rw [Array.toList_append,ext_some])
      by_cases hk1:k' > 0
      ·rw [if_pos hk1]
       by_cases q2:(ib'+1+k' == b.size)=true
       ·rw [if_pos q2]
        exact wpS_pure ⟨⟨s2.kind,s2.arr,s2.pend,s2.fail⟩,.inl ⟨_,rfl,mB.done sa sb (.inr (by simpa using q2))⟩⟩
       rw [if_neg q2]
       have q2':¬ ib'+1+k'=b.size:=by simpa using q2
       refine wpS_bind (wpS_elem (at_eq (by trivial)) ?_)
       have m2:=T2 mB (by trivial) (by trivial) (by trivial) hle2
       by_cases q3:(ia'+k+1+1 == a.size)=true
       ·rw [if_pos q3]
        exact wpS_pure ⟨⟨s2.kind,s2.arr,s2.pend,s2.fail⟩,.inl ⟨_,rfl,m2.last sa sb (lst (by simpa using q3))⟩⟩
       rw [if_neg q3]
       have q3':¬ ia'+k+1+1=a.size:=by simpa using q3
       by_cases q4:(decide (k < 7) && decide (k' < 7))=true
       ·rw [if_pos q4]
        exact wpS_pure ⟨⟨s2.kind,s2.arr,s2.pend,s2.fail⟩,.inr ⟨rfl,m2,by dsimp only; trivial,by dsimp only; trivial,by dsimp only; trivial⟩⟩
       ·rw [if_neg q4]
        exact wpS_pure ⟨⟨s2.kind,s2.arr,s2.pend,s2.fail⟩,rfl,m2,by dsimp only; trivial,by dsimp only; trivial,by dsimp only; trivial⟩
      ·rw [if_neg hk1]
       have hle3:∀ y∈b.toList.drop (ib'+1),R O ky ix (at_ a (ia'+k)) y:=by
        have h':=hle2
        rw [show ib'+1+k'=ib'+1 by trivial] at h'
        exact h'
       refine wpS_bind (wpS_elem (at_eq (by trivial)) ?_)
       have m2:=T2 m1 (by trivial) (by trivial) (by trivial) hle3
       by_cases q3:(ia'+k+1+1 == a.size)=true
       ·rw [if_pos q3]
        exact wpS_pure ⟨⟨s2.kind,s2.arr,s2.pend,s2.fail⟩,.inl ⟨_,rfl,m2.last sa sb (lst (by simpa using q3))⟩⟩
       rw [if_neg q3]
       have q3':¬ ia'+k+1+1=a.size:=by simpa using q3
       by_cases q4:(decide (k < 7) && decide (k' < 7))=true
       ·rw [if_pos q4]
        exact wpS_pure ⟨⟨s2.kind,s2.arr,s2.pend,s2.fail⟩,.inr ⟨rfl,m2,by dsimp only; trivial,by dsimp only; trivial,by dsimp only; trivial⟩⟩
       ·rw [if_neg q4]
        exact wpS_pure ⟨⟨s2.kind,s2.arr,s2.pend,s2.fail⟩,rfl,m2,by dsimp only; trivial,by dsimp only; trivial,by dsimp only; trivial⟩
     ·rw [if_neg hk0]
      have hle0:∀ y∈a.toList.drop ia',R O ky ix (at_ b ib') y:=by
       have h':=hle
       rw [show ia'+k=ia' by trivial] at h'
       exact h'
      refine wpS_bind (wpS_elem (at_eq c2) ?_)
      have m1:=T1 m c2 hle0
      by_cases q1:(ib'+1 == b.size)=true
      ·rw [if_pos q1]
       exact wpS_pure ⟨⟨s2.kind,s2.arr,s2.pend,s2.fail⟩,.inl ⟨_,rfl,m1.done sa sb (.inr (by simpa using q1))⟩⟩
      rw [if_neg q1]
      have q1':¬ ib'+1=b.size:=by simpa using q1
      refine wpS_bind (wpS_elem (at_eq (by trivial)) ?_)
      refine wpS_bind (wpS_gal C (s2.kind.trans hk) (hSa _ (at_mem (by trivial))) hSb (fun i j hij hj => at_ij sb (by trivial) (by trivial)) (fun i hi => by simp only [if_true]; exact hix _ (at_mem (by trivial)) _ (at_mem (by trivial))) (by trivial) (by trivial) fun k' hkn' k1' k2' => ?_)
      dsimp only
      simp only [if_true] at k1' k2'
      have hle2:∀ y∈b.toList.drop (ib'+1+k'),R O ky ix (at_ a (ia')) y:=fun y hy => by
       by_cases hlt:ib'+1+k' < b.size
       ·exact R.trans (k2' k' (Nat.le_refl _) (by trivial)) (at_le sb hlt y hy)
       ·rw [List.drop_of_length_le (by simp; trivial)] at hy; cases hy
      have mB:=m1.addB sb (k:=k') (o:=out.push (at_ b ib')++b.extract (ib'+1) (ib'+1+k')) (by trivial) (fun x hx y hy => by
       obtain ⟨j,j1,j2,rfl⟩:=mem_at hx
       exact R.trans (R.lt (k1' j j1)) (at_le sa (by trivial) y hy)) (by rw [Array.toList_append,ext_some])
      by_cases hk1:k' > 0
      ·rw [if_pos hk1]
       by_cases q2:(ib'+1+k' == b.size)=true
       ·rw [if_pos q2]
        exact wpS_pure ⟨⟨s2.kind,s2.arr,s2.pend,s2.fail⟩,.inl ⟨_,rfl,mB.done sa sb (.inr (by simpa using q2))⟩⟩
       rw [if_neg q2]
       have q2':¬ ib'+1+k'=b.size:=by simpa using q2
       refine wpS_bind (wpS_elem (at_eq (by trivial)) ?_)
       have m2:=T2 mB (by trivial) (by trivial) (by trivial) hle2
       by_cases q3:(ia'+1+1 == a.size)=true
       ·rw [if_pos q3]
        exact wpS_pure ⟨⟨s2.kind,s2.arr,s2.pend,s2.fail⟩,.inl ⟨_,rfl,m2.last sa sb (lst (by simpa using q3))⟩⟩
       rw [if_neg q3]
       have q3':¬ ia'+1+1=a.size:=by simpa using q3
       by_cases q4:(decide (k < 7) && decide (k' < 7))=true
       ·rw [if_pos q4]
        exact wpS_pure ⟨⟨s2.kind,s2.arr,s2.pend,s2.fail⟩,.inr ⟨rfl,m2,by dsimp only; trivial,by dsimp only; trivial,by dsimp only; trivial⟩⟩
       ·rw [if_neg q4]
        exact wpS_pure ⟨⟨s2.kind,s2.arr,s2.pend,s2.fail⟩,rfl,m2,by dsimp only; trivial,by dsimp only; trivial,by dsimp only; trivial⟩
      ·rw [if_neg hk1]
       have hle3:∀ y∈b.toList.drop (ib'+1),R O ky ix (at_ a (ia')) y:=by
        have h':=hle2
        rw [show ib'+1+k'=ib'+1 by trivial] at h'
        exact h'
       refine wpS_bind (wpS_elem (at_eq (by trivial)) ?_)
       have m2:=T2 m1 (by trivial) (by trivial) (by trivial) hle3
       by_cases q3:(ia'+1+1 == a.size)=true
       ·rw [if_pos q3]
        exact wpS_pure ⟨⟨s2.kind,s2.arr,s2.pend,s2.fail⟩,.inl ⟨_,rfl,m2.last sa sb (lst (by simpa using q3))⟩⟩
       rw [if_neg q3]
       have q3':¬ ia'+1+1=a.size:=by simpa using q3
       by_cases q4:(decide (k < 7) && decide (k' < 7))=true
       ·rw [if_pos q4]
        exact wpS_pure ⟨⟨s2.kind,s2.arr,s2.pend,s2.fail⟩,.inr ⟨rfl,m2,by dsimp only; trivial,by dsimp only; trivial,by dsimp only; trivial⟩⟩
       ·rw [if_neg q4]
        exact wpS_pure ⟨⟨s2.kind,s2.arr,s2.pend,s2.fail⟩,rfl,m2,by dsimp only; trivial,by dsimp only; trivial,by dsimp only; trivial⟩
    ·rw [if_neg hmg]
     refine wpS_bind (wpS_modify ?_)
     refine wpS_bind (wpS_elem (at_eq c2) ?_)
     refine wpS_bind (wpS_gal C (s2.kind.trans hk) (hSb _ (at_mem c2)) hSa (fun i j hij hj => at_ij sa (by trivial) (by trivial)) (fun i hi => by simp only [Bool.false_eq_true,if_false]; exact hix _ (at_mem (by trivial)) _ (at_mem (by trivial))) (by trivial) (by trivial) fun k hkn k1 k2 => ?_)
     dsimp only
     simp only [Bool.false_eq_true,if_false] at k1 k2
     have hle:∀ y∈a.toList.drop (ia'+k),R O ky ix (at_ b ib') y:=fun y hy => by
      by_cases hlt:ia'+k < a.size
      ·exact R.trans (R.lt (k2 k (Nat.le_refl _) (by trivial))) (at_le sa hlt y hy)
      ·rw [List.drop_of_length_le (by simp; trivial)] at hy; cases hy
     have mA:MI O ky ix a b (out++a.extract ia' (ia'+k)) (ia'+k) ib':=m.addA sa (by trivial) (fun x hx y hy => by
      obtain ⟨j,j1,j2,rfl⟩:=mem_at hx
      exact R.trans (k1 j j1) (at_le sb c2 y hy)) (by rw [Array.toList_append,ext_some])
     by_cases hk0:k > 0
     ·rw [if_pos hk0]
      by_cases p1:(ia'+k+1 == a.size)=true
      ·rw [if_pos p1]
       exact wpS_pure ⟨⟨s2.kind,s2.arr,s2.pend,s2.fail⟩,.inl ⟨_,rfl,mA.last sa sb (lst (by simpa using p1))⟩⟩
      rw [if_neg p1]
      by_cases p2:(ia'+k == a.size)=true
      ·rw [if_pos p2]
       exact wpS_pure ⟨⟨s2.kind,s2.arr,s2.pend,s2.fail⟩,.inl ⟨_,rfl,mA.done sa sb (.inl (by simpa using p2))⟩⟩
      rw [if_neg p2]
      have p1':¬ ia'+k+1=a.size:=by simpa using p1
      have p2':¬ ia'+k=a.size:=by simpa using p2
      refine wpS_bind (wpS_elem (at_eq c2) ?_)
      have m1:=T1 mA c2 hle
      by_cases q1:(ib'+1 == b.size)=true
      ·rw [if_pos q1]
       exact wpS_pure ⟨⟨s2.kind,s2.arr,s2.pend,s2.fail⟩,.inl ⟨_,rfl,m1.done sa sb (.inr (by simpa using q1))⟩⟩
      rw [if_neg q1]
      have q1':¬ ib'+1=b.size:=by simpa using q1
      refine wpS_bind (wpS_elem (at_eq (by trivial)) ?_)
      refine wpS_bind (wpS_gal C (s2.kind.trans hk) (hSa _ (at_mem (by trivial))) hSb (fun i j hij hj => at_ij sb (by trivial) (by trivial)) (fun i hi => by simp only [if_true]; exact hix _ (at_mem (by trivial)) _ (at_mem (by trivial))) (by trivial) (by trivial) fun k' hkn' k1' k2' => ?_)
      dsimp only
      simp only [if_true] at k1' k2'
      have hle2:∀ y∈b.toList.drop (ib'+1+k'),R O ky ix (at_ a (ia'+k)) y:=fun y hy => by
       by_cases hlt:ib'+1+k' < b.size
       ·exact R.trans (k2' k' (Nat.le_refl _) (by trivial)) (at_le sb hlt y hy)
       ·rw [List.drop_of_length_le (by simp; trivial)] at hy; cases hy
      have mB:=m1.addB sb (k:=k') (o:=(out++a.extract ia' (ia'+k)).push (at_ b ib')++b.extract (ib'+1) (ib'+1+k')) (by trivial) (fun x hx y hy => by
       obtain ⟨j,j1,j2,rfl⟩:=mem_at hx
       exact R.trans (R.lt (k1' j j1)) (at_le sa (by trivial) y hy)) (by rw [Array.toList_append,ext_some])
      by_cases hk1:k' > 0
      ·rw [if_pos hk1]
       by_cases q2:(ib'+1+k' == b.size)=true
       ·rw [if_pos q2]
        exact wpS_pure ⟨⟨s2.kind,s2.arr,s2.pend,s2.fail⟩,.inl ⟨_,rfl,mB.done sa sb (.inr (by simpa using q2))⟩⟩
       rw [if_neg q2]
       have q2':¬ ib'+1+k'=b.size:=by simpa using q2
       refine wpS_bind (wpS_elem (at_eq (by trivial)) ?_)
       have m2:=T2 mB (by trivial) (by trivial) (by trivial) hle2
       by_cases q3:(ia'+k+1+1 == a.size)=true
       ·rw [if_pos q3]
        exact wpS_pure ⟨⟨s2.kind,s2.arr,s2.pend,s2.fail⟩,.inl ⟨_,rfl,m2.last sa sb (lst (by simpa using q3))⟩⟩
       rw [if_neg q3]
       have q3':¬ ia'+k+1+1=a.size:=by simpa using q3
       by_cases q4:(decide (k < 7) && decide (k' < 7))=true
       ·rw [if_pos q4]
        exact wpS_pure ⟨⟨s2.kind,s2.arr,s2.pend,s2.fail⟩,.inr ⟨rfl,m2,by dsimp only; trivial,by dsimp only; trivial,by dsimp only; trivial⟩⟩
       ·rw [if_neg q4]
        exact wpS_pure ⟨⟨s2.kind,s2.arr,s2.pend,s2.fail⟩,rfl,m2,by dsimp only; trivial,by dsimp only; trivial,by dsimp only; trivial⟩
      ·rw [if_neg hk1]
       have hle3:∀ y∈b.toList.drop (ib'+1),R O ky ix (at_ a (ia'+k)) y:=by
        have h':=hle2
        rw [show ib'+1+k'=ib'+1 by trivial] at h'
        exact h'
       refine wpS_bind (wpS_elem (at_eq (by trivial)) ?_)
       have m2:=T2 m1 (by trivial) (by trivial) (by trivial) hle3
       by_cases q3:(ia'+k+1+1 == a.size)=true
       ·rw [if_pos q3]
        exact wpS_pure ⟨⟨s2.kind,s2.arr,s2.pend,s2.fail⟩,.inl ⟨_,rfl,m2.last sa sb (lst (by simpa using q3))⟩⟩
       rw [if_neg q3]
       have q3':¬ ia'+k+1+1=a.size:=by simpa using q3
       by_cases q4:(decide (k < 7) && decide (k' < 7))=true
       ·rw [if_pos q4]
        exact wpS_pure ⟨⟨s2.kind,s2.arr,s2.pend,s2.fail⟩,.inr ⟨rfl,m2,by dsimp only; trivial,by dsimp only; trivial,by dsimp only; trivial⟩⟩
       ·rw [if_neg q4]
        exact wpS_pure ⟨⟨s2.kind,s2.arr,s2.pend,s2.fail⟩,rfl,m2,by dsimp only; trivial,by dsimp only; trivial,by dsimp only; trivial⟩
     ·rw [if_neg hk0]
      have hle0:∀ y∈a.toList.drop ia',R O ky ix (at_ b ib') y:=by
       have h':=hle
       rw [show ia'+k=ia' by trivial] at h'
       exact h'
      refine wpS_bind (wpS_elem (at_eq c2) ?_)
      have m1:=T1 m c2 hle0
      by_cases q1:(ib'+1 == b.size)=true
      ·rw [if_pos q1]
       exact wpS_pure ⟨⟨s2.kind,s2.arr,s2.pend,s2.fail⟩,.inl ⟨_,rfl,m1.done sa sb (.inr (by simpa using q1))⟩⟩
      rw [if_neg q1]
      have q1':¬ ib'+1=b.size:=by simpa using q1
      refine wpS_bind (wpS_elem (at_eq (by trivial)) ?_)
      refine wpS_bind (wpS_gal C (s2.kind.trans hk) (hSa _ (at_mem (by trivial))) hSb (fun i j hij hj => at_ij sb (by trivial) (by trivial)) (fun i hi => by simp only [if_true]; exact hix _ (at_mem (by trivial)) _ (at_mem (by trivial))) (by trivial) (by trivial) fun k' hkn' k1' k2' => ?_)
      dsimp only
      simp only [if_true] at k1' k2'
      have hle2:∀ y∈b.toList.drop (ib'+1+k'),R O ky ix (at_ a (ia')) y:=fun y hy => by
       by_cases hlt:ib'+1+k' < b.size
       ·exact R.trans (k2' k' (Nat.le_refl _) (by trivial)) (at_le sb hlt y hy)
       ·rw [List.drop_of_length_le (by simp; trivial)] at hy; cases hy
      have mB:=m1.addB sb (k:=k') (o:=out.push (at_ b ib')++b.extract (ib'+1) (ib'+1+k')) (by trivial) (fun x hx y hy => by
       obtain ⟨j,j1,j2,rfl⟩:=mem_at hx
       exact R.trans (R.lt (k1' j j1)) (at_le sa (by trivial) y hy)) (by rw [Array.toList_append,ext_some])
      by_cases hk1:k' > 0
      ·rw [if_pos hk1]
       by_cases q2:(ib'+1+k' == b.size)=true
       ·rw [if_pos q2]
        exact wpS_pure ⟨⟨s2.kind,s2.arr,s2.pend,s2.fail⟩,.inl ⟨_,rfl,mB.done sa sb (.inr (by simpa using q2))⟩⟩
       rw [if_neg q2]
       have q2':¬ ib'+1+k'=b.size:=by simpa using q2
       refine wpS_bind (wpS_elem (at_eq (by trivial)) ?_)
       have m2:=T2 mB (by trivial) (by trivial) (by trivial) hle2
       by_cases q3:(ia'+1+1 == a.size)=true
       ·rw [if_pos q3]
        exact wpS_pure ⟨⟨s2.kind,s2.arr,s2.pend,s2.fail⟩,.inl ⟨_,rfl,m2.last sa sb (lst (by simpa using q3))⟩⟩
       rw [if_neg q3]
       have q3':¬ ia'+1+1=a.size:=by simpa using q3
       by_cases q4:(decide (k < 7) && decide (k' < 7))=true
       ·rw [if_pos q4]
        exact wpS_pure ⟨⟨s2.kind,s2.arr,s2.pend,s2.fail⟩,.inr ⟨rfl,m2,by dsimp only; trivial,by dsimp only; trivial,by dsimp only; trivial⟩⟩
       ·rw [if_neg q4]
        exact wpS_pure ⟨⟨s2.kind,s2.arr,s2.pend,s2.fail⟩,rfl,m2,by dsimp only; trivial,by dsimp only; trivial,by dsimp only; trivial⟩
      ·rw [if_neg hk1]
       have hle3:∀ y∈b.toList.drop (ib'+1),R O ky ix (at_ a (ia')) y:=by
        have h':=hle2
        rw [show ib'+1+k'=ib'+1 by trivial] at h'
        exact h'
       refine wpS_bind (wpS_elem (at_eq (by trivial)) ?_)
       have m2:=T2 m1 (by trivial) (by trivial) (by trivial) hle3
       by_cases q3:(ia'+1+1 == a.size)=true
       ·rw [if_pos q3]
        exact wpS_pure ⟨⟨s2.kind,s2.arr,s2.pend,s2.fail⟩,.inl ⟨_,rfl,m2.last sa sb (lst (by simpa using q3))⟩⟩
       rw [if_neg q3]
       have q3':¬ ia'+1+1=a.size:=by simpa using q3
       by_cases q4:(decide (k < 7) && decide (k' < 7))=true
       ·rw [if_pos q4]
        exact wpS_pure ⟨⟨s2.kind,s2.arr,s2.pend,s2.fail⟩,.inr ⟨rfl,m2,by dsimp only; trivial,by dsimp only; trivial,by dsimp only; trivial⟩⟩
       ·rw [if_neg q4]
        exact wpS_pure ⟨⟨s2.kind,s2.arr,s2.pend,s2.fail⟩,rfl,m2,by dsimp only; trivial,by dsimp only; trivial,by dsimp only; trivial⟩
end
end TT
namespace TT
open PySem PyProof.Rows TS
section
variable {O:KeyOrd} {ky:Keyed -> O.α} {ix:Keyed -> Nat}
theorem at_snoc {a:Array Keyed} {i:Nat} (h:i < a.size):a.toList.take (i+1)=a.toList.take i++[at_ a i]:=by rw [List.take_add_one,at_list h]; rfl
theorem at_ge {a:Array Keyed} (sa:Srt O ky ix a.toList) {i:Nat} (h:i < a.size):∀ y∈a.toList.take (i+1),R O ky ix y (at_ a i):=by
 intro y hy
 have s:=take_srt sa (i+1)
 unfold Srt at s
 rw [at_snoc h] at hy s
 rcases List.mem_append.mp hy with hy | hy
 ·exact (List.pairwise_append.mp s).2.2 y hy _ List.mem_cons_self
 ·have:y=at_ a i:=by simpa using hy
  rw [this]; exact R.refl _
theorem at_one' {a:Array Keyed} {i:Nat} (h:i < a.size):(a.toList.take (i+1)).drop i=[at_ a i]:=by
 rw [at_snoc h,List.drop_append_of_le_length (by simp; trivial),List.drop_of_length_le (by simp; trivial)]; rfl
theorem mem_at' {a:Array Keyed} {i k:Nat} (hk:k≤a.size) {x:Keyed} (hx:x∈(a.toList.take k).drop i):∃ j,i≤j∧j < k∧x=at_ a j:=by
 rw [List.drop_take] at hx
 obtain ⟨j,j1,j2,e⟩:=mem_at hx
 exact ⟨i+j,by trivial,by trivial,e⟩
theorem mem_take' {a:Array Keyed} {k:Nat} (hk:k≤a.size) {x:Keyed} (hx:x∈a.toList.take k):∃ j,j < k∧x=at_ a j:=by
 obtain ⟨j,_,j2,e⟩:=mem_at' (i:=0) hk (by rw [List.drop_zero]; exact hx)
 exact ⟨j,j2,e⟩
theorem MH.pushA {a b out:Array Keyed} {na nb:Nat} (m:MH O ky ix a b out na nb) (sa:Srt O ky ix a.toList) (h1:1≤na) (hx:∀ y∈b.toList.take nb,R O ky ix y (at_ a (na - 1))):MH O ky ix a b (out.push (at_ a (na - 1))) (na - 1) nb:=by
 have ha:=m.ha
 obtain ⟨j,rfl⟩:∃ j,na=j+1:=⟨na - 1,by trivial⟩
 rw [Nat.add_sub_cancel] at hx ⊢
 exact m.addA sa (by trivial) (fun x hx' y hy => by
  rw [at_one' (by trivial)] at hx'
  have:x=at_ a j:=by simpa using hx'
  rw [this]; exact hx y hy) (by rw [at_one' (by trivial)]; simp)
theorem MH.pushB {a b out:Array Keyed} {na nb:Nat} (m:MH O ky ix a b out na nb) (sb:Srt O ky ix b.toList) (h1:1≤nb) (hx:∀ y∈a.toList.take na,R O ky ix y (at_ b (nb - 1))):MH O ky ix a b (out.push (at_ b (nb - 1))) na (nb - 1):=(m.swap.pushA sb h1 hx).swap
end
section
variable {prog:Program} {w:World} {A:Around} {E:Value -> Shared -> Prop} {s:Shared}
variable {kd:SortKind} {O:KeyOrd} {ky:Keyed -> O.α} {ix:Keyed -> Nat} {S:Keyed -> Prop}
theorem wpS_mergeHi (C:Cmp prog w A s kd O ky S) {st:SortSt} {a b:Array Keyed} {Q:Array Keyed -> SortSt -> Prop} (hk:kindOf st=kd) (hSa:∀ p∈a.toList,S p) (hSb:∀ p∈b.toList,S p) (sa:Srt O ky ix a.toList) (sb:Srt O ky ix b.toList) (hix:∀ x∈a.toList,∀ y∈b.toList,ix x≤ix y) (na1:1≤a.size) (nb1:1≤b.size)
  (h0:∀ y∈a.toList,R O ky ix (at_ b 0) y) (hl:∀ y∈b.toList,R O ky ix y (at_ a (a.size - 1))) (h:∀ o st',Good O ky ix a b o -> SameSt st st' -> Q o st'):wpS (model prog w) A E s (mergeHi' a b) Q st:=by
 have fst:∀ {nb},nb=1 -> ∀ x∈b.toList.take nb,∀ y∈a.toList,R O ky ix x y:=fun {nb} e x hx y hy => by
  obtain ⟨j,j1,rfl⟩:=mem_take' (by trivial) hx
  rw [show j=0 by trivial]
  exact h0 y hy
 unfold mergeHi'
 refine wpS_bind (wpS_lift (wpAny_rule ⟨rfl,?_⟩))
 dsimp only
 refine wpS_bind (wpS_elem (at_eq (by trivial)) ?_)
 have m0:MH O ky ix a b #[at_ a (a.size - 1)] (a.size - 1) b.size:=by
  have z:MH O ky ix a b #[] a.size b.size:=⟨Nat.le_refl _,Nat.le_refl _,by simp,List.Pairwise.nil,fun x hx => by simp at hx,fun x hx => by simp at hx⟩
  exact z.pushA sa na1 (fun y hy => hl y (List.mem_of_mem_take hy))
 by_cases e1:(a.size - 1 == 0)=true
 ·rw [if_pos e1]
  exact wpS_pure (h _ _ (m0.done sa sb (.inl (by simpa using e1))) (SameSt.refl _))
 rw [if_neg e1]
 have e1':¬ a.size - 1=0:=by simpa using e1
 by_cases e2:(b.size == 1)=true
 ·rw [if_pos e2]
  exact wpS_pure (h _ _ (m0.first sa sb (fst (by simpa using e2))) (SameSt.refl _))
 rw [if_neg e2]
 have e2':¬ b.size=1:=by simpa using e2
 refine wpS_bind (wpS_get ?_)
 refine wpS_bind (wpS_mono (wpS_forRange
  (I:=fun x c st' => SameSt st st'∧c.1=none∧MH O ky ix a b c.2.2.2.1 c.2.1 c.2.2.1∧1≤c.2.1∧2≤c.2.2.1∧c.2.1+c.2.2.1+x+1≤a.size+b.size)
  (Q:=fun c st' => SameSt st st'∧∃ r,c.1=some r∧Good O ky ix a b r) ?step ?fin ⟨SameSt.refl _,rfl,m0,by dsimp only; trivial,by dsimp only; trivial,by dsimp only; trivial⟩) ?post)
 case fin =>
  rintro c st' ⟨_,_,m,c1,c2,c3⟩
  trivial
 case post =>
  rintro ⟨r,na,nb,out,mg⟩ st' ⟨ss,r',hr,g⟩
  dsimp only at hr ⊢
  subst hr
  exact wpS_pure (h _ _ g ss)
 case step =>
  rintro x ⟨r,na,nb,out,mg⟩ st1 _ hx ⟨ss,hr,m,c1,c2,c3⟩
  dsimp only at hr m c1 c2 c3 ⊢
  subst hr
  have ha0:=m.ha
  have hb0:=m.hb
  refine wpS_bind (wpS_mono (wpS_forRange
   (I:=fun y c st' => st'=st1∧c.1=none∧MH O ky ix a b c.2.2.2.1 c.2.1 c.2.2.1∧1≤c.2.1∧2≤c.2.2.1∧c.2.1+c.2.2.1+y≤na+nb)
   (Q:=fun c st' => st'=st1∧((∃ r,c.1=some r∧Good O ky ix a b r)∨(c.1=none∧MH O ky ix a b c.2.2.2.1 c.2.1 c.2.2.1∧1≤c.2.1∧2≤c.2.2.1∧c.2.1+c.2.2.1+1≤na+nb))) ?step1 ?fin1 ⟨rfl,rfl,m,c1,c2,by dsimp only; trivial⟩) ?post1)
  case fin1 =>
   rintro c st' ⟨_,_,m,c1,c2,c3⟩
   trivial
  case step1 =>
   rintro y ⟨r,na',nb',out,ac,bc⟩ st' _ hy ⟨rfl,hr,m,c1,c2,c3⟩
   dsimp only at hr m c1 c2 c3 ⊢
   subst hr
   have ha':=m.ha
   have hb':=m.hb
   have ka:kindOf st'=kd:=ss.kind.trans hk
   refine wpS_bind (wpS_elem (at_eq (by trivial)) (wpS_bind (wpS_elem (at_eq (by trivial)) (wpS_bind (wpS_lt C ka (hSb _ (at_mem (by trivial))) (hSa _ (at_mem (by trivial))) ?_)))))
   dsimp only
   cases hw:O.blt (ky (at_ b (nb' - 1))) (ky (at_ a (na' - 1))) with
   | true =>
    rw [if_pos rfl]
    have m1:=m.pushA sa c1 (fun y hy => by
     have:=at_ge sb (i:=nb' - 1) (by trivial) y (by rw [show nb' - 1+1=nb' by trivial]; exact hy)
     exact R.trans this (R.lt hw))
    refine wpS_bind (wpS_elem (at_eq (by trivial)) ?_)
    split
    ·rename_i q
     exact wpS_pure ⟨rfl,.inl ⟨_,rfl,m1.done sa sb (.inl (by simpa using q))⟩⟩
    ·rename_i q
     have q':¬ na' - 1=0:=by simpa using q
     split
     ·exact wpS_pure ⟨rfl,.inr ⟨rfl,m1,by dsimp only; trivial,c2,by dsimp only; trivial⟩⟩
     ·exact wpS_pure ⟨rfl,rfl,m1,by dsimp only; trivial,c2,by dsimp only; trivial⟩
   | false =>
    rw [if_neg Bool.false_ne_true]
    have m1:=m.pushB sb (by trivial) (fun y hy => by
     have:=at_ge sa (i:=na' - 1) (by trivial) y (by rw [show na' - 1+1=na' by trivial]; exact hy)
     exact R.trans this (R.le hw (hix _ (at_mem (by trivial)) _ (at_mem (by trivial)))))
    refine wpS_bind (wpS_elem (at_eq (by trivial)) ?_)
    split
    ·rename_i q
     exact wpS_pure ⟨rfl,.inl ⟨_,rfl,m1.first sa sb (fst (by simpa using q))⟩⟩
    ·rename_i q
     have q':¬ nb' - 1=1:=by simpa using q
     split
     ·exact wpS_pure ⟨rfl,.inr ⟨rfl,m1,c1,by dsimp only; trivial,by dsimp only; trivial⟩⟩
     ·exact wpS_pure ⟨rfl,rfl,m1,c1,by dsimp only; trivial,by dsimp only; trivial⟩
  case post1 =>
   rintro ⟨r,na2,nb2,out,ac,bc⟩ st' ⟨rfl,hc⟩
   dsimp only at hc ⊢
   rcases hc with ⟨r,rfl,g⟩ | ⟨rfl,m,c1',c2',c3'⟩
   ·exact wpS_pure ⟨ss,r,rfl,g⟩
   dsimp only
   refine wpS_bind (wpS_lift (wpAny_rule ⟨rfl,?_⟩))
   refine wpS_bind (wpS_mono (wpS_forRange
    (I:=fun y c st' => SameSt st st'∧c.1=none∧MH O ky ix a b c.2.2.2.1 c.2.1 c.2.2.1∧1≤c.2.1∧2≤c.2.2.1∧c.2.1+c.2.2.1+1≤na+nb)
    (Q:=fun c st' => SameSt st st'∧((∃ r,c.1=some r∧Good O ky ix a b r)∨(c.1=none∧MH O ky ix a b c.2.2.2.1 c.2.1 c.2.2.1∧1≤c.2.1∧2≤c.2.2.1∧c.2.1+c.2.2.1+1≤na+nb))) ?step2 ?fin2 ⟨ss,rfl,m,c1',c2',by dsimp only; trivial⟩) ?post2)
   case fin2 =>
    rintro c st' ⟨s',h1,h2,h3,h4,h5⟩
    exact ⟨s',.inr ⟨h1,h2,h3,h4,h5⟩⟩
   case post2 =>
    rintro ⟨r,na3,nb3,out,mg2,ac2,bc2⟩ st2 ⟨s2,hc⟩
    dsimp only at hc ⊢
    rcases hc with ⟨r,rfl,g⟩ | ⟨rfl,m,d1,d2,d3⟩
    ·exact wpS_pure ⟨s2,r,rfl,g⟩
    dsimp only
    refine wpS_bind (wpS_modify (wpS_pure ⟨⟨s2.kind,s2.arr,s2.pend,s2.fail⟩,rfl,m,d1,d2,by dsimp only; trivial⟩))
   case step2 =>
    rintro y ⟨r,na',nb',out,mg',ac',bc'⟩ st2 _ hy ⟨s2,hr,m,c1,c2,c3⟩
    dsimp only at hr m c1 c2 c3 ⊢
    subst hr
    have ha':=m.ha
    have hb':=m.hb
    by_cases hmg:mg' > 1
    ·rw [if_pos hmg]
     refine wpS_bind (wpS_modify ?_)
     refine wpS_bind (wpS_elem (at_eq (by trivial)) ?_)
     refine wpS_bind (wpS_gal C (s2.kind.trans hk) (hSb _ (at_mem (by trivial))) hSa (fun i j hij hj => at_ij sa (by trivial) (by trivial)) (fun i hi => by simp only [Bool.false_eq_true,if_false]; exact hix _ (at_mem (by trivial)) _ (at_mem (by trivial))) (by trivial) (by trivial) fun k hkn k1 k2 => ?_)
     dsimp only
     simp only [Bool.false_eq_true,if_false,Nat.zero_add] at k1 k2
     have hle:∀ y∈a.toList.take k,R O ky ix y (at_ b (nb' - 1)):=fun y hy => by
      obtain ⟨j,j1,rfl⟩:=mem_take' (by trivial) hy
      exact k1 j j1
     have mA:MH O ky ix a b (out++(a.extract k na').reverse) k nb':=m.addA sa hkn (fun x hx y hy => by
      obtain ⟨j,j1,j2,rfl⟩:=mem_at' (by trivial) hx
      exact R.trans (at_ge sb (i:=nb' - 1) (by trivial) y (by rw [show nb' - 1+1=nb' by trivial]; exact hy)) (R.lt (k2 j j1 j2))) (by rw [Array.toList_append,Array.toList_reverse,ext2])
     by_cases hk0:na' - k > 0
     ·rw [if_pos hk0]
      by_cases p1:(k == 0)=true
      ·rw [if_pos p1]
       exact wpS_pure ⟨⟨s2.kind,s2.arr,s2.pend,s2.fail⟩,.inl ⟨_,rfl,mA.done sa sb (.inl (by simpa using p1))⟩⟩
      rw [if_neg p1]
      have p1':¬ k=0:=by simpa using p1
      refine wpS_bind (wpS_elem (at_eq (by trivial)) ?_)
      have m1:=MH.pushB mA sb (by trivial) hle
      by_cases q1:(nb' - 1 == 1)=true
      ·rw [if_pos q1]
       exact wpS_pure ⟨⟨s2.kind,s2.arr,s2.pend,s2.fail⟩,.inl ⟨_,rfl,m1.first sa sb (fst (by simpa using q1))⟩⟩
      rw [if_neg q1]
      have q1':¬ nb' - 1=1:=by simpa using q1
      refine wpS_bind (wpS_elem (at_eq (by trivial)) ?_)
      refine wpS_bind (wpS_gal C (s2.kind.trans hk) (hSa _ (at_mem (by trivial))) hSb (fun i j hij hj => at_ij sb (by trivial) (by trivial)) (fun i hi => by simp only [if_true]; exact hix _ (at_mem (by trivial)) _ (at_mem (by trivial))) (by trivial) (by trivial) fun k' hkn' k1' k2' => ?_)
      dsimp only
      simp only [if_true,Nat.zero_add] at k1' k2'
      have hle2:∀ y∈b.toList.take k',R O ky ix y (at_ a (k - 1)):=fun y hy => by
       obtain ⟨j,j1,rfl⟩:=mem_take' (by trivial) hy
       exact R.lt (k1' j j1)
      have mB:=m1.addB sb (k:=k') (o:=(out++(a.extract k na').reverse).push (at_ b (nb' - 1))++(b.extract k' (nb' - 1)).reverse) hkn' (fun x hx y hy => by
       obtain ⟨j,j1,j2,rfl⟩:=mem_at' (by trivial) hx
       exact R.trans (at_ge sa (i:=k - 1) (by trivial) y (by rw [show k - 1+1=k by trivial]; exact hy)) (k2' j j1 j2)) (by rw [Array.toList_append,Array.toList_reverse,ext2])
      by_cases hk1:nb' - 1 - k' > 0
      ·rw [if_pos hk1]
       by_cases q2:(k' == 1)=true
       ·rw [if_pos q2]
        exact wpS_pure ⟨⟨s2.kind,s2.arr,s2.pend,s2.fail⟩,.inl ⟨_,rfl,mB.first sa sb (fst (by simpa using q2))⟩⟩
       rw [if_neg q2]
       by_cases q5:(k' == 0)=true
       ·rw [if_pos q5]
        exact wpS_pure ⟨⟨s2.kind,s2.arr,s2.pend,s2.fail⟩,.inl ⟨_,rfl,mB.done sa sb (.inr (by simpa using q5))⟩⟩
       rw [if_neg q5]
       have q2':¬ k'=1:=by simpa using q2
       have q5':¬ k'=0:=by simpa using q5
       refine wpS_bind (wpS_elem (at_eq (by trivial)) ?_)
       have m2:=MH.pushA mB sa (by trivial) hle2
       by_cases q3:(k - 1 == 0)=true
       ·rw [if_pos q3]
        exact wpS_pure ⟨⟨s2.kind,s2.arr,s2.pend,s2.fail⟩,.inl ⟨_,rfl,m2.done sa sb (.inl (by simpa using q3))⟩⟩
       rw [if_neg q3]
       have q3':¬ k - 1=0:=by simpa using q3
       by_cases q4:(decide (na' - k < 7) && decide (nb' - 1 - k' < 7))=true
       ·rw [if_pos q4]
        exact wpS_pure ⟨⟨s2.kind,s2.arr,s2.pend,s2.fail⟩,.inr ⟨rfl,m2,by dsimp only; trivial,by dsimp only; trivial,by dsimp only; trivial⟩⟩
       ·rw [if_neg q4]
        exact wpS_pure ⟨⟨s2.kind,s2.arr,s2.pend,s2.fail⟩,rfl,m2,by dsimp only; trivial,by dsimp only; trivial,by dsimp only; trivial⟩
      ·rw [if_neg hk1]
       have hle3:∀ y∈b.toList.take (nb' - 1),R O ky ix y (at_ a (k - 1)):=by
        have h':=hle2
        rw [show k'=nb' - 1 by trivial] at h'
        exact h'
       refine wpS_bind (wpS_elem (at_eq (by trivial)) ?_)
       have m2:=MH.pushA m1 sa (by trivial) hle3
       by_cases q3:(k - 1 == 0)=true
       ·rw [if_pos q3]
        exact wpS_pure ⟨⟨s2.kind,s2.arr,s2.pend,s2.fail⟩,.inl ⟨_,rfl,m2.done sa sb (.inl (by simpa using q3))⟩⟩
       rw [if_neg q3]
       have q3':¬ k - 1=0:=by simpa using q3
       by_cases q4:(decide (na' - k < 7) && decide (nb' - 1 - k' < 7))=true
       ·rw [if_pos q4]
        exact wpS_pure ⟨⟨s2.kind,s2.arr,s2.pend,s2.fail⟩,.inr ⟨rfl,m2,by dsimp only; trivial,by dsimp only; trivial,by dsimp only; trivial⟩⟩
       ·rw [if_neg q4]
        exact wpS_pure ⟨⟨s2.kind,s2.arr,s2.pend,s2.fail⟩,rfl,m2,by dsimp only; trivial,by dsimp only; trivial,by dsimp only; trivial⟩
     ·rw [if_neg hk0]
      have hle0:∀ y∈a.toList.take na',R O ky ix y (at_ b (nb' - 1)):=by
       have h':=hle
       rw [show k=na' by trivial] at h'
       exact h'
      refine wpS_bind (wpS_elem (at_eq (by trivial)) ?_)
      have m1:=MH.pushB m sb (by trivial) hle0
      by_cases q1:(nb' - 1 == 1)=true
      ·rw [if_pos q1]
       exact wpS_pure ⟨⟨s2.kind,s2.arr,s2.pend,s2.fail⟩,.inl ⟨_,rfl,m1.first sa sb (fst (by simpa using q1))⟩⟩
      rw [if_neg q1]
      have q1':¬ nb' - 1=1:=by simpa using q1
      refine wpS_bind (wpS_elem (at_eq (by trivial)) ?_)
      refine wpS_bind (wpS_gal C (s2.kind.trans hk) (hSa _ (at_mem (by trivial))) hSb (fun i j hij hj => at_ij sb (by trivial) (by trivial)) (fun i hi => by simp only [if_true]; exact hix _ (at_mem (by trivial)) _ (at_mem (by trivial))) (by trivial) (by trivial) fun k' hkn' k1' k2' => ?_)
      dsimp only
      simp only [if_true,Nat.zero_add] at k1' k2'
      have hle2:∀ y∈b.toList.take k',R O ky ix y (at_ a (na' - 1)):=fun y hy => by
       obtain ⟨j,j1,rfl⟩:=mem_take' (by trivial) hy
       exact R.lt (k1' j j1)
      have mB:=m1.addB sb (k:=k') (o:=out.push (at_ b (nb' - 1))++(b.extract k' (nb' - 1)).reverse) hkn' (fun x hx y hy => by
       obtain ⟨j,j1,j2,rfl⟩:=mem_at' (by trivial) hx
       exact R.trans (at_ge sa (i:=na' - 1) (by trivial) y (by rw [show na' - 1+1=na' by trivial]; exact hy)) (k2' j j1 j2)) (by rw [Array.toList_append,Array.toList_reverse,ext2])
      by_cases hk1:nb' - 1 - k' > 0
      ·rw [if_pos hk1]
       by_cases q2:(k' == 1)=true
       ·rw [if_pos q2]
        exact wpS_pure ⟨⟨s2.kind,s2.arr,s2.pend,s2.fail⟩,.inl ⟨_,rfl,mB.first sa sb (fst (by simpa using q2))⟩⟩
       rw [if_neg q2]
       by_cases q5:(k' == 0)=true
       ·rw [if_pos q5]
        exact wpS_pure ⟨⟨s2.kind,s2.arr,s2.pend,s2.fail⟩,.inl ⟨_,rfl,mB.done sa sb (.inr (by simpa using q5))⟩⟩
       rw [if_neg q5]
       have q2':¬ k'=1:=by simpa using q2
       have q5':¬ k'=0:=by simpa using q5
       refine wpS_bind (wpS_elem (at_eq (by trivial)) ?_)
       have m2:=MH.pushA mB sa (by trivial) hle2
       by_cases q3:(na' - 1 == 0)=true
       ·rw [if_pos q3]
        exact wpS_pure ⟨⟨s2.kind,s2.arr,s2.pend,s2.fail⟩,.inl ⟨_,rfl,m2.done sa sb (.inl (by simpa using q3))⟩⟩
       rw [if_neg q3]
       have q3':¬ na' - 1=0:=by simpa using q3
       by_cases q4:(decide (na' - k < 7) && decide (nb' - 1 - k' < 7))=true
       ·rw [if_pos q4]
        exact wpS_pure ⟨⟨s2.kind,s2.arr,s2.pend,s2.fail⟩,.inr ⟨rfl,m2,by dsimp only; trivial,by dsimp only; trivial,by dsimp only; trivial⟩⟩
       ·rw [if_neg q4]
        exact wpS_pure ⟨⟨s2.kind,s2.arr,s2.pend,s2.fail⟩,rfl,m2,by dsimp only; trivial,by dsimp only; trivial,by dsimp only; trivial⟩
      ·rw [if_neg hk1]
       have hle3:∀ y∈b.toList.take (nb' - 1),R O ky ix y (at_ a (na' - 1)):=by
        have h':=hle2
        rw [show k'=nb' - 1 by trivial] at h'
        exact h'
       refine wpS_bind (wpS_elem (at_eq (by trivial)) ?_)
       have m2:=MH.pushA m1 sa (by trivial) hle3
       by_cases q3:(na' - 1 == 0)=true
       ·rw [if_pos q3]
        exact wpS_pure ⟨⟨s2.kind,s2.arr,s2.pend,s2.fail⟩,.inl ⟨_,rfl,m2.done sa sb (.inl (by simpa using q3))⟩⟩
       rw [if_neg q3]
       have q3':¬ na' - 1=0:=by simpa using q3
       by_cases q4:(decide (na' - k < 7) && decide (nb' - 1 - k' < 7))=true
       ·rw [if_pos q4]
        exact wpS_pure ⟨⟨s2.kind,s2.arr,s2.pend,s2.fail⟩,.inr ⟨rfl,m2,by dsimp only; trivial,by dsimp only; trivial,by dsimp only; trivial⟩⟩
       ·rw [if_neg q4]
        exact wpS_pure ⟨⟨s2.kind,s2.arr,s2.pend,s2.fail⟩,rfl,m2,by dsimp only; trivial,by dsimp only; trivial,by dsimp only; trivial⟩
    ·rw [if_neg hmg]
     refine wpS_bind (wpS_modify ?_)
     refine wpS_bind (wpS_elem (at_eq (by trivial)) ?_)
     refine wpS_bind (wpS_gal C (s2.kind.trans hk) (hSb _ (at_mem (by trivial))) hSa (fun i j hij hj => at_ij sa (by trivial) (by trivial)) (fun i hi => by simp only [Bool.false_eq_true,if_false]; exact hix _ (at_mem (by trivial)) _ (at_mem (by trivial))) (by trivial) (by trivial) fun k hkn k1 k2 => ?_)
     dsimp only
     simp only [Bool.false_eq_true,if_false,Nat.zero_add] at k1 k2
     have hle:∀ y∈a.toList.take k,R O ky ix y (at_ b (nb' - 1)):=fun y hy => by
      obtain ⟨j,j1,rfl⟩:=mem_take' (by trivial) hy
      exact k1 j j1
     have mA:MH O ky ix a b (out++(a.extract k na').reverse) k nb':=m.addA sa hkn (fun x hx y hy => by
      obtain ⟨j,j1,j2,rfl⟩:=mem_at' (by trivial) hx
      exact R.trans (at_ge sb (i:=nb' - 1) (by trivial) y (by rw [show nb' - 1+1=nb' by trivial]; exact hy)) (R.lt (k2 j j1 j2))) (by rw [Array.toList_append,Array.toList_reverse,ext2])
     by_cases hk0:na' - k > 0
     ·rw [if_pos hk0]
      by_cases p1:(k == 0)=true
      ·rw [if_pos p1]
       exact wpS_pure ⟨⟨s2.kind,s2.arr,s2.pend,s2.fail⟩,.inl ⟨_,rfl,mA.done sa sb (.inl (by simpa using p1))⟩⟩
      rw [if_neg p1]
      have p1':¬ k=0:=by simpa using p1
      refine wpS_bind (wpS_elem (at_eq (by trivial)) ?_)
      have m1:=MH.pushB mA sb (by trivial) hle
      by_cases q1:(nb' - 1 == 1)=true
      ·rw [if_pos q1]
       exact wpS_pure ⟨⟨s2.kind,s2.arr,s2.pend,s2.fail⟩,.inl ⟨_,rfl,m1.first sa sb (fst (by simpa using q1))⟩⟩
      rw [if_neg q1]
      have q1':¬ nb' - 1=1:=by simpa using q1
      refine wpS_bind (wpS_elem (at_eq (by trivial)) ?_)
      refine wpS_bind (wpS_gal C (s2.kind.trans hk) (hSa _ (at_mem (by trivial))) hSb (fun i j hij hj => at_ij sb (by trivial) (by trivial)) (fun i hi => by simp only [if_true]; exact hix _ (at_mem (by trivial)) _ (at_mem (by trivial))) (by trivial) (by trivial) fun k' hkn' k1' k2' => ?_)
      dsimp only
      simp only [if_true,Nat.zero_add] at k1' k2'
      have hle2:∀ y∈b.toList.take k',R O ky ix y (at_ a (k - 1)):=fun y hy => by
       obtain ⟨j,j1,rfl⟩:=mem_take' (by trivial) hy
       exact R.lt (k1' j j1)
      have mB:=m1.addB sb (k:=k') (o:=(out++(a.extract k na').reverse).push (at_ b (nb' - 1))++(b.extract k' (nb' - 1)).reverse) hkn' (fun x hx y hy => by
       obtain ⟨j,j1,j2,rfl⟩:=mem_at' (by trivial) hx
       exact R.trans (at_ge sa (i:=k - 1) (by trivial) y (by rw [show k - 1+1=k by trivial]; exact hy)) (k2' j j1 j2)) (by rw [Array.toList_append,Array.toList_reverse,ext2])
      by_cases hk1:nb' - 1 - k' > 0
      ·rw [if_pos hk1]
       by_cases q2:(k' == 1)=true
       ·rw [if_pos q2]
        exact wpS_pure ⟨⟨s2.kind,s2.arr,s2.pend,s2.fail⟩,.inl ⟨_,rfl,mB.first sa sb (fst (by simpa using q2))⟩⟩
       rw [if_neg q2]
       by_cases q5:(k' == 0)=true
       ·rw [if_pos q5]
        exact wpS_pure ⟨⟨s2.kind,s2.arr,s2.pend,s2.fail⟩,.inl ⟨_,rfl,mB.done sa sb (.inr (by simpa using q5))⟩⟩
       rw [if_neg q5]
       have q2':¬ k'=1:=by simpa using q2
       have q5':¬ k'=0:=by simpa using q5
       refine wpS_bind (wpS_elem (at_eq (by trivial)) ?_)
       have m2:=MH.pushA mB sa (by trivial) hle2
       by_cases q3:(k - 1 == 0)=true
       ·rw [if_pos q3]
        exact wpS_pure ⟨⟨s2.kind,s2.arr,s2.pend,s2.fail⟩,.inl ⟨_,rfl,m2.done sa sb (.inl (by simpa using q3))⟩⟩
       rw [if_neg q3]
       have q3':¬ k - 1=0:=by simpa using q3
       by_cases q4:(decide (na' - k < 7) && decide (nb' - 1 - k' < 7))=true
       ·rw [if_pos q4]
        exact wpS_pure ⟨⟨s2.kind,s2.arr,s2.pend,s2.fail⟩,.inr ⟨rfl,m2,by dsimp only; trivial,by dsimp only; trivial,by dsimp only; trivial⟩⟩
       ·rw [if_neg q4]
        exact wpS_pure ⟨⟨s2.kind,s2.arr,s2.pend,s2.fail⟩,rfl,m2,by dsimp only; trivial,by dsimp only; trivial,by dsimp only; trivial⟩
      ·rw [if_neg hk1]
       have hle3:∀ y∈b.toList.take (nb' - 1),R O ky ix y (at_ a (k - 1)):=by
        have h':=hle2
        rw [show k'=nb' - 1 by trivial] at h'
        exact h'
       refine wpS_bind (wpS_elem (at_eq (by trivial)) ?_)
       have m2:=MH.pushA m1 sa (by trivial) hle3
       by_cases q3:(k - 1 == 0)=true
       ·rw [if_pos q3]
        exact wpS_pure ⟨⟨s2.kind,s2.arr,s2.pend,s2.fail⟩,.inl ⟨_,rfl,m2.done sa sb (.inl (by simpa using q3))⟩⟩
       rw [if_neg q3]
       have q3':¬ k - 1=0:=by simpa using q3
       by_cases q4:(decide (na' - k < 7) && decide (nb' - 1 - k' < 7))=true
       ·rw [if_pos q4]
        exact wpS_pure ⟨⟨s2.kind,s2.arr,s2.pend,s2.fail⟩,.inr ⟨rfl,m2,by dsimp only; trivial,by dsimp only; trivial,by dsimp only; trivial⟩⟩
       ·rw [if_neg q4]
        exact wpS_pure ⟨⟨s2.kind,s2.arr,s2.pend,s2.fail⟩,rfl,m2,by dsimp only; trivial,by dsimp only; trivial,by dsimp only; trivial⟩
     ·rw [if_neg hk0]
      have hle0:∀ y∈a.toList.take na',R O ky ix y (at_ b (nb' - 1)):=by
       have h':=hle
       rw [show k=na' by trivial] at h'
       exact h'
      refine wpS_bind (wpS_elem (at_eq (by trivial)) ?_)
      have m1:=MH.pushB m sb (by trivial) hle0
      by_cases q1:(nb' - 1 == 1)=true
      ·rw [if_pos q1]
       exact wpS_pure ⟨⟨s2.kind,s2.arr,s2.pend,s2.fail⟩,.inl ⟨_,rfl,m1.first sa sb (fst (by simpa using q1))⟩⟩
      rw [if_neg q1]
      have q1':¬ nb' - 1=1:=by simpa using q1
      refine wpS_bind (wpS_elem (at_eq (by trivial)) ?_)
      refine wpS_bind (wpS_gal C (s2.kind.trans hk) (hSa _ (at_mem (by trivial))) hSb (fun i j hij hj => at_ij sb (by trivial) (by trivial)) (fun i hi => by simp only [if_true]; exact hix _ (at_mem (by trivial)) _ (at_mem (by trivial))) (by trivial) (by trivial) fun k' hkn' k1' k2' => ?_)
      dsimp only
      simp only [if_true,Nat.zero_add] at k1' k2'
      have hle2:∀ y∈b.toList.take k',R O ky ix y (at_ a (na' - 1)):=fun y hy => by
       obtain ⟨j,j1,rfl⟩:=mem_take' (by trivial) hy
       exact R.lt (k1' j j1)
      have mB:=m1.addB sb (k:=k') (o:=out.push (at_ b (nb' - 1))++(b.extract k' (nb' - 1)).reverse) hkn' (fun x hx y hy => by
       obtain ⟨j,j1,j2,rfl⟩:=mem_at' (by trivial) hx
       exact R.trans (at_ge sa (i:=na' - 1) (by trivial) y (by rw [show na' - 1+1=na' by trivial]; exact hy)) (k2' j j1 j2)) (by rw [Array.toList_append,Array.toList_reverse,ext2])
      by_cases hk1:nb' - 1 - k' > 0
      ·rw [if_pos hk1]
       by_cases q2:(k' == 1)=true
       ·rw [if_pos q2]
        exact wpS_pure ⟨⟨s2.kind,s2.arr,s2.pend,s2.fail⟩,.inl ⟨_,rfl,mB.first sa sb (fst (by simpa using q2))⟩⟩
       rw [if_neg q2]
       by_cases q5:(k' == 0)=true
       ·rw [if_pos q5]
        exact wpS_pure ⟨⟨s2.kind,s2.arr,s2.pend,s2.fail⟩,.inl ⟨_,rfl,mB.done sa sb (.inr (by simpa using q5))⟩⟩
       rw [if_neg q5]
       have q2':¬ k'=1:=by simpa using q2
       have q5':¬ k'=0:=by simpa using q5
       refine wpS_bind (wpS_elem (at_eq (by trivial)) ?_)
       have m2:=MH.pushA mB sa (by trivial) hle2
       by_cases q3:(na' - 1 == 0)=true
       ·rw [if_pos q3]
        exact wpS_pure ⟨⟨s2.kind,s2.arr,s2.pend,s2.fail⟩,.inl ⟨_,rfl,m2.done sa sb (.inl (by simpa using q3))⟩⟩
       rw [if_neg q3]
       have q3':¬ na' - 1=0:=by simpa using q3
       by_cases q4:(decide (na' - k < 7) && decide (nb' - 1 - k' < 7))=true
       ·rw [if_pos q4]
        exact wpS_pure ⟨⟨s2.kind,s2.arr,s2.pend,s2.fail⟩,.inr ⟨rfl,m2,by dsimp only; trivial,by dsimp only; trivial,by dsimp only; trivial⟩⟩
       ·rw [if_neg q4]
        exact wpS_pure ⟨⟨s2.kind,s2.arr,s2.pend,s2.fail⟩,rfl,m2,by dsimp only; trivial,by dsimp only; trivial,by dsimp only; trivial⟩
      ·rw [if_neg hk1]
       have hle3:∀ y∈b.toList.take (nb' - 1),R O ky ix y (at_ a (na' - 1)):=by
        have h':=hle2
        rw [show k'=nb' - 1 by trivial] at h'
        exact h'
       refine wpS_bind (wpS_elem (at_eq (by trivial)) ?_)
       have m2:=MH.pushA m1 sa (by trivial) hle3
       by_cases q3:(na' - 1 == 0)=true
       ·rw [if_pos q3]
        exact wpS_pure ⟨⟨s2.kind,s2.arr,s2.pend,s2.fail⟩,.inl ⟨_,rfl,m2.done sa sb (.inl (by simpa using q3))⟩⟩
       rw [if_neg q3]
       have q3':¬ na' - 1=0:=by simpa using q3
       by_cases q4:(decide (na' - k < 7) && decide (nb' - 1 - k' < 7))=true
       ·rw [if_pos q4]
        exact wpS_pure ⟨⟨s2.kind,s2.arr,s2.pend,s2.fail⟩,.inr ⟨rfl,m2,by dsimp only; trivial,by dsimp only; trivial,by dsimp only; trivial⟩⟩
       ·rw [if_neg q4]
        exact wpS_pure ⟨⟨s2.kind,s2.arr,s2.pend,s2.fail⟩,rfl,m2,by dsimp only; trivial,by dsimp only; trivial,by dsimp only; trivial⟩
end
end TT
namespace TT
open PySem PyProof.Rows TS
structure Chg (lo:Nat) (st st':SortSt):Prop where
 kind:kindOf st'=kindOf st
 pend:pendingOf st'=pendingOf st
 fail:failedOf st'=failedOf st
 perm:(arrOf st').Perm (arrOf st)
 low:∀ i,i < lo -> (arrOf st')[i]?=(arrOf st)[i]?
theorem Chg.refl (lo:Nat) (st:SortSt):Chg lo st st:=⟨rfl,rfl,rfl,Array.Perm.refl _,fun _ _ => rfl⟩
theorem Chg.trans {lo:Nat} {a b c:SortSt} (h:Chg lo a b) (h':Chg lo b c):Chg lo a c:=⟨h'.kind.trans h.kind,h'.pend.trans h.pend,h'.fail.trans h.fail,h'.perm.trans h.perm,fun i hi => (h'.low i hi).trans (h.low i hi)⟩
theorem Chg.size {lo:Nat} {a b:SortSt} (h:Chg lo a b):(arrOf b).size=(arrOf a).size:=h.perm.size_eq
theorem Chg.all {lo:Nat} {a b:SortSt} {S:Keyed -> Prop} (h:Chg lo a b) (hS:∀ p∈(arrOf a).toList,S p):∀ p∈(arrOf b).toList,S p:=fun p hp => hS p ((Array.perm_iff_toList_perm.mp h.perm).mem_iff.mp hp)
theorem chg_mirror {lo i j:Nat} {st:SortSt} (h:lo≤i) (hj:j≤(arrOf st).size):Chg lo st (setArr st (mirror (arrOf st) i j ((j - i) / 2))):=⟨rfl,rfl,rfl,mirror_perm _ _ _ _,fun k hk => by
 show (mirror (arrOf st) i j ((j - i) / 2))[k]?=_
 rw [getElem?_mirror_all hj,if_neg (by trivial)]⟩
theorem chg_bubble {lo src d:Nat} {st:SortSt} (hs:src < (arrOf st).size) (hd:d≤src) (h:lo≤src - d):Chg lo st (setArr st (bubble (arrOf st) src d)):=⟨rfl,rfl,rfl,bubble_perm _ _ _,fun k hk => by
 show (bubble (arrOf st) src d)[k]?=_
 rw [getElem?_bubble hs d hd,if_neg (by trivial),if_neg (by trivial)]⟩
theorem at_congr {a b:Array Keyed} {i j:Nat} (h:a[i]?=b[j]?):at_ a i=at_ b j:=by unfold at_; rw [h]
theorem at_mirror {xs:Array Keyed} {i j:Nat} (hj:j≤xs.size) (k:Nat):at_ (mirror xs i j ((j - i) / 2)) k=if i≤k∧k < j then at_ xs (i+j - 1 - k) else at_ xs k:=by
 have e:=getElem?_mirror_all (i:=i) hj k
 split at e
 ·rename_i c; rw [if_pos c]; exact at_congr e
 ·rename_i c; rw [if_neg c]; exact at_congr e
theorem at_bubble {xs:Array Keyed} {src d:Nat} (hs:src < xs.size) (hd:d≤src) (k:Nat):at_ (bubble xs src d) k=if k=src - d then at_ xs src else if src - d < k∧k≤src then at_ xs (k - 1) else at_ xs k:=by
 have e:=getElem?_bubble hs d hd k
 split at e
 ·rename_i c; rw [if_pos c]; exact at_congr e
 ·rename_i c
  rw [if_neg c]
  split at e
  ·rename_i c2; rw [if_pos c2]; exact at_congr e
  ·rename_i c2; rw [if_neg c2]; exact at_congr e
section
variable {prog:Program} {w:World} {A:Around} {E:Value -> Shared -> Prop} {s:Shared}
variable {kd:SortKind} {O:KeyOrd} {ky:Keyed -> O.α} {ix:Keyed -> Nat} {S:Keyed -> Prop}
noncomputable abbrev kf (ky:Keyed -> O.α) (st:SortSt) (lo i:Nat):O.α:=ky (at_ (arrOf st) (lo+i))
noncomputable def Up (O:KeyOrd) (ky:Keyed -> O.α) (ix:Keyed -> Nat) (st:SortSt) (lo n:Nat):Prop:=∀ i j,i≤j -> j < n -> R O ky ix (at_ (arrOf st) (lo+i)) (at_ (arrOf st) (lo+j))
noncomputable def Dn (O:KeyOrd) (ky:Keyed -> O.α) (ix:Keyed -> Nat) (st:SortSt) (lo n:Nat):Prop:=∀ i j,i≤j -> j < n -> R O ky ix (at_ (arrOf st) (lo+j)) (at_ (arrOf st) (lo+i))
structure Lap (ix:Keyed -> Nat) (st:SortSt) (lo n m:Nat):Prop where
 cross:∀ i j,i < n -> n≤j -> j < m -> ix (at_ (arrOf st) (lo+i))≤ix (at_ (arrOf st) (lo+j))
 rise:∀ i j,n≤i -> i≤j -> j < m -> ix (at_ (arrOf st) (lo+i))≤ix (at_ (arrOf st) (lo+j))
theorem Lap.on {st:SortSt} {lo n m k:Nat} (h:Lap ix st lo n m) (hk:n≤k):Lap ix st lo k m:=⟨fun i j h1 h2 h3 => by
 by_cases c:i < n
 ·exact h.cross i j c (by trivial) h3
 ·exact h.rise i j (by trivial) (by trivial) h3,fun i j h1 h2 h3 => h.rise i j (by trivial) h2 h3⟩
theorem Lap.any {st:SortSt} {lo n m i j:Nat} (h:Lap ix st lo n m) (h1:i≤j) (h2:n≤j) (h3:j < m):ix (at_ (arrOf st) (lo+i))≤ix (at_ (arrOf st) (lo+j)):=by
 by_cases c:i < n
 ·exact h.cross i j c h2 h3
 ·exact h.rise i j (by trivial) h1 h3
theorem Lap.of {st st':SortSt} {lo n m:Nat} (h:Lap ix st lo n m) (h1:∀ i,i < n -> ∃ k,k < n∧at_ (arrOf st') (lo+i)=at_ (arrOf st) (lo+k)) (h2:∀ i,n≤i -> at_ (arrOf st') (lo+i)=at_ (arrOf st) (lo+i)):Lap ix st' lo n m:=⟨fun i j a b c => by
 obtain ⟨k,k1,e⟩:=h1 i a
 rw [e,h2 j b]
 exact h.cross k j k1 b c,fun i j a b c => by
 rw [h2 i a,h2 j (by trivial)]
 exact h.rise i j a b c⟩
theorem Lap.mirror {st:SortSt} {lo n m i j:Nat} (h:Lap ix st lo n m) (hj:lo+j≤(arrOf st).size) (hn:j≤n):Lap ix (setArr st (mirror (arrOf st) (lo+i) (lo+j) ((lo+j - (lo+i)) / 2))) lo n m:=by
 refine h.of (fun k hk => ?_) (fun k hk => ?_)
 ·show ∃ k',k' < n∧at_ (PyProof.Rows.mirror (arrOf st) (lo+i) (lo+j) ((lo+j - (lo+i)) / 2)) (lo+k)=_
  rw [at_mirror hj]
  by_cases c:lo+i≤lo+k∧lo+k < lo+j
  ·rw [if_pos c]
   exact ⟨i+j - 1 - k,by trivial,by congr 1; trivial⟩
  ·rw [if_neg c]; exact ⟨k,hk,rfl⟩
 ·show at_ (PyProof.Rows.mirror (arrOf st) (lo+i) (lo+j) ((lo+j - (lo+i)) / 2)) (lo+k)=_
  rw [at_mirror hj,if_neg (by trivial)]
theorem wpS_ltAt' (C:Cmp prog w A s kd O ky S) {st:SortSt} {i j:Nat} {Q:Option Bool -> SortSt -> Prop} (hk:kindOf st=kd) (hS:∀ p∈(arrOf st).toList,S p) (hi:i < (arrOf st).size) (hj:j < (arrOf st).size)
  (h:Q (some (O.blt (ky (at_ (arrOf st) i)) (ky (at_ (arrOf st) j)))) st):wpS (model prog w) A E s (ltAt' i j) Q st:=by
 rw [ltAt'_eq]
 refine wpS_bind (wpS_get ?_)
 exact wpS_bind (wpS_elem (at_eq hi) (wpS_bind (wpS_elem (at_eq hj) (wpS_lt C hk (hS _ (at_mem hi)) (hS _ (at_mem hj)) h))))
theorem asc_loop {st:SortSt} {lo a nrem:Nat} {Q:Option (Option Nat)×Nat -> SortSt -> Prop} {f:Nat -> Option (Option Nat)×Nat -> StateT SortSt Sem (ForInStep (Option (Option Nat)×Nat))} (h1:1≤a) (h2:a≤nrem) (hu:Up O ky ix st lo a) (hl:Lap ix st lo a nrem)
  (hf:∀ (x n:Nat),1≤n -> n < nrem -> ∀ {R:ForInStep (Option (Option Nat)×Nat) -> SortSt -> Prop},(O.klt (kf ky st lo n) (kf ky st lo (n - 1)) -> R (.done (none,n)) st) -> (O.kle (kf ky st lo (n - 1)) (kf ky st lo n) -> R (.yield (none,n+1)) st) -> wpS (model prog w) A E s (f x (none,n)) R st)
  (h:∀ n,a≤n -> n≤nrem -> Up O ky ix st lo n -> (n=nrem∨O.klt (kf ky st lo n) (kf ky st lo (n - 1))) -> Q (none,n) st):wpS (model prog w) A E s (forIn [a:nrem] (none,a) f) Q st:=by
 refine wpS_forRange (I:=fun x c st' => st'=st∧c=(none,x)∧Up O ky ix st lo x) ?step ?fin ⟨rfl,rfl,hu⟩
 case fin =>
  rintro c st' ⟨rfl,rfl,hs'⟩
  rw [show max a nrem=nrem by trivial] at hs' ⊢
  exact h nrem h2 (Nat.le_refl _) hs' (.inl rfl)
 case step =>
  rintro x c st' hax hxn ⟨rfl,rfl,hs'⟩
  refine hf x x (by trivial) hxn (fun q => h x hax (by trivial) hs' (.inr q)) (fun q => ⟨rfl,rfl,fun i j hij hj => ?_⟩)
  by_cases e:j=x
  ·by_cases e2:i=x
   ·rw [e,e2]; exact R.refl _
   ·rw [e]; exact R.trans (hs' i (x - 1) (by trivial) (by trivial)) (R.le q (hl.any (by trivial) hax hxn))
  ·exact hs' i j hij (by trivial)
theorem kf_mirror {st:SortSt} {lo i j k:Nat} (hj:lo+j≤(arrOf st).size):kf ky (setArr st (mirror (arrOf st) (lo+i) (lo+j) ((lo+j - (lo+i)) / 2))) lo k=if i≤k∧k < j then kf ky st lo (i+j - 1 - k) else kf ky st lo k:=by
 show ky (at_ (mirror (arrOf st) (lo+i) (lo+j) ((lo+j - (lo+i)) / 2)) (lo+k))=_
 rw [at_mirror hj]
 by_cases c:i≤k∧k < j
 ·rw [if_pos c,if_pos (by trivial)]
  show ky (at_ _ _)=ky (at_ _ _)
  congr 2; trivial
 ·rw [if_neg c,if_neg (by trivial)]
theorem kf_mirror_eq {st:SortSt} {lo i j:Nat} (hj:lo+j≤(arrOf st).size) (he:∀ k,i≤k -> k < j -> kf ky st lo k=kf ky st lo (j - 1)) (k:Nat):kf ky (setArr st (mirror (arrOf st) (lo+i) (lo+j) ((lo+j - (lo+i)) / 2))) lo k=kf ky st lo k:=by
 rw [kf_mirror hj]
 split
 ·rw [he _ (by trivial) (by trivial),he k (by trivial) (by trivial)]
 ·rfl
theorem wpS_rev {st:SortSt} {i j:Nat} {Q:Unit -> SortSt -> Prop} (h:Q () (setArr st (mirror (arrOf st) i j ((j - i) / 2)))):wpS (model prog w) A E s (reverseSlice' i j) Q st:=by
 rw [reverseSlice'_eq]
 exact wpS_modify h
structure Des (O:KeyOrd) (ky:Keyed -> O.α) (ix:Keyed -> Nat) (st:SortSt) (lo x neq m:Nat):Prop where
 le:neq+1≤x
 dn:Dn O ky ix st lo (x - (neq+1))
 lt:∀ i j,i < x - (neq+1) -> x - (neq+1)≤j -> j < x -> O.klt (kf ky st lo j) (kf ky st lo i)
 eq:∀ i,x - (neq+1)≤i -> i < x -> kf ky st lo i=kf ky st lo (x - 1)
 lap:Lap ix st lo (x - (neq+1)) m
theorem Des.one {st:SortSt} {lo x m:Nat} (hd:Dn O ky ix st lo x) (hx:1≤x) (hlt:O.klt (kf ky st lo x) (kf ky st lo (x - 1))) (hl:Lap ix st lo x m):Des O ky ix st lo (x+1) 0 m:=by
 refine ⟨by trivial,by rw [show x+1 - (0+1)=x by trivial]; exact hd,fun i j h1 h2 h3 => ?_,fun i h1 h2 => by congr 1; trivial,by rw [show x+1 - (0+1)=x by trivial]; exact hl⟩
 obtain rfl:j=x:=by trivial
 exact KeyOrd.klt_of_klt_of_kle hlt (hd i (j - 1) (by trivial) (by trivial)).1
theorem Des.done {st:SortSt} {lo x m:Nat} (h:Des O ky ix st lo x 0 m):Dn O ky ix st lo x∧Lap ix st lo x m:=by
 have h1:=h.le
 refine ⟨fun i j hij hj => ?_,h.lap.on (by trivial)⟩
 by_cases c:j < x - (0+1)
 ·exact h.dn i j hij c
 ·by_cases c2:i=j
  ·rw [c2]; exact R.refl _
  ·exact R.lt (h.lt i j (by trivial) (by trivial) hj)
theorem Des.turn {st:SortSt} {lo x neq m:Nat} (h:Des O ky ix st lo x neq m) (hx:lo+x≤(arrOf st).size) (hm:x≤m) :
  Dn O ky ix (setArr st (mirror (arrOf st) (lo+(x - (neq+1))) (lo+x) ((lo+x - (lo+(x - (neq+1)))) / 2))) lo x∧Lap ix (setArr st (mirror (arrOf st) (lo+(x - (neq+1))) (lo+x) ((lo+x - (lo+(x - (neq+1)))) / 2))) lo x m:=by
 have h1:=h.le
 refine ⟨fun i j hij hj => ?_,(h.lap.on (by trivial)).mirror hx (Nat.le_refl _)⟩
 show R O ky ix (at_ (mirror (arrOf st) (lo+(x - (neq+1))) (lo+x) ((lo+x - (lo+(x - (neq+1)))) / 2)) (lo+j)) (at_ (mirror (arrOf st) (lo+(x - (neq+1))) (lo+x) ((lo+x - (lo+(x - (neq+1)))) / 2)) (lo+i))
 rw [at_mirror hx,at_mirror hx]
 by_cases cj:j < x - (neq+1)
 ·rw [if_neg (by trivial),if_neg (by trivial)]
  exact h.dn i j hij cj
 ·rw [if_pos (by trivial)]
  rw [show lo+(x - (neq+1))+(lo+x) - 1 - (lo+j)=lo+(x - (neq+1)+x - 1 - j) by trivial]
  by_cases ci:i < x - (neq+1)
  ·rw [if_neg (by trivial)]
   exact R.lt (h.lt i (x - (neq+1)+x - 1 - j) ci (by trivial) (by trivial))
  ·rw [if_pos (by trivial)]
   rw [show lo+(x - (neq+1))+(lo+x) - 1 - (lo+i)=lo+(x - (neq+1)+x - 1 - i) by trivial]
   have e1:=h.eq (x - (neq+1)+x - 1 - j) (by trivial) (by trivial)
   have e2:=h.eq (x - (neq+1)+x - 1 - i) (by trivial) (by trivial)
   refine R.le ?_ (h.lap.rise _ _ (by trivial) (by trivial) (by trivial))
   rw [show ky (at_ (arrOf st) (lo+(x - (neq+1)+x - 1 - j)))=ky (at_ (arrOf st) (lo+(x - (neq+1)+x - 1 - i))) from e1.trans e2.symm]
   exact KeyOrd.kle_refl _
theorem Des.more {st:SortSt} {lo x neq m:Nat} (h:Des O ky ix st lo x neq m) (he:kf ky st lo x=kf ky st lo (x - 1)):Des O ky ix st lo (x+1) (neq+1) m:=by
 have h1:=h.le
 have eb:x+1 - (neq+1+1)=x - (neq+1):=by trivial
 refine ⟨by trivial,by rw [eb]; exact h.dn,fun i j a b c => ?_,fun i a b => ?_,by rw [eb]; exact h.lap⟩
 ·rw [eb] at a b
  by_cases e:j=x
  ·rw [e,he]; exact h.lt i (x - 1) a (by trivial) (by trivial)
  ·exact h.lt i j a b (by trivial)
 ·rw [eb] at a
  rw [show x+1 - 1=x by trivial]
  by_cases e:i=x
  ·rw [e]
  ·rw [he]; exact h.eq i a (by trivial)
theorem Dn.up {st:SortSt} {lo m:Nat} (h:Dn O ky ix st lo m) (hs:lo+m≤(arrOf st).size):Up O ky ix (setArr st (mirror (arrOf st) (lo+0) (lo+m) ((lo+m - (lo+0)) / 2))) lo m:=fun i j hij hj => by
 show R O ky ix (at_ (mirror (arrOf st) (lo+0) (lo+m) ((lo+m - (lo+0)) / 2)) (lo+i)) (at_ (mirror (arrOf st) (lo+0) (lo+m) ((lo+m - (lo+0)) / 2)) (lo+j))
 rw [at_mirror hs,at_mirror hs,if_pos (by trivial),if_pos (by trivial),show lo+0+(lo+m) - 1 - (lo+i)=lo+(m - 1 - i) by trivial,show lo+0+(lo+m) - 1 - (lo+j)=lo+(m - 1 - j) by trivial]
 exact h _ _ (by trivial) (by trivial)
theorem wpS_run (C:Cmp prog w A s kd O ky S) {st0:SortSt} {lo nrem:Nat} {Q:Option Nat -> SortSt -> Prop} (hk0:kindOf st0=kd) (hS0:∀ p∈(arrOf st0).toList,S p) (hn:lo+nrem≤(arrOf st0).size) (h1:1≤nrem) (lap0:Lap ix st0 lo 0 nrem)
  (h:∀ n st',Chg lo st0 st' -> 1≤n -> n≤nrem -> Up O ky ix st' lo n -> Lap ix st' lo n nrem -> Q (some n) st'):wpS (model prog w) A E s (countRun' lo nrem) Q st0:=by
 have ask:∀ {st:SortSt},Chg lo st0 st -> ∀ (i j:Nat) {Q:Option Bool -> SortSt -> Prop},i < lo+nrem -> j < lo+nrem -> Q (some (O.blt (ky (at_ (arrOf st) i)) (ky (at_ (arrOf st) j)))) st -> wpS (model prog w) A E s (ltAt' i j) Q st:=fun {st} ch i j Q hi hj hq =>
  wpS_ltAt' C (ch.kind.trans hk0) (ch.all hS0) (by rw [ch.size]; trivial) (by rw [ch.size]; trivial) hq
 unfold countRun'
 refine wpS_bind (asc_loop (O:=O) (ky:=ky) (ix:=ix) (lo:=lo) (Nat.le_refl 1) h1 (fun i j hij hj => by rw [show i=j by trivial]; exact R.refl _) (lap0.on (by trivial)) ?hf ?hq)
 case hf =>
  intro x n n1 n2 R r1 r2
  refine wpS_bind (ask (Chg.refl _ _) _ _ (by trivial) (by trivial) ?_)
  dsimp only
  rw [show lo+n - 1=lo+(n - 1) by trivial]
  cases e:O.blt (ky (at_ (arrOf st0) (lo+n))) (ky (at_ (arrOf st0) (lo+(n - 1)))) with
  | true => exact wpS_pure (r1 e)
  | false => exact wpS_pure (r2 e)
 case hq =>
 intro n n1 n2 hup hor
 dsimp only
 by_cases e1:(n == nrem)=true
 ·rw [if_pos e1]
  exact wpS_pure (h n _ (Chg.refl _ _) n1 n2 hup (lap0.on (by trivial)))
 rw [if_neg e1]
 have e1':¬ n=nrem:=by simpa using e1
 have hlt:=hor.resolve_left e1'
 by_cases hgt:n > 1
 ·rw [if_pos hgt]
  refine wpS_bind (ask (Chg.refl _ _) _ _ (by trivial) (by trivial) ?_)
  dsimp only
  rw [show lo+n - 1=lo+(n - 1) by trivial]
  cases e:O.blt (ky (at_ (arrOf st0) lo)) (ky (at_ (arrOf st0) (lo+(n - 1)))) with
  | true =>
   rw [if_pos rfl]
   exact wpS_pure (h n _ (Chg.refl _ _) n1 n2 hup (lap0.on (by trivial)))
  | false =>
   rw [if_neg Bool.false_ne_true]
   have hsz0:lo+n≤(arrOf st0).size:=by trivial
   have e':O.kle (kf ky st0 lo (n - 1)) (kf ky st0 lo 0):=e
   have hall:∀ k,0≤k -> k < n -> kf ky st0 lo k=kf ky st0 lo (n - 1):=fun k _ hk => by
    have a1:=(hup 0 k (by trivial) hk).1
    have a2:=(hup k (n - 1) (by trivial) (by trivial)).1
    exact KeyOrd.kle_antisymm a2 (KeyOrd.kle_trans e' a1)
   refine wpS_bind (wpS_rev ?_)
   have ch1:=chg_mirror (lo:=lo) (i:=lo+0) (j:=lo+n) (st:=st0) (by trivial) hsz0
   have dd:Des O ky ix st0 lo n (n - 1) nrem:=by
    have en:n - (n - 1+1)=0:=by trivial
    refine ⟨by trivial,by rw [en]; exact fun i j a b => by trivial,by rw [en]; exact fun i j a => by trivial,fun i a b => hall i (by trivial) b,by rw [en]; exact lap0⟩
   have d1:=dd.turn hsz0 n2
   rw [show n - (n - 1+1)=0 by trivial] at d1
   have hlt1:O.klt (kf ky (setArr st0 (mirror (arrOf st0) (lo+0) (lo+n) ((lo+n - (lo+0)) / 2))) lo n) (kf ky (setArr st0 (mirror (arrOf st0) (lo+0) (lo+n) ((lo+n - (lo+0)) / 2))) lo (n - 1)):=by
    rw [kf_mirror_eq hsz0 hall,kf_mirror_eq hsz0 hall]; exact hlt
   rw [show mirror (arrOf st0) lo (lo+n) ((lo+n - lo) / 2)=mirror (arrOf st0) (lo+0) (lo+n) ((lo+n - (lo+0)) / 2) from rfl]
   generalize setArr st0 (mirror (arrOf st0) (lo+0) (lo+n) ((lo+n - (lo+0)) / 2))=st1 at ch1 d1 hlt1 ⊢
   have des1:=Des.one d1.1 n1 hlt1 d1.2
   refine wpS_bind (wpS_lift (wpAny_rule ⟨rfl,?_⟩))
   refine wpS_bind (wpS_mono (wpS_forRange
    (I:=fun x c st' => ∃ neq,c=(none,x,neq)∧Chg lo st0 st'∧Des O ky ix st' lo x neq nrem)
    (Q:=fun c st' => ∃ m neq,c=(none,m,neq)∧n+1≤m∧m≤nrem∧Chg lo st0 st'∧Des O ky ix st' lo m neq nrem) ?step ?fin ⟨0,rfl,ch1,des1⟩) ?post)
   case fin =>
    rintro c st' ⟨neq,rfl,ch,d⟩
    rw [show max (n+1) nrem=nrem by trivial] at d ⊢
    exact ⟨nrem,neq,rfl,by trivial,Nat.le_refl _,ch,d⟩
   case step =>
    rintro x c st' hx1 hx2 ⟨neq,rfl,ch,d⟩
    dsimp only
    have q1:=d.le
    have hsz:lo+x≤(arrOf st').size:=by rw [ch.size]; trivial
    refine wpS_bind (ask ch _ _ (by trivial) (by trivial) ?_)
    dsimp only
    rw [show lo+x - 1=lo+(x - 1) by trivial]
    cases e:O.blt (ky (at_ (arrOf st') (lo+x))) (ky (at_ (arrOf st') (lo+(x - 1)))) with
    | true =>
     rw [if_pos rfl]
     by_cases hne:neq > 0
     ·rw [if_pos hne]
      rw [show lo+x - (neq+1)=lo+(x - (neq+1)) by trivial]
      have t:=d.turn hsz (by trivial)
      have lt2:O.klt (kf ky (setArr st' (mirror (arrOf st') (lo+(x - (neq+1))) (lo+x) ((lo+x - (lo+(x - (neq+1)))) / 2))) lo x) (kf ky (setArr st' (mirror (arrOf st') (lo+(x - (neq+1))) (lo+x) ((lo+x - (lo+(x - (neq+1)))) / 2))) lo (x - 1)):=by
       rw [kf_mirror_eq hsz d.eq,kf_mirror_eq hsz d.eq]; exact e
      refine wpS_bind (wpS_rev (wpS_pure ⟨0,rfl,ch.trans (chg_mirror (by trivial) hsz),Des.one t.1 (by trivial) lt2 t.2⟩))
     ·rw [if_neg hne]
      obtain rfl:neq=0:=by trivial
      exact wpS_pure ⟨0,rfl,ch,Des.one d.done.1 (by trivial) e d.done.2⟩
    | false =>
     rw [if_neg Bool.false_ne_true]
     refine wpS_bind (ask ch _ _ (by trivial) (by trivial) ?_)
     dsimp only
     cases e2:O.blt (ky (at_ (arrOf st') (lo+(x - 1)))) (ky (at_ (arrOf st') (lo+x))) with
     | true =>
      rw [if_pos rfl]
      exact wpS_pure ⟨x,neq,rfl,by trivial,by trivial,ch,d⟩
     | false =>
      rw [if_neg Bool.false_ne_true]
      have heq:kf ky st' lo x=kf ky st' lo (x - 1):=KeyOrd.kle_antisymm e2 e
      exact wpS_pure ⟨neq+1,rfl,ch,d.more heq⟩
   case post =>
    rintro c st' ⟨m,neq,rfl,m1,m2,ch,d⟩
    dsimp only
    have q1:=d.le
    have hsz:lo+m≤(arrOf st').size:=by rw [ch.size]; trivial
    by_cases hne:neq > 0
    ·rw [if_pos hne]
     rw [show lo+m - (neq+1)=lo+(m - (neq+1)) by trivial]
     refine wpS_bind (wpS_rev ?_)
     have ch2:=ch.trans (chg_mirror (lo:=lo) (i:=lo+(m - (neq+1))) (j:=lo+m) (st:=st') (by trivial) hsz)
     have d2:=d.turn hsz m2
     generalize setArr st' (mirror (arrOf st') (lo+(m - (neq+1))) (lo+m) ((lo+m - (lo+(m - (neq+1)))) / 2))=st4 at ch2 d2 ⊢
     refine wpS_bind (wpS_rev ?_)
     have hsz3:lo+m≤(arrOf st4).size:=by rw [(ch2).size]; trivial
     have ch3:=(ch2).trans (chg_mirror (lo:=lo) (i:=lo+0) (j:=lo+m) (st:=st4) (by trivial) hsz3)
     have up3:=d2.1.up hsz3
     have lap3:=d2.2.mirror (i:=0) hsz3 (Nat.le_refl _)
     refine wpS_bind (asc_loop (O:=O) (ky:=ky) (ix:=ix) (lo:=lo) (by trivial) (by trivial) up3 lap3 ?_ (fun n3 a1 a2 a3 _ => wpS_pure (h n3 _ ch3 (by trivial) a2 a3 (lap3.on a1))))
     intro x n' b1 b2 R r1 r2
     refine wpS_bind (ask ch3 _ _ (by trivial) (by trivial) ?_)
     dsimp only
     rw [show lo+n' - 1=lo+(n' - 1) by trivial]
     cases e:O.blt (ky (at_ (mirror (arrOf st4) (lo+0) (lo+m) ((lo+m - (lo+0)) / 2)) (lo+n'))) (ky (at_ (mirror (arrOf st4) (lo+0) (lo+m) ((lo+m - (lo+0)) / 2)) (lo+(n' - 1)))) with
     | true => exact wpS_pure (r1 e)
     | false => exact wpS_pure (r2 e)
    ·rw [if_neg hne]
     obtain rfl:neq=0:=by trivial
     have ch2:=ch
     have d2:=d.done
     generalize st'=st4 at ch2 d2 ⊢
     refine wpS_bind (wpS_rev ?_)
     have hsz3:lo+m≤(arrOf st4).size:=by rw [(ch2).size]; trivial
     have ch3:=(ch2).trans (chg_mirror (lo:=lo) (i:=lo+0) (j:=lo+m) (st:=st4) (by trivial) hsz3)
     have up3:=d2.1.up hsz3
     have lap3:=d2.2.mirror (i:=0) hsz3 (Nat.le_refl _)
     refine wpS_bind (asc_loop (O:=O) (ky:=ky) (ix:=ix) (lo:=lo) (by trivial) (by trivial) up3 lap3 ?_ (fun n3 a1 a2 a3 _ => wpS_pure (h n3 _ ch3 (by trivial) a2 a3 (lap3.on a1))))
     intro x n' b1 b2 R r1 r2
     refine wpS_bind (ask ch3 _ _ (by trivial) (by trivial) ?_)
     dsimp only
     rw [show lo+n' - 1=lo+(n' - 1) by trivial]
     cases e:O.blt (ky (at_ (mirror (arrOf st4) (lo+0) (lo+m) ((lo+m - (lo+0)) / 2)) (lo+n'))) (ky (at_ (mirror (arrOf st4) (lo+0) (lo+m) ((lo+m - (lo+0)) / 2)) (lo+(n' - 1)))) with
     | true => exact wpS_pure (r1 e)
     | false => exact wpS_pure (r2 e)
 ·rw [if_neg hgt]
  have ch1:=Chg.refl lo st0
  have des1:Des O ky ix st0 lo (n+1) 0 nrem:=Des.one (fun i j a b => by rw [show i=j by trivial]; exact R.refl _) n1 hlt (lap0.on (by trivial))
  refine wpS_bind (wpS_lift (wpAny_rule ⟨rfl,?_⟩))
  refine wpS_bind (wpS_mono (wpS_forRange
   (I:=fun x c st' => ∃ neq,c=(none,x,neq)∧Chg lo st0 st'∧Des O ky ix st' lo x neq nrem)
   (Q:=fun c st' => ∃ m neq,c=(none,m,neq)∧n+1≤m∧m≤nrem∧Chg lo st0 st'∧Des O ky ix st' lo m neq nrem) ?step ?fin ⟨0,rfl,ch1,des1⟩) ?post)
  case fin =>
   rintro c st' ⟨neq,rfl,ch,d⟩
   rw [show max (n+1) nrem=nrem by trivial] at d ⊢
   exact ⟨nrem,neq,rfl,by trivial,Nat.le_refl _,ch,d⟩
  case step =>
   rintro x c st' hx1 hx2 ⟨neq,rfl,ch,d⟩
   dsimp only
   have q1:=d.le
   have hsz:lo+x≤(arrOf st').size:=by rw [ch.size]; trivial
   refine wpS_bind (ask ch _ _ (by trivial) (by trivial) ?_)
   dsimp only
   rw [show lo+x - 1=lo+(x - 1) by trivial]
   cases e:O.blt (ky (at_ (arrOf st') (lo+x))) (ky (at_ (arrOf st') (lo+(x - 1)))) with
   | true =>
    rw [if_pos rfl]
    by_cases hne:neq > 0
    ·rw [if_pos hne]
     rw [show lo+x - (neq+1)=lo+(x - (neq+1)) by trivial]
     have t:=d.turn hsz (by trivial)
     have lt2:O.klt (kf ky (setArr st' (mirror (arrOf st') (lo+(x - (neq+1))) (lo+x) ((lo+x - (lo+(x - (neq+1)))) / 2))) lo x) (kf ky (setArr st' (mirror (arrOf st') (lo+(x - (neq+1))) (lo+x) ((lo+x - (lo+(x - (neq+1)))) / 2))) lo (x - 1)):=by
      rw [kf_mirror_eq hsz d.eq,kf_mirror_eq hsz d.eq]; exact e
     refine wpS_bind (wpS_rev (wpS_pure ⟨0,rfl,ch.trans (chg_mirror (by trivial) hsz),Des.one t.1 (by trivial) lt2 t.2⟩))
    ·rw [if_neg hne]
     obtain rfl:neq=0:=by trivial
     exact wpS_pure ⟨0,rfl,ch,Des.one d.done.1 (by trivial) e d.done.2⟩
   | false =>
    rw [if_neg Bool.false_ne_true]
    refine wpS_bind (ask ch _ _ (by trivial) (by trivial) ?_)
    dsimp only
    cases e2:O.blt (ky (at_ (arrOf st') (lo+(x - 1)))) (ky (at_ (arrOf st') (lo+x))) with
    | true =>
     rw [if_pos rfl]
     exact wpS_pure ⟨x,neq,rfl,by trivial,by trivial,ch,d⟩
    | false =>
     rw [if_neg Bool.false_ne_true]
     have heq:kf ky st' lo x=kf ky st' lo (x - 1):=KeyOrd.kle_antisymm e2 e
     exact wpS_pure ⟨neq+1,rfl,ch,d.more heq⟩
  case post =>
   rintro c st' ⟨m,neq,rfl,m1,m2,ch,d⟩
   dsimp only
   have q1:=d.le
   have hsz:lo+m≤(arrOf st').size:=by rw [ch.size]; trivial
   by_cases hne:neq > 0
   ·rw [if_pos hne]
    rw [show lo+m - (neq+1)=lo+(m - (neq+1)) by trivial]
    refine wpS_bind (wpS_rev ?_)
    have ch2:=ch.trans (chg_mirror (lo:=lo) (i:=lo+(m - (neq+1))) (j:=lo+m) (st:=st') (by trivial) hsz)
    have d2:=d.turn hsz m2
    generalize setArr st' (mirror (arrOf st') (lo+(m - (neq+1))) (lo+m) ((lo+m - (lo+(m - (neq+1)))) / 2))=st4 at ch2 d2 ⊢
    refine wpS_bind (wpS_rev ?_)
    have hsz3:lo+m≤(arrOf st4).size:=by rw [(ch2).size]; trivial
    have ch3:=(ch2).trans (chg_mirror (lo:=lo) (i:=lo+0) (j:=lo+m) (st:=st4) (by trivial) hsz3)
    have up3:=d2.1.up hsz3
    have lap3:=d2.2.mirror (i:=0) hsz3 (Nat.le_refl _)
    refine wpS_bind (asc_loop (O:=O) (ky:=ky) (ix:=ix) (lo:=lo) (by trivial) (by trivial) up3 lap3 ?_ (fun n3 a1 a2 a3 _ => wpS_pure (h n3 _ ch3 (by trivial) a2 a3 (lap3.on a1))))
    intro x n' b1 b2 R r1 r2
    refine wpS_bind (ask ch3 _ _ (by trivial) (by trivial) ?_)
    dsimp only
    rw [show lo+n' - 1=lo+(n' - 1) by trivial]
    cases e:O.blt (ky (at_ (mirror (arrOf st4) (lo+0) (lo+m) ((lo+m - (lo+0)) / 2)) (lo+n'))) (ky (at_ (mirror (arrOf st4) (lo+0) (lo+m) ((lo+m - (lo+0)) / 2)) (lo+(n' - 1)))) with
    | true => exact wpS_pure (r1 e)
    | false => exact wpS_pure (r2 e)
   ·rw [if_neg hne]
    obtain rfl:neq=0:=by trivial
    have ch2:=ch
    have d2:=d.done
    generalize st'=st4 at ch2 d2 ⊢
    refine wpS_bind (wpS_rev ?_)
    have hsz3:lo+m≤(arrOf st4).size:=by rw [(ch2).size]; trivial
    have ch3:=(ch2).trans (chg_mirror (lo:=lo) (i:=lo+0) (j:=lo+m) (st:=st4) (by trivial) hsz3)
    have up3:=d2.1.up hsz3
    have lap3:=d2.2.mirror (i:=0) hsz3 (Nat.le_refl _)
    refine wpS_bind (asc_loop (O:=O) (ky:=ky) (ix:=ix) (lo:=lo) (by trivial) (by trivial) up3 lap3 ?_ (fun n3 a1 a2 a3 _ => wpS_pure (h n3 _ ch3 (by trivial) a2 a3 (lap3.on a1))))
    intro x n' b1 b2 R r1 r2
    refine wpS_bind (ask ch3 _ _ (by trivial) (by trivial) ?_)
    dsimp only
    rw [show lo+n' - 1=lo+(n' - 1) by trivial]
    cases e:O.blt (ky (at_ (mirror (arrOf st4) (lo+0) (lo+m) ((lo+m - (lo+0)) / 2)) (lo+n'))) (ky (at_ (mirror (arrOf st4) (lo+0) (lo+m) ((lo+m - (lo+0)) / 2)) (lo+(n' - 1)))) with
    | true => exact wpS_pure (r1 e)
    | false => exact wpS_pure (r2 e)
theorem wpS_bin (C:Cmp prog w A s kd O ky S) {st0:SortSt} {lo n ok:Nat} {Q:Bool -> SortSt -> Prop} (hk0:kindOf st0=kd) (hS0:∀ p∈(arrOf st0).toList,S p) (hn:lo+n≤(arrOf st0).size) (hok:ok≤n) (hu:Up O ky ix st0 lo ok) {nrem:Nat} (hnr:n≤nrem) (lap0:Lap ix st0 lo ok nrem)
  (h:∀ st',Chg lo st0 st' -> Up O ky ix st' lo n -> Lap ix st' lo n nrem -> Q true st'):wpS (model prog w) A E s (binarySort' lo n ok) Q st0:=by
 unfold binarySort'
 refine wpS_bind (wpS_mono (wpS_forRange (I:=fun k c st' => c=(none,())∧Chg lo st0 st'∧Up O ky ix st' lo (min k n)∧Lap ix st' lo (min k n) nrem) (Q:=fun c st' => c=(none,())∧Chg lo st0 st'∧Up O ky ix st' lo n∧Lap ix st' lo n nrem) ?step ?fin ?init) ?post)
 case post =>
  rintro c st' ⟨rfl,ch,u,lp⟩
  exact wpS_pure (h st' ch u lp)
 case init =>
  refine ⟨rfl,Chg.refl _ _,fun i j hij hj => ?_,lap0.on (by trivial)⟩
  by_cases z:i=j
  ·rw [z]; exact R.refl _
  ·exact hu i j hij (by trivial)
 case fin =>
  rintro c st' ⟨hc,ch,u,lp⟩
  rw [show min (max (max ok 1) n) n=n by trivial] at u lp
  exact ⟨hc,ch,u,lp⟩
 case step =>
  rintro k c st' hk1 hk2 ⟨rfl,ch,u,lp⟩
  rw [show min k n=k by trivial] at u lp
  have hsz:=ch.size
  dsimp only
  refine wpS_bind (wpS_mono (wpS_forRange (I:=fun x c st2 => st2=st'∧∃ l r,c=(none,l,r)∧l≤r∧r≤k∧r - l≤k - x∧(∀ i,i < l -> R O ky ix (at_ (arrOf st') (lo+i)) (at_ (arrOf st') (lo+k)))∧(∀ i,r≤i -> i < k -> O.klt (kf ky st' lo k) (kf ky st' lo i)))
   (Q:=fun c st2 => st2=st'∧∃ l r,c=(none,l,r)∧l≤k∧(∀ i,i < l -> R O ky ix (at_ (arrOf st') (lo+i)) (at_ (arrOf st') (lo+k)))∧(∀ i,l≤i -> i < k -> O.klt (kf ky st' lo k) (kf ky st' lo i))) ?s2 ?f2 ⟨rfl,0,k,rfl,by trivial,by trivial,by trivial,fun i hi => by trivial,fun i i1 i2 => by trivial⟩) ?p2)
  case f2 =>
   rintro c st2 ⟨rfl,l,r,rfl,a1,a2,a3,a4,a5⟩
   obtain rfl:l=r:=by trivial
   exact ⟨rfl,l,l,rfl,a2,a4,a5⟩
  case s2 =>
   rintro x c st2 _ hx ⟨rfl,l,r,rfl,a1,a2,a3,a4,a5⟩
   dsimp only
   by_cases hge:l ≥ r
   ·rw [if_pos hge]
    obtain rfl:l=r:=by trivial
    exact wpS_pure ⟨rfl,l,l,rfl,a2,a4,a5⟩
   ·rw [if_neg hge]
    refine wpS_bind (wpS_ltAt' C (ch.kind.trans hk0) (ch.all hS0) (by trivial) (by trivial) ?_)
    dsimp only
    cases e:O.blt (ky (at_ (arrOf st2) (lo+k))) (ky (at_ (arrOf st2) (lo+(l+r) / 2))) with
    | true =>
     rw [if_pos rfl]
     exact wpS_pure ⟨rfl,l,(l+r) / 2,rfl,by trivial,by trivial,by trivial,a4,fun i i1 i2 => KeyOrd.klt_of_klt_of_kle e (u _ i i1 i2).1⟩
    | false =>
     rw [if_neg Bool.false_ne_true]
     exact wpS_pure ⟨rfl,(l+r) / 2+1,r,rfl,by trivial,by trivial,by trivial,fun i i1 => R.trans (u i ((l+r) / 2) (by trivial) (by trivial)) (R.le e (lp.any (by trivial) (Nat.le_refl _) (by trivial))),a5⟩
  case p2 =>
   rintro c st2 ⟨rfl,l,r,rfl,a1,a4,a5⟩
   dsimp only
   have hks:lo+k < (arrOf st2).size:=by trivial
   show wpS _ _ _ _ (moveDown' (lo+k) (lo+l) >>= fun _ => pure (ForInStep.yield (none,()))) _ _
   rw [moveDown'_eq]
   refine wpS_bind (wpS_modify (wpS_pure ⟨rfl,ch.trans (chg_bubble hks (by trivial) (by trivial)),?_,?_⟩))
   ·rw [show min (k+1) n=k+1 by trivial]
    intro i j hij hj
    show R O ky ix (at_ (bubble (arrOf st2) (lo+k) (lo+k - (lo+l))) (lo+i)) (at_ (bubble (arrOf st2) (lo+k) (lo+k - (lo+l))) (lo+j))
    rw [at_bubble hks (by trivial),at_bubble hks (by trivial),show lo+k - (lo+k - (lo+l))=lo+l by trivial]
    by_cases i1:i=l
    ·rw [if_pos (by trivial)]
     by_cases j1:j=l
     ·rw [if_pos (by trivial)]; exact R.refl _
     ·rw [if_neg (by trivial),if_pos (by trivial),show lo+j - 1=lo+(j - 1) by trivial]
      exact R.lt (a5 (j - 1) (by trivial) (by trivial))
    ·rw [if_neg (by trivial)]
     by_cases i2:l < i
     ·rw [if_pos (by trivial),if_neg (by trivial),if_pos (by trivial),show lo+i - 1=lo+(i - 1) by trivial,show lo+j - 1=lo+(j - 1) by trivial]
      exact u _ _ (by trivial) (by trivial)
     ·rw [if_neg (by trivial)]
      by_cases j1:j=l
      ·rw [if_pos (by trivial)]; exact a4 i (by trivial)
      ·rw [if_neg (by trivial)]
       by_cases j2:l < j
       ·rw [if_pos (by trivial),show lo+j - 1=lo+(j - 1) by trivial]; exact u _ _ (by trivial) (by trivial)
       ·rw [if_neg (by trivial)]; exact u _ _ hij (by trivial)
   ·rw [show min (k+1) n=k+1 by trivial]
    refine (lp.on (Nat.le_succ k)).of (fun i hi => ?_) (fun i hi => ?_)
    ·show ∃ k',k' < k+1∧at_ (bubble (arrOf st2) (lo+k) (lo+k - (lo+l))) (lo+i)=_
     rw [at_bubble hks (by trivial),show lo+k - (lo+k - (lo+l))=lo+l by trivial]
     by_cases i1:lo+i=lo+l
     ·rw [if_pos i1]; exact ⟨k,by trivial,rfl⟩
     ·rw [if_neg i1]
      by_cases i2:lo+l < lo+i∧lo+i≤lo+k
      ·rw [if_pos i2,show lo+i - 1=lo+(i - 1) by trivial]; exact ⟨i - 1,by trivial,rfl⟩
      ·rw [if_neg i2]; exact ⟨i,hi,rfl⟩
    ·show at_ (bubble (arrOf st2) (lo+k) (lo+k - (lo+l))) (lo+i)=_
     rw [at_bubble hks (by trivial),if_neg (by trivial),if_neg (by trivial)]
end
end TT
namespace TT
open PySem PyProof.Rows TS
noncomputable def offs:Nat -> List (List Keyed) -> List (Nat×Nat)
 | _,[] => []
 | o,g :: r => (o,g.length) :: offs (o+g.length) r
theorem offs_append:∀ (p q:List (List Keyed)) (o:Nat),offs o (p++q)=offs o p++offs (o+p.flatten.length) q
 | [],q,o => by simp [offs]
 | g :: r,q,o => by
  show (o,g.length) :: offs (o+g.length) (r++q)=(o,g.length) :: offs (o+g.length) r++_
  rw [offs_append r q,List.cons_append,List.flatten_cons,List.length_append,Nat.add_assoc]
theorem offs_length:∀ (p:List (List Keyed)) (o:Nat),(offs o p).length=p.length
 | [],_ => rfl
 | g :: r,o => by show (offs (o+g.length) r).length+1=_; rw [offs_length r]; rfl
noncomputable def two (p:Nat×Nat×Nat):Nat×Nat:=(p.1,p.2.1)
noncomputable def Ord (ix:Keyed -> Nat) (l:List (List Keyed)):Prop:=l.Pairwise fun g h => ∀ x∈g,∀ y∈h,ix x≤ix y
theorem Ord.two {ix:Keyed -> Nat} {pre post:List (List Keyed)} {F G:List Keyed} (h:Ord ix (pre++F :: G :: post)):∀ x∈F,∀ y∈G,ix x≤ix y :=
 (List.pairwise_cons.mp (List.pairwise_append.mp h).2.1).1 G List.mem_cons_self
theorem Ord.join {ix:Keyed -> Nat} {pre post:List (List Keyed)} {F G M:List Keyed} (h:Ord ix (pre++F :: G :: post)) (hm:∀ x∈M,x∈F∨x∈G):Ord ix (pre++M :: post):=by
 unfold Ord at h ⊢
 rw [List.pairwise_append,List.pairwise_cons,List.pairwise_cons] at h
 rw [List.pairwise_append,List.pairwise_cons]
 obtain ⟨h1,⟨h2,h3,h4⟩,h5⟩:=h
 refine ⟨h1,⟨fun g hg x hx y hy => ?_,h4⟩,fun g hg k hk x hx y hy => ?_⟩
 ·rcases hm x hx with z | z
  ·exact h2 g (List.mem_cons_of_mem _ hg) x z y hy
  ·exact h3 g hg x z y hy
 ·rcases List.mem_cons.mp hk with e | hk
  ·subst e
   rcases hm y hy with z | z
   ·exact h5 g hg F List.mem_cons_self x hx y z
   ·exact h5 g hg G (List.mem_cons_of_mem _ List.mem_cons_self) x hx y z
  ·exact h5 g hg k (List.mem_cons_of_mem _ (List.mem_cons_of_mem _ hk)) x hx y hy
theorem Ord.last {ix:Keyed -> Nat} {l:List (List Keyed)} {r r':List Keyed} (h:Ord ix (l++[r])) (hm:∀ x∈r',x∈r):Ord ix (l++[r']):=by
 unfold Ord at h ⊢
 rw [List.pairwise_append] at h ⊢
 refine ⟨h.1,List.pairwise_singleton _ _,fun g hg k hk x hx y hy => ?_⟩
 rw [List.mem_singleton.mp hk] at hy
 exact h.2.2 g hg r List.mem_cons_self x hx y (hm y hy)
theorem Ord.cut {ix:Keyed -> Nat} {l:List (List Keyed)} {a b:List Keyed} (h:Ord ix (l++[a++b])) (hm:∀ x∈a,∀ y∈b,ix x≤ix y):Ord ix ((l++[a])++[b]):=by
 unfold Ord at h ⊢
 rw [List.pairwise_append] at h
 rw [List.append_assoc,List.pairwise_append]
 refine ⟨h.1,List.pairwise_pair.mpr hm,fun g hg k hk x hx y hy => ?_⟩
 have hk':k=a∨k=b:=by simpa using hk
 rcases hk' with rfl | rfl
 ·exact h.2.2 g hg _ List.mem_cons_self x hx y (List.mem_append_left _ hy)
 ·exact h.2.2 g hg _ List.mem_cons_self x hx y (List.mem_append_right _ hy)
structure Stk (O:KeyOrd) (ky:Keyed -> O.α) (ix:Keyed -> Nat) (kd:SortKind) (a0:Array Keyed) (st:SortSt) (segs:List (List Keyed)) (rest:List Keyed):Prop where
 kind:kindOf st=kd
 fail:failedOf st=none
 arr:(arrOf st).toList=segs.flatten++rest
 perm:(arrOf st).Perm a0
 pend:(pendingOf st).toList.map two=offs 0 segs
 each:∀ g∈segs,g≠[]∧Srt O ky ix g
 ord:Ord ix (segs++[rest])
theorem at_seg {arr:Array Keyed} {P G T:List Keyed} (h:arr.toList=P++(G++T)) {i:Nat} {x:Keyed} (hx:G[i]?=some x):at_ arr (P.length+i)=x:=by
 have e:arr.toList[P.length+i]?=some x:=by
  rw [h,List.getElem?_append_right (by trivial),show P.length+i - P.length=i by trivial,List.getElem?_append_left (List.getElem?_eq_some_iff.mp hx).1]
  exact hx
 unfold at_
 rw [← Array.getElem?_toList,e]; rfl
section
variable {O:KeyOrd} {ky:Keyed -> O.α} {ix:Keyed -> Nat}
theorem srt_ij {G:List Keyed} (h:Srt O ky ix G) {i j:Nat} {x y:Keyed} (hij:i≤j) (hx:G[i]?=some x) (hy:G[j]?=some y):R O ky ix x y:=by
 obtain ⟨h1,e1⟩:=List.getElem?_eq_some_iff.mp hx
 obtain ⟨h2,e2⟩:=List.getElem?_eq_some_iff.mp hy
 by_cases e:i=j
 ·subst e
  rw [hx] at hy
  cases hy
  exact R.refl _
 ·have:=List.pairwise_iff_getElem.mp h i j h1 h2 (by trivial)
  rw [e1,e2] at this
  exact this
theorem seg_srt {arr:Array Keyed} {P G T:List Keyed} (h:arr.toList=P++(G++T)) (hs:Srt O ky ix G):∀ i j,i≤j -> j < G.length -> R O ky ix (at_ arr (P.length+i)) (at_ arr (P.length+j)):=fun i j hij hj => by
 have e1:G[i]?=some G[i]:=List.getElem?_eq_getElem _
 have e2:G[j]?=some G[j]:=List.getElem?_eq_getElem _
 rw [at_seg h e1,at_seg h e2]
 exact srt_ij hs hij e1 e2
end
theorem write_back (sa:Nat):∀ (m:List Keyed) (n:Nat) (arr:Array Keyed),sa+n+m.length≤arr.size →
  ((m.zipIdx n).foldl (fun a (x:Keyed×Nat) => match x with | (p,j) => a.setIfInBounds (sa+j) p) arr).toList=arr.toList.take (sa+n)++(m++arr.toList.drop (sa+n+m.length))
 | [],n,arr,_ => by simp
 | p :: r,n,arr,h => by
  rw [List.length_cons] at h
  rw [List.zipIdx_cons,List.foldl_cons]
  have ih:=write_back sa r (n+1) (arr.setIfInBounds (sa+n) p) (by simp; trivial)
  rw [ih]
  have hlt:sa+n < arr.toList.length:=by simp; trivial
  have el:(arr.setIfInBounds (sa+n) p).toList=arr.toList.set (sa+n) p:=by simp
  rw [el,show sa+(n+1)=sa+n+1 by trivial,List.take_add_one,List.length_cons]
  rw [List.take_set_of_le (by trivial),List.getElem?_set_self hlt,List.drop_set_of_lt (by trivial)]
  simp [Nat.add_assoc,Nat.add_comm,Nat.add_left_comm]
section
variable {prog:Program} {w:World} {A:Around} {E:Value -> Shared -> Prop} {s:Shared}
variable {kd:SortKind} {O:KeyOrd} {ky:Keyed -> O.α} {ix:Keyed -> Nat} {S:Keyed -> Prop} {a0:Array Keyed}
theorem pend_split {st:SortSt} {pre post:List (List Keyed)} {F G:List Keyed} (h:(pendingOf st).toList.map two=offs 0 (pre++F :: G :: post)):∃ p1 w1 w2 p2,(pendingOf st).toList=p1++(pre.flatten.length,F.length,w1) :: (pre.flatten.length+F.length,G.length,w2) :: p2∧p1.length=pre.length∧p1.map two=offs 0 pre∧p2.map two=offs (pre.flatten.length+F.length+G.length) post:=by
 rw [offs_append] at h
 obtain ⟨p1,p2,e,e1,e2⟩:=List.map_eq_append_iff.mp h
 have h2:p2.map two=(0+pre.flatten.length,F.length) :: (0+pre.flatten.length+F.length,G.length) :: offs (0+pre.flatten.length+F.length+G.length) post:=e2
 rw [Nat.zero_add] at h2
 obtain ⟨q1,p3,rfl,f1,f2⟩:=List.map_eq_cons_iff.mp h2
 obtain ⟨q2,p4,rfl,g1,g2⟩:=List.map_eq_cons_iff.mp f2
 obtain ⟨x1,x2,x3⟩:=q1
 obtain ⟨y1,y2,y3⟩:=q2
 obtain ⟨rfl,rfl⟩:=Prod.mk.inj (show (x1,x2)=_ from f1)
 obtain ⟨rfl,rfl⟩:=Prod.mk.inj (show (y1,y2)=_ from g1)
 refine ⟨p1,x3,y3,p4,e,?_,e1,g2⟩
 have:=congrArg List.length e1
 rw [List.length_map,offs_length] at this
 exact this
theorem wpS_mergeAt (C:Cmp prog w A s kd O ky S) {st:SortSt} {pre post:List (List Keyed)} {F G:List Keyed} {rest:List Keyed} {i:Nat} {Q:Bool -> SortSt -> Prop} (hS:∀ p∈a0.toList,S p) (h:Stk O ky ix kd a0 st (pre++F :: G :: post) rest) (hi:i=pre.length)
  (k:∀ st' M,Stk O ky ix kd a0 st' (pre++M :: post) rest -> M.length=F.length+G.length -> Q true st'):wpS (model prog w) A E s (TS.mergeAt' i) Q st:=by
 obtain ⟨p1,w1,w2,p2,ep,l1,q1,q2⟩:=pend_split h.pend
 have hSa:∀ p∈(arrOf st).toList,S p:=fun p hp => hS p ((Array.perm_iff_toList_perm.mp h.perm).mem_iff.mp hp)
 have hF:=h.each F (List.mem_append_right _ List.mem_cons_self)
 have hG:=h.each G (List.mem_append_right _ (List.mem_cons_of_mem _ List.mem_cons_self))
 have lF:1≤F.length:=List.length_pos_iff.mpr hF.1
 have lG:1≤G.length:=List.length_pos_iff.mpr hG.1
 have arrF:(arrOf st).toList=pre.flatten++(F++(G++(post.flatten++rest))):=by
  rw [h.arr]; simp
 have arrG:(arrOf st).toList=(pre.flatten++F)++(G++(post.flatten++rest)):=by
  rw [arrF]; simp
 have lenG:(pre.flatten++F).length=pre.flatten.length+F.length:=List.length_append
 have hsz:pre.flatten.length+F.length+G.length≤(arrOf st).size:=by
  have:=congrArg List.length arrF
  rw [List.length_append,List.length_append,List.length_append,Array.length_toList] at this
  trivial
 have srF:=seg_srt arrF hF.2
 have srG:=seg_srt arrG hG.2
 rw [lenG] at srG
 have g1:(pendingOf st)[i]?=some (pre.flatten.length,F.length,w1):=by
  rw [← Array.getElem?_toList,ep,hi,← l1]; simp
 have g2:(pendingOf st)[i+1]?=some (pre.flatten.length+F.length,G.length,w2):=by
  rw [← Array.getElem?_toList,ep,hi,← l1,List.getElem?_append_right (by trivial)]; simp
 unfold TS.mergeAt'
 refine wpS_bind (wpS_get ?_)
 rw [show (pendingOf st)[i]?=_ from g1,show (pendingOf st)[i+1]?=_ from g2]
 dsimp only
 -- what is told whatever is merged
 have fin:∀ (st':SortSt) (M:List Keyed),kindOf st'=kindOf st -> failedOf st'=failedOf st -> (arrOf st').toList=pre.flatten++(M++(post.flatten++rest)) -> M.Perm (F++G) -> Srt O ky ix M →
   pendingOf st'=((pendingOf st).setIfInBounds i (pre.flatten.length,F.length+G.length,w1)).eraseIdxIfInBounds (i+1) -> Q true st':=by
  intro st' M k1 k2 k3 k4 k5 k6
  refine k st' M ⟨k1.trans h.kind,k2.trans h.fail,?_,?_,?_,fun g hg => ?_,?_⟩ (by rw [k4.length_eq,List.length_append])
  ·rw [k3]; simp
  ·refine Array.Perm.trans (Array.perm_iff_toList_perm.mpr ?_) h.perm
   rw [k3,arrF]
   refine List.Perm.append_left _ ?_
   rw [← List.append_assoc F]
   exact k4.append_right _
  ·rw [k6]
   have e:(((pendingOf st).setIfInBounds i (pre.flatten.length,F.length+G.length,w1)).eraseIdxIfInBounds (i+1)).toList=p1++(pre.flatten.length,F.length+G.length,w1) :: p2:=by
    simp [ep]
    rw [hi,← l1,List.set_append_right _ _ (Nat.le_refl _),Nat.sub_self,List.set_cons_zero,List.eraseIdx_append_of_length_le (by trivial),show p1.length+1 - p1.length=1 by trivial]
    rfl
   rw [e,List.map_append,q1,List.map_cons,q2,offs_append,Nat.zero_add]
   show _=offs 0 pre++(pre.flatten.length,M.length) :: offs (pre.flatten.length+M.length) post
   rw [k4.length_eq,List.length_append,← Nat.add_assoc]
   rfl
  ·rcases List.mem_append.mp hg with hg | hg
   ·exact h.each g (List.mem_append_left _ hg)
   ·rcases List.mem_cons.mp hg with hg | hg
    ·subst hg
     refine ⟨fun z => ?_,k5⟩
     have:=k4.length_eq
     rw [z,List.length_append] at this
     simp at this
     trivial
    ·exact h.each g (List.mem_append_right _ (List.mem_cons_of_mem _ (List.mem_cons_of_mem _ hg)))
  ·have o:=h.ord
   rw [List.append_assoc,List.cons_append,List.cons_append] at o
   rw [List.append_assoc,List.cons_append]
   exact o.join fun x hx => List.mem_append.mp (k4.mem_iff.mp hx)
 have fG:∀ {i:Nat},i < G.length -> ∃ x,G[i]?=some x∧at_ (arrOf st) (pre.flatten.length+F.length+i)=x:=fun {i} hi => by
  refine ⟨G[i],List.getElem?_eq_getElem _,?_⟩
  have:=at_seg arrG (i:=i) (List.getElem?_eq_getElem hi)
  rw [lenG] at this
  exact this
 have fF:∀ {i:Nat},i < F.length -> ∃ x,F[i]?=some x∧at_ (arrOf st) (pre.flatten.length+i)=x:=fun {i} hi => ⟨F[i],List.getElem?_eq_getElem _,at_seg arrF (List.getElem?_eq_getElem hi)⟩
 have memF:∀ {x:Keyed} {i j:Nat},x∈(F.take j).drop i -> ∃ n,i≤n∧n < j∧n < F.length∧at_ (arrOf st) (pre.flatten.length+n)=x:=fun {x i j} hx => by
  obtain ⟨n,hn,e⟩:=List.getElem_of_mem hx
  rw [List.length_drop,List.length_take] at hn
  refine ⟨i+n,by trivial,by trivial,by trivial,at_seg arrF ?_⟩
  have e2:((F.take j).drop i)[n]?=some x:=by rw [← e]; exact List.getElem?_eq_getElem _
  rw [List.getElem?_drop,List.getElem?_take,if_pos (by trivial)] at e2
  exact e2
 have memG:∀ {x:Keyed} {i j:Nat},x∈(G.take j).drop i -> ∃ n,i≤n∧n < j∧n < G.length∧at_ (arrOf st) (pre.flatten.length+F.length+n)=x:=fun {x i j} hx => by
  obtain ⟨n,hn,e⟩:=List.getElem_of_mem hx
  rw [List.length_drop,List.length_take] at hn
  have e2:((G.take j).drop i)[n]?=some x:=by rw [← e]; exact List.getElem?_eq_getElem _
  rw [List.getElem?_drop,List.getElem?_take,if_pos (by trivial)] at e2
  have:=at_seg arrG e2
  rw [lenG] at this
  exact ⟨i+n,by trivial,by trivial,by trivial,this⟩
 have allF:F=(F.take F.length).drop 0:=by simp
 have allG:G=(G.take G.length).drop 0:=by simp
 have hix:∀ x∈F,∀ y∈G,ix x≤ix y:=by
  have o:=h.ord
  rw [List.append_assoc,List.cons_append,List.cons_append] at o
  exact o.two
 have hixA:∀ m n,m < F.length -> n < G.length -> ix (at_ (arrOf st) (pre.flatten.length+m))≤ix (at_ (arrOf st) (pre.flatten.length+F.length+n)):=fun m n hm hn => by
  obtain ⟨x,x1,x2⟩:=fF hm
  obtain ⟨y,y1,y2⟩:=fG hn
  rw [x2,y2]
  exact hix x (List.mem_of_getElem? x1) y (List.mem_of_getElem? y1)
 refine wpS_bind (wpS_modify (f:=fun _ => _) ?_)
 refine wpS_bind (wpS_elem (at_eq (show pre.flatten.length+F.length < (arrOf st).size by trivial)) ?_)
 refine wpS_bind (wpS_gal C h.kind (hSa _ (at_mem (show pre.flatten.length+F.length < (arrOf st).size by trivial))) hSa srF (fun i hi => by simp only [Bool.false_eq_true,if_false]; exact hixA i 0 hi lG) (show pre.flatten.length+F.length≤(arrOf st).size by trivial) (by trivial) fun kk hkk r1 r2 => ?_)
 dsimp only
 simp only [Bool.false_eq_true,if_false] at r1 r2
 have G0:∀ y∈G,R O ky ix (at_ (arrOf st) (pre.flatten.length+F.length)) y:=fun y hy => by
  rw [allG] at hy
  obtain ⟨n,_,_,n3,rfl⟩:=memG hy
  exact srG 0 n (by trivial) n3
 by_cases z1:(F.length - kk == 0)=true
 ·rw [if_pos z1]
  have z1':F.length - kk=0:=by simpa using z1
  refine wpS_pure (fin _ (F++G) rfl rfl ?_ (List.Perm.refl _) ?_ rfl)
  ·show (arrOf st).toList=_
   rw [arrF]; simp
  ·unfold Srt
   rw [List.pairwise_append]
   refine ⟨hF.2,hG.2,fun x hx y hy => ?_⟩
   rw [allF] at hx
   obtain ⟨n,_,_,n3,rfl⟩:=memF hx
   exact R.trans (r1 n (by trivial)) (G0 y hy)
 rw [if_neg z1]
 have z1':¬ F.length - kk=0:=by simpa using z1
 have elast:pre.flatten.length+kk+(F.length - kk) - 1=pre.flatten.length+(F.length - 1):=by trivial
 rw [elast]
 refine wpS_bind (wpS_elem (at_eq (show pre.flatten.length+(F.length - 1) < (arrOf st).size by trivial)) ?_)
 refine wpS_bind (wpS_gal C h.kind (hSa _ (at_mem (show pre.flatten.length+(F.length - 1) < (arrOf st).size by trivial))) hSa srG (fun i hi => by simp only [if_true]; exact hixA (F.length - 1) i (by trivial) hi) (show pre.flatten.length+F.length+G.length≤(arrOf st).size by trivial) (by trivial) fun nn hnn t1 t2 => ?_)
 dsimp only
 simp only [if_true] at t1 t2
 have FL:∀ x∈F,R O ky ix x (at_ (arrOf st) (pre.flatten.length+(F.length - 1))):=fun x hx => by
  rw [allF] at hx
  obtain ⟨n,_,_,n3,rfl⟩:=memF hx
  exact srF n (F.length - 1) (by trivial) (by trivial)
 by_cases z2:(nn == 0)=true
 ·rw [if_pos z2]
  have z2':nn=0:=by simpa using z2
  refine wpS_pure (fin _ (F++G) rfl rfl ?_ (List.Perm.refl _) ?_ rfl)
  ·show (arrOf st).toList=_
   rw [arrF]; simp
  ·unfold Srt
   rw [List.pairwise_append]
   refine ⟨hF.2,hG.2,fun x hx y hy => ?_⟩
   rw [allG] at hy
   obtain ⟨n,_,_,n3,rfl⟩:=memG hy
   exact R.trans (FL x hx) (t2 n (by trivial) n3)
 rw [if_neg z2]
 have z2':¬ nn=0:=by simpa using z2
 have hx:((arrOf st).extract (pre.flatten.length+kk) (pre.flatten.length+F.length)).toList=F.drop kk:=by
  rw [ext2,arrG,← lenG,List.take_append_of_le_length (Nat.le_refl _),List.take_length,← List.drop_drop]
  simp
 have hy:((arrOf st).extract (pre.flatten.length+F.length) (pre.flatten.length+F.length+nn)).toList=G.take nn:=by
  rw [ext_some,arrG,← lenG,List.drop_append_of_le_length (Nat.le_refl _),List.drop_length,List.nil_append,List.take_append_of_le_length hnn]
 have szx:((arrOf st).extract (pre.flatten.length+kk) (pre.flatten.length+F.length)).size=F.length - kk:=by
  rw [← Array.length_toList,hx,List.length_drop]
 have szy:((arrOf st).extract (pre.flatten.length+F.length) (pre.flatten.length+F.length+nn)).size=nn:=by
  rw [← Array.length_toList,hy,List.length_take]; trivial
 generalize (arrOf st).extract (pre.flatten.length+kk) (pre.flatten.length+F.length)=x at hx szx ⊢
 generalize (arrOf st).extract (pre.flatten.length+F.length) (pre.flatten.length+F.length+nn)=y at hy szy ⊢
 have inF:∀ p∈F,S p:=fun p hp => hSa p (by rw [arrF]; exact List.mem_append_right _ (List.mem_append_left _ hp))
 have inG:∀ p∈G,S p:=fun p hp => hSa p (by rw [arrF]; exact List.mem_append_right _ (List.mem_append_right _ (List.mem_append_left _ hp)))
 have hSx:∀ p∈x.toList,S p:=fun p hp => inF p (by rw [hx] at hp; exact List.mem_of_mem_drop hp)
 have hSy:∀ p∈y.toList,S p:=fun p hp => inG p (by rw [hy] at hp; exact List.mem_of_mem_take hp)
 have sx:Srt O ky ix x.toList:=by rw [hx]; exact drop_srt hF.2 _
 have sy:Srt O ky ix y.toList:=by rw [hy]; exact take_srt hG.2 _
 have hixy:∀ p∈x.toList,∀ q∈y.toList,ix p≤ix q:=fun p hp q hq => by
  rw [hx] at hp
  rw [hy] at hq
  exact hix p (List.mem_of_mem_drop hp) q (List.mem_of_mem_take hq)
 have y0:at_ y 0=at_ (arrOf st) (pre.flatten.length+F.length):=by
  obtain ⟨g,hg1,hg2⟩:=fG (i:=0) lG
  have e:y.toList[0]?=some g:=by rw [hy,List.getElem?_take,if_pos (by trivial)]; exact hg1
  rw [show pre.flatten.length+F.length=pre.flatten.length+F.length+0 from rfl,hg2]
  unfold at_
  rw [← Array.getElem?_toList,e]; rfl
 have xl:at_ x (x.size - 1)=at_ (arrOf st) (pre.flatten.length+(F.length - 1)):=by
  obtain ⟨g,hg1,hg2⟩:=fF (i:=F.length - 1) (by trivial)
  have e:x.toList[x.size - 1]?=some g:=by rw [hx,szx,List.getElem?_drop,show kk+(F.length - kk - 1)=F.length - 1 by trivial]; exact hg1
  rw [hg2]
  unfold at_
  rw [← Array.getElem?_toList,e]; rfl
 have h0:∀ p∈x.toList,R O ky ix (at_ y 0) p:=fun p hp => by
  rw [hx,show F.drop kk=(F.take F.length).drop kk by rw [List.take_length]] at hp
  obtain ⟨n,n1,_,n3,rfl⟩:=memF hp
  rw [y0]
  exact R.lt (r2 n n1 n3)
 have hl:∀ p∈y.toList,R O ky ix p (at_ x (x.size - 1)):=fun p hp => by
  rw [hy,show G.take nn=(G.take nn).drop 0 by rw [List.drop_zero]] at hp
  obtain ⟨n,_,n2,n3,rfl⟩:=memG hp
  rw [xl]
  exact R.lt (t1 n n2)
 have last:∀ (o:Array Keyed) (st':SortSt),Good O ky ix x y o -> SameSt (SortSt.mk' (kindOf st) (arrOf st) (((pendingOf st).setIfInBounds i (pre.flatten.length,F.length+G.length,w1)).eraseIdxIfInBounds (i+1)) (gallopOf st) (failedOf st)) st' →
   (failedOf st').isNone=true∧Q true (SortSt.mk' (kindOf st') (o.toList.zipIdx.foldl (fun a (x:Keyed×Nat) => match x with | (p,j) => a.setIfInBounds (pre.flatten.length+kk+j) p) (arrOf st')) (pendingOf st') (gallopOf st') (failedOf st')):=by
  intro o st' go ss
  obtain ⟨pm,so⟩:=go
  rw [hx,hy] at pm
  have lo:o.toList.length=F.length - kk+nn:=by rw [pm.length_eq,List.length_append,List.length_drop,List.length_take]; trivial
  refine ⟨by rw [show failedOf st'=failedOf st from ss.fail,h.fail]; rfl,?_⟩
  refine fin _ (F.take kk++(o.toList++G.drop nn)) ss.kind ss.fail ?_ ?_ ?_ ss.pend
  ·show (o.toList.zipIdx.foldl _ (arrOf st')).toList=_
   rw [show arrOf st'=arrOf st from ss.arr]
   have wb:=write_back (pre.flatten.length+kk) o.toList 0 (arrOf st) (by trivial)
   rw [Nat.add_zero] at wb
   refine wb.trans ?_
   have d1:(arrOf st).toList.take (pre.flatten.length+kk)=pre.flatten++F.take kk:=by
    rw [arrF,List.take_length_add_append,List.take_append_of_le_length (by trivial)]
   have d2:(arrOf st).toList.drop (pre.flatten.length+kk+o.toList.length)=G.drop nn++(post.flatten++rest):=by
    rw [arrG,lo,show pre.flatten.length+kk+(F.length - kk+nn)=(pre.flatten++F).length+nn by rw [lenG]; trivial,List.drop_length_add_append,List.drop_append_of_le_length hnn]
   rw [d1,d2]; simp
  ·have e1:=List.take_append_drop kk F
   have e2:=List.take_append_drop nn G
   conv => rhs; rw [← e1,← e2]
   rw [List.append_assoc]
   refine List.Perm.append_left _ ?_
   rw [← List.append_assoc]
   exact pm.append_right _
  ·have mo:∀ p∈o.toList,p∈F.drop kk∨p∈G.take nn:=fun p hp => List.mem_append.mp (pm.mem_iff.mp hp)
   unfold Srt
   rw [List.pairwise_append,List.pairwise_append]
   refine ⟨take_srt hF.2 _,⟨so,drop_srt hG.2 _,fun p hp q hq => ?_⟩,fun p hp q hq => ?_⟩
   ·rcases mo p hp with hp | hp
    ·rw [show G.drop nn=(G.take G.length).drop nn by rw [List.take_length]] at hq
     obtain ⟨n,n1,_,n3,rfl⟩:=memG hq
     exact R.trans (FL p (List.mem_of_mem_drop hp)) (t2 n n1 n3)
    ·exact split_srt hG.2 nn p hp q hq
   ·have ub:R O ky ix p (at_ (arrOf st) (pre.flatten.length+F.length)):=by
     rw [show F.take kk=(F.take kk).drop 0 by rw [List.drop_zero]] at hp
     obtain ⟨n,_,n2,n3,rfl⟩:=memF hp
     exact r1 n n2
    rcases List.mem_append.mp hq with hq | hq
    ·rcases mo q hq with hq | hq
     ·exact split_srt hF.2 kk p hp q hq
     ·exact R.trans ub (G0 q (List.mem_of_mem_take hq))
    ·exact R.trans ub (G0 q (List.mem_of_mem_drop hq))
 by_cases hle:F.length - kk≤nn
 ·rw [if_pos hle]
  refine wpS_bind (wpS_mergeLo C h.kind hSx hSy sx sy hixy (by trivial) (by trivial) h0 hl fun o st' go ss => ?_)
  obtain ⟨l1,l2⟩:=last o st' go ss
  refine wpS_bind (wpS_modify (wpS_bind (wpS_get (wpS_pure ?_))))
  rw [show (failedOf st').isNone=true from l1]
  exact l2
 ·rw [if_neg hle]
  refine wpS_bind (wpS_mergeHi C h.kind hSx hSy sx sy hixy (by trivial) (by trivial) h0 hl fun o st' go ss => ?_)
  obtain ⟨l1,l2⟩:=last o st' go ss
  refine wpS_bind (wpS_modify (wpS_bind (wpS_get (wpS_pure ?_))))
  rw [show (failedOf st').isNone=true from l1]
  exact l2
end
end TT
namespace TT
open PySem PyProof.Rows TS
section
variable {prog:Program} {w:World} {A:Around} {E:Value -> Shared -> Prop} {s:Shared}
variable {kd:SortKind} {O:KeyOrd} {ky:Keyed -> O.α} {ix:Keyed -> Nat} {S:Keyed -> Prop} {a0:Array Keyed}
theorem Stk.chg {st st':SortSt} {segs:List (List Keyed)} {rest:List Keyed} {lo:Nat} (h:Stk O ky ix kd a0 st segs rest) (c:Chg lo st st') (hl:segs.flatten.length=lo):Stk O ky ix kd a0 st' segs ((arrOf st').toList.drop lo):=by
 have e:(arrOf st').toList.take lo=segs.flatten:=by
  have e0:(arrOf st).toList.take lo=segs.flatten:=by rw [h.arr,← hl,List.take_append_of_le_length (Nat.le_refl _),List.take_length]
  rw [← e0]
  apply List.ext_getElem?
  intro i
  rw [List.getElem?_take,List.getElem?_take]
  by_cases hi:i < lo
  ·rw [if_pos hi,if_pos hi,Array.getElem?_toList,Array.getElem?_toList]; exact c.low i hi
  ·rw [if_neg hi,if_neg hi]
 have ea:(arrOf st').toList=segs.flatten++(arrOf st').toList.drop lo:=by rw [← e,List.take_append_drop]
 refine ⟨c.kind.trans h.kind,c.fail.trans h.fail,ea,c.perm.trans h.perm,by rw [c.pend]; exact h.pend,h.each,h.ord.last fun x hx => ?_⟩
 have p:=Array.perm_iff_toList_perm.mp c.perm
 rw [ea,h.arr] at p
 exact ((List.perm_append_left_iff _).mp p).mem_iff.mp hx
theorem up_srt {st:SortSt} {lo n:Nat} (hn:lo+n≤(arrOf st).size) (h:Up O ky ix st lo n):Srt O ky ix (((arrOf st).toList.drop lo).take n):=by
 unfold Srt
 rw [List.pairwise_iff_getElem]
 intro i j hi hj hij
 rw [List.length_take,List.length_drop] at hi hj
 have hat:∀ k (hk:k < (((arrOf st).toList.drop lo).take n).length),(((arrOf st).toList.drop lo).take n)[k]=at_ (arrOf st) (lo+k):=fun k hk => by
  have hk':=hk
  rw [List.length_take,List.length_drop] at hk'
  have e:(((arrOf st).toList.drop lo).take n)[k]?=some (((arrOf st).toList.drop lo).take n)[k]:=List.getElem?_eq_getElem _
  rw [List.getElem?_take,if_pos (by trivial),List.getElem?_drop,at_list (by trivial)] at e
  exact (Option.some.inj e).symm
 rw [hat,hat]
 exact h i j (by trivial) (by trivial)
theorem Stk.push {st:SortSt} {segs:List (List Keyed)} {rest:List Keyed} {lo n:Nat} (h:Stk O ky ix kd a0 st segs rest) (hl:segs.flatten.length=lo) (h1:1≤n) (hn:n≤rest.length) (hs:Srt O ky ix (rest.take n)) (hc:∀ x∈rest.take n,∀ y∈rest.drop n,ix x≤ix y) {st':SortSt} (k1:kindOf st'=kindOf st) (k2:failedOf st'=failedOf st) (k3:arrOf st'=arrOf st) (k4:(pendingOf st').toList.map two=(pendingOf st).toList.map two++[(lo,n)]) :
  Stk O ky ix kd a0 st' (segs++[rest.take n]) (rest.drop n):=by
 have hln:(rest.take n).length=n:=by rw [List.length_take]; trivial
 refine ⟨k1.trans h.kind,k2.trans h.fail,?_,by rw [k3]; exact h.perm,?_,fun g hg => ?_,Ord.cut (by rw [List.take_append_drop]; exact h.ord) hc⟩
 ·rw [k3,h.arr]; simp
 ·rw [k4,h.pend,offs_append,Nat.zero_add,hl]
  show _=_++[(lo,(rest.take n).length)]
  rw [hln]
 ·rcases List.mem_append.mp hg with hg | hg
  ·exact h.each g hg
  ·have:g=rest.take n:=by simpa using hg
   subst this
   refine ⟨fun z => ?_,hs⟩
   rw [z] at hln
   simp at hln
   trivial
theorem lap_list {st:SortSt} {lo n m:Nat} (h:Lap ix st lo n m) (hm:lo+m=(arrOf st).size) (hn:n≤m):(∀ x∈((arrOf st).toList.drop lo).take n,∀ y∈((arrOf st).toList.drop lo).drop n,ix x≤ix y)∧(((arrOf st).toList.drop lo).drop n).Pairwise (fun x y => ix x≤ix y):=by
 refine ⟨fun x hx y hy => ?_,?_⟩
 ·obtain ⟨i,i1,i2,rfl⟩:=mem_at hx
  obtain ⟨j,j1,e⟩:=List.getElem_of_mem hy
  rw [List.length_drop,List.length_drop,Array.length_toList] at j1
  have e2:(((arrOf st).toList.drop lo).drop n)[j]?=some y:=by rw [← e]; exact List.getElem?_eq_getElem _
  rw [List.getElem?_drop,List.getElem?_drop,at_list (by trivial)] at e2
  rw [← Option.some.inj e2]
  exact h.cross i (n+j) i1 (by trivial) (by trivial)
 ·rw [List.pairwise_iff_getElem]
  intro i j hi hj hij
  have hat:∀ k (hk:k < (((arrOf st).toList.drop lo).drop n).length),(((arrOf st).toList.drop lo).drop n)[k]=at_ (arrOf st) (lo+(n+k)):=fun k hk => by
   have hk':=hk
   rw [List.length_drop,List.length_drop,Array.length_toList] at hk'
   have e2:(((arrOf st).toList.drop lo).drop n)[k]?=some (((arrOf st).toList.drop lo).drop n)[k]:=List.getElem?_eq_getElem _
   rw [List.getElem?_drop,List.getElem?_drop,at_list (by trivial)] at e2
   exact (Option.some.inj e2).symm
  rw [hat,hat]
  rw [List.length_drop,List.length_drop,Array.length_toList] at hi hj
  exact h.rise _ _ (by trivial) (by trivial) (by trivial)
theorem lap_of_list {st:SortSt} {P T:List Keyed} {m:Nat} (h:(arrOf st).toList=P++T) (hm:m≤T.length) (hp:T.Pairwise (fun x y => ix x≤ix y)):Lap ix st P.length 0 m:=by
 refine ⟨fun i j h1 => by trivial,fun i j h1 h2 h3 => ?_⟩
 by_cases e:i=j
 ·rw [e]; exact Nat.le_refl _
 ·have hat:∀ k (hk:k < T.length),at_ (arrOf st) (P.length+k)=T[k]:=fun k hk => by
   have:=at_seg (P:=P) (G:=T) (T:=[]) (i:=k) (by rw [h,List.append_nil]) (List.getElem?_eq_getElem hk)
   exact this
  rw [hat i (by trivial),hat j (by trivial)]
  exact List.pairwise_iff_getElem.mp hp i j (by trivial) (by trivial) (by trivial)
theorem pend_size {st:SortSt} {segs:List (List Keyed)} {rest:List Keyed} (h:Stk O ky ix kd a0 st segs rest):(pendingOf st).size=segs.length:=by
 have:=congrArg List.length h.pend
 rw [List.length_map,offs_length,Array.length_toList] at this
 exact this
theorem two_modify (p:Array (Nat×Nat×Nat)) (i v:Nat):(p.modify i fun x => (x.1,x.2.1,v)).toList.map two=p.toList.map two:=by
 apply List.ext_getElem?
 intro j
 rw [List.getElem?_map,List.getElem?_map,Array.getElem?_toList,Array.getElem?_toList,Array.getElem?_modify]
 split
 ·cases p[j]? with
  | none => rfl
  | some x => rfl
 ·rfl
theorem snoc2 {α:Type} {l:List α} (h:2≤l.length) {i:Nat} (hi:i+2=l.length∨i+3=l.length):∃ pre F G post,l=pre++F :: G :: post∧pre.length=i:=by
 have h1:i < l.length:=by trivial
 have h2:i+1 < l.length:=by trivial
 refine ⟨l.take i,l[i],l[i+1],l.drop (i+2),?_,by rw [List.length_take]; trivial⟩
 conv => lhs; rw [← List.take_append_drop i l,List.drop_eq_getElem_cons h1,List.drop_eq_getElem_cons h2]
theorem pick {m i:Nat} {o:Option Nat} {f:Nat -> Bool} (h2:2≤m) (hb:(if Option.any f (if m - 2 > 0 then o else none)=true then m - 2 - 1 else m - 2)=i):i+2=m∨i+3=m:=by
 by_cases c:Option.any f (if m - 2 > 0 then o else none)=true
 ·rw [if_pos c] at hb
  by_cases z:m - 2 > 0
  ·right; trivial
  ·rw [if_neg z] at c; simp at c
 ·rw [if_neg c] at hb; left; trivial
theorem flat_join {pre post:List (List Keyed)} {F G M:List Keyed} (h:M.length=F.length+G.length):(pre++M :: post).flatten.length=(pre++F :: G :: post).flatten.length:=by
 simp [h,Nat.add_assoc]
theorem wpS_sort (C:Cmp prog w A s kd O ky S) {st0:SortSt} {Q:Unit -> SortSt -> Prop} (hS:∀ p∈(arrOf st0).toList,S p) (hk:kindOf st0=kd) (hf:failedOf st0=none) (hp:pendingOf st0=#[]) (hrise:(arrOf st0).toList.Pairwise (fun x y => ix x≤ix y))
  (h:∀ st',(arrOf st').Perm (arrOf st0) -> failedOf st'=none -> Srt O ky ix (arrOf st').toList -> Q () st'):wpS (model prog w) A E s sortRuns' Q st0:=by
 unfold sortRuns'
 refine wpS_bind (wpS_get ?_)
 dsimp only
 generalize hsz:(arrOf st0).size=size
 generalize (sortPriv% PySem.Builtin.minRun) size size 0=minrun
 have base:Stk O ky ix kd (arrOf st0) st0 [] (arrOf st0).toList:=⟨hk,hf,rfl,Array.Perm.refl _,by rw [hp]; rfl,(fun _ z => by cases z),List.pairwise_singleton _ _⟩
 have szof:∀ {st:SortSt} {segs:List (List Keyed)} {rest:List Keyed},Stk O ky ix kd (arrOf st0) st segs rest -> (arrOf st).size=size∧segs.flatten.length+rest.length=size:=fun {st segs rest} k => by
  have e:=k.perm.size_eq
  have e2:=congrArg List.length k.arr
  rw [List.length_append,Array.length_toList] at e2
  exact ⟨by trivial,by trivial⟩
 have allS:∀ {st:SortSt} {segs:List (List Keyed)} {rest:List Keyed},Stk O ky ix kd (arrOf st0) st segs rest -> ∀ p∈(arrOf st).toList,S p:=fun {st segs rest} k p hp => hS p ((Array.perm_iff_toList_perm.mp k.perm).mem_iff.mp hp)
 refine wpS_bind (wpS_mono (wpS_forRange
  (I:=fun x c st' => c.1=none∧x≤c.2∧∃ segs rest,Stk O ky ix kd (arrOf st0) st' segs rest∧segs.flatten.length=c.2∧rest.Pairwise (fun x y => ix x≤ix y))
  (Q:=fun c st' => c.1=none∧∃ segs,Stk O ky ix kd (arrOf st0) st' segs []) ?step ?fin ⟨rfl,Nat.le_refl _,[],_,base,rfl,hrise⟩) ?post)
 case fin =>
  rintro c st' ⟨c1,c2,segs,rest,k,kl,_⟩
  obtain ⟨_,e⟩:=szof k
  have:rest=[]:=List.eq_nil_of_length_eq_zero (by trivial)
  subst this
  exact ⟨c1,segs,k⟩
 case post =>
  rintro ⟨r,lo⟩ st1 ⟨c1,segs,k⟩
  dsimp only at c1 ⊢
  subst c1
  dsimp only
  obtain ⟨_,esz⟩:=szof k
  have ls:segs.length≤size:=by
   have:∀ l:List (List Keyed),(∀ g∈l,g≠[]∧Srt O ky ix g) -> l.length≤l.flatten.length:=by
    intro l
    induction l with
    | nil => intro _; exact Nat.le_refl _
    | cons g r ih =>
     intro hg
     have a:=ih fun x hx => hg x (List.mem_cons_of_mem _ hx)
     have b:=List.length_pos_iff.mpr (hg g List.mem_cons_self).1
     rw [List.length_cons,List.flatten_cons,List.length_append]
     trivial
   have:=this segs k.each
   simp at esz
   simp at this
   trivial
  refine wpS_bind (wpS_mono (wpS_forRange
   (I:=fun x c st' => c=(none,())∧∃ segs,Stk O ky ix kd (arrOf st0) st' segs []∧(segs.length≤1∨segs.length+x≤size))
   (Q:=fun c st' => c=(none,())∧∃ segs,Stk O ky ix kd (arrOf st0) st' segs []∧segs.length≤1) ?st2 ?fn2 ⟨rfl,segs,k,.inr (by trivial)⟩) ?ps2)
  case fn2 =>
   rintro c st' ⟨c1,segs,k,hor⟩
   exact ⟨c1,segs,k,by rcases hor with q | q <;> trivial⟩
  case ps2 =>
   rintro c st' ⟨rfl,segs,k,hle⟩
   refine wpS_pure (h st' k.perm k.fail ?_)
   rw [k.arr,List.append_nil]
   match segs,hle,k.each with
   | [],_,_ => exact List.Pairwise.nil
   | [g],_,he =>
    rw [List.flatten_cons,List.flatten_nil,List.append_nil]
    exact (he g List.mem_cons_self).2
  case st2 =>
   rintro x c st' _ hx ⟨rfl,segs,k,hor⟩
   have ps:=pend_size k
   refine wpS_bind (wpS_get ?_)
   by_cases hle:(pendingOf st').size≤1
   ·rw [if_pos hle]
    exact wpS_pure ⟨rfl,segs,k,by trivial⟩
   ·rw [if_neg hle]
    generalize hb:(if Option.any _ _=true then (pendingOf st').size - 2 - 1 else (pendingOf st').size - 2)=i
    have hi:=pick (show 2≤(pendingOf st').size by trivial) hb
    rw [ps] at hi
    obtain ⟨pre,F,G,post,rfl,hpl⟩:=snoc2 (by trivial) hi
    refine wpS_bind (wpS_mergeAt C hS k hpl.symm fun st2 M k2 ml => ?_)
    rw [if_neg (by decide)]
    refine wpS_pure ⟨rfl,pre++M :: post,k2,.inr ?_⟩
    simp only [List.length_append,List.length_cons] at hor hle ps ⊢
    trivial
 case step =>
  rintro x ⟨r,lo⟩ st1 _ hx ⟨c1,c2,segs,rest,k,kl,asc⟩
  dsimp only at c1 c2 kl ⊢
  subst c1
  obtain ⟨ea,er⟩:=szof k
  by_cases hge:lo ≥ size
  ·rw [if_pos hge]
   have:rest=[]:=List.eq_nil_of_length_eq_zero (by trivial)
   subst this
   exact wpS_pure ⟨rfl,segs,k⟩
  rw [if_neg hge]
  have lap0:Lap ix st1 lo 0 (size - lo):=by
   rw [← kl]
   exact lap_of_list k.arr (by trivial) asc
  refine wpS_bind (wpS_run C (ix:=ix) k.kind (allS k) (by trivial) (by trivial) lap0 fun n st2 ch n1 n2 up lap => ?_)
  have k2:=k.chg ch kl
  dsimp only
  by_cases hmr:n < minrun
  ·rw [if_pos hmr]
   refine wpS_bind (wpS_lift (wpAny_rule ⟨rfl,?_⟩))
   obtain ⟨ea2,_⟩:=szof k2
   refine wpS_bind (wpS_bin C k2.kind (allS k2) (by trivial) (by trivial) up (nrem:=size - lo) (by trivial) lap fun stB chB upB lapB => ?_)
   rw [if_neg (by decide)]
   have kB:=k2.chg chB kl
   generalize hfo:min (size - lo) minrun=force at upB lapB ⊢
   have es:=szof kB
   have hrl:((arrOf stB).toList.drop lo).length=size - lo:=by rw [List.length_drop,Array.length_toList]; trivial
   have hsr:Srt O ky ix (((arrOf stB).toList.drop lo).take (force)):=up_srt (by trivial) upB
   obtain ⟨hcr,hasc⟩:=lap_list lapB (by trivial) (by trivial)
   generalize (arrOf stB).toList.drop lo=rest2 at kB es hrl hsr hcr hasc
   refine wpS_bind (wpS_get ?_)
   cases hb:(pendingOf stB).back? with
   | none =>
    dsimp only
    refine wpS_bind (wpS_modify (wpS_pure ⟨rfl,by dsimp only; trivial,_,_,Stk.push kB kl (by trivial) (by trivial) hsr hcr rfl rfl rfl (by
     show (((pendingOf stB).push (lo,force,0)).toList.map two)=_
     rw [Array.toList_push,List.map_append]; rfl),?_,hasc⟩))
    dsimp only
    rw [List.flatten_append,List.length_append,kl]
    simp
    trivial
   | some q =>
    obtain ⟨s1,n1',w1'⟩:=q
    dsimp only
    refine wpS_bind (wpS_mono (wpS_forRange
     (I:=fun x c st' => c=(none,())∧∃ segs,Stk O ky ix kd (arrOf st0) st' segs rest2∧segs.flatten.length=lo)
     (Q:=fun c st' => c=(none,())∧∃ segs,Stk O ky ix kd (arrOf st0) st' segs rest2∧segs.flatten.length=lo) ?sA (fun _ _ z => z) ⟨rfl,segs,kB,kl⟩) ?pA)
    case sA =>
     rintro x' c st3 _ hx' ⟨rfl,segs3,k3,kl3⟩
     have ps:=pend_size k3
     refine wpS_bind (wpS_get ?_)
     cases ho:(if (pendingOf st3).size > 1 then (pendingOf st3)[(pendingOf st3).size - 2]? else none) with
     | none => exact wpS_pure ⟨rfl,segs3,k3,kl3⟩
     | some q3 =>
      obtain ⟨u1,u2,older⟩:=q3
      dsimp only
      have hp1:(pendingOf st3).size > 1:=by
       by_cases z:(pendingOf st3).size > 1
       ·exact z
       ·rw [if_neg z] at ho; cases ho
      split
      ·exact wpS_pure ⟨rfl,segs3,k3,kl3⟩
      ·obtain ⟨pre,F,G,post,rfl,hpl⟩:=snoc2 (l:=segs3) (i:=(pendingOf st3).size - 2) (by trivial) (.inl (by trivial))
       refine wpS_bind (wpS_mergeAt C hS k3 hpl.symm fun st4 M k4 ml => ?_)
       rw [if_neg (by decide)]
       exact wpS_pure ⟨rfl,pre++M :: post,k4,by rw [flat_join ml]; exact kl3⟩
    case pA =>
     rintro c st3 ⟨rfl,segs3,k3,kl3⟩
     dsimp only
     refine wpS_bind (wpS_modify ?_)
     refine wpS_bind (wpS_modify (wpS_pure ⟨rfl,by dsimp only; trivial,_,_,Stk.push k3 kl3 (by trivial) (by trivial) hsr hcr rfl rfl rfl (by
      show (((Array.modify (pendingOf st3) ((pendingOf st3).size - 1) _).push (lo,force,0)).toList.map two)=_
      rw [Array.toList_push,List.map_append,two_modify]; rfl),?_,hasc⟩))
     dsimp only
     rw [List.flatten_append,List.length_append,kl3]
     simp
     trivial
  ·rw [if_neg hmr]
   have es:=szof k2
   have hrl:((arrOf st2).toList.drop lo).length=size - lo:=by rw [List.length_drop,Array.length_toList]; trivial
   have hsr:Srt O ky ix (((arrOf st2).toList.drop lo).take (n)):=up_srt (by trivial) up
   obtain ⟨hcr,hasc⟩:=lap_list lap (by trivial) (by trivial)
   generalize (arrOf st2).toList.drop lo=rest2 at k2 es hrl hsr hcr hasc
   refine wpS_bind (wpS_get ?_)
   cases hb:(pendingOf st2).back? with
   | none =>
    dsimp only
    refine wpS_bind (wpS_modify (wpS_pure ⟨rfl,by dsimp only; trivial,_,_,Stk.push k2 kl (by trivial) (by trivial) hsr hcr rfl rfl rfl (by
     show (((pendingOf st2).push (lo,n,0)).toList.map two)=_
     rw [Array.toList_push,List.map_append]; rfl),?_,hasc⟩))
    dsimp only
    rw [List.flatten_append,List.length_append,kl]
    simp
    trivial
   | some q =>
    obtain ⟨s1,n1',w1'⟩:=q
    dsimp only
    refine wpS_bind (wpS_mono (wpS_forRange
     (I:=fun x c st' => c=(none,())∧∃ segs,Stk O ky ix kd (arrOf st0) st' segs rest2∧segs.flatten.length=lo)
     (Q:=fun c st' => c=(none,())∧∃ segs,Stk O ky ix kd (arrOf st0) st' segs rest2∧segs.flatten.length=lo) ?sA (fun _ _ z => z) ⟨rfl,segs,k2,kl⟩) ?pA)
    case sA =>
     rintro x' c st3 _ hx' ⟨rfl,segs3,k3,kl3⟩
     have ps:=pend_size k3
     refine wpS_bind (wpS_get ?_)
     cases ho:(if (pendingOf st3).size > 1 then (pendingOf st3)[(pendingOf st3).size - 2]? else none) with
     | none => exact wpS_pure ⟨rfl,segs3,k3,kl3⟩
     | some q3 =>
      obtain ⟨u1,u2,older⟩:=q3
      dsimp only
      have hp1:(pendingOf st3).size > 1:=by
       by_cases z:(pendingOf st3).size > 1
       ·exact z
       ·rw [if_neg z] at ho; cases ho
      split
      ·exact wpS_pure ⟨rfl,segs3,k3,kl3⟩
      ·obtain ⟨pre,F,G,post,rfl,hpl⟩:=snoc2 (l:=segs3) (i:=(pendingOf st3).size - 2) (by trivial) (.inl (by trivial))
       refine wpS_bind (wpS_mergeAt C hS k3 hpl.symm fun st4 M k4 ml => ?_)
       rw [if_neg (by decide)]
       exact wpS_pure ⟨rfl,pre++M :: post,k4,by rw [flat_join ml]; exact kl3⟩
    case pA =>
     rintro c st3 ⟨rfl,segs3,k3,kl3⟩
     dsimp only
     refine wpS_bind (wpS_modify ?_)
     refine wpS_bind (wpS_modify (wpS_pure ⟨rfl,by dsimp only; trivial,_,_,Stk.push k3 kl3 (by trivial) (by trivial) hsr hcr rfl rfl rfl (by
      show (((Array.modify (pendingOf st3) ((pendingOf st3).size - 1) _).push (lo,n,0)).toList.map two)=_
      rw [Array.toList_push,List.map_append,two_modify]; rfl),?_,hasc⟩))
     dsimp only
     rw [List.flatten_append,List.length_append,kl3]
     simp
     trivial
end
end TT
namespace TS
open PySem PyProof.Rows
section
variable (O:KeyOrd) (ky:Keyed -> O.α)
noncomputable def R (p q:Keyed):Prop:=O.kle (ky p) (ky q)
noncomputable def Srt (l:List Keyed):Prop:=l.Pairwise (R O ky)
end
section
variable {prog:Program} {w:World} {A:Around} {E:Value -> Shared -> Prop} {s:Shared}
variable {kd:SortKind} {O:KeyOrd} {ky:Keyed -> O.α} {S:Keyed -> Prop}
theorem wpS_sort (C:Cmp prog w A s kd O ky S) {st0:SortSt} {Q:Unit -> SortSt -> Prop} (hS:∀ p∈(arrOf st0).toList,S p) (hk:kindOf st0=kd) (hf:failedOf st0=none) (hp:pendingOf st0=#[])
  (h:∀ st',(arrOf st').Perm (arrOf st0) -> failedOf st'=none -> Srt O ky (arrOf st').toList -> Q () st'):wpS (model prog w) A E s sortRuns' Q st0 :=
 TT.wpS_sort (ix:=fun _ => 0) C hS hk hf hp (List.pairwise_iff_getElem.mpr fun _ _ _ _ _ => Nat.le_refl _) fun st' h1 h2 h3 => h st' h1 h2 (h3.imp fun r => r.1)
end
end TS
namespace TS
open PySem PyProof.Rows
section
variable {prog:Program} {w:World} {A:Around} {E:Value -> Shared -> Prop} {s:Shared}
variable {kd:SortKind} {O:KeyOrd} {ky:Keyed -> O.α} {S:Keyed -> Prop}
noncomputable def Rises (O:KeyOrd) (ky:Keyed -> O.α) (l:List Value):Prop:=l.Pairwise fun x y => O.kle (ky (x,x)) (ky (y,y))
theorem out_of {vs:List Value} {xs:Array Keyed} (hp:xs.Perm (pairsOf vs)) (hs:Srt O ky xs.toList):(xs.map (·.2)).toList.Perm vs∧Rises O ky (xs.map (·.2)).toList:=by
 have hl:xs.toList.Perm (vs.zip vs):=by rw [← pairsOf_toList]; exact Array.perm_iff_toList_perm.mp hp
 have same:∀ p∈xs.toList,p=(p.2,p.2):=fun p hp' => by
  have e:=(mem_zip_self (hl.mem_iff.mp hp')).1
  exact Prod.ext e rfl
 rw [Array.toList_map]
 refine ⟨?_,?_⟩
 ·have q:=hl.map (·.2)
  rwa [List.map_snd_zip (Nat.le_refl _)] at q
 ·unfold Rises
  rw [List.pairwise_map]
  unfold Srt at hs
  refine List.Pairwise.imp_of_mem ?_ hs
  intro p q h1 h2 r
  have e1:=same p h1
  have e2:=same q h2
  unfold R at r
  rw [e1,e2] at r
  exact r
theorem sort_tree {a:Addr} {vs:List Value} {n:Nat} {P:Fin -> Shared -> Prop} (ho:s.heap.get? a=some (seqObj "list" vs.toArray n)) (hz:vs.length≤sizeLine) (hS:∀ v∈vs,S (v,v))
  (hkk:∀ s':Shared,2≤vs.length -> (∀ b o,b≠a -> s.heap.get? b=some o -> s'.heap.get? b=some o) -> ∀ Q:SortKind -> Shared -> Prop,Q kd s' -> wpAny (model prog w) A (keyKind' vs.toArray) Q E s')
  (hC:∀ s':Shared,(∀ b o,b≠a -> s.heap.get? b=some o -> s'.heap.get? b=some o) -> Cmp prog w A s' kd O ky S)
  (h:∀ out:Array Value,out.toList.Perm vs -> Rises O ky out.toList -> P (.done (.ret .none)) { s with heap:=sortedHeap s.heap a vs out }) :
  wpAny (model prog w) A (Builtin.«list.sort» ⟨[.ref a],[]⟩) P E s:=by
 have ha:a < s.heap.objs.size:=Heap.lt_size ho
 have hsz:vs.toArray.size=vs.length:=by simp
 rw [list_sort_plain]
 refine wpAny_bind (listItems_at ho rfl (wpAny_bind (listUpdate_at ho rfl ?_ (by rw [hsz]; exact hz) (Nat.zero_le _))))
 have ho1:=get?_update_seq ho (fun _ => #[])
 generalize hh1:s.heap.update a (Obj.mapSeq fun _ => #[])=h1 at ho1 ⊢
 have hs1:h1.objs.size=s.heap.objs.size:=by rw [← hh1,Heap.size_update]
 have k1:∀ b o,b≠a -> s.heap.get? b=some o -> h1.get? b=some o:=fun b o hb e => by rw [← hh1,Heap.get?_update_ne _ _ _ _ hb]; exact e
 refine wpAny_bind (seqEpoch_at ho1 rfl (wpAny_bind (wpAny_newTuple (wpAny_bind (wpAny_newList (wpAny_holding ?_))) (by show vs.toArray.toList.length≤_; exact hz))))
 have ho3:((h1.push (seqObj "tuple" vs.toArray 0)).push (seqObj "list" #[] 0)).get? a=some (seqObj "list" #[] _):=Heap.get?_push_of_some _ (Heap.get?_push_of_some _ ho1)
 have k3:∀ b o,b≠a -> s.heap.get? b=some o -> ((h1.push (seqObj "tuple" vs.toArray 0)).push (seqObj "list" #[] 0)).get? b=some o:=fun b o hb e => Heap.get?_push_of_some _ (Heap.get?_push_of_some _ (k1 b o hb e))
 show wpAny (model prog w) A _ P E { s with heap:=(h1.push (seqObj "tuple" vs.toArray 0)).push (seqObj "list" #[] 0) }
 dsimp only
 have fin:∀ out:Array Value,out.toList.Perm vs -> Rises O ky out.toList -> P (.done (.ret .none)) { s with heap:=((h1.push (seqObj "tuple" vs.toArray 0)).push (seqObj "list" #[] 0)).update a (Obj.mapSeq fun _ => out) }:=fun out p r => by
  have:=h out p r
  unfold sortedHeap at this
  rw [hh1] at this
  exact this
 have olen:∀ out:Array Value,out.toList.Perm vs -> out.size≤sizeLine+1:=fun out p => by
  have:=p.length_eq
  rw [Array.length_toList] at this
  trivial
 by_cases h2:vs.toArray.size < 2
 ·rw [if_pos h2,if_pos h2]
  refine wpAny_bind (wpAny_pure ?_)
  rw [StateT.run_pure]
  refine wpAny_bind (wpAny_pure ?_)
  have hp:((vs.toArray.zip vs.toArray).map (·.2)).toList=vs:=by simp [List.map_snd_zip]
  dsimp only
  refine wpAny_bind (seqEpoch_at ho3 rfl (wpAny_bind (listUpdate_at ho3 rfl ?_ (Nat.zero_le _) (olen _ (by rw [hp])))))
  simp only [bne_self_eq_false,Bool.false_eq_true,if_false]
  refine wpAny_pure (fin _ (by rw [hp]) ?_)
  rw [hp]
  match vs,hsz ▸ h2 with
  | [],_ => exact List.Pairwise.nil
  | [v],_ => exact List.pairwise_singleton _ _
  | _ :: _ :: _,z => simp at z; trivial
 ·rw [if_neg h2,if_neg h2]
  refine wpAny_bind (hkk _ (by trivial) k3 _ ?_)
  refine wpAny_bind (wpAny_mono (wpS_sort (hC _ k3) (st0:=SortSt.mk' kd (vs.toArray.zip vs.toArray) #[] 7 none) (Q:=fun _ st' => (arrOf st').Perm (pairsOf vs)∧failedOf st'=none∧Srt O ky (arrOf st').toList) (fun p hp => ?_) rfl rfl rfl fun st' a1 a2 a3 => ⟨a1,a2,a3⟩) ?_ fun _ _ e => e)
  ·have hp':p∈vs.zip vs:=by
    have:p∈(pairsOf vs).toList:=hp
    rwa [pairsOf_toList] at this
   have e:=mem_zip_self hp'
   have:p=(p.1,p.1):=Prod.ext rfl e.1.symm
   rw [this]; exact hS _ e.2
  ·rintro ⟨⟨⟩,st'⟩ s' ⟨rfl,hp,hf,hs⟩
   obtain ⟨o1,o2⟩:=out_of hp hs
   dsimp only
   refine wpAny_bind (seqEpoch_at ho3 rfl (wpAny_bind (listUpdate_at ho3 rfl ?_ (Nat.zero_le _) (olen _ o1))))
   rw [hf]
   simp only [bne_self_eq_false,Bool.false_eq_true,if_false]
   exact wpAny_pure (fin _ o1 o2)
noncomputable def intOrd:KeyOrd where
 α:=Int
 blt:=fun a b => decide (a < b)
 irrefl:=fun a => by simp
 trans:=fun a b c h1 h2 => by simp at *; trivial
 negTrans:=fun a b c h => by simp at *; trivial
 total:=fun a b h1 h2 => by simp at *; trivial
noncomputable def intKy (p:Keyed):Int:=numOf p.1
theorem cmp_int:Cmp prog w A s oneType' intOrd intKy (fun p => ∃ n t,p.1=.int n t) where
 lt:=fun p q ⟨n,t,e1⟩ ⟨m,u,e2⟩ E Q h => by
  rw [e1,e2,keyLt'_oneType]
  refine oneLt_int ?_
  have:intOrd.blt (intKy p) (intKy q)=decide (n < m):=by
   show decide (numOf p.1 < numOf q.1)=_
   rw [e1,e2]; rfl
  rw [← this]; exact h
theorem sorted_gen {r:Value} {V:List Value -> Prop} {Q:Value -> Shared -> Prop} (hz:∀ vs,V vs -> vs.length≤sizeLine) (hS:∀ vs,V vs -> ∀ v∈vs,S (v,v))
  (hcol:∀ {E:Value -> Shared -> Prop} {R:List Value -> Shared -> Prop},(∀ (h':Heap) (tk:Nat) (vs:List Value),V vs -> (∀ b o,s.heap.get? b=some o -> h'.get? b=some o) -> R vs { s with heap:=h',toks:=tk }) -> wpAny (model prog w) A.in1 (collect r) R E s)
  (hkk:∀ (vs:List Value) (s':Shared),V vs -> 2≤vs.length -> (∀ b o,s.heap.get? b=some o -> s'.heap.get? b=some o) -> ∀ {A:Around} {E:Value -> Shared -> Prop} {Q:SortKind -> Shared -> Prop},Q kd s' -> wpAny (model prog w) A (keyKind' vs.toArray) Q E s')
  (hC:∀ s':Shared,(∀ b o,s.heap.get? b=some o -> s'.heap.get? b=some o) -> Cmp prog w A.in1.in1 s' kd O ky S)
  (h:∀ (h1 h':Heap) (tk:Nat) (vs:List Value) (out:Array Value) (n:Nat),V vs -> (∀ b o,s.heap.get? b=some o -> h1.get? b=some o) -> (∀ b o,h1.get? b=some o -> h'.get? b=some o) -> h'.get? h1.objs.size=some (seqObj "list" out n) -> out.toList.Perm vs -> Rises O ky out.toList -> Q (.ref h1.objs.size) { s with heap:=h',toks:=tk }) :
  wpAny (model prog w) A (call (.builtin "sorted") [r]) Q E s:=by
 refine Calls.call_function_entry kind_sorted plain_sorted entry_sorted (args_sorted1 _) ?_
 unfold Builtin.«sorted»
 refine wpAny_bind (m:=checkCount "sorted" 1 1 _) (wpAny_pure ?_)
 refine wpAny_bind (hcol fun h' tk vs hV hk => ?_)
 refine wpAny_bind (wpAny_newList ?_ (hz vs hV))
 have hoL:(h'.push (seqObj "list" vs.toArray 0)).get? h'.objs.size=some (seqObj "list" vs.toArray 0):=Heap.get?_push_size _ rfl
 have keep:∀ s':Shared,(∀ b o,b≠h'.objs.size -> (h'.push (seqObj "list" vs.toArray 0)).get? b=some o -> s'.heap.get? b=some o) -> ∀ b o,s.heap.get? b=some o -> s'.heap.get? b=some o:=fun s' k b o e =>
  k b o (Nat.ne_of_lt (Heap.lt_size (hk b o e))) (Heap.get?_push_of_some _ (hk b o e))
 refine wpAny_bind (wpAny_holding (wpAny_call_entry slot_list_sort ⟨_,hoL,rfl⟩ entry_list_sort (sort_tree hoL (hz vs hV) (hS vs hV) (fun s' h2 k Q q => hkk vs s' hV h2 (keep s' k) q) (fun s' k => hC s' (keep s' k)) fun out p r => ⟨_,rfl,?_⟩) (args_list_sort _)))
 refine wpAny_pure ⟨_,rfl,?_⟩
 have hu:=get?_update_seq hoL (fun _ => (#[]:Array Value))
 have hu2:=get?_update_seq (Heap.get?_push_of_some (seqObj "list" #[] 0) (Heap.get?_push_of_some (seqObj "tuple" vs.toArray 0) hu)) (fun _ => out)
 refine h h' (sortedHeap (h'.push (seqObj "list" vs.toArray 0)) h'.objs.size vs out) tk vs out _ hV hk (fun b o e => ?_) hu2 p r
 have hb:b≠h'.objs.size:=Nat.ne_of_lt (Heap.lt_size e)
 unfold sortedHeap
 rw [Heap.get?_update_ne _ _ _ _ hb]
 refine Heap.get?_push_of_some _ (Heap.get?_push_of_some _ ?_)
 rw [Heap.get?_update_ne _ _ _ _ hb]
 exact Heap.get?_push_of_some _ e
end
end TS
namespace L2
open PySem PySem.Spec PyProof.Rows PySem.W
theorem vals_intsAre:∀ {ns:List Int} {us:List Value},Vals (ns.map V.int) us -> IntsAre us ns
 | [],_,r => by
  rw [List.map_nil] at r
  cases r; exact .nil
 | n :: ns,_,r => by
  rw [List.map_cons] at r
  cases r with
  | cons h t =>
   obtain ⟨t',rfl⟩:=(show ∃ t,_=Value.int n t from h)
   exact .cons n t' (vals_intsAre t)
theorem intsAre_vals:∀ {us:List Value} {ns:List Int},IntsAre us ns -> Vals (ns.map V.int) us
 | _,_,.nil => .nil
 | _,_,.cons n t h => .cons ⟨t,rfl⟩ (intsAre_vals h)
theorem kk_ints {prog:Program} {w:World} {vs:List Value} {ns:List Int} (hI:IntsAre vs ns) (h2:2≤vs.length) {A:Around} {E:Value -> Shared -> Prop} {Q:SortKind -> Shared -> Prop} {s':Shared} (q:Q oneType' s'):wpAny (model prog w) A (keyKind' vs.toArray) Q E s':=by
 obtain ⟨v1,v2,rest,rfl⟩:∃ v1 v2 rest,vs=v1 :: v2 :: rest:=by
  match vs,h2 with
  | v1 :: v2 :: rest,_ => exact ⟨v1,v2,rest,rfl⟩
 rw [keyKind_ints hI]
 exact wpAny_pure q
end L2
namespace PH
open PySem L2 PySem.W
theorem boot_sorted':bootBuiltins "sorted" = some (.builtin "sorted"):=by decide +kernel
structure Prs (H:Hp) (p:Addr) (zs:List (Addr×Int×Int)):Prop where
 at_:H p=some (.lst (zs.map fun z => V.ref z.1))
 each:∀ z∈zs,H z.1=some (.tup [.int z.2.1,.int z.2.2])
noncomputable def pD (c:Int×Int):DV:=.tup [.int c.1,.int c.2]
noncomputable def prD (cs:List (Int×Int)):DV:=.lst (cs.map pD)
theorem Prs.same {H H':Hp} {p:Addr} {zs:List (Addr×Int×Int)} (h:Prs H p zs) (s:Same H H'):Prs H' p zs:=⟨s _ _ h.at_,fun z hz => s _ _ (h.each z hz)⟩
theorem deeps_prs {K:Frag} {H:Hp}:∀ {zs:List (Addr×Int×Int)},(∀ z∈zs,H z.1=some (.tup [.int z.2.1,.int z.2.2])) -> Deeps K H (zs.map fun z => V.ref z.1) ((zs.map (·.2)).map pD)
 | [],_ => .nil
 | z :: r,h => .cons (.tup (SqT.of (h z List.mem_cons_self)) (.cons (.int _) (.cons (.int _) .nil))) (deeps_prs fun y hy => h y (List.mem_cons_of_mem _ hy))
theorem Prs.deep {K:Frag} {H:Hp} {p:Addr} {zs:List (Addr×Int×Int)} (h:Prs H p zs):Deep K H (.ref p) (prD (zs.map (·.2))):=.lst (SqL.of h.at_) (deeps_prs h.each)
theorem ht_pD (c:Int×Int):ht (pD c)≤2:=by
 unfold pD
 rw [ht_tup]
 unfold hts hts hts ht
 decide
theorem hts_pD:∀ cs:List (Int×Int),hts (cs.map pD)≤2
 | [] => by unfold List.map hts; decide
 | c :: r => by
  rw [List.map_cons]
  unfold hts
  have:=ht_pD c
  have:=hts_pD r
  trivial
theorem ht_prD (cs:List (Int×Int)):ht (prD cs)≤60:=by
 unfold prD
 rw [ht_lst]
 have:=hts_pD cs
 trivial
noncomputable def cntD (ks pre:List Int):List (Key×V):=ks.map fun j => (Sum.inl j,V.int (pre.count j:Int))
theorem valV_cntD {pre:List Int} {k:Int}:∀ {ks:List Int},valV (cntD ks pre) (Sum.inl k)=if k∈ks then some (.int (pre.count k:Int)) else none
 | [] => rfl
 | j :: r => by
  show valV ((Sum.inl j,V.int (pre.count j:Int)) :: cntD r pre) (Sum.inl k)=_
  by_cases h:j=k
  ·subst h
   rw [valV_pos rfl,if_pos List.mem_cons_self]
  ·rw [valV_neg (by intro z; exact h (Sum.inl.inj z)),valV_cntD]
   by_cases hk:k∈r
   ·rw [if_pos hk,if_pos (List.mem_cons_of_mem _ hk)]
   ·rw [if_neg hk,if_neg (by intro z; rcases List.mem_cons.mp z with e | e; exact h e.symm; exact hk e)]
theorem count_snoc (pre:List Int) (k j:Int):((pre++[k]).count j:Int)=(pre.count j:Int)+if j=k then 1 else 0:=by
 rw [List.count_append]
 by_cases h:j=k
 ·subst h; simp
 ·rw [if_neg h]
  have:List.count j [k]=0:=by
   rw [List.count_eq_zero]
   simpa using h
  rw [this]; trivial
theorem put_cntD {ks pre:List Int} {k:Int} (hm:∀ j,j∈ks ↔ j∈pre):putK (cntD ks pre) (Sum.inl k) (.int ((pre.count k:Int)+1))=cntD (if k∈ks then ks else ks++[k]) (pre++[k]):=by
 by_cases h:k∈ks
 ·rw [if_pos h]
  unfold putK
  rw [valV_any,valV_cntD,if_pos h,if_pos (show (some (V.int (pre.count k:Int))).isSome=true from rfl)]
  unfold cntD
  rw [List.map_map]
  apply List.map_congr_left
  intro j _
  show (if (Sum.inl j:Key)=Sum.inl k then _ else _)=_
  by_cases e:j=k
  ·subst e
   rw [if_pos rfl,count_snoc,if_pos rfl]
  ·rw [if_neg (fun z => e (Sum.inl.inj z)),count_snoc,if_neg e,Int.add_zero]
 ·rw [if_neg h]
  unfold putK
  rw [valV_any,valV_cntD,if_neg h,if_neg (by simp)]
  unfold cntD
  rw [List.map_append]
  congr 1
  ·apply List.map_congr_left
   intro j hj
   have e:¬ j=k:=fun z => h (by rw [← z]; exact hj)
   rw [count_snoc,if_neg e,Int.add_zero]
  ·show [_]=[((Sum.inl k:Key),V.int ((pre++[k]).count k:Int))]
   rw [count_snoc,if_pos rfl]
theorem ref_at {zs:List (Addr×Int×Int)} {i:Nat} {y:V} (h:(zs.map fun z => V.ref z.1)[i]?=some y):∃ z,zs[i]?=some z∧y=V.ref z.1:=by
 rw [List.getElem?_map] at h
 cases e:zs[i]? with
 | none => rw [e] at h; cases h
 | some z => rw [e] at h; exact ⟨z,rfl,(Option.some.inj h).symm⟩
end PH
namespace L2
open PySem PySem.Spec PyProof.Rows PySem.W
section
variable {X:Cx}
noncomputable def lexB (a b:Int×Int):Bool:=decide (a.1 < b.1) || (decide (a.1=b.1) && decide (a.2 < b.2))
noncomputable def lexLe (a b:Int×Int):Prop:=a.1 < b.1∨(a.1=b.1∧a.2≤b.2)
theorem lexB_iff {a b:Int×Int}:lexB a b=true ↔ a.1 < b.1∨(a.1=b.1∧a.2 < b.2):=by unfold lexB; simp
theorem lexB_not {a b:Int×Int}:lexB a b=false ↔ lexLe b a:=by
 have h:=@lexB_iff a b
 cases e:lexB a b with
 | true =>
  have:=h.mp e
  constructor
  ·intro z; cases z
  ·intro z; unfold lexLe at z; trivial
 | false =>
  constructor
  ·intro _
   unfold lexLe
   have:¬ (a.1 < b.1∨(a.1=b.1∧a.2 < b.2)):=fun z => by rw [h.mpr z] at e; cases e
   trivial
  ·intro _; rfl
noncomputable def lexOrd:KeyOrd where
 α:=Int×Int
 blt:=lexB
 irrefl:=fun a => lexB_not.mpr (by unfold lexLe; trivial)
 trans:=fun a b c h1 h2 => lexB_iff.mpr (by have:=lexB_iff.mp h1; have:=lexB_iff.mp h2; trivial)
 negTrans:=fun a b c h => by
  rw [lexB_iff,lexB_iff]
  have:=lexB_iff.mp h
  trivial
 total:=fun a b h1 h2 => by
  have h1:=lexB_not.mp h1
  have h2:=lexB_not.mp h2
  unfold lexLe at h1 h2
  exact Prod.ext (by trivial) (by trivial)
theorem perm_map {α β:Type} (f:α -> β):∀ {l l':List β},l.Perm l' -> ∀ zs:List α,l'=zs.map f -> ∃ zs':List α,zs'.Perm zs∧l=zs'.map f:=by
 intro l l' h
 induction h with
 | nil => intro zs e; exact ⟨zs,List.Perm.refl _,e⟩
 | cons x _ ih =>
  intro zs e
  cases zs with
  | nil => cases e
  | cons z r =>
   injection e with e1 e2
   obtain ⟨r',p,q⟩:=ih r e2
   exact ⟨z :: r',p.cons z,by rw [List.map_cons,e1,q]⟩
 | swap x y t =>
  intro zs e
  match zs,e with
  | z1 :: z2 :: r,e =>
   injection e with e1 e2
   injection e2 with e2 e3
   exact ⟨z2 :: z1 :: r,List.Perm.swap _ _ _,by rw [List.map_cons,List.map_cons,e1,e2,e3]⟩
  | [z],e => simp at e
  | [],e => simp at e
 | trans _ _ ih1 ih2 =>
  intro zs e
  obtain ⟨z2,p2,q2⟩:=ih2 zs e
  obtain ⟨z1,p1,q1⟩:=ih1 z2 q2
  exact ⟨z1,p1.trans p2,q1⟩
noncomputable def pky (zs:List (Addr×Int×Int)) (p:Keyed):Int×Int:=match p.1 with
 | .ref a => ((zs.find? fun z => decide (z.1=a)).map (·.2)).getD (0,0)
 | _ => (0,0)
theorem pky_at {zs:List (Addr×Int×Int)} (same:∀ z∈zs,∀ y∈zs,z.1=y.1 -> z.2=y.2) {z:Addr×Int×Int} (hz:z∈zs) (v:Value):pky zs (.ref z.1,v)=z.2:=by
 show ((zs.find? fun y => decide (y.1=z.1)).map (·.2)).getD (0,0)=z.2
 cases e:zs.find? fun y => decide (y.1=z.1) with
 | none =>
  have:=List.find?_eq_none.mp e z hz
  simp at this
 | some y =>
  have h1:=List.mem_of_find?_eq_some e
  have h2:y.1=z.1:=by simpa using List.find?_some e
  exact same y h1 z hz h2
noncomputable def PairAt (h:Heap) (z:Addr×Int×Int):Prop:=∃ o n t u,h.get? z.1=some o∧o.cls=.type "tuple"∧o.data=.seq #[.int z.2.1 t,.int z.2.2 u] n
theorem PairAt.keeps {h h':Heap} {z:Addr×Int×Int} (p:PairAt h z) (k:∀ b o,h.get? b=some o -> h'.get? b=some o):PairAt h' z:=by
 obtain ⟨o,n,t,u,e,r⟩:=p
 exact ⟨o,n,t,u,k _ _ e,r⟩
theorem katTups_of {h:Heap}:∀ {zs:List (Addr×Int×Int)},(∀ z∈zs,PairAt h z) -> ∃ fs,KatTups h (zs.map fun z => Value.ref z.1) fs∧fs.length=zs.length∧∀ v∈fs,∃ n t,v=Value.int n t
 | [],_ => ⟨[],.nil,rfl,fun _ z => by cases z⟩
 | z :: r,hh => by
  obtain ⟨fs,k,l,a⟩:=katTups_of (zs:=r) fun y hy => hh y (List.mem_cons_of_mem _ hy)
  obtain ⟨o,n,t,u,e,c,d⟩:=hh z List.mem_cons_self
  refine ⟨Value.int z.2.1 t :: fs,.cons e c d rfl k,by rw [List.length_cons,List.length_cons,l],fun v hv => ?_⟩
  rcases List.mem_cons.mp hv with q | q
  ·exact ⟨_,_,q⟩
  ·exact a v q
theorem eqBool_int {prog:Program} {w:World} {A:Around} {E:Value -> Shared -> Prop} {s:Shared} {a b:Int} {t u:Tok} {Q:Bool -> Shared -> Prop} (h:Q (decide (a=b)) s):wpAny (model prog w) A (eqBool (.int a t) (.int b u)) Q E s:=wpAny_eqBool_int (by rw [show (a == b)=decide (a=b) from Bool.beq_eq_decide_eq a b]; exact h)
theorem oneLt_any {prog:Program} {w:World} {A:Around} {E:Value -> Shared -> Prop} {s:Shared} {b:Bool} {x y:Int} {t u:Tok} {Q:Bool -> Shared -> Prop} (h:Q (decide (x < y)) s):wpAny (model prog w) A (oneLt' b (.int x t) (.int y u)) Q E s:=by
 cases b with
 | true => exact oneLt_int h
 | false => exact kat_one _ _ (lt_int h)
theorem cmp_pair {prog:Program} {w:World} {A:Around} {s:Shared} {zs:List (Addr×Int×Int)} {b:Bool} (same:∀ z∈zs,∀ y∈zs,z.1=y.1 -> z.2=y.2) (hh:∀ z∈zs,PairAt s.heap z):TS.Cmp prog w A s (tuples' b) lexOrd (pky zs) (fun p => ∃ z∈zs,p.1=.ref z.1) where
 lt:=fun p q ⟨z,hz,e1⟩ ⟨y,hy,e2⟩ {E Q} h => by
  obtain ⟨p1,p2⟩:=p
  obtain ⟨q1,q2⟩:=q
  dsimp only at e1 e2
  subst e1 e2
  rw [pky_at same hz,pky_at same hy] at h
  obtain ⟨o,n,t,u,g1,_,d1⟩:=hh z hz
  obtain ⟨o',n',t',u',g2,_,d2⟩:=hh y hy
  refine kat_lt g1 d1 g2 d2 ?_
  show KatLex prog w A b _ Q [(.int z.2.1 t,.int y.2.1 t'),(.int z.2.2 u,.int y.2.2 u')] 0 s
  have hb:lexOrd.blt z.2 y.2=lexB z.2 y.2:=rfl
  rw [hb] at h
  unfold lexB at h
  refine kat_cons (eqBool_int ?_)
  by_cases c:z.2.1=y.2.1
  ·rw [decide_eq_true c]
   refine kat_yes (kat_cons (eqBool_int ?_))
   rw [decide_eq_false (show ¬ z.2.1 < y.2.1 by trivial),decide_eq_true c,Bool.false_or,Bool.true_and] at h
   by_cases c2:z.2.2=y.2.2
   ·rw [decide_eq_true c2]
    refine kat_yes (kat_nil ?_)
    rw [decide_eq_false (show ¬ z.2.2 < y.2.2 by trivial)] at h
    exact h
   ·rw [decide_eq_false c2]
    exact kat_no (oneLt_any h)
  ·rw [decide_eq_false c]
   rw [decide_eq_false c,Bool.false_and,Bool.or_false] at h
   exact kat_no (oneLt_any h)
noncomputable def rSortT (K:Frag):List V -> Hp -> VK -> Prop:=fun xs H Q => ∃ (p:Addr) (zs:List (Addr×Int×Int)),xs=[.ref p]∧SqL K H p (zs.map fun z => V.ref z.1)∧(∀ z∈zs,SqT K H z.1 [.int z.2.1,.int z.2.2]) ∧
 ∀ (zs':List (Addr×Int×Int)) (q:Addr),zs'.Perm zs -> (zs'.map (·.2)).Pairwise lexLe -> H q=none -> Q (.ref q) (upd H q (.lst (zs'.map fun z => V.ref z.1)))
theorem vals_refs:∀ {zs:List (Addr×Int×Int)} {us:List Value},Vals (zs.map fun z => V.ref z.1) us -> us=zs.map fun z => Value.ref z.1
 | [],_,r => by
  rw [List.map_nil] at r
  cases r; rfl
 | z :: zs,_,r => by
  rw [List.map_cons] at r
  cases r with
  | cons h t =>
   have h':_=Value.ref z.1:=h
   rw [h',vals_refs t]; rfl
theorem refs_vals:∀ (zs:List (Addr×Int×Int)),Vals (zs.map fun z => V.ref z.1) (zs.map fun z => Value.ref z.1)
 | [] => .nil
 | z :: zs => .cons rfl (refs_vals zs)
theorem call_sortedT:CallR X (.builtin "sorted") (rSortT X.K):=by
 intro pins s σ H xs us Q I r h
 obtain ⟨a,zs,rfl,hq,hz,q⟩:=h
 obtain ⟨u,rfl,rx⟩:=vals1 r
 cases rx
 obtain ⟨its,r',pl,hzl⟩:=I.list hq
 obtain ⟨o,ho,hcl,n,hd⟩:=pl.isList
 have hits:=vals_refs r'
 subst hits
 rw [List.length_map] at hzl
 have hpa:∀ z∈zs,PairAt s.heap z:=fun z hm => by
  obtain ⟨its2,rv,⟨o2,e2,c2,n2,d2⟩,_⟩:=I.tuple (hz z hm)
  cases rv with
  | cons h1 t1 =>
   cases t1 with
   | cons h2 t2 =>
    cases t2
    obtain ⟨t,rfl⟩:=(show ∃ t,_=Value.int z.2.1 t from h1)
    obtain ⟨u,rfl⟩:=(show ∃ t,_=Value.int z.2.2 t from h2)
    exact ⟨o2,n2,t,u,e2,c2,d2⟩
 have same:∀ z∈zs,∀ y∈zs,z.1=y.1 -> z.2=y.2:=fun z h1 y h2 e => by
  have e1:=hz z h1
  have e2:=hz y h2
  rw [← e] at e2
  have:=I.tuple_inj e1 e2
  injection this with a1 a2
  injection a1 with a1
  injection a2 with a2 _
  injection a2 with a2
  exact Prod.ext a1 a2
 refine TS.sorted_gen (kd:=tuples' (Value.type "int" != Value.type "tuple")) (O:=lexOrd) (ky:=pky zs) (S:=fun p => ∃ z∈zs,p.1=.ref z.1) (V:=fun vs => vs=zs.map fun z => Value.ref z.1)
  (fun vs e => by rw [e,List.length_map]; exact hzl) (fun vs e v hv => ?_) (fun {E R} k => ?_) (fun vs s' e h2 kp {A' E' Q'} qq => ?_) (fun s' kp => cmp_pair same fun z hm => (hpa z hm).keeps kp) (fun h1 h' tk vs out n e k1 k2 g p rr => ?_)
 ·rw [e] at hv
  obtain ⟨z,hm,rfl⟩:=List.mem_map.mp hv
  exact ⟨z,hm,rfl⟩
 ·exact wpAny_collect_seq a (.inl rfl) ho hcl hd (fun h' kp => by have:=k h' s.toks _ rfl kp; simpa using this) (by simp; trivial)
 ·rw [e]
  obtain ⟨fs,f1,f2,f3⟩:=katTups_of (h:=s'.heap) fun z hm => (hpa z hm).keeps kp
  refine kat_kind (T:=.type "int") f1 (by rw [f2]; rw [e,List.length_map] at h2; trivial) (fun v hv => ?_) (by rfl) qq
  obtain ⟨m,t,rfl⟩:=f3 v hv
  exact .now
 ·subst e
  obtain ⟨zs',p1,p2⟩:=perm_map (fun z:Addr×Int×Int => Value.ref z.1) p zs rfl
  have I1:Inv X pins σ H { s with heap:=h1 }:=I.kept (t':=s.toks) k1
  refine ⟨.ref h1.objs.size,_,I1.laid (a:=h1.objs.size) (o:=.lst (zs'.map fun z => V.ref z.1)) (t':=tk) k2 (Nat.le_refl _) ?_,rfl,q zs' _ p1 ?_ (I1.hok.fresh (Nat.le_refl _))⟩
  ·refine ⟨by rw [List.length_map,p1.length_eq]; exact hzl,_,n,refs_vals zs',?_⟩
   rw [← p2,Array.toArray_toList]; exact g
  ·unfold TS.Rises at rr
   rw [p2,List.pairwise_map] at rr
   rw [List.pairwise_map]
   refine List.Pairwise.imp_of_mem ?_ rr
   intro x y hx hy hk
   have hx':=p1.mem_iff.mp hx
   have hy':=p1.mem_iff.mp hy
   have hk':lexB (pky zs (.ref y.1,.ref y.1)) (pky zs (.ref x.1,.ref x.1))=false:=hk
   rw [pky_at same hx',pky_at same hy'] at hk'
   exact lexB_not.mp hk'
end
end L2
namespace PH
open L2
theorem lexLe_trans {a b c:Int×Int} (h1:lexLe a b) (h2:lexLe b c):lexLe a c:=by unfold lexLe at *; trivial
theorem lexLe_anti {a b:Int×Int} (h1:lexLe a b) (h2:lexLe b a):a=b:=by
 unfold lexLe at *
 exact Prod.ext (by trivial) (by trivial)
theorem lexLe_refl (a:Int×Int):lexLe a a:=by unfold lexLe; trivial
theorem lexLe_total (a b:Int×Int):lexLe a b∨lexLe b a:=by unfold lexLe; trivial
theorem sorted_unique:∀ {a b:List (Int×Int)},a.Perm b -> a.Pairwise lexLe -> b.Pairwise lexLe -> a=b
 | [],b,p,_,_ => by
  have:=p.length_eq
  cases b with
  | nil => rfl
  | cons _ _ => simp at this
 | x :: xs,[],p,_,_ => by have:=p.length_eq; simp at this
 | x :: xs,y :: ys,p,ha,hb => by
  obtain ⟨a1,a2⟩:=List.pairwise_cons.mp ha
  obtain ⟨b1,b2⟩:=List.pairwise_cons.mp hb
  have hx:x=y:=by
   have m1:x∈y :: ys:=p.mem_iff.mp List.mem_cons_self
   have m2:y∈x :: xs:=p.mem_iff.mpr List.mem_cons_self
   have l1:lexLe x y:=by
    rcases List.mem_cons.mp m2 with e | e
    ·rw [e]; exact lexLe_refl _
    ·exact a1 y e
   have l2:lexLe y x:=by
    rcases List.mem_cons.mp m1 with e | e
    ·rw [e]; exact lexLe_refl _
    ·exact b1 x e
   exact lexLe_anti l1 l2
  subst hx
  rw [sorted_unique (List.Perm.cons_inv p) a2 b2]
noncomputable def srt (T:List (Int×Int)):List (Int×Int):=T.mergeSort fun a b => !lexB b a
theorem srt_perm (T:List (Int×Int)):(srt T).Perm T:=List.mergeSort_perm _ _
theorem srt_sorted (T:List (Int×Int)):(srt T).Pairwise lexLe:=by
 have h:=List.pairwise_mergeSort (le:=fun a b => !lexB b a) (fun a b c h1 h2 => by
  simp only [Bool.not_eq_true'] at h1 h2 ⊢
  exact lexB_not.mpr (lexLe_trans (lexB_not.mp h1) (lexB_not.mp h2))) (fun a b => by
  simp only [Bool.or_eq_true,Bool.not_eq_true']
  rcases lexLe_total a b with h | h
  ·exact .inl (lexB_not.mpr h)
  ·exact .inr (lexB_not.mpr h)) T
 refine List.Pairwise.imp (fun {a b} q => ?_) h
 simp only [Bool.not_eq_true'] at q
 exact lexB_not.mp q
theorem srt_eq {S T:List (Int×Int)} (p:S.Perm T) (h:S.Pairwise lexLe):S=srt T:=sorted_unique (p.trans (srt_perm T).symm) h (srt_sorted T)
theorem srt_len (T:List (Int×Int)):(srt T).length=T.length:=(srt_perm T).length_eq
noncomputable def swp (p:Int×Int):Int×Int:=(p.2,p.1)
noncomputable def things (js:List (Int×Int)):List Int:=js.flatMap fun p => [p.1,p.2]
end PH
namespace PH
open PySem L2 PySem.W
theorem Prs.ne {H:Hp} {p:Addr} {zs:List (Addr×Int×Int)} (h:Prs H p zs) {q:Addr} {xs:List V} (hq:H q=some (.lst xs)):∀ z∈zs,z.1≠q:=fun z hz e => by
 have:=h.each z hz
 rw [e,hq] at this
 cases this
theorem Prs.app {H:Hp} {p t:Addr} {zs:List (Addr×Int×Int)} {a b:Int} (h:Prs H p zs) (ht:H t=some (.tup [.int a,.int b])):Prs (upd H p (.lst ((zs.map fun z => V.ref z.1)++[V.ref t]))) p (zs++[(t,a,b)]):=by
 have n1:=h.ne h.at_
 have n2:t≠p:=fun e => by rw [e,h.at_] at ht; cases ht
 refine ⟨by rw [upd_same,List.map_append]; rfl,fun z hz => ?_⟩
 rcases List.mem_append.mp hz with q | q
 ·rw [upd_ne (n1 z q)]; exact h.each z q
 ·have:z=(t,a,b):=by simpa using q
  subst this
  rw [upd_ne n2]; exact ht
end PH
namespace PH
open PySem L2 PySem.W
noncomputable def RiseC (cs:List (Int×Int)):Prop:=(cs.map (·.1)).Pairwise (· < ·)∧∀ c∈cs,0≤c.1∧c.1≤255∧1≤c.2
end PH
namespace L2
open PySem PySem.Spec PyProof.Rows
theorem ps_setC {X:Cx} {elt tg iter:Expr} {ifs:List Expr} {scope:Scope} {pos:Pos} {N:List Str} {js:List (Option Nat)} {wi:TI} {g:TG} {tc:TT} {te:TE} {y:Str} {iy:Nat} {py spos:Pos} (hN:X.N.Nodup) (hiy:X.N[iy]?=some y) (hy:X.env.scope.names.lookup y=some .local) (hcalm:X.calm=true) (S:CompScope X N js scope)
  (hi:PI X tg iter wi) (hg:∀ C s H fp,PG (compCx X N scope C s H fp) tg g) (ht:∀ C s H fp,PIfs (compCx X N scope C s H fp) ifs tc) (he:∀ C s H fp,PE (compCx X N scope C s H fp) elt te)
  (hs:∀ x,foldedSetIterable iter X.env x=pure x:=by intro _; rfl) (hsw:swapsWith (.ListComp elt [⟨tg,iter,ifs,0⟩] scope pos) (some (.Name y py)) spos.line X.env=pure true:=by rfl) :
  PS X (.Assign [.Name y py] (.ListComp elt [⟨tg,iter,ifs,0⟩] scope pos) spos) (tAsg (tComp js wi g tc te) (gName iy)):=by
 intro pins s σ H ED I h
 have hc:∀ x∈scope.names,x.2=.free -> ∃ c,X.env.cells.lookup x.1=some c:=fun x hx e => I.ok.has _ (S.free x hx e)
 rw [exec_Assign_Name_used _ _ _ _ hsw]
 refine wpAny_bind (wpAny_standAt (wpAny_bind ?_))
 show wpAny _ X.A (do let _ ← comprehension (.ListComp elt [⟨tg,iter,ifs,0⟩] scope pos) scope X.env _ (newList []) false (eval iter X.env) (some (assign (.Name y py) X.env))) _ _ s
 refine wpAny_bind (wpAny_mono (Q:=fun _ s' => SP X pins ED .next s') ?_ (fun _ s' hq => wpAny_pure (wpAny_pure hq)) fun _ _ e => e)
 refine wpAny_comprehension_free (use:=some (assign (.Name y py) X.env)) rfl hs (clos_eq hc) S.kind S.locs (thn (hi pins s σ H _ I h) fun v s1 h1 => thn h1 fun itv s2 h2 => ?_)
 obtain ⟨it,fp,tn,J,H2,e,I2,T,st2,f2,q⟩:=h2
 subst e
 refine wpAny_newObj_type (wpAny_newFunctionEnv S.nocell (by intro y hy; simp at hy) (fun h₁ hns₁ hsb₁ => ?_) S.kind)
 dsimp only at hns₁ hsb₁ ⊢
 generalize hH2:s2.heap.push { cls:=.type "list",dict:=none,data:=.seq ([]:List Value).toArray }=G2 at hns₁ hsb₁ ⊢
 have hC:G2.objs.size=s2.heap.objs.size+1:=by rw [← hH2,Heap.size_push]
 have hDC:s2.heap.objs.size≠G2.objs.size:=by rw [hC]; exact Nat.ne_of_lt (Nat.lt_succ_self _)
 have hC0:s2.heap.objs.size≤G2.objs.size:=by rw [hC]; exact Nat.le_succ _
 have below:∀ b,b < s2.heap.objs.size -> b≠G2.objs.size:=fun b hb => by rw [hC]; exact Nat.ne_of_lt (Nat.lt_succ_of_lt hb)
 have old:∀ b o,s2.heap.get? b=some o -> h₁.get? b=some o:=fun b o e => hsb₁.extBut b o (below b (Heap.lt_size e)) (Heap.get?_push_of_some _ (hH2 ▸ Heap.get?_push_of_some _ e))
 have hacc:h₁.get? s2.heap.objs.size=some { cls:=.type "list",data:=.seq ([]:List Value).toArray }:=hsb₁.extBut _ _ hDC (Heap.get?_push_of_some _ (hH2 ▸ Heap.get?_push_size _ rfl))
 have hfp:∀ b∈fp,b < s2.heap.objs.size:=fun b hb => by obtain ⟨o,e,_⟩:=T.obj 0 _ st2 b hb; exact Heap.lt_size e
 obtain ⟨W,⟨m0,w0⟩,turn⟩:=q s2.heap.objs.size (I2.hok.fresh (Nat.le_refl _))
 have stat:∀ {H':Hp},(∀ b∈fp,H' b=none) -> ∀ b∈fp,FpOk (compCx X N scope G2.objs.size s2 H2 fp) [] H' b:=fun {H'} hn b hb =>
  ⟨hn b hb,below b (hfp b hb),fun z => by
   rcases List.mem_cons.mp (I2.stkSub b z) with q | q
   ·exact (f2 b hb).2.1 q
   ·exact (f2 b hb).2.2.1 q,.inl hb,fun x c e => (f2 b hb).2.2.2.2.1 x c (clos_sub _ _ (fun _ _ z => by simp at z) e),fun p hp => absurd hp (by simp [compCx])⟩
 have loop:∀ s3:Shared,s3={ s2 with heap:=h₁,toks:=s2.toks+([]:List (Str×Value)).length } →
   codeAny (model X.prog X.w) X.A (.compLoop (.ListComp elt [⟨tg,iter,ifs,0⟩] scope pos) 0 (.ref it) (.ref s2.heap.objs.size) (compEnvC scope (clos X.env.cells scope.names []) G2.objs.size X.env))
    (compPost (model X.prog X.w) X.A X.xe (some (assign (.Name y py) X.env)) (fun _ s' => SP X pins ED .next s') (.ref s2.heap.objs.size) G2.objs.size) s3:=by
  rintro s3 rfl
  have I3:Inv (compCx X N scope G2.objs.size s2 H2 fp) [] (innerSt js σ) (upd H2 s2.heap.objs.size (.lst [])) { s2 with heap:=h₁,toks:=s2.toks+([]:List (Str×Value)).length } :=
   inv_comp S I2 f2 hfp old (Nat.le_refl _) hC0 hDC ⟨_,hacc⟩ hns₁
  refine compLoop_gen (fun n s' => ∃ i σ' H',Inv (compCx X N scope G2.objs.size s2 H2 fp) [] σ' H' s'∧tn i s'.heap∧(∀ b∈fp,H' b=none)∧W i n σ' H') ?_ m0
   ⟨0,_,_,I3,T.keep 0 _ _ st2 fun b _ o e => old b o e,fun b hb => by rw [upd_ne (Nat.ne_of_lt (hfp b hb))]; exact (f2 b hb).1,w0⟩
  rintro n s4 ⟨i,σ4,H4,I4,st4,fr4,w4⟩
  rcases turn i n σ4 H4 w4 with ⟨stop,qn⟩ | ⟨go,step⟩
  ·refine thn (T.done (compCx X N scope G2.objs.size s2 H2 fp) rfl rfl rfl hcalm i [] s4 σ4 H4 (fun _ _ => False) I4 (stat fr4) st4 stop) fun r s5 ⟨hr,I5⟩ => ?_
   subst hr
   obtain ⟨m5,n5,_⟩:=I5.loc
   have hos:s5.os=s2.os:=I5.os
   obtain ⟨hh,gg,dd,tt,os5⟩:=s5
   obtain rfl:os5=s2.os:=hos
   have sb:Heap.SameBut G2.objs.size hh hh:=⟨rfl,fun _ _ => rfl⟩
   have un:Un (frs X.stack) fp H2 H4 s2.heap hh:=by
    have u:=I5.base
    have nC:∀ b o,s2.heap.get? b=some o -> b≠G2.objs.size:=fun b o e => below b (Heap.lt_size e)
    exact ⟨fun b o e n hf hx => sb.extBut b o (nC b o e) (u.keep b o e n hf hx),fun b o e n hf hx => by
      obtain ⟨sl,z⟩:=u.slot b o e n hf hx
      exact ⟨sl,sb.extBut b _ (nC b o e) z⟩,u.free,fun b o e hx => by
      obtain ⟨o',z⟩:=u.there b o e hx
      exact ⟨o',sb.extBut b _ (nC b o e) z⟩,u.tups,u.frzs,u.tbls⟩
   have hok:HOk X.prog X.w H4 hh:=fun b ob e => (I5.hok b ob e).stay (fun c v hcv z => sb.extBut c v (fun q => by
    rcases hcv with hcv | hcv
    ·rw [← hcv,q] at e
     have:=I5.free
     have this':H4 G2.objs.size=none:=this
     rw [e] at this'; cases this'
    ·rw [q] at hcv
     have this':H4 G2.objs.size=none:=I5.free
     rw [hcv] at this'; cases this') z) (fun _ z => z) fun _ _ z => z
   have IE:=I2.call (h':=hh) (g':=gg) (d':=dd) (t':=tt) (ch:=fp) un hok I5.bare fun b hb => ⟨(f2 b hb).2.2.2.1,(f2 b hb).2.1,(f2 b hb).2.2.2.2.1,(f2 b hb).2.2.2.2.2⟩
   have hCf:H4 G2.objs.size=none:=I5.free
   have hCL:G2.objs.size≠X.env.locals:=Ne.symm (below _ I2.lt)
   have hCc:∀ x c,X.env.cells.lookup x=some c -> c≠G2.objs.size:=fun x c e => by
    obtain ⟨v',o',e',_⟩:=I2.cell x c e
    exact below _ (Heap.lt_size e')
   refine wpAny_assign_Name (store_ok2 IE hN hiy (.inl hy) (show RelV (.ref s2.heap.objs.size) (.ref s2.heap.objs.size) from rfl) (fun s6 I6 ⟨a6,sb6,ha6⟩ => ?_) (.inr hy))
   have nea:G2.objs.size≠a6:=by
    rcases ha6 with z | z
    ·rw [z]; exact hCL
    ·exact Ne.symm (hCc _ _ z)
   refine ⟨m5,n5.sameBut sb6 nea,fun h' sb' => ⟨_,H4,?_,qn⟩⟩
   have:=I6.turned (h':=h') (t':=s6.toks) (it:=G2.objs.size) (fun b o ne e => (sb'.2 b ne).trans e) hCf hCL (.inr (Nat.le_trans I2.sz hC0)) hCc (fun p hp => below _ (Heap.lt_size (I2.pin p hp).1))
   exact this
  ·refine thn (T.item (compCx X N scope G2.objs.size s2 H2 fp) rfl rfl rfl hcalm i [] s4 σ4 H4 (fun _ _ => False) I4 (stat fr4) st4 go) fun r s5 ⟨u,hr,h5⟩ => ?_
   subst hr
   refine thn h5 fun _ s6 ⟨x,H6,I6,r6,y6,st6,fr6⟩ => ?_
   have I6':=I6.pinned (stat fr6) (T.obj _ _ st6)
   refine thn (hg _ _ _ _ _ s6 σ4 H6 x u _ I6' r6 (step x H6 y6)) fun _ s7 ⟨σ7,H7,I7,q7⟩ => ?_
   refine thn (ht _ _ _ _ _ s7 σ7 H7 _ I7 q7) fun b s8 ⟨H8,I8,q8⟩ => ?_
   have again:∀ {s9:Shared} {H9:Hp},Inv (compCx X N scope G2.objs.size s2 H2 fp) ([]++pinsAt fp s6.heap) σ7 H9 s9 -> (∃ m',m' < n∧W (i+1) m' σ7 H9) -> ∃ m,m < n∧∃ i σ' H',Inv (compCx X N scope G2.objs.size s2 H2 fp) [] σ' H' s9∧tn i s9.heap∧(∀ b∈fp,H' b=none)∧W i m σ' H':=fun {s9 H9} I9 ⟨m',hm,w9⟩ => by
    refine ⟨m',hm,i+1,σ7,H9,I9.unpinned,T.keep _ _ _ st6 fun b hb o e => (I9.pin (b,o) (List.mem_append_right _ (List.mem_append_right _ (mem_pinsAt hb e)))).1,fun b hb => ?_,w9⟩
    obtain ⟨o,e,d⟩:=T.obj _ _ st6 b hb
    exact (I9.pin (b,o) (List.mem_append_right _ (List.mem_append_right _ (mem_pinsAt hb e)))).2.1
   cases b with
   | false =>
    rw [if_neg Bool.false_ne_true] at q8 ⊢
    exact again I8 q8
   | true =>
    rw [if_pos rfl] at q8 ⊢
    refine thn (he _ _ _ _ _ s8 σ7 H8 _ I8 q8) fun xv s9 ⟨xx,H9,I9,r9,q9⟩ => ?_
    refine thn (mt_append _ s9 σ7 H9 (.ref s2.heap.objs.size) [xx] (.ref s2.heap.objs.size) [xv] _ I9 rfl (.cons r9 .nil) q9) fun _ s10 ⟨_,H10,I10,_,q10⟩ => ?_
    exact again I10 q10
 exact codeAny_compStart_list (loop _ rfl) (T.self _ _ _ _ _ (T.keep 0 _ _ st2 fun b _ o e => old b o e) (loop _ rfl))
end L2
namespace L2
open PySem PySem.Spec PyProof.Rows PySem.W
section
variable {X:Cx}
theorem boot_all':bootBuiltins "all" = some (.builtin "all"):=by decide +kernel
noncomputable def rAll (K:Frag):List V -> Hp -> VK -> Prop:=fun xs H Q => ∃ (p:Addr) (bs:List Bool),xs=[.ref p]∧SqL K H p (bs.map V.bl)∧Q (.bl (bs.all id)) H
theorem bl_at {bs:List Bool} {us:List Value} (r:Vals (bs.map V.bl) us):us=bs.map Value.bool:=by
 induction bs generalizing us with
 | nil => cases r; rfl
 | cons b t ih =>
  cases r with
  | cons h t' =>
   rw [ih t']
   cases h
   rfl
theorem range_allB:∀ (bs:List Bool),((List.range bs.length).all fun i => (bs[i]?).getD true)=bs.all id:=fun bs => by
 rw [Bool.eq_iff_iff,List.all_eq_true,List.all_eq_true]
 constructor
 ·intro h b hb
  obtain ⟨i,hi,e⟩:=List.mem_iff_getElem.mp hb
  have:=h i (List.mem_range.mpr hi)
  rw [List.getElem?_eq_getElem hi,e] at this
  exact this
 ·intro h i hi
  have hi:=List.mem_range.mp hi
  rw [List.getElem?_eq_getElem hi]
  exact h _ (List.getElem_mem hi)
theorem call_allL (hc:X.calm=true):CallR X (.builtin "all") (rAll X.K):=by
 intro pins s σ H xs us Q I r h
 obtain ⟨p,bs,rfl,hs,q⟩:=h
 obtain ⟨u,rfl,ru⟩:=r.one
 cases ru
 obtain ⟨its,rv,pl,hz⟩:=I.list hs
 have e:=bl_at rv
 subst e
 have hl:=pl.isList
 have hlt:p < s.heap.objs.size:=by obtain ⟨_,e,_⟩:=hl; exact Heap.lt_size e
 refine call_all_walk (wpAny_pyIter_list hl ?_)
 refine ⟨s.heap.objs.size,[s.heap.objs.size,p],[s.heap.objs.size],(bs.map Value.bool).toArray.size,_,_,fun i => (bs[i]?).getD true,rfl,Walks.list (A:=X.A.in1) (I.ok.hd hc) _ p (Nat.ne_of_lt hlt) (bs.map Value.bool).toArray,
  ⟨⟨_,Heap.get?_push_size _ rfl,rfl,rfl⟩,hl.push _⟩,fun i v s' Q' E' hP hQ => ?_,fun h' tk hk => ?_⟩
 ·have hP':(bs.map Value.bool)[i]?=some v:=by simpa using hP
  rw [List.getElem?_map] at hP'
  cases eb:bs[i]? with
  | none => rw [eb] at hP'; cases hP'
  | some b =>
   rw [eb] at hP'
   cases hP'
   simp only [eb,Option.getD_some] at hQ
   exact wpAny_truthy_bool hQ
 ·have e:((List.range (bs.map Value.bool).toArray.size).all fun i => (bs[i]?).getD true)=bs.all id:=by
   rw [List.size_toArray,List.length_map]; exact range_allB bs
  rw [e]
  exact ⟨.bl _,H,I.kept (h':=h') (t':=tk) (fun b x e => hk b x (fun hm => by rw [List.mem_singleton.mp hm] at e; exact Nat.lt_irrefl _ (Heap.lt_size e)) (Heap.get?_push_of_some _ e)),rfl,q⟩
end
end L2
namespace PH
open PySem L2 PySem.W
theorem trueT {A B:Hp -> Prop} {σ:St} {H:Hp} (h:A H):tTrue σ H (fun b H4 => if b=true then A H4 else B H4):=by
 show if true=true then A H else B H
 exact iteT h
noncomputable def riseB:Int -> List (Int×Int) -> Bool
 | _,[] => true
 | a,c :: r => decide (a < c.1) && decide (c.1≤255) && riseB c.1 r
theorem riseB_step {cs:List (Int×Int)} {k:Nat} {c:Int×Int} (h:cs[k]?=some c) (a:Int):riseB a (cs.drop k)=(decide (a < c.1) && decide (c.1≤255) && riseB c.1 (cs.drop (k+1))):=by
 obtain ⟨hk,hv⟩:=List.getElem?_eq_some_iff.mp h
 rw [List.drop_eq_getElem_cons hk,hv]
 rfl
theorem riseB_of:∀ {cs:List (Int×Int)} {a:Int},RiseC cs -> (∀ c∈cs,a < c.1) -> riseB a cs=true
 | [],_,_,_ => rfl
 | c :: r,a,h,ha => by
  have h1:=ha c List.mem_cons_self
  have h2:=(h.2 c List.mem_cons_self).2.1
  have hp:=List.pairwise_cons.mp h.1
  have:=riseB_of (cs:=r) (a:=c.1) ⟨hp.2,fun x hx => h.2 x (List.mem_cons_of_mem _ hx)⟩ (fun x hx => hp.1 x.1 (List.mem_map.mpr ⟨x,hx,rfl⟩))
  unfold riseB
  rw [decide_eq_true h1,decide_eq_true h2,this]; rfl
noncomputable def LS (mg:Str -> Option Value):Prop:=∃ u,mg "LAST_SIGN" = some u∧RelV (.int 255) u
noncomputable def spRise:Sp:=fun vs H Q _ => ∃ (p:Addr) (zs:List (Addr×Int×Int)),vs=[.ref p]∧Prs H p zs∧Q (.bl (riseB (-1) (zs.map (·.2)))) H
end PH
namespace PH
open PySem L2 PySem.W
noncomputable def Kb (d:Addr) (H H':Hp):Prop:=∀ b u,b≠d -> H b=some u -> H' b=some u
theorem Kb.refl (d:Addr) (H:Hp):Kb d H H:=fun _ _ _ e => e
theorem Kb.of {d:Addr} {H H':Hp} (s:Same H H'):Kb d H H':=fun b u _ e => s b u e
theorem Kb.trans {d:Addr} {H H1 H2:Hp} (a:Kb d H H1) (b:Kb d H1 H2):Kb d H H2:=fun x u n e => b x u n (a x u n e)
theorem Kb.put (d:Addr) (H:Hp) (o:HO):Kb d H (upd H d o):=fun b u n e => by rw [upd_ne n]; exact e
end PH
namespace PH
open PySem L2 PySem.W
noncomputable def ids (tz:List (Addr×Int×Int)):List Int:=tz.map (·.2.2)
structure Bd (n:Nat) (js:List (Int×Int)) (us tz:List (Addr×Int×Int)):Prop where
 nd:(ids (us++tz)).Nodup
 in_:∀ z∈us++tz,0≤z.2.2∧z.2.2 < (n:Int)+js.length∧z.2.2 ∉ things js
end PH
namespace PH
open PySem L2 PySem.W
noncomputable def LW (mg:Str -> Option Value):Prop:=∃ u,mg "LONGEST_WORD" = some u∧RelV (.int 256) u
noncomputable def rmA (cs:List (Int×Int)):Nat -> Int
 | 0 => 1
 | k+1 => 2 * rmA cs k - ((cs.map (·.2)).count ((k+1:Nat):Int):Int)
noncomputable def roomB (cs:List (Int×Int)):Bool:=(List.range 256).all fun k => decide (0≤rmA cs (k+1))
noncomputable def lenB (cs:List (Int×Int)):Bool:=cs.all fun c => decide (1≤c.2) && decide (c.2≤256)
noncomputable def canB (cs:List (Int×Int)):Bool:=riseB (-1) cs && lenB cs && roomB cs
theorem roomB_no {cs:List (Int×Int)} {k:Nat} (h:k < 256) (hn:rmA cs (k+1) < 0):roomB cs=false:=by
 unfold roomB
 rw [List.all_eq_false]
 exact ⟨k,List.mem_range.mpr h,by simp; trivial⟩
theorem roomB_yes {cs:List (Int×Int)} (h:∀ k,k < 256 -> 0≤rmA cs (k+1)):roomB cs=true:=by
 unfold roomB
 rw [List.all_eq_true]
 exact fun k hk => decide_eq_true (h k (List.mem_range.mp hk))
noncomputable def spRoom:Sp:=fun vs H Q _ => ∃ (p:Addr) (zs:List (Addr×Int×Int)),vs=[.ref p]∧Prs H p zs∧zs.length≤300∧∀ H',Same H H' -> Q (.bl (roomB (zs.map (·.2)))) H'
noncomputable def spCan:Sp:=fun vs H Q _ => ∃ (p:Addr) (zs:List (Addr×Int×Int)),vs=[.ref p]∧Prs H p zs∧zs.length≤300∧∀ H',Same H H' -> Q (.bl (canB (zs.map (·.2)))) H'
end PH
namespace PH
open PySem L2 PySem.W
noncomputable def sK (ls:List Int) (k:Nat):Int:=(ls.map fun l => if 1≤l∧l≤(k:Int) then (2:Int) ^ (k - l.toNat) else 0).sum
theorem sK_zero:∀ ls:List Int,sK ls 0=0
 | [] => rfl
 | l :: r => by
  have ih:=sK_zero r
  unfold sK at ih ⊢
  rw [List.map_cons,List.sum_cons,ih,if_neg (by trivial)]; rfl
theorem sK_step:∀ (ls:List Int) (k:Nat),sK ls (k+1)=2 * sK ls k+(ls.count ((k+1:Nat):Int):Int)
 | [],k => rfl
 | l :: r,k => by
  have ih:=sK_step r k
  unfold sK at ih ⊢
  rw [List.map_cons,List.map_cons,List.sum_cons,List.sum_cons,ih,List.count_cons]
  by_cases h1:l=((k+1:Nat):Int)
  ·have e1:(l == ((k+1:Nat):Int))=true:=by rw [h1]; exact beq_self_eq_true _
   rw [if_pos (by trivial),if_neg (by trivial),if_pos e1,show k+1 - l.toNat=0 by trivial]
   rw [show (2:Int) ^ 0=1 from rfl,Int.natCast_add]
   trivial
  ·have e1:(l == ((k+1:Nat):Int))=false:=by rw [beq_eq_false_iff_ne]; exact h1
   rw [e1,show (if false=true then 1 else 0:Nat)=0 from rfl,Nat.add_zero]
   by_cases h2:1≤l∧l≤(k:Int)
   ·rw [if_pos (by trivial),if_pos h2,show k+1 - l.toNat=(k - l.toNat)+1 by trivial,Int.pow_succ]
    generalize (2:Int) ^ (k - l.toNat)=x
    trivial
   ·rw [if_neg (by trivial),if_neg h2]
    trivial
theorem rmA_eq (cs:List (Int×Int)):∀ k:Nat,rmA cs k=2 ^ k - sK (cs.map (·.2)) k
 | 0 => by rw [sK_zero]; rfl
 | k+1 => by
  show 2 * rmA cs k - _=_
  rw [rmA_eq cs k,sK_step,Int.pow_succ]
  generalize (2:Int) ^ k=x
  trivial
theorem rmA_down (cs:List (Int×Int)) (k:Nat) (h:rmA cs k < 0):∀ j:Nat,rmA cs (k+j) < 0
 | 0 => h
 | j+1 => by
  have ih:=rmA_down cs k h j
  show 2 * rmA cs (k+j) - _ < 0
  trivial
theorem roomB_iff (cs:List (Int×Int)):roomB cs=decide (sK (cs.map (·.2)) 256≤2 ^ 256):=by
 have e:=rmA_eq cs 256
 by_cases h:sK (cs.map (·.2)) 256≤2 ^ 256
 ·rw [decide_eq_true h]
  refine roomB_yes fun k hk => ?_
  by_cases hn:rmA cs (k+1) < 0
  ·have:=rmA_down cs (k+1) hn (255 - k)
   rw [show k+1+(255 - k)=256 by trivial] at this
   trivial
  ·trivial
 ·rw [decide_eq_false h]
  refine roomB_no (k:=255) (by decide) ?_
  show rmA cs 256 < 0
  trivial
noncomputable def zer (l:Nat):List Int:=List.replicate l 0
noncomputable def nw (w:List Int) (L:Nat):List Int:=lowb (worth w+1) w.length++zer (L - w.length)
noncomputable def wdsN:List Int -> List Nat -> List (List Int)
 | _,[] => []
 | w,l :: r => nw w l :: wdsN (nw w l) r
noncomputable def wds:List Nat -> List (List Int)
 | [] => []
 | l :: r => zer l :: wdsN (zer l) r
theorem zer_bits (l:Nat):isBits (zer l):=fun b hb => .inl (List.eq_of_mem_replicate hb)
theorem zer_len (l:Nat):(zer l).length=l:=List.length_replicate
theorem nw_bits (w:List Int) (L:Nat):isBits (nw w L):=fun b hb => by
 rcases List.mem_append.mp hb with q | q
 ·exact lowb_bits _ _ b q
 ·exact zer_bits _ b q
theorem nw_len {w:List Int} {L:Nat} (h:w.length≤L):(nw w L).length=L:=by
 unfold nw
 rw [List.length_append,lowb_length,zer_len]; trivial
theorem worth_zer:∀ (m:Nat) (w:List Int),worth (w++zer m)=worth w * 2 ^ m
 | 0,w => by
  show worth (w++[])=worth w * 1
  rw [List.append_nil,Int.mul_one]
 | m+1,w => by
  have e:w++zer (m+1)=(w++zer m)++[0]:=by
   unfold zer
   rw [List.replicate_succ',List.append_assoc]
  rw [e,worth_snoc,worth_zer m w,Int.pow_succ]
  generalize worth w=a
  generalize (2:Int) ^ m=b
  rw [show a * (b * 2)=a * b * 2 from (Int.mul_assoc a b 2).symm]
  trivial
theorem worth_nw {w:List Int} {L:Nat} (hb:isBits w) (hl:worth w+1 < 2 ^ w.length):worth (nw w L)=(worth w+1) * 2 ^ (L - w.length):=by
 unfold nw
 rw [worth_zer,worth_lowb (by have:=(worth_bound hb).1; trivial) hl]
theorem worth_zero (l:Nat):worth (zer l)=0:=by
 have:=worth_zer l []
 rw [List.nil_append] at this
 rw [this]
 show (0:Int) * _=0
 exact Int.zero_mul _
noncomputable def tk (w:List Int):Int:=(worth w+1) * 2 ^ (256 - w.length)
theorem tk_zer {l:Nat}:tk (zer l)=2 ^ (256 - l):=by
 unfold tk
 rw [worth_zero,zer_len,Int.zero_add,Int.one_mul]
theorem tk_nw {w:List Int} {L:Nat} (hb:isBits w) (hl:worth w+1 < 2 ^ w.length) (h1:w.length≤L) (h2:L≤256):tk (nw w L)=tk w+2 ^ (256 - L):=by
 unfold tk
 rw [worth_nw hb hl,nw_len h1,Int.add_mul,Int.one_mul,Int.mul_assoc,← Int.pow_add]
 rw [show L - w.length+(256 - L)=256 - w.length by trivial]
theorem room_next {w:List Int} (hb:isBits w) (hw:w.length≤256) (h:tk w < 2 ^ 256):worth w+1 < 2 ^ w.length:=by
 unfold tk at h
 have e:(2:Int) ^ 256=2 ^ w.length * 2 ^ (256 - w.length):=by rw [← Int.pow_add,show w.length+(256 - w.length)=256 by trivial]
 rw [e] at h
 exact Int.lt_of_mul_lt_mul_right h (Int.le_of_lt (Int.pow_pos (by decide)))
end PH
namespace PH
open PySem L2 PySem.W
noncomputable def spNext (K:Frag):Sp:=fun vs H Q _ => ∃ (a:Addr) (ws:List Int) (L:Nat),vs=[.ref a,.int (L:Int)]∧SqL K H a (ws.map V.int)∧isBits ws∧worth ws+1 < 2 ^ ws.length∧ws.length≤L∧L≤256 ∧
 ∀ (p:Addr) (H':Hp),Same H H' -> H p=none -> H' p=some (lsI (nw ws L)) -> Q (.ref p) H'
theorem rep_zer (m:Nat):(List.replicate m [V.int 0]).flatten=(zer m).map V.int:=by
 unfold zer
 induction m with
 | zero => rfl
 | succ k ih => rw [List.replicate_succ,List.flatten_cons,ih,List.replicate_succ]; rfl
end PH
namespace PH
open PySem L2 PySem.W
noncomputable def sP (ls:List Nat):Int:=(ls.map fun l => (2:Int) ^ (256 - l)).sum
theorem sP_cons (l:Nat) (r:List Nat):sP (l :: r)=2 ^ (256 - l)+sP r:=by unfold sP; rw [List.map_cons,List.sum_cons]
theorem sP_nn:∀ ls:List Nat,0≤sP ls
 | [] => Int.le_refl _
 | l :: r => by
  rw [sP_cons]
  have:=sP_nn r
  have:(0:Int) < 2 ^ (256 - l):=Int.pow_pos (by decide)
  trivial
theorem sP_perm {a b:List Nat} (h:a.Perm b):sP a=sP b:=by
 induction h with
 | nil => rfl
 | cons x _ ih => rw [sP_cons,sP_cons,ih]
 | swap x y t => rw [sP_cons,sP_cons,sP_cons,sP_cons]; trivial
 | trans _ _ i1 i2 => rw [i1,i2]
theorem sK_sP:∀ {ls:List Int},(∀ l∈ls,1≤l∧l≤256) -> sK ls 256=sP (ls.map Int.toNat)
 | [],_ => rfl
 | l :: r,h => by
  have ih:=sK_sP (ls:=r) fun x hx => h x (List.mem_cons_of_mem _ hx)
  have hl:=h l List.mem_cons_self
  rw [List.map_cons,sP_cons,← ih]
  unfold sK
  rw [List.map_cons,List.sum_cons,if_pos (show 1≤l∧l≤((256:Nat):Int) by trivial)]
noncomputable def Up:Nat -> List Nat -> Prop
 | _,[] => True
 | a,l :: r => a≤l∧l≤256∧Up l r
theorem room_at {w:List Int} {l:Nat} {r:List Nat} (hb:isBits w) (hw:w.length≤256) (h:tk w+sP (l :: r)≤2 ^ 256):worth w+1 < 2 ^ w.length:=by
 refine room_next hb hw ?_
 rw [sP_cons] at h
 have h1:=sP_nn r
 have h2:(0:Int) < 2 ^ (256 - l):=Int.pow_pos (by decide)
 trivial
theorem room_on {w:List Int} {l:Nat} {r:List Nat} (hb:isBits w) (hw:w.length≤l) (hl:l≤256) (h:tk w+sP (l :: r)≤2 ^ 256):tk (nw w l)+sP r≤2 ^ 256:=by
 rw [tk_nw hb (room_at hb (by trivial) h) hw hl]
 rw [sP_cons] at h
 trivial
end PH
namespace PH
open PySem L2 PySem.W
noncomputable def stO (cs:List (Int×Int)):List (Int×Int):=srt (cs.map swp)
noncomputable def lensOf (cs:List (Int×Int)):List Nat:=(stO cs).map fun c => c.1.toNat
noncomputable def wof (cs:List (Int×Int)):List (Int×List Int):=((stO cs).map (·.2)).zip (wds (lensOf cs))
noncomputable def look (l:List (Int×List Int)) (s:Int):List Int:=((l.find? fun p => decide (p.1=s)).map (·.2)).getD []
noncomputable def wrdsOf (cs:List (Int×Int)):List (Int×List Int):=cs.map fun c => (c.1,look (wof cs) c.1)
theorem up_of:∀ {ls:List Nat} {a:Nat},(a :: ls).Pairwise (·≤·) -> (∀ l∈ls,l≤256) -> Up a ls
 | [],_,_,_ => True.intro
 | l :: r,a,h,hm => by
  have hp:=List.pairwise_cons.mp h
  exact ⟨hp.1 l List.mem_cons_self,hm l List.mem_cons_self,up_of hp.2 fun x hx => hm x (List.mem_cons_of_mem _ hx)⟩
theorem lens_up (cs:List (Int×Int)) (h:∀ c∈cs,1≤c.2∧c.2≤256):Up 0 (lensOf cs):=by
 have hm:∀ c∈stO cs,1≤c.1∧c.1≤256:=fun c hc => by
  have:=(srt_perm (cs.map swp)).mem_iff.mp hc
  obtain ⟨d,hd,rfl⟩:=List.mem_map.mp this
  exact h d hd
 refine up_of (List.pairwise_cons.mpr ⟨fun _ _ => Nat.zero_le _,?_⟩) fun l hl => ?_
 ·unfold lensOf
  rw [List.pairwise_map]
  exact (srt_sorted (cs.map swp)).imp fun {a b} hab => by
   unfold lexLe at hab
   trivial
 ·obtain ⟨c,hc,rfl⟩:=List.mem_map.mp hl
  have:=hm c hc
  trivial
theorem lens_sP (cs:List (Int×Int)) (h:∀ c∈cs,1≤c.2∧c.2≤256):sP (lensOf cs)=sK (cs.map (·.2)) 256:=by
 rw [sK_sP (fun l hl => by obtain ⟨c,hc,rfl⟩:=List.mem_map.mp hl; exact h c hc)]
 refine sP_perm ?_
 unfold lensOf stO
 have:=(srt_perm (cs.map swp)).map fun c => c.1.toNat
 rw [List.map_map] at this
 rw [List.map_map]
 exact this
theorem can_lens {cs:List (Int×Int)} (h:canB cs=true):(∀ c∈cs,1≤c.2∧c.2≤256)∧sP (lensOf cs)≤2 ^ 256:=by
 unfold canB at h
 rw [Bool.and_eq_true,Bool.and_eq_true] at h
 have h1:∀ c∈cs,1≤c.2∧c.2≤256:=fun c hc => by
  have:=List.all_eq_true.mp h.1.2 c hc
  simp only [Bool.and_eq_true,decide_eq_true_iff] at this
  exact this
 refine ⟨h1,?_⟩
 rw [lens_sP cs h1]
 have:=h.2
 rw [roomB_iff] at this
 exact of_decide_eq_true this
theorem riseB_lt:∀ {cs:List (Int×Int)} {a:Int},riseB a cs=true -> (∀ c∈cs,a < c.1)∧(cs.map (·.1)).Nodup
 | [],_,_ => ⟨(fun _ z => by cases z),List.nodup_nil⟩
 | c :: r,a,h => by
  unfold riseB at h
  rw [Bool.and_eq_true,Bool.and_eq_true] at h
  have h1:=of_decide_eq_true h.1.1
  obtain ⟨i1,i2⟩:=riseB_lt h.2
  refine ⟨fun x hx => ?_,?_⟩
  ·rcases List.mem_cons.mp hx with q | q
   ·rw [q]; exact h1
   ·have:=i1 x q; trivial
  ·rw [List.map_cons,List.nodup_cons]
   refine ⟨fun z => ?_,i2⟩
   obtain ⟨x,hx,e⟩:=List.mem_map.mp z
   have:=i1 x hx
   trivial
theorem can_signs {cs:List (Int×Int)} (h:canB cs=true):((stO cs).map (·.2)).Nodup:=by
 unfold canB at h
 rw [Bool.and_eq_true,Bool.and_eq_true] at h
 have hn:=(riseB_lt h.1.1).2
 have hp:=(srt_perm (cs.map swp)).map (·.2)
 rw [List.map_map] at hp
 exact hp.symm.nodup hn
noncomputable def dW (es:List (Int×Addr×List Int)):List (Key×V):=es.map fun e => (Sum.inl e.1,V.ref e.2.1)
theorem dW_len (es:List (Int×Addr×List Int)):(dW es).length=es.length:=List.length_map _
theorem valV_dW {s:Int}:∀ {es:List (Int×Addr×List Int)},valV (dW es) (Sum.inl s)=(es.find? fun e => decide (e.1=s)).map fun e => V.ref e.2.1
 | [] => rfl
 | e :: r => by
  show valV ((Sum.inl e.1,V.ref e.2.1) :: dW r) (Sum.inl s)=_
  by_cases h:e.1=s
  ·rw [valV_pos (by rw [h]),List.find?_cons_of_pos (by simpa using h)]; rfl
  ·rw [valV_neg (by intro z; exact h (Sum.inl.inj z)),valV_dW,List.find?_cons_of_neg (by simpa using h)]
theorem putK_dW {es:List (Int×Addr×List Int)} {s:Int} {b:Addr} {w:List Int} (h:s ∉ es.map (·.1)):putK (dW es) (Sum.inl s) (.ref b)=dW (es++[(s,b,w)]):=by
 have hv:valV (dW es) (Sum.inl s)=none:=by
  rw [valV_dW]
  have:es.find? (fun e => decide (e.1=s))=none:=by
   rw [List.find?_eq_none]
   intro e he z
   exact h (List.mem_map.mpr ⟨e,he,by simpa using z⟩)
  rw [this]; rfl
 unfold putK
 rw [valV_any,hv,if_neg (by simp)]
 unfold dW
 rw [List.map_append]; rfl
theorem zip_two {α β γ:Type} (f:α -> β) (g:α -> γ):∀ es:List α,(es.map f).zip (es.map g)=es.map fun e => (f e,g e)
 | [] => rfl
 | e :: r => by rw [List.map_cons,List.map_cons,List.zip_cons_cons,zip_two f g r,List.map_cons]
theorem look_es {s:Int}:∀ (es:List (Int×Addr×List Int)) {e:Int×Addr×List Int},es.find? (fun e => decide (e.1=s))=some e -> look (es.map fun e => (e.1,e.2.2)) s=e.2.2
 | [],_,h => by cases h
 | x :: r,e,h => by
  unfold look
  by_cases c:x.1=s
  ·rw [List.find?_cons_of_pos (by simpa using c)] at h
   cases h
   rw [List.map_cons,List.find?_cons_of_pos (by simpa using c)]; rfl
  ·rw [List.find?_cons_of_neg (by simpa using c)] at h
   rw [List.map_cons,List.find?_cons_of_neg (by simpa using c)]
   exact look_es r h
theorem nodup_inj:∀ {es:List (Int×Addr×List Int)},(es.map (·.2.1)).Nodup -> ∀ {e e':Int×Addr×List Int},e∈es -> e'∈es -> e.2.1=e'.2.1 -> e=e'
 | [],_,_,_,h,_,_ => by cases h
 | x :: r,nd,e,e',h,h',c => by
  obtain ⟨n1,n2⟩:=List.nodup_cons.mp (show (x.2.1 :: r.map (·.2.1)).Nodup from nd)
  rcases List.mem_cons.mp h with p | p <;> rcases List.mem_cons.mp h' with q | q
  ·rw [p,q]
  ·exact absurd (List.mem_map.mpr ⟨e',q,by rw [← c,p]⟩) n1
  ·exact absurd (List.mem_map.mpr ⟨e,p,by rw [c,q]⟩) n1
  ·exact nodup_inj n2 p q c
structure Wrs (H:Hp) (r:Addr) (ws:List (Addr×Int×Addr×List Int)):Prop where
 at_:H r=some (.lst (ws.map fun w => V.ref w.1))
 each:∀ w∈ws,H w.1=some (.tup [.int w.2.1,.ref w.2.2.1])∧H w.2.2.1=some (lsI w.2.2.2)
noncomputable def spWords (cC:Addr):Sp:=fun vs H Q E => ∃ (p:Addr) (zs:List (Addr×Int×Int)),vs=[.ref p]∧Prs H p zs∧zs.length≤300 ∧
 (canB (zs.map (·.2))=false -> ∀ H',Same H H' -> E (.ref cC) none H') ∧
 (canB (zs.map (·.2))=true -> ∀ (r:Addr) (ws:List (Addr×Int×Addr×List Int)) (H':Hp),Same H H' -> H r=none -> Wrs H' r ws -> (∀ w∈ws,H w.2.2.1=none) -> (ws.map (·.2.2.1)).Nodup -> ws.map (fun w => (w.2.1,w.2.2.2))=wrdsOf (zs.map (·.2)) -> Q (.ref r) H')
end PH
namespace L2
open PySem PySem.Spec PyProof.Rows PySem.W
section
variable {X:Cx} {pins:List (Addr×Obj)} {σ:St} {H:Hp} {s:Shared}
theorem Inv.turned2L {h':Heap} {t':Nat} {i1 i2 a:Addr} {o:HO} (I:Inv X pins σ H s) (k:∀ b o,b≠i1 -> b≠i2 -> s.heap.get? b=some o -> h'.get? b=some o) (f1:FpOk X pins H i1) (f2:FpOk X pins H i2)
  (hp:s.heap.objs.size≤a) (new:ObjOk X.prog X.w (upd H a o) h' a o):Inv X pins σ (upd H a o) { s with heap:=h',toks:=t' }:=by
 obtain ⟨a0,a1,a2,a3,a4,a5⟩:=f1
 obtain ⟨b0,b1,b2,b3,b4,b5⟩:=f2
 have n1:∀ b u,H b=some u -> b≠i1:=fun b u e z => by rw [z,a0] at e; cases e
 have n2:∀ b u,H b=some u -> b≠i2:=fun b u e z => by rw [z,b0] at e; cases e
 have hn:H a=none:=I.hok.fresh hp
 refine I.step (g':=s.gens) (d':=s.drawn) (ch:=[i1,i2]) (fun b hb => ?_) (fun b o _ _ hc e _ => k b o (fun z => hc (by simp [z])) (fun z => hc (by simp [z])) e) (fun b o _ _ hc e _ => ⟨o.slots,k b o (fun z => hc (by simp [z])) (fun z => hc (by simp [z])) e⟩) (fun b u _ q n => ?_)
  (fun b o hc e => ⟨o,k b o (fun z => hc (by simp [z])) (fun z => hc (by simp [z])) e⟩) (fun b xs q => by rw [upd_ne (ne_of_none q hn)]; exact q) (fun b u xs q => by rw [upd_ne (ne_of_none q hn)]; exact q) (fun b ps q => ⟨#[],by rw [upd_ne (ne_of_none q hn),q]; simp⟩) (fun m hm => ?_) (fun b u e => ?_) I.bare
 ·have e:b=i1∨b=i2:=by simpa using hb
  rcases e with e | e
  ·subst e
   exact ⟨a3,a1,a4,a5⟩
  ·subst e
   exact ⟨b3,b1,b4,b5⟩
 ·rw [upd_ne (Nat.ne_of_lt (Nat.lt_of_lt_of_le (Heap.lt_size q) hp))]; exact n
 ·obtain ⟨o,es,ep,ho,r⟩:=hm
  exact ⟨o,es,ep,k _ o (Ne.symm a1) (Ne.symm b1) ho,r⟩
 ·by_cases hb:b=a
  ·subst hb
   rw [upd_same] at e
   cases e
   exact new
  ·rw [upd_ne hb] at e
   refine (I.hok b u e).stay (fun c v hc q => k c v ?_ ?_ q) (fun c q => by rw [upd_ne (ne_of_none q hn)]; exact q) fun c xs q => by rw [upd_ne (ne_of_none q hn)]; exact q
   ·rcases hc with z | z
    ·rw [z]; exact n1 b u e
    ·exact n1 c _ z
   ·rcases hc with z | z
    ·rw [z]; exact n2 b u e
    ·exact n2 c _ z
noncomputable def Ite (K:Frag) (a:Addr):It :=
 ⟨fun i H => ∃ xs x,SqL K H a xs∧xs[i]?=some x,fun i H x H' => ∃ t y,x=.ref t∧H t=none∧H'=upd H t (.tup [.int (i:Nat),y])∧∀ xs,SqL K H a xs -> xs[i]?=some y,fun i H => ∃ xs,SqL K H a xs∧xs.length≤i⟩
theorem turn_enum {P:Program} {w:World} {K:Frag} {elts:List Expr} {x1} {pos:Pos} (a e it:Addr):Turn P w K (.Tuple elts x1 pos) (Ite K a) [e,it] e (fun i h => (∃ old,IsEnum h e it ((i:Nat):Int) old)∧h.IsListIter it a i∧e≠it) where
 mem:=by simp
 obj:=fun i h st b hb => by
  obtain ⟨⟨old,he⟩,⟨o,ho,c,d⟩,_⟩:=st
  have e':b=e∨b=it:=by simpa using hb
  rcases e' with rfl | rfl
  ·exact ⟨_,he,fun v z => by cases z⟩
  ·exact ⟨o,ho,fun v z => by rw [d] at z; cases z⟩
 keep:=fun i h h' st k => by
  obtain ⟨⟨old,he⟩,hi,hne⟩:=st
  exact ⟨⟨old,k e (by simp) _ he⟩,hi.at fun o q => k it (by simp) o q,hne⟩
 item:=by
  intro X hP hw hK hc i pins s σ H E I hf st hg
  subst hP hw hK
  obtain ⟨xs,x,hq,hx⟩:=hg
  obtain ⟨⟨old,he⟩,hi,hne⟩:=st
  obtain ⟨its,rv,p,hz⟩:=I.list hq
  obtain ⟨u,hu,ru⟩:=rv.get hx
  have fe:=hf e (by simp)
  have fi:=hf it (by simp)
  have hel:e < s.heap.objs.size:=Heap.lt_size he
  have hil:it < s.heap.objs.size:=by obtain ⟨_,q,_⟩:=id hi; exact Heap.lt_size q
  refine wpAny_pyNext_enum_item he hi p.isList (x:=u) (by simpa using hu) hne fun h' ho hi' hT hsz hk => ?_
  refine ⟨_,rfl,wpAny_letOwnedTupleGo_enum ho fun h2 he2 hs2 => ?_⟩
  have hfr:H s.heap.objs.size=none:=I.hok.fresh (Nat.le_refl _)
  have hT2:h2.get? s.heap.objs.size=some { cls:=.type "tuple",data:=.seq #[.int i s.toks,u] }:=(hs2.2 _ (Nat.ne_of_gt hel)).trans hT
  have k2:∀ b o,b≠e -> b≠it -> s.heap.get? b=some o -> h2.get? b=some o:=fun b o n1 n2 q => (hs2.2 b n1).trans (hk b o n1 n2 q)
  have I2:Inv X pins σ (upd H s.heap.objs.size (.tup [.int (i:Nat),x])) { s with heap:=h2,toks:=s.toks+1 } :=
   I.turned2L k2 fe fi (Nat.le_refl _) (show ObjOk X.prog X.w _ h2 _ (.tup [.int (i:Nat),x]) from ⟨by show 2≤sizeLine; decide,[.int i s.toks,u],.cons ⟨_,rfl⟩ (.cons ru .nil),⟨_,hT2,rfl,_,rfl⟩⟩)
  refine ⟨.ref s.heap.objs.size,_,I2,rfl,⟨_,x,rfl,hfr,rfl,fun ys hy => by rw [I.list_inj hy hq]; exact hx⟩,⟨⟨_,by simpa using he2⟩,hi'.at fun o q => (hs2.2 it hne.symm).trans q,hne⟩,fun b hb => ?_⟩
  have e':b=e∨b=it:=by simpa using hb
  rcases e' with rfl | rfl
  ·rw [upd_ne (Nat.ne_of_lt hel)]; exact fe.1
  ·rw [upd_ne (Nat.ne_of_lt hil)]; exact fi.1
 done:=by
  intro X hP hw hK hc i pins s σ H E I hf st hg
  subst hP hw hK
  obtain ⟨xs,hq,hx⟩:=hg
  obtain ⟨⟨old,he⟩,hi,hne⟩:=st
  obtain ⟨its,rv,p,hz⟩:=I.list hq
  obtain ⟨f0,f1,f2,f3,f4,f5⟩:=hf it (by simp)
  have hl:=rv.length
  exact wpAny_pyNext_enum_end (I.ok.hd hc) he hi p.isList (by simp; trivial) fun h' eb => ⟨rfl,I.turned (t':=s.toks) (fun b o hb e => eb b o hb e) f0 f1 f3 f4 f5⟩
 self:=fun _ _ _ _ _ st h => by
  obtain ⟨⟨old,he⟩,_⟩:=st
  exact wpAny_pyIter_enum he h
noncomputable def iEnum (K:Frag) (ta:TA):TI:=fun σ H R => ta σ H fun vs H1 => ∃ a,vs=[.ref a]∧(∃ xs,SqL K H1 a xs)∧R (Ite K a) H1
theorem pi_enum {elts:List Expr} {x1} {p':Pos} {a:Expr} {ta:TA} {p pos:Pos} (hg:Gl X "enumerate") (hm:X.mg "enumerate" = none) (ha:PA X [a] ta) (hs:starEach [a] X.env=[(false,eval a X.env)]:=by rfl) :
  PI X (.Tuple elts x1 p') (.Call (.Name "enumerate" p) [a] [] pos) (iEnum X.K ta):=by
 intro pins s σ H R I h
 refine Call_ (ld_blt I hg hm boot_enumerate (PyProof.Rows.callWith_type1 (thn (ha pos pins s σ H _ I h) fun us s1 ⟨vs,H1,I1,r1,q1⟩ => ?_) hs rfl))
 obtain ⟨a,e,⟨xs,hq⟩,q⟩:=q1
 subst e
 cases r1 with
 | cons r rr =>
  cases rr
  cases r
  obtain ⟨its,rv,p,hz⟩:=I1.list hq
  refine call_enumerate_list p.isList fun h' he hit hsz hk => ?_
  refine wpAny_pyIter_enum he ?_
  refine ⟨_,[s1.heap.objs.size+1,s1.heap.objs.size],_,Ite X.K a,H1,rfl,I1.kept (t':=s1.toks) hk,turn_enum a _ _,⟨⟨_,he⟩,hit,Nat.succ_ne_self _⟩,fun b hb => ?_,q⟩
  have e:b=s1.heap.objs.size+1∨b=s1.heap.objs.size:=by simpa using hb
  have hle:s1.heap.objs.size≤b:=by
   rcases e with e | e
   ·rw [e]; exact Nat.le_succ _
   ·rw [e]; exact Nat.le_refl _
  exact I1.fpOk hle (I1.hok.fresh hle)
theorem for_enum {K:PySem.W.Frag} {a:Addr} {xs:List V} {g:TG} {tb:TS} {D:Ends} {σ:St} {H:Hp} (Pv:Nat -> St -> Hp -> Prop) (h0:Pv 0 σ H) (hl:∀ i σ H,i≤xs.length -> Pv i σ H -> SqL K H a xs)
  (hs:∀ i x t σ H,xs[i]?=some x -> Pv i σ H -> H t=none -> g (.ref t) σ (upd H t (.tup [.int (i:Nat),x])) fun σ2 H2 => tb { D with nx:=Pv (i+1),ct:=Pv (i+1),bk:=D.nx } σ2 H2) (hd:∀ σ H,Pv xs.length σ H -> D.nx σ H) :
  ∃ W:Nat -> Nat -> St -> Hp -> Prop,(∃ m,W 0 m σ H)∧∀ i m σ H,W i m σ H →
   ((Ite K a).stop i H∧D.nx σ H)∨((Ite K a).go i H∧∃ N:St -> Hp -> Prop,(∀ σ' H',N σ' H' -> ∃ m',m' < m∧W (i+1) m' σ' H')∧∀ x H',(Ite K a).yld i H x H' -> g x σ H' fun σ2 H2 => tb { D with nx:=N,ct:=N,bk:=D.nx } σ2 H2):=by
 refine ⟨fun i m σ H => m=xs.length - i∧i≤xs.length∧Pv i σ H,⟨xs.length,by simp,Nat.zero_le _,h0⟩,?_⟩
 rintro i m σ H ⟨rfl,hi,p⟩
 have q:=hl i σ H hi p
 by_cases hlt:i < xs.length
 ·refine .inr ⟨⟨xs,xs[i],q,by simp [hlt]⟩,Pv (i+1),fun σ' H' p' => ⟨xs.length - (i+1),by trivial,rfl,hlt,p'⟩,fun x H' y => ?_⟩
  obtain ⟨t,y',rfl,hn,rfl,y⟩:=y
  exact hs i y' t σ _ (y xs q) p hn
 ·have e:i=xs.length:=by trivial
  subst e
  exact .inl ⟨⟨xs,q,Nat.le_refl _⟩,hd σ H p⟩
theorem vals_of:∀ {xs:List V} {us:List Value},xs.length=us.length -> (∀ (i:Nat) x u,xs[i]?=some x -> us[i]?=some u -> RelV x u) -> Vals xs us
 | [],[],_,_ => .nil
 | [],_ :: _,h,_ => by cases h
 | _ :: _,[],h,_ => by cases h
 | x :: xs,u :: us,h,r => .cons (r 0 x u rfl rfl) (vals_of (Nat.succ.inj h) fun i y w e1 e2 => r (i+1) y w e1 e2)
noncomputable def tLRng (ta:TA):TE:=fun σ H Q => ta σ H fun vs H1 => ∃ n:Nat,vs=[.int (n:Int)]∧n≤1000000∧∀ l,H1 l=none -> Q (.ref l) (upd H1 l (.lst (((List.range n).map fun k => ((k:Nat):Int)).map V.int)))
theorem pe_listrange {a:Expr} {ta:TA} {p p2 pos pos2:Pos} (hg:Gl X "range") (hm:X.mg "range" = none) (hg2:Gl X "list") (hm2:X.mg "list" = none) (hc:X.calm=true) (ha:PA X [a] ta) (hs:starEach [a] X.env=[(false,eval a X.env)]:=by rfl)
  (hs2:starEach [.Call (.Name "range" p) [a] [] pos] X.env=[(false,eval (.Call (.Name "range" p) [a] [] pos) X.env)]:=by rfl) :
  PE X (.Call (.Name "list" p2) [.Call (.Name "range" p) [a] [] pos] [] pos2) (tLRng ta):=by
 intro pins s σ H Q I h
 refine wpAny_Call_Name_kw (ld_blt I hg2 hm2 (show bootBuiltins "list" = some (.type "list") by decide +kernel) ?_)
 refine PyProof.Rows.callWith_type1 ?_ hs2 rfl
 rw [hs2]
 show wpAny _ _ (spliced ((false,eval (.Call (.Name "range" p) [a] [] pos) X.env) :: backTo pos2 [])) _ _ s
 refine Calls.spliced_cons ?_
 refine Call_ (ld_blt I hg hm boot_range (PyProof.Rows.callWith_type1 (thn (ha pos pins s σ H _ I h) fun us s1 ⟨vs,H1,I1,r1,q1⟩ => ?_) hs rfl))
 obtain ⟨n,e,hn,q⟩:=q1
 subst e
 cases r1 with
 | cons r rr =>
  cases rr
  obtain ⟨t,rfl⟩:=r
  refine call_range_1 ?_
  refine Calls.spliced_nil ?_
  have hsm:Builtin.Range.small 0 (n:Int) 1=true:=small_one (by trivial) (by trivial) (by trivial) (by trivial)
  refine call_list_range (n:=n) (I1.ok.hd hc) (IsRange.new ..) hsm (by rw [rangeSize_one]; split <;> trivial) (by trivial) fun h' tk acc c' hk hl hi => ?_
  have I2:Inv X pins σ H1 { s1 with heap:=s1.heap.push { cls:=.type "range",data:=.fields #[.int 0 s1.toks,.int n t,.int 1 (s1.toks+1)] },toks:=s1.toks+2 }:=I1.kept fun b o e => Heap.get?_push_of_some _ e
  have hv:Vals (((List.range n).map fun k => ((k:Nat):Int)).map V.int) acc.toList:=by
   refine vals_of (by rw [List.length_map,List.length_map,List.length_range,Array.length_toList,hi.1]) fun i x u e1 e2 => ?_
   have hin:i < n:=by
    have:=(List.getElem?_eq_some_iff.mp e1).1
    rw [List.length_map,List.length_map,List.length_range] at this
    exact this
   rw [List.getElem?_map,List.getElem?_map,List.getElem?_range hin] at e1
   obtain ⟨t',e3⟩:=hi.2 i u (by rw [← Array.getElem?_toList]; exact e2)
   have ex:x=.int (i:Int):=(Option.some.inj e1).symm
   rw [ex,e3]
   exact ⟨t',by rw [Int.mul_one,Int.zero_add]⟩
  have hsz:(((List.range n).map fun k => ((k:Nat):Int)).map V.int).length≤sizeLine:=by
   have:sizeLine=16777216:=by decide
   rw [List.length_map,List.length_map,List.length_range]; trivial
  refine ⟨.ref _,_,I2.laid (t':=tk) hk (Nat.le_refl _) (show ObjOk X.prog X.w _ h' _ (.lst (((List.range n).map fun k => ((k:Nat):Int)).map V.int)) from ⟨hsz,acc.toList,c',hv,hl⟩),rfl,q _ (I2.hok.fresh (Nat.le_refl _))⟩
end
end L2
namespace HT
open PySem PyProof.Rows
open AutoSeq1 (wpAny_loadPart')
open MeetsSeq MeetsSeq3 SeqAt
theorem lt_loopI (l b:Addr) (items items2:Array Value) (n n2:Nat) (dd dd2:Option Addr) (sl sl2:Array (Option Value)):∀ (ns ms:List Int) (i:Nat),i≤items.size -> i≤items2.size -> IntsAre (items.toList.drop i) ns -> IntsAre (items2.toList.drop i) ms →
  Meets (Builtin.«list.__eq__.loop» ⟨[.ref l,.ref b,rawInt i,rawInt 0],[]⟩)
   (fun _ R s => s.heap.get? l=some { cls:=.type "list",dict:=dd,data:=.seq items n,slots:=sl }∧s.heap.get? b=some { cls:=.type "list",dict:=dd2,data:=.seq items2 n2,slots:=sl2 } ∧
    R (.ok (.ret (.bool (lexLt ns ms)))) s)
 | [],ms,i,h1,h2,hi,hj => by
  intro prog w A R s h
  obtain ⟨hp,g,d,tk,os⟩:=s; obtain ⟨hl,hb,h⟩:=h
  have e1:items.size=i:=by
   have:=hi.length
   simp at this
   trivial
  have hi1:items[((i:Nat):Int).toNat]?=none:=by simp; trivial
  have hv:lexLt [] ms=decide (items.size < items2.size):=by
   have:=hj.length
   simp at this
   cases ms with
   | nil =>
    rw [lexLt_nil_nil]
    simp at this
    exact (decide_eq_false (by trivial)).symm
   | cons c ms =>
    rw [lexLt_nil_cons]
    simp at this
    exact (decide_eq_true (by trivial)).symm
  rw [hv] at h
  wp_walk using wpAny_loadPart' hl,wpAny_loadPart' hb
  rw [hi1]
  wp_walk using wpAny_loadPart' hl,wpAny_loadPart' hb
  exact h
 | a :: ns,[],i,h1,h2,hi,hj => by
  intro prog w A R s h
  obtain ⟨hp,g,d,tk,os⟩:=s; obtain ⟨hl,hb,h⟩:=h
  have e2:items2.size=i:=by
   have:=hj.length
   simp at this
   trivial
  have e1:i < items.size:=by
   have:=hi.length
   simp at this
   trivial
  have hi1:items[((i:Nat):Int).toNat]?=some items[i]:=by simp [e1]
  have hi2:items2[((i:Nat):Int).toNat]?=none:=by simp; trivial
  have hv:lexLt (a :: ns) []=decide (items.size < items2.size):=by
   rw [lexLt_cons_nil]
   exact (decide_eq_false (by trivial)).symm
  rw [hv] at h
  wp_walk using wpAny_loadPart' hl,wpAny_loadPart' hb
  rw [hi1,hi2]
  wp_walk using wpAny_loadPart' hl,wpAny_loadPart' hb
  exact h
 | a :: ns,c :: ms,i,h1,h2,hi,hj => by
  intro prog w A R s h
  obtain ⟨hp,g,d,tk,os⟩:=s; obtain ⟨hl,hb,h⟩:=h
  have e1:i < items.size:=by
   have:=hi.length
   simp at this
   trivial
  have e2:i < items2.size:=by
   have:=hj.length
   simp at this
   trivial
  have hi1:items[((i:Nat):Int).toNat]?=some items[i]:=by simp [e1]
  have hi2:items2[((i:Nat):Int).toNat]?=some items2[i]:=by simp [e2]
  have hd1:items.toList.drop i=items[i] :: items.toList.drop (i+1):=by simp [List.drop_eq_getElem_cons,e1]
  have hd2:items2.toList.drop i=items2[i] :: items2.toList.drop (i+1):=by simp [List.drop_eq_getElem_cons,e2]
  have hc:((i:Int)+1)=((i+1:Nat):Int):=by push_cast; rfl
  rw [hd1] at hi
  rw [hd2] at hj
  generalize items[i]=y1 at hi hi1
  generalize items2[i]=y2 at hj hi2
  cases hi with
  | cons _ t hi' =>
   cases hj with
   | cons _ u hj' =>
    rw [lexLt_cons] at h
    wp_walk using wpAny_loadPart' hl,wpAny_loadPart' hb
    rw [hi1,hi2]
    obtain ⟨e,he,hiff⟩:=eqAt_int A.in1 ⟨hp,g,d,tk,os⟩ a t c u
    refine wpAny_bind (he prog w _ _ ?_)
    cases e with
    | true =>
     rw [if_pos (hiff.mp rfl)] at h
     wp_walk
     rw [hc]
     exact ⟨plainId_quiet plain_eq_loop _,codeAny_builtin entry_eq_loop (by
      rw [Around.under_plainId plain_eq_loop _]
      exact lt_loopI l b items items2 n n2 dd dd2 sl sl2 ns ms (i+1) (by trivial) (by trivial) hi' hj' prog w A R _ ⟨hl,hb,h⟩)⟩
    | false =>
     rw [if_neg (fun q => absurd (hiff.mpr q) Bool.false_ne_true)] at h
     have hri:=rcLt_int A.in1 ⟨hp,g,d,tk,os⟩ a t c u prog w
     wp_walk using wpAny_loadPart' hl,wpAny_loadPart' hb
     rw [hi1,hi2]
     wp_walk using hri
     exact h
theorem list_ltI (l b:Addr) (items items2:Array Value) (n n2:Nat) (dd dd2:Option Addr) (sl sl2:Array (Option Value)) (ns ms:List Int) (hi:IntsAre items.toList ns) (hj:IntsAre items2.toList ms) :
  Meets (Builtin.«list.__lt__» ⟨[.ref l,.ref b],[]⟩)
   (fun _ R s => s.heap.get? l=some { cls:=.type "list",dict:=dd,data:=.seq items n,slots:=sl }∧s.heap.get? b=some { cls:=.type "list",dict:=dd2,data:=.seq items2 n2,slots:=sl2 } ∧
    R (.ok (.ret (.bool (lexLt ns ms)))) s):=by
 intro prog w A R s h
 obtain ⟨hp,g,d,tk,os⟩:=s; obtain ⟨hl,hb,h⟩:=h
 have f3:=AutoSeq1.sub_list_list
 wp_walk using wpAny_loadPart' hl,wpAny_loadPart' hb
 exact ⟨plainId_quiet plain_eq_loop _,codeAny_builtin entry_eq_loop (by
  rw [Around.under_plainId plain_eq_loop _]
  exact lt_loopI l b items items2 n n2 dd dd2 sl sl2 ns ms 0 (Nat.zero_le _) (Nat.zero_le _) hi hj prog w A R _ ⟨hl,hb,h⟩)⟩
end HT
namespace L2
open PySem PySem.Spec PyProof.Rows PySem.W
theorem ints_inj:∀ {a b:List Int},a.map V.int=b.map V.int -> a=b
 | [],[],_ => rfl
 | [],_ :: _,h => by cases h
 | _ :: _,[],h => by cases h
 | x :: xs,y :: ys,h => by
  injection h with h1 h2
  injection h1 with h1
  rw [h1,ints_inj h2]
theorem lex_irr:∀ a:List Int,HT.lexLt a a=false
 | [] => rfl
 | x :: xs => by rw [HT.lexLt_cons,if_pos rfl]; exact lex_irr xs
theorem lex_trans:∀ a b c:List Int,HT.lexLt a b=true -> HT.lexLt b c=true -> HT.lexLt a c=true
 | _,[],c,h,h2 => by
  rename_i a
  cases a with
  | nil => rw [HT.lexLt_nil_nil] at h; cases h
  | cons _ _ => rw [HT.lexLt_cons_nil] at h; cases h
 | _,_ :: _,[],_,h2 => by rw [HT.lexLt_cons_nil] at h2; cases h2
 | [],_ :: _,_ :: _,_,_ => rfl
 | x :: xs,y :: ys,z :: zs,h,h2 => by
  rw [HT.lexLt_cons] at h h2 ⊢
  by_cases e1:x=y
  ·by_cases e2:y=z
   ·rw [if_pos e1] at h
    rw [if_pos e2] at h2
    rw [if_pos (e1.trans e2)]
    exact lex_trans xs ys zs h h2
   ·rw [if_neg e2] at h2
    rw [if_neg (fun c => e2 (e1 ▸ c)),e1]
    exact h2
  ·rw [if_neg e1] at h
   have h:=of_decide_eq_true h
   by_cases e2:y=z
   ·rw [if_neg (fun c => e1 (by trivial))]
    exact decide_eq_true (by trivial)
   ·rw [if_neg e2] at h2
    have h2:=of_decide_eq_true h2
    rw [if_neg (by trivial)]
    exact decide_eq_true (by trivial)
theorem lex_total:∀ a b:List Int,HT.lexLt a b=false -> HT.lexLt b a=false -> a=b
 | [],[],_,_ => rfl
 | [],_ :: _,h,_ => by rw [HT.lexLt_nil_cons] at h; cases h
 | _ :: _,[],_,h => by rw [HT.lexLt_nil_cons] at h; cases h
 | x :: xs,y :: ys,h,h2 => by
  rw [HT.lexLt_cons] at h h2
  by_cases e:x=y
  ·rw [if_pos e] at h
   rw [if_pos e.symm] at h2
   rw [e,lex_total xs ys h h2]
  ·rw [if_neg e] at h
   rw [if_neg (Ne.symm e)] at h2
   have:=of_decide_eq_false h
   have:=of_decide_eq_false h2
   trivial
noncomputable def listOrd:KeyOrd where
 α:=List Int
 blt:=HT.lexLt
 irrefl:=lex_irr
 trans:=lex_trans
 negTrans:=fun a b c h => by
  cases h1:HT.lexLt a b with
  | true => exact .inl rfl
  | false =>
   refine .inr ?_
   cases h2:HT.lexLt b c with
   | true => rfl
   | false =>
    exfalso
    cases h3:HT.lexLt b a with
    | true => rw [lex_trans b a c h3 h] at h2; cases h2
    | false => rw [lex_total a b h1 h3,h2] at h; cases h
 total:=lex_total
section
variable {prog:Program} {w:World} {A:Around} {E:Value -> Shared -> Prop} {s:Shared}
theorem oneLt_list {l b:Addr} {items items2:Array Value} {ns ms:List Int} {Q:Bool -> Shared -> Prop} (hl:s.heap.IsList l items) (hb:s.heap.IsList b items2) (hi:IntsAre items.toList ns) (hj:IntsAre items2.toList ms)
  (hu:A.units < cLine) (h:Q (HT.lexLt ns ms) s):wpAny (model prog w) A (oneLt' true (.ref l) (.ref b)) Q E s:=by
 obtain ⟨⟨cls,dd,data,sl⟩,ho,hc,n,hd⟩:=id hl
 obtain ⟨⟨cls2,dd2,data2,sl2⟩,ho2,hc2,n2,hd2⟩:=id hb
 simp only at hc hd hc2 hd2
 subst hc hd hc2 hd2
 rw [oneLt'_eq]
 simp only [if_true]
 refine wpAny_bind (wpAny_cRoomFor hu ?_)
 refine wpAny_bind (wpAny_callSpecialIfBound?_slot (T:="list") ⟨_,ho,rfl⟩ PySem.F.slot_list_lt (call_meets PySem.F.slot_list_lt ⟨_,ho,rfl⟩ PySem.F.entry_list_lt (PySem.F.args_list_lt_2 _ _) (HT.list_ltI l b items items2 n n2 dd dd2 sl sl2 ns ms hi hj) ⟨ho,ho2,?_⟩))
 exact wpAny_truthy_bool h
end
noncomputable def fky {α:Type} (d:α) (zs:List (Addr×α)) (p:Keyed):α:=match p.1 with
 | .ref a => ((zs.find? fun z => decide (z.1=a)).map (·.2)).getD d
 | _ => d
theorem fky_at {α:Type} {d:α} {zs:List (Addr×α)} (same:∀ z∈zs,∀ y∈zs,z.1=y.1 -> z.2=y.2) {z:Addr×α} (hz:z∈zs) (v:Value):fky d zs (.ref z.1,v)=z.2:=by
 show ((zs.find? fun y => decide (y.1=z.1)).map (·.2)).getD d=z.2
 cases e:zs.find? fun y => decide (y.1=z.1) with
 | none =>
  have:=List.find?_eq_none.mp e z hz
  simp at this
 | some y =>
  have h1:=List.mem_of_find?_eq_some e
  have h2:y.1=z.1:=by simpa using List.find?_some e
  exact same y h1 z hz h2
theorem vals_refsA {α:Type}:∀ {zs:List (Addr×α)} {us:List Value},Vals (zs.map fun z => V.ref z.1) us -> us=zs.map fun z => Value.ref z.1
 | [],_,r => by
  rw [List.map_nil] at r
  cases r; rfl
 | z :: zs,_,r => by
  rw [List.map_cons] at r
  cases r with
  | cons h t =>
   have h':_=Value.ref z.1:=h
   rw [h',vals_refsA t]; rfl
noncomputable def LstAt (h:Heap) (z:Addr×List Int):Prop:=∃ items:Array Value,h.IsList z.1 items∧IntsAre items.toList z.2
theorem cmp_list {prog:Program} {w:World} {A:Around} {s:Shared} {zs:List (Addr×List Int)} (hu:A.units < cLine) (same:∀ z∈zs,∀ y∈zs,z.1=y.1 -> z.2=y.2) (hh:∀ z∈zs,LstAt s.heap z):TS.Cmp prog w A s oneType' listOrd (fky [] zs) (fun p => ∃ z∈zs,p.1=.ref z.1) where
 lt:=fun p q ⟨z,hz,e1⟩ ⟨y,hy,e2⟩ {E Q} h => by
  obtain ⟨p1,p2⟩:=p
  obtain ⟨q1,q2⟩:=q
  dsimp only at e1 e2
  subst e1 e2
  have h:Q (HT.lexLt (fky [] zs (Value.ref z.fst,p2)) (fky [] zs (Value.ref y.fst,q2))) s:=h
  rw [fky_at same hz,fky_at same hy] at h
  obtain ⟨i1,l1,n1⟩:=hh z hz
  obtain ⟨i2,l2,n2⟩:=hh y hy
  rw [keyLt'_oneType]
  exact oneLt_list l1 l2 n1 n2 hu h
end L2
namespace PH
open PySem L2 PySem.W
noncomputable def letB (cs:List (Int×Int)):Bool:=(cs.all fun c => decide (c.2≤256)) && roomB cs
theorem let_can {cs:List (Int×Int)} (h:RiseC cs):canB cs=letB cs:=by
 unfold canB letB lenB
 rw [riseB_of h (fun c hc => by have:=(h.2 c hc).1; trivial),Bool.true_and]
 congr 1
 have hp:∀ c∈cs,(decide (1≤c.2) && decide (c.2≤256))=decide (c.2≤256):=fun c hc => by
  rw [decide_eq_true (h.2 c hc).2.2,Bool.true_and]
 clear h
 induction cs with
 | nil => rfl
 | cons c r ih =>
  rw [List.all_cons,List.all_cons,hp c List.mem_cons_self,ih fun c hc => hp c (List.mem_cons_of_mem _ hc)]
theorem gNam {i:Nat} {v v':V} {σ:St} {H:Hp} {Q:St -> Hp -> Prop} (e:v'=v) (h:gName i v' σ H Q):gName i v σ H Q:=by
 rw [← e]; exact h
theorem Wrs.same {H H':Hp} {p:Addr} {ws:List (Addr×Int×Addr×List Int)} (h:Wrs H p ws) (s:Same H H'):Wrs H' p ws:=⟨s _ _ h.at_,fun w hw => ⟨s _ _ (h.each w hw).1,s _ _ (h.each w hw).2⟩⟩
end PH
namespace PH
open PySem L2 PySem.W
noncomputable def geW (w v:List Int):Prop:=isBits v∧w.length≤v.length∧v.length≤256∧tk w≤worth v * 2 ^ (256 - v.length)
theorem pow_split {a b:Nat} (h:a≤b) (hb:b≤256):(2:Int) ^ (b - a) * 2 ^ (256 - b)=2 ^ (256 - a):=by
 rw [← Int.pow_add]
 congr 1
 trivial
theorem wdsN_ge:∀ {ls:List Nat} {w:List Int},isBits w -> w.length≤256 -> Up w.length ls -> tk w+sP ls≤2 ^ 256 -> ∀ v∈wdsN w ls,geW w v
 | [],_,_,_,_,_,v,h => by cases h
 | l :: r,w,hb,hw,hu,ht,v,h => by
  have hroom:=room_at hb hw ht
  have hon:=room_on hb hu.1 hu.2.1 ht
  have hnl:=nw_len (w:=w) hu.1
  have htk:=tk_nw hb hroom hu.1 hu.2.1
  rcases List.mem_cons.mp h with e | e
  ·subst e
   refine ⟨nw_bits w l,by rw [hnl]; exact hu.1,by rw [hnl]; exact hu.2.1,?_⟩
   rw [worth_nw hb hroom,hnl,Int.mul_assoc,pow_split hu.1 hu.2.1]
   exact Int.le_refl _
  ·obtain ⟨g1,g2,g3,g4⟩:=wdsN_ge (nw_bits w l) (by rw [hnl]; exact hu.2.1) (by rw [hnl]; exact hu.2.2) hon v e
   refine ⟨g1,by rw [hnl] at g2; have:=hu.1; trivial,g3,?_⟩
   have:(0:Int) < 2 ^ (256 - l):=Int.pow_pos (by decide)
   trivial
theorem wds_le {cs:List (Int×Int)} (h:canB cs=true):∀ v∈wds (lensOf cs),v.length≤256:=by
 obtain ⟨hlen,hsum⟩:=can_lens h
 have hup:=lens_up cs hlen
 generalize lensOf cs=ls at hsum hup
 cases ls with
 | nil => intro v hv; cases hv
 | cons l r =>
  rw [sP_cons] at hsum
  intro v hv
  rcases List.mem_cons.mp hv with e | e
  ·rw [e,zer_len]; exact hup.2.1
  ·exact (wdsN_ge (zer_bits l) (by rw [zer_len]; exact hup.2.1) (by rw [zer_len]; exact hup.2.2) (by rw [tk_zer]; exact hsum) v e).2.2.1
end PH
namespace PySem
open Sem (wp)
theorem lk_list_keys:typeLookup (.type "list") "keys" = pure none:=by rw [typeLookup_type,builtinLookup_eq_fast]; kernel_rfl
theorem keys_of_list {prog:Program} {w:World} {A:Around} {E:Value -> Shared -> Prop} {s:Shared} {a:Addr} {o:Obj} {xs:Array Value} {k:Nat} {Q:Option Value -> Shared -> Prop}
  (hx:s.heap.get? a=some o) (hc:o.cls=.type "list") (hdat:o.data=.seq xs k) (hd:o.dict=none) (hA:A.handled=none)
  (h:∀ h' tk e,Heap.NewExcOf s.heap h' e "AttributeError" -> Q none { s with heap:=h',toks:=tk }) :
  wpAny (model prog w) A (getAttr? (.ref a) "keys") Q E s:=by
 obtain ⟨c,dct,dat,sl⟩:=o
 simp only at hc hdat hd
 subst hc hdat hd
 obtain ⟨hp,g,d,tk,os⟩:=s
 have hT:∀ tk',(⟨hp,g,d,tk',os⟩:Shared).TypeIs (.ref a) "list":=fun _ => ⟨_,hx,rfl⟩
 have f1:=sub_AttributeError
 have f3:=F.slot_list_getattribute.lookup
 have f4:=F.slot_list_getattribute.bind (.ref a)
 have f5:=am_list_getattr_none
 unfold getAttr? getAttrBy? getAttrBy
 repeat (any_goals (first | assumption | exact hT _ | ((with_reducible show wpAny _ _ (call (Value.builtin "list.__getattribute__") _ _) _ _ _); refine call_meets F.slot_list_getattribute (hT _) am_entry_list_getattribute (F.args_list_getattribute_2 _ _) (meets_getattribute_miss_list a xs k sl "keys" _ lk_list_keys (by decide) (by size_fits)) ⟨hx,hA,fun h' tk' e hx' => ?_⟩) | wp_step))
 obtain ⟨t',u',he⟩:=hx'.there
 show wpAny _ _ (getattributeRaised _ _ _ _ _ _ _) _ _ _
 unfold getattributeRaised
 repeat (any_goals (first | assumption | wp_step))
 all_goals (try exact h _ _ _ hx'.of)
end PySem
namespace PyProof.Rows
open PySem PySem.Spec
namespace F
theorem entry_dict_update_loop:entryFor table "dict.update.loop" = some Builtin.«dict.update.loop»:=entryFor_of_tree (by kernel_rfl)
theorem plain_dict_update_loop:plainId "dict.update.loop" = true:=by decide +kernel
end F
noncomputable def PvAt (h:Heap) (a:Addr) (x v:Value):Prop:=∃ o n,h.get? a=some o∧o.cls=.type "tuple"∧o.data=.seq #[x,v] n
section
variable {prog:Program} {w:World} {A:Around} {R:Result -> Shared -> Prop} {I:Addr} {fp wr:List Addr} {n:Nat} {P:Nat -> Value -> Prop} {St:Nat -> Heap -> Prop} {K:Type} [DecidableEq K] {knd:PySem.KeyKind prog w K}
noncomputable def sts (ky:Nat -> K) (vv:Nat -> Value):Nat -> Nat -> List (K×Value) -> List (K×Value)
 | 0,_,kvs => kvs
 | k+1,i,kvs => sts ky vv k (i+1) (stored kvs (ky i) (vv i))
theorem dict_loop (W:Walks prog w A.in1 I fp wr n P St) (D:Addr) (hDf:D ∉ fp) (it:Nat -> Addr) (ky:Nat -> K) (kv vv:Nat -> Value) (hP:∀ i v,P i v -> v=.ref (it i)) (hky:∀ i,i < n -> knd.is (ky i) (kv i)=true) (hit:∀ i,i < n -> it i ∉ wr∧it i≠D) (hz:n≤sizeLine) :
  ∀ (k i:Nat) (c:Int) (s:Shared) (kvs:List (K×Value)),n - i=k -> i≤n -> kvs.length≤i -> St i s.heap -> s.heap.DictOf knd D kvs -> (∀ j,j < n -> PvAt s.heap (it j) (kv j) (vv j)) →
   (∀ h' tk,h'.DictOf knd D (sts ky vv k i kvs) -> (∀ b o,b ∉ wr -> b≠D -> s.heap.get? b=some o -> h'.get? b=some o) -> R (.ok (.ret .none)) { s with heap:=h',toks:=tk }) →
   codeAny (model prog w) A (.builtin "dict.update.loop" ⟨[.ref D,.ref I,rawInt c,.none],[]⟩) R s:=by
 have hDw:D ∉ wr:=fun h => hDf (W.sub _ h)
 intro k
 induction k with
 | zero =>
  intro i c s kvs hk hi hl hst hD hp hR
  have hin:i=n:=by trivial
  subst hin
  refine codeAny_builtin F.entry_dict_update_loop ?_
  rw [Around.under_plainId F.plain_dict_update_loop _]
  show wpAny _ A.in1 (pyNext (.ref I) >>= _) _ _ s
  refine wpAny_bind (W.done s _ _ hst fun h' tk hk' => ?_)
  show wpAny _ A.in1 (Builtin.Dict.addKeywords D [] >>= _) _ _ _
  refine wpAny_bind (wpAny_pure (wpAny_pure (hR h' tk ?_ fun b o hb hbD e => hk' b o hb e)))
  obtain ⟨o,es,ep,ho,r⟩:=hD
  exact ⟨o,es,ep,hk' D _ hDw ho,r⟩
 | succ k ih =>
  intro i c s kvs hk hi hl hst hD hp hR
  have hlt:i < n:=by trivial
  refine codeAny_builtin F.entry_dict_update_loop ?_
  rw [Around.under_plainId F.plain_dict_update_loop _]
  show wpAny _ A.in1 (pyNext (.ref I) >>= _) _ _ s
  refine wpAny_bind (W.item i s _ _ hlt hst fun v h1 tk1 hPv hst1 hk1 => ?_)
  have hv:=hP i v hPv
  subst hv
  have hp1:∀ j,j < n -> PvAt h1 (it j) (kv j) (vv j):=fun j hj => by
   obtain ⟨o,m,e,r⟩:=hp j hj
   exact ⟨o,m,hk1 _ _ (hit j hj).1 e,r⟩
  have hD1:h1.DictOf knd D kvs:=by
   obtain ⟨o,es,ep,ho,r⟩:=hD
   exact ⟨o,es,ep,hk1 D _ hDw ho,r⟩
  obtain ⟨o,m,e,hc,hdat⟩:=hp1 i hlt
  show wpAny _ A.in1 (holding [Value.ref (it i)] _ >>= _) _ _ _
  refine wpAny_bind (wpAny_holding ?_)
  have hT:Shared.TypeIs { s with heap:=h1,toks:=tk1 } (.ref (it i)) "tuple":=⟨o,e,hc⟩
  refine wpAny_bind (wpAny_tryCatch ?_)
  unfold Builtin.Dict.pairItems
  refine wpAny_bind (wpAny_typeOf hT ?_)
  rw [if_pos (by decide)]
  refine wpAny_bind (wpAny_seqItems e hdat (wpAny_pure ?_))
  show wpAny _ A.in1 (holding [kv i,vv i] (dictSet D (kv i) (vv i))) _ _ _
  refine wpAny_holding (wpAny_dictSet_pairs (hky i hlt) hD1 (fun h2 hD2 hs2 => ?_) (by trivial))
  refine wpAny_pure ⟨plainId_quiet F.plain_dict_update_loop _,ih (i+1) (c+1) _ (stored kvs (ky i) (vv i)) (by trivial) hlt ?_ (W.frame _ _ _ hst1 fun b hb o' e' => ?_) hD2 (fun j hj => ?_) fun h' tk hd hk' => ?_⟩
  ·have:=stored_length_le kvs (ky i) (vv i)
   trivial
  ·rw [hs2.2 b (fun h:b=D => hDf (by rw [← h]; exact hb))]; exact e'
  ·obtain ⟨o',m',e',r'⟩:=hp1 j hj
   exact ⟨o',m',(hs2.2 _ (hit j hj).2).trans e',r'⟩
  ·exact hR h' tk hd fun b o' hb hbD e' => hk' b o' hb hbD ((hs2.2 b hbD).trans (hk1 b o' hb e'))
end
end PyProof.Rows
namespace PySem
open PyProof.Rows
section
variable {prog:Program} {w:World} {A:Around} {E:Value -> Shared -> Prop} {s:Shared} {K:Type} [DecidableEq K] {knd:PySem.KeyKind prog w K}
theorem call_dict_pairs {l:Addr} {items:Array Value} {m:Nat} {sl:Array (Option Value)} {Q:Value -> Shared -> Prop} (hh:A.handled=none) (hl:s.heap.get? l=some { cls:=.type "list",dict:=none,data:=.seq items m,slots:=sl })
  (it:Nat -> Addr) (ky:Nat -> K) (kv vv:Nat -> Value) (hit:∀ i v,items[i]?=some v -> v=Value.ref (it i)) (hky:∀ i,i < items.size -> knd.is (ky i) (kv i)=true) (hp:∀ j,j < items.size -> PvAt s.heap (it j) (kv j) (vv j)) (hz:items.size≤sizeLine)
  (h:∀ h' tk,h'.DictOf knd s.heap.objs.size (sts ky vv items.size 0 []) -> (∀ b o,s.heap.get? b=some o -> h'.get? b=some o) -> Q (.ref s.heap.objs.size) { s with heap:=h',toks:=tk }) :
  wpAny (model prog w) A (call (.type "dict") [.ref l]) Q E s:=by
 refine callType_codes (Q₁:=fun obj s₁ => obj=.ref s.heap.objs.size∧s₁={ s with heap:=s.heap.push { cls:=.type "dict",data:=.dict #[] } }) F.kt_called_dict (F.kt_typeCall_dict_1 _) F.entry_dict_init (kt_code_dict_new _ ⟨rfl,rfl⟩) ?_
 rintro obj s₁ ⟨rfl,rfl⟩
 have hnew:(s.heap.push { cls:=.type "dict",data:=.dict #[] }).DictOf knd s.heap.objs.size []:=Heap.DictOf.new s.heap
 have hl1:(s.heap.push { cls:=.type "dict",data:=.dict #[] }).get? l=some { cls:=.type "list",dict:=none,data:=.seq items m,slots:=sl }:=Heap.get?_push_of_some _ hl
 have hlt:l < s.heap.objs.size:=Heap.lt_size hl
 refine ⟨hnew.typeIs,F.args_dict_init_2 _ _,?_⟩
 unfold Builtin.«dict.__init__»
 refine wpAny_bind ?_
 unfold Builtin.Dict.selfAndRest
 refine wpAny_bind (wpAny_notOrdered_dict hnew.typeIs ?_)
 show wpAny _ _ (pure (s.heap.objs.size,[Value.ref l])) _ _ _
 refine wpAny_pure ?_
 show wpAny _ _ (Builtin.Dict.updateFrom "dict.__init__" s.heap.objs.size (.ref l) [] .none) _ _ _
 unfold Builtin.Dict.updateFrom
 have hT:Shared.TypeIs { s with heap:=s.heap.push { cls:=.type "dict",data:=.dict #[] } } (Value.ref l) "list":=⟨_,hl1,rfl⟩
 refine wpAny_bind (wpAny_typeOf hT ?_)
 rw [if_pos (by decide)]
 refine wpAny_bind (keys_of_list hl1 rfl rfl rfl (by simp [hh]) fun h1 tk1 e hx => ?_)
 rw [if_pos (show ((none:Option Value).isNone=true) from rfl)]
 refine wpAny_bind (wpAny_rule ?_)
 have kp:∀ b o,s.heap.get? b=some o -> h1.get? b=some o:=fun b o q => hx.keeps b o (Heap.get?_push_of_some _ q)
 have hl2:h1.IsList l items:=⟨_,hx.keeps _ _ hl1,rfl,m,rfl⟩
 refine wpAny_bind (wpAny_pyIter_list hl2 ?_)
 have hD1:h1.DictOf knd s.heap.objs.size []:=by
  obtain ⟨o,es,ep,ho,r⟩:=hnew
  exact ⟨o,es,ep,hx.keeps _ _ ho,r⟩
 have hDl:s.heap.objs.size < h1.objs.size:=by
  obtain ⟨o,es,ep,ho,r⟩:=hD1
  exact Heap.lt_size ho
 have hlI:l≠h1.objs.size:=Nat.ne_of_lt (Nat.lt_trans hlt hDl)
 refine wpAny_pure ⟨plainId_quiet PyProof.Rows.F.plain_dict_update_loop _,?_⟩
 have hpv:∀ j,j < items.size -> it j < s.heap.objs.size:=fun j hj => by
  obtain ⟨o,n,q,_⟩:=hp j hj
  exact Heap.lt_size q
 refine dict_loop (Walks.list (A:=A.in1.in1) (by simp [hh]) h1.objs.size l hlI items) s.heap.objs.size ?_ it ky kv vv hit hky ?_ hz items.size 0 0 _ [] (by trivial) (Nat.zero_le _) (Nat.le_refl _) ⟨⟨_,Heap.get?_push_size _ rfl,rfl,rfl⟩,hl2.push _⟩ (hD1.push _) ?_ fun h' tk hd hk => ?_
 ·simp only [List.mem_cons,List.mem_singleton,List.not_mem_nil,or_false,not_or]
  exact ⟨Nat.ne_of_lt hDl,Nat.ne_of_gt hlt⟩
 ·intro j hj
  have:=hpv j hj
  refine ⟨?_,Nat.ne_of_lt this⟩
  simp only [List.mem_singleton]
  exact Nat.ne_of_lt (Nat.lt_trans this hDl)
 ·intro j hj
  obtain ⟨o,n,q,r⟩:=hp j hj
  exact ⟨o,n,Heap.get?_push_of_some _ (kp _ _ q),r⟩
 ·refine ⟨rfl,h h' tk hd fun b o q => ?_⟩
  have hb:=Heap.lt_size q
  refine hk b o ?_ (Nat.ne_of_lt hb) (Heap.get?_push_of_some _ (kp _ _ q))
  simp only [List.mem_singleton]
  exact Nat.ne_of_lt (Nat.lt_trans hb hDl)
end
end PySem
namespace L2
open PySem PySem.Spec PyProof.Rows PySem.W
noncomputable def putP (kvs:List (Key×V)) (zs:List (Addr×Int×V)):List (Key×V):=zs.foldl (fun d z => putK d (Sum.inl z.2.1) z.2.2) kvs
theorem putP_len:∀ (zs:List (Addr×Int×V)) (kvs:List (Key×V)),(putP kvs zs).length≤kvs.length+zs.length
 | [],kvs => Nat.le_refl _
 | z :: r,kvs => by
  show (putP (putK kvs (Sum.inl z.2.1) z.2.2) r).length≤_
  have h1:=putP_len r (putK kvs (Sum.inl z.2.1) z.2.2)
  have h2:=length_putK kvs (Sum.inl z.2.1) z.2.2
  rw [List.length_cons]; trivial
theorem sts_rel {ky:Nat -> Key} {vv:Nat -> Value}:∀ (zs:List (Addr×Int×V)) (i:Nat) (kvs:List (Key×V)) (vs:List (Key×Value)),(∀ j z,zs[j]?=some z -> ky (i+j)=Sum.inl z.2.1∧RelV z.2.2 (vv (i+j))) -> KV kvs vs -> KV (putP kvs zs) (sts ky vv zs.length i vs)
 | [],i,kvs,vs,_,r => r
 | z :: zs,i,kvs,vs,h,r => by
  have h0:=h 0 z rfl
  rw [Nat.add_zero] at h0
  show KV (putP (putK kvs (Sum.inl z.2.1) z.2.2) zs) (sts ky vv zs.length (i+1) (stored vs (ky i) (vv i)))
  refine sts_rel zs (i+1) _ _ (fun j y hj => ?_) ?_
  ·have:=h (j+1) y (by simpa using hj)
   rwa [show i+(j+1)=i+1+j by trivial] at this
  ·rw [h0.1]; exact r.put _ h0.2
section
variable {X:Cx}
noncomputable def rDictP (K:Frag):List V -> Hp -> VK -> Prop:=fun xs H Q => ∃ (p:Addr) (zs:List (Addr×Int×V)),xs=[.ref p]∧SqL K H p (zs.map fun z => V.ref z.1)∧(∀ z∈zs,SqT K H z.1 [.int z.2.1,z.2.2])∧∀ q,H q=none -> Q (.ref q) (upd H q (.dK (putP [] zs)))
theorem call_dictP (hc:X.calm=true):CallR X (.type "dict") (rDictP X.K):=by
 intro pins s σ H xs us Q I r h
 obtain ⟨p,zs,rfl,hq,hz,q⟩:=h
 obtain ⟨u,rfl,rx⟩:=vals1 r
 cases rx
 obtain ⟨its,r',⟨o,n,e,hc1,hd1,hd2⟩,hzl⟩:=I.list hq
 have hits:=vals_refsA r'
 subst hits
 rw [List.length_map] at hzl
 have hpv:∀ z∈zs,∃ t v,RelV z.2.2 v∧PvAt s.heap z.1 (.int z.2.1 t) v:=fun z hm => by
  obtain ⟨its2,rv,⟨o2,e2,c2,n2,d2⟩,_⟩:=I.tuple (hz z hm)
  cases rv with
  | cons h1 t1 =>
   cases t1 with
   | cons h2 t2 =>
    cases t2
    obtain ⟨t,rfl⟩:=(show ∃ t,_=Value.int z.2.1 t from h1)
    exact ⟨t,_,h2,o2,n2,e2,c2,d2⟩
 have ch:∀ j:Nat,∃ kv vv:Value,∀ z,zs[j]?=some z -> (∃ t,kv=.int z.2.1 t)∧RelV z.2.2 vv∧PvAt s.heap z.1 kv vv:=fun j => by
  cases hj:zs[j]? with
  | none => exact ⟨.none,.none,fun z e => by cases e⟩
  | some z =>
   obtain ⟨t,v,h1,h2⟩:=hpv z (List.mem_of_getElem? hj)
   exact ⟨.int z.2.1 t,v,fun y ey => by cases ey; exact ⟨⟨t,rfl⟩,h1,h2⟩⟩
 obtain ⟨kv,hkv⟩:=Classical.axiomOfChoice ch
 obtain ⟨vv,hvv⟩:=Classical.axiomOfChoice hkv
 have hat:∀ j,j < zs.length -> ∃ z,zs[j]?=some z:=fun j hj => ⟨_,List.getElem?_eq_getElem hj⟩
 have hsz:(zs.map fun z => Value.ref z.1).toArray.size=zs.length:=by simp
 obtain ⟨cls,dct,dat,sl⟩:=o
 simp only at hc1 hd1 hd2
 subst hc1 hd1 hd2
 refine call_dict_pairs (knd:=mixKind X.prog X.w) (I.ok.hd hc) e (fun j => (zs[j]?.map (·.1)).getD 0) (fun j => Sum.inl ((zs[j]?.map (·.2.1)).getD 0)) kv vv (fun j v hv => ?_) (fun j hj => ?_) (fun j hj => ?_) (by rw [hsz]; exact hzl) fun h' tk dd hk => ?_
 ·have hv':(zs.map fun z => Value.ref z.1)[j]?=some v:=by simpa using hv
  rw [List.getElem?_map] at hv'
  cases hz':zs[j]? with
  | none => rw [hz'] at hv'; cases hv'
  | some z => rw [hz'] at hv'; exact (Option.some.inj hv').symm
 ·rw [hsz] at hj
  obtain ⟨z,hz'⟩:=hat j hj
  obtain ⟨⟨t,ht⟩,_⟩:=hvv j z hz'
  rw [hz',ht]
  exact kV_is (k:=Sum.inl z.2.1) ⟨t,rfl⟩
 ·rw [hsz] at hj
  obtain ⟨z,hz'⟩:=hat j hj
  obtain ⟨_,_,h3⟩:=hvv j z hz'
  rw [hz']
  exact h3
 ·rw [hsz] at dd
  refine ⟨.ref s.heap.objs.size,_,I.laid (a:=s.heap.objs.size) (o:=.dK (putP [] zs)) (t':=tk) hk (Nat.le_refl _) (dk_new (by have:=putP_len zs []; rw [List.length_nil] at this; trivial) (beq_eq_false_iff_ne.mpr (Ne.symm (Nat.ne_of_lt I.big))) (sts_rel zs 0 [] [] (fun j z hj => ?_) .nil) dd),rfl,q _ (I.hok.fresh (Nat.le_refl _))⟩
  rw [Nat.zero_add]
  refine ⟨by rw [hj]; rfl,(hvv j z hj).2.1⟩
end
end L2
namespace PH
open PySem L2 PySem.W
noncomputable def fnd (ws:List (Int×List Int)) (s:Int):Option (List Int):=(ws.find? fun p => decide (p.1=s)).map (·.2)
noncomputable def cdd (ws:List (Int×List Int)):List Int -> Option (List Int)
 | [] => some []
 | s :: r => match fnd ws s with
  | none => none
  | some w => (cdd ws r).map (w++·)
theorem cdd_no {ws:List (Int×List Int)} {s:Int} {r:List Int} (h:fnd ws s=none):cdd ws (s :: r)=none:=by rw [cdd,h]
theorem cdd_on {ws:List (Int×List Int)} {s:Int} {r w:List Int} (h:fnd ws s=some w):cdd ws (s :: r)=(cdd ws r).map (w++·):=by rw [cdd,h]
noncomputable def rdw:List (Int×List Int) -> List Int -> Nat -> Option (Int×Nat)
 | [],_,_ => none
 | p :: r,bits,at_ => if (bits.drop at_).take p.2.length=p.2 then some (p.1,at_+p.2.length) else rdw r bits at_
noncomputable def dcd (ws:List (Int×List Int)) (bits:List Int):Nat -> Nat -> Option (List Int×Nat)
 | 0,at_ => some ([],at_)
 | n+1,at_ => match rdw ws bits at_ with
  | none => none
  | some r => (dcd ws bits n r.2).map fun q => (r.1 :: q.1,q.2)
theorem dcd_no {ws:List (Int×List Int)} {bits:List Int} {n a:Nat} (h:rdw ws bits a=none):dcd ws bits (n+1) a=none:=by rw [dcd,h]
theorem dcd_on {ws:List (Int×List Int)} {bits:List Int} {n a:Nat} {r:Int×Nat} (h:rdw ws bits a=some r):dcd ws bits (n+1) a=(dcd ws bits n r.2).map fun q => (r.1 :: q.1,q.2):=by rw [dcd,h]
theorem rdw_le:∀ {ws:List (Int×List Int)} {bits:List Int} {a:Nat} {r:Int×Nat},a≤bits.length -> rdw ws bits a=some r -> a≤r.2∧r.2≤bits.length
 | [],bits,a,r,_,h => by cases h
 | p :: ps,bits,a,r,ha,h => by
  rw [rdw] at h
  split at h
  ·rename_i e
   have e2:=congrArg List.length e
   rw [List.length_take,List.length_drop] at e2
   rw [← Option.some.inj h]
   exact ⟨Nat.le_add_right _ _,by show a+p.2.length≤_; trivial⟩
  ·exact rdw_le ha h
theorem valV_putP:∀ (zs:List (Addr×Int×V)) (kvs:List (Key×V)) (s:Int),(zs.map fun z => z.2.1).Nodup -> valV (putP kvs zs) (Sum.inl s)=match zs.find? (fun z => decide (z.2.1=s)) with | some z => some z.2.2 | none => valV kvs (Sum.inl s)
 | [],kvs,s,_ => rfl
 | z :: r,kvs,s,nd => by
  rw [List.map_cons,List.nodup_cons] at nd
  show valV (putP (putK kvs (Sum.inl z.2.1) z.2.2) r) (Sum.inl s)=_
  rw [valV_putP r _ s nd.2,List.find?_cons]
  by_cases e:z.2.1=s
  ·have hr:r.find? (fun z => decide (z.2.1=s))=none:=by
    rw [List.find?_eq_none]
    intro y hy hd
    have hd':y.2.1=s:=by simpa using hd
    exact nd.1 (List.mem_map.mpr ⟨y,hy,by rw [hd',e]⟩)
   rw [hr,decide_eq_true e]
   show valV (putK kvs (Sum.inl z.2.1) z.2.2) (Sum.inl s)=some z.2.2
   rw [valV_put,if_pos (by rw [e])]
  ·rw [decide_eq_false e]
   cases q:r.find? (fun z => decide (z.2.1=s)) with
   | some y => rfl
   | none =>
    show valV (putK kvs (Sum.inl z.2.1) z.2.2) (Sum.inl s)=valV kvs (Sum.inl s)
    rw [valV_put,if_neg (fun h => e (Sum.inl.inj h).symm)]
noncomputable def wdV (ws:List (Addr×Int×Addr×List Int)):List (Addr×Int×V):=ws.map fun w => (w.1,w.2.1,V.ref w.2.2.1)
noncomputable def wdM (ws:List (Addr×Int×Addr×List Int)):List (Int×List Int):=ws.map fun w => (w.2.1,w.2.2.2)
theorem val_wd {ws:List (Addr×Int×Addr×List Int)} (nd:(ws.map fun w => w.2.1).Nodup) (s:Int):(fnd (wdM ws) s=none∧valV (putP [] (wdV ws)) (Sum.inl s)=none)∨∃ w∈ws,fnd (wdM ws) s=some w.2.2.2∧valV (putP [] (wdV ws)) (Sum.inl s)=some (V.ref w.2.2.1):=by
 have hv:=valV_putP (wdV ws) [] s (by unfold wdV; rw [List.map_map]; exact nd)
 have h1:(wdV ws).find? (fun z => decide (z.2.1=s))=(ws.find? (fun w => decide (w.2.1=s))).map fun w => (w.1,w.2.1,V.ref w.2.2.1):=by
  unfold wdV; rw [List.find?_map]; rfl
 have h2:fnd (wdM ws) s=(ws.find? (fun w => decide (w.2.1=s))).map fun w => w.2.2.2:=by
  unfold fnd wdM
  rw [List.find?_map,Option.map_map]; rfl
 rw [h1] at hv
 rw [hv,h2]
 cases q:ws.find? (fun w => decide (w.2.1=s)) with
 | none => exact .inl ⟨rfl,rfl⟩
 | some w => exact .inr ⟨w,List.mem_of_find?_eq_some q,rfl,rfl⟩
noncomputable def cdO (cs:List (Int×Int)) (t:List Int):Option (List Int):=if canB cs=true then cdd (wrdsOf cs) t else none
noncomputable def spCoded (cC:Addr):Sp:=fun vs H Q E => ∃ (T p:Addr) (t:List Int) (zs:List (Addr×Int×Int)),vs=[.ref T,.ref p]∧H T=some (lsI t)∧t.length≤1000∧Prs H p zs∧zs.length≤300 ∧
 (cdO (zs.map (·.2)) t=none -> ∀ H',Same H H' -> E (.ref cC) none H') ∧
 (∀ bits,cdO (zs.map (·.2)) t=some bits -> ∀ (D:Addr) (H':Hp),Same H H' -> H D=none -> H' D=some (lsI bits) -> Q (.ref D) H')
noncomputable def spReadW (cB:Addr):Sp:=fun vs H Q E => ∃ (Bt W:Addr) (bits:List Int) (a:Nat) (ws:List (Addr×Int×Addr×List Int)),vs=[.ref Bt,.int (a:Int),.ref W]∧H Bt=some (lsI bits)∧Wrs H W ws∧ws.length≤300 ∧
 (rdw (wdM ws) bits a=none -> ∀ H',Same H H' -> E (.ref cB) none H')∧(∀ r,rdw (wdM ws) bits a=some r -> ∀ (T:Addr) (H':Hp),Same H H' -> H' T=some (.tup [.int r.1,.int (r.2:Int)]) -> Q (.ref T) H')
inductive Rd10 | nc | br | tx (t:List Int) (e:Nat)
noncomputable def rd1:Option (List Int×Nat) -> Rd10
 | none => .br
 | some r => .tx r.1 r.2
noncomputable def rdO (cs:List (Int×Int)) (bits:List Int) (at_:Int) (n:Nat):Rd10 :=
 if canB cs=true then (if 0≤at_∧at_≤(bits.length:Int) then rd1 (dcd (wrdsOf cs) bits n at_.toNat) else .br) else .nc
theorem boot_dictP:bootBuiltins "dict" = some (.type "dict"):=by decide +kernel
theorem dropH_at {α:Type} {l:List α} {k:Nat} {x:α} (h:l[k]?=some x):l.drop k=x :: l.drop (k+1):=by
 obtain ⟨hk,e⟩:=List.getElem?_eq_some_iff.mp h
 rw [← e]
 exact List.drop_eq_getElem_cons hk
noncomputable def spDecoded (cC cB:Addr):Sp:=fun vs H Q E => ∃ (Bt p:Addr) (bits:List Int) (at_:Int) (n:Nat) (zs:List (Addr×Int×Int)),vs=[.ref Bt,.int at_,.ref p,.int (n:Int)]∧H Bt=some (lsI bits)∧bits.length≤100000∧n≤100000∧Prs H p zs∧zs.length≤300 ∧
 (rdO (zs.map (·.2)) bits at_ n=.nc -> ∀ H',Same H H' -> E (.ref cC) none H')∧(rdO (zs.map (·.2)) bits at_ n=.br -> ∀ H',Same H H' -> E (.ref cB) none H') ∧
 (∀ t e,rdO (zs.map (·.2)) bits at_ n=.tx t e -> ∀ (T D:Addr) (H':Hp),Same H H' -> H D=none -> H' T=some (.tup [.ref D,.int (e:Int)]) -> H' D=some (lsI t) -> Q (.ref T) H')
theorem can_nd {zs:List (Addr×Int×Int)} {ws:List (Addr×Int×Addr×List Int)} (h:(wrdsOf (zs.map (·.2))).map (·.1)=(zs.map (·.2)).map (·.1)) (e:wdM ws=wrdsOf (zs.map (·.2))) (nd:((zs.map (·.2)).map (·.1)).Nodup):(ws.map fun w => w.2.1).Nodup:=by
 have h1:(wdM ws).map (·.1)=ws.map fun w => w.2.1:=by unfold wdM; rw [List.map_map]; rfl
 rw [← h1,e,h]; exact nd
theorem wrds_keys (cs:List (Int×Int)):(wrdsOf cs).map (·.1)=cs.map (·.1):=by unfold wrdsOf; rw [List.map_map]; rfl
theorem wrds_le2 {cs:List (Int×Int)} (hb:canB cs=true):∀ e∈wrdsOf cs,e.2.length≤256:=fun e he => by
 obtain ⟨c,_,rfl⟩:=List.mem_map.mp he
 show (look (wof cs) c.1).length≤256
 unfold look
 cases q:(wof cs).find? fun p => decide (p.1=c.1) with
 | none => exact Nat.zero_le _
 | some p =>
  have hm:=List.mem_of_find?_eq_some q
  unfold wof at hm
  exact wds_le hb _ (List.of_mem_zip hm).2
theorem can_keys {cs:List (Int×Int)} (hb:canB cs=true):(cs.map (·.1)).Nodup:=by
 unfold canB at hb
 simp only [Bool.and_eq_true] at hb
 exact (riseB_lt hb.1.1).2
end PH
namespace PH
open PySem L2 PySem.W
inductive K10r | told (b:List Int) | pair (t:List Int) (e:Nat) | nc | br
end PH
namespace PH
open PySem L2 PySem.W
structure ExK (K:Frag) (cN c1 c2 c3 c4 c5 c6:Addr):Prop where
 k1:kitOne K (.ref cN) (.ref c1)=some false
 k2:kitOne K (.ref cN) (.ref c2)=some false
 k3:kitOne K (.ref cN) (.ref c3)=some false
 k4:kitOne K (.ref cN) (.ref c4)=some false
 k5:kitOne K (.ref cN) (.ref c5)=some false
 k6:kitOne K (.ref cN) (.ref c6)=some false
end PH
namespace PH
open PySem L2 PySem.W
noncomputable def Kd (ps:List Addr) (H H':Hp):Prop:=∀ b u,b ∉ ps -> H b=some u -> H' b=some u
theorem Kd.upd {ps:List Addr} {H H':Hp} (k:Kd ps H H') {q:Addr} (u:HO) (hq:H q=none):Kd ps H (upd H' q u):=fun b w hb e => by
 rw [upd_ne (fun z => by rw [z,hq] at e; cases e)]; exact k b w hb e
end PH
namespace PH
open PySem L2 PySem.W
noncomputable def stepS (st:List Int) (x:Int):List Int:=st.erase x++[x]
noncomputable def plS (st:List Int) (x:Int):Int:=if x∈st then (st.length:Int) - 1 - (st.idxOf x:Nat) else (st.length:Int)+x - ((st.filter fun y => decide (y < x)).length:Nat)
noncomputable def frP (ns:List Int):List Int×List Int:=ns.foldl (fun p x => (stepS p.1 x,p.2++[plS p.1 x])) ([],[])
noncomputable def stOf (ns:List Int):List Int:=(frP ns).1
noncomputable def frs (ns:List Int):List Int:=(frP ns).2
theorem frP_snoc (ns:List Int) (x:Int):frP (ns++[x])=(stepS (stOf ns) x,frs ns++[plS (stOf ns) x]):=by unfold frP stOf frs; rw [List.foldl_append]; rfl
theorem stOf_snoc (ns:List Int) (x:Int):stOf (ns++[x])=stepS (stOf ns) x:=congrArg Prod.fst (frP_snoc ns x)
theorem frs_snoc (ns:List Int) (x:Int):frs (ns++[x])=frs ns++[plS (stOf ns) x]:=congrArg Prod.snd (frP_snoc ns x)
noncomputable def allS:List Int:=(List.range 256).map fun k => ((k:Nat):Int)
noncomputable def rowS (st:List Int):List Int:=st.reverse++allS.filter fun y => !decide (y∈st)
theorem mem_step {st:List Int} {x y:Int}:y∈stepS st x ↔ y∈st∨y=x:=by
 unfold stepS
 rw [List.mem_append,List.mem_singleton]
 constructor
 ·rintro (h | h)
  ·exact .inl (List.mem_of_mem_erase h)
  ·exact .inr h
 ·rintro (h | h)
  ·by_cases e:y=x
   ·exact .inr e
   ·exact .inl ((List.mem_erase_of_ne e).mpr h)
  ·exact .inr h
theorem nd_step {st:List Int} {x:Int} (h:st.Nodup):(stepS st x).Nodup:=nd_snoc (h.erase x) fun q => (h.mem_erase_iff.mp q).1 rfl
theorem st_ok (ns:List Int):(stOf ns).Nodup∧(∀ y,y∈stOf ns ↔ y∈ns)∧(stOf ns).length≤ns.length∧(frs ns).length=ns.length:=by
 have hm:∀ k:Nat,∀ ms:List Int,ms.length=k -> (stOf ms).Nodup∧(∀ y,y∈stOf ms ↔ y∈ms)∧(stOf ms).length≤ms.length∧(frs ms).length=ms.length:=by
  intro k
  induction k with
  | zero =>
   intro ms h
   have:ms=[]:=List.length_eq_zero_iff.mp h
   subst this
   exact ⟨List.nodup_nil,fun y => Iff.rfl,Nat.le_refl _,rfl⟩
  | succ k ih =>
   intro ms h
   have hne:ms≠[]:=fun z => by rw [z] at h; cases h
   obtain ⟨l,x,rfl⟩:∃ l x,ms=l++[x]:=⟨ms.dropLast,ms.getLast hne,(List.dropLast_concat_getLast hne).symm⟩
   rw [List.length_append,List.length_singleton] at h
   obtain ⟨h1,h2,h3,h4⟩:=ih l (by trivial)
   refine ⟨?_,fun y => ?_,?_,?_⟩
   ·rw [stOf_snoc]; exact nd_step h1
   ·rw [stOf_snoc,mem_step,h2,List.mem_append,List.mem_singleton]
   ·rw [stOf_snoc]
    unfold stepS
    rw [List.length_append,List.length_append]
    simp only [List.length_singleton]
    have:=List.length_erase_le (a:=x) (l:=stOf l)
    trivial
   ·rw [frs_snoc,List.length_append,List.length_append,h4]; rfl
 exact hm _ ns rfl
theorem mem_allS {x:Int}:x∈allS ↔ 0≤x∧x≤255:=by
 unfold allS
 rw [List.mem_map]
 constructor
 ·rintro ⟨k,hk,rfl⟩
  have:=List.mem_range.mp hk
  trivial
 ·intro h
  exact ⟨x.toNat,List.mem_range.mpr (by trivial),by trivial⟩
theorem allS_split {x:Int} (h0:0≤x) (h1:x≤255):∃ A B:List Int,allS=A++x :: B∧(∀ y,y∈A ↔ 0≤y∧y < x)∧(∀ y∈B,x < y)∧(A.length:Int)=x∧A.Nodup:=by
 have e:List.range 256=List.range x.toNat++(List.range (256 - x.toNat)).map (x.toNat+·):=by
  rw [← List.range_add]; congr 1; trivial
 have e2:List.range (256 - x.toNat)=0 :: (List.range (255 - x.toNat)).map Nat.succ:=by
  have:256 - x.toNat=(255 - x.toNat)+1:=by trivial
  rw [this,List.range_succ_eq_map]
 refine ⟨(List.range x.toNat).map fun k => ((k:Nat):Int),((List.range (255 - x.toNat)).map Nat.succ).map (fun k => ((x.toNat+k:Nat):Int)),?_,fun y => ?_,fun y hy => ?_,?_,?_⟩
 ·unfold allS
  rw [e,List.map_append]
  congr 1
  rw [e2,List.map_cons,List.map_cons,List.map_map]
  congr 1
  ·show ((x.toNat+0:Nat):Int)=x
   trivial
 ·rw [List.mem_map]
  constructor
  ·rintro ⟨k,hk,rfl⟩
   have:=List.mem_range.mp hk
   trivial
  ·intro h
   exact ⟨y.toNat,List.mem_range.mpr (by trivial),by trivial⟩
 ·rw [List.map_map] at hy
  obtain ⟨k,_,rfl⟩:=List.mem_map.mp hy
  show x < ((x.toNat+Nat.succ k:Nat):Int)
  trivial
 ·rw [List.length_map,List.length_range]; trivial
 ·exact List.Pairwise.map _ (fun a b h z => h (Int.ofNat.inj z)) List.nodup_range
theorem filt_len {A st:List Int} {x:Int} (hA:∀ y,y∈A ↔ 0≤y∧y < x) (nA:A.Nodup) (ns:st.Nodup) (hb:∀ y∈st,0≤y) :
  ((A.filter fun y => !decide (y∈st)).length:Int)=(A.length:Int) - ((st.filter fun y => decide (y < x)).length:Nat):=by
 have hp:(A.filter fun y => decide (y∈st)).Perm (st.filter fun y => decide (y < x)):=by
  refine (List.perm_ext_iff_of_nodup (nA.filter _) (ns.filter _)).mpr fun y => ?_
  rw [List.mem_filter,List.mem_filter,decide_eq_true_iff,decide_eq_true_iff,hA]
  constructor
  ·rintro ⟨⟨_,h2⟩,h3⟩; exact ⟨h3,h2⟩
  ·rintro ⟨h1,h2⟩; exact ⟨⟨hb y h1,h2⟩,h1⟩
 have h2:A.length=(A.filter fun y => decide (y∈st)).length+(A.filter fun y => !decide (y∈st)).length:=by
  have:=List.length_eq_countP_add_countP (l:=A) (fun y => decide (y∈st))
  rw [List.countP_eq_length_filter,List.countP_eq_length_filter] at this
  rw [this]
  congr 2
  refine List.filter_congr fun y _ => ?_
  by_cases q:y∈st <;> simp [q]
 rw [← hp.length_eq]
 trivial
theorem row_step {st:List Int} {x:Int} (nd:st.Nodup) (hb:∀ y∈st,0≤y∧y≤255) (h0:0≤x) (h1:x≤255) :
  ∃ pre post,rowS st=pre++x :: post∧x ∉ pre∧(pre.length:Int)=plS st x∧rowS (stepS st x)=x :: (pre++post):=by
 by_cases hx:x∈st
 ·obtain ⟨a,b,rfl⟩:=List.append_of_mem hx
  have hd:=List.nodup_append.mp nd
  have hxa:x ∉ a:=fun z => hd.2.2 x z x (List.mem_cons_self ..) rfl
  have hxb:x ∉ b:=(List.nodup_cons.mp hd.2.1).1
  refine ⟨b.reverse,a.reverse++allS.filter fun y => !decide (y∈a++x :: b),?_,fun z => hxb (List.mem_reverse.mp z),?_,?_⟩
  ·unfold rowS
   rw [List.reverse_append,List.reverse_cons]
   simp
  ·unfold plS
   rw [if_pos hx,List.length_reverse,List.length_append,List.length_cons]
   have:(a++x :: b).idxOf x=a.length:=by
    rw [List.idxOf_append,if_neg hxa,List.idxOf_cons_self,Nat.zero_add]
   rw [this]
   trivial
  ·unfold rowS stepS
   have e:(a++x :: b).erase x=a++b:=by rw [List.erase_append_right _ hxa,List.erase_cons_head]
   rw [e]
   have e2:(allS.filter fun y => !decide (y∈a++b++[x]))=allS.filter fun y => !decide (y∈a++x :: b):=by
    refine List.filter_congr fun y _ => ?_
    congr 1
    apply decide_eq_decide.mpr
    simp only [List.mem_append,List.mem_cons,List.mem_singleton,List.not_mem_nil,or_false]
    constructor
    ·rintro ((h | h) | h)
     ·exact .inl h
     ·exact .inr (.inr h)
     ·exact .inr (.inl h)
    ·rintro (h | h | h)
     ·exact .inl (.inl h)
     ·exact .inr h
     ·exact .inl (.inr h)
   rw [e2,List.reverse_append,List.reverse_append]
   simp
 ·obtain ⟨A,B,e,hA,hB,hl,nA⟩:=allS_split h0 h1
  have hxA:x ∉ A:=fun z => by have:=(hA x).mp z; trivial
  have hxB:x ∉ B:=fun z => by have:=hB x z; trivial
  refine ⟨st.reverse++A.filter fun y => !decide (y∈st),B.filter fun y => !decide (y∈st),?_,?_,?_,?_⟩
  ·unfold rowS
   rw [e,List.filter_append,List.filter_cons,if_pos (by rw [decide_eq_false hx]; rfl),List.append_assoc]
  ·intro z
   rcases List.mem_append.mp z with z | z
   ·exact hx (List.mem_reverse.mp z)
   ·exact hxA (List.mem_filter.mp z).1
  ·unfold plS
   rw [if_neg hx,List.length_append,List.length_reverse]
   have:=filt_len hA nA nd fun y hy => (hb y hy).1
   trivial
  ·unfold rowS stepS
   rw [List.erase_of_not_mem hx,List.reverse_append,e,List.filter_append,List.filter_cons,if_neg (by simp)]
   have c:∀ C:List Int,x ∉ C -> (C.filter fun y => !decide (y∈st++[x]))=C.filter fun y => !decide (y∈st):=fun C hC => by
    refine List.filter_congr fun y hy => ?_
    congr 1
    apply decide_eq_decide.mpr
    rw [List.mem_append,List.mem_singleton]
    constructor
    ·rintro (h | h)
     ·exact h
     ·exact absurd (h ▸ hy) hC
    ·exact .inl
   rw [c A hxA,c B hxB]
   simp
theorem row_nil:rowS []=allS:=by
 unfold rowS
 rw [List.reverse_nil,List.nil_append]
 exact List.filter_eq_self.mpr fun y _ => by simp
theorem row_perm {st:List Int} (nd:st.Nodup) (hb:∀ y∈st,0≤y∧y≤255):(rowS st).Nodup∧(∀ y,y∈rowS st ↔ 0≤y∧y≤255)∧(rowS st).length=256:=by
 have nA:allS.Nodup:=by
  refine List.Pairwise.map _ (fun a b h z => h (Int.ofNat.inj z)) List.nodup_range
 have n1:(rowS st).Nodup:=by
  unfold rowS
  refine List.nodup_append.mpr ⟨(List.reverse_perm st).nodup_iff.mpr nd,nA.filter _,fun a ha b hb' z => ?_⟩
  have:=(List.mem_filter.mp hb').2
  rw [← z,decide_eq_true (List.mem_reverse.mp ha)] at this
  cases this
 have n2:∀ y,y∈rowS st ↔ 0≤y∧y≤255:=fun y => by
  unfold rowS
  rw [List.mem_append,List.mem_reverse,List.mem_filter,mem_allS]
  constructor
  ·rintro (h | h)
   ·exact hb y h
   ·exact h.1
  ·intro h
   by_cases q:y∈st
   ·exact .inl q
   ·exact .inr ⟨h,by simpa using q⟩
 refine ⟨n1,n2,?_⟩
 have hp:(rowS st).Perm allS:=(List.perm_ext_iff_of_nodup n1 nA).mpr fun y => by rw [n2,mem_allS]
 rw [hp.length_eq]
 unfold allS
 rw [List.length_map,List.length_range]
theorem pl_at {st:List Int} {x:Int} (nd:st.Nodup) (hb:∀ y∈st,0≤y∧y≤255) {k:Nat} (h:(rowS st)[k]?=some x):plS st x=(k:Int)∧0≤x∧x≤255:=by
 obtain ⟨n1,n2,n3⟩:=row_perm nd hb
 have hx:=(n2 x).mp (List.mem_of_getElem? h)
 obtain ⟨pre,post,e,hn,hl,_⟩:=row_step nd hb hx.1 hx.2
 have h2:(rowS st)[pre.length]?=some x:=by rw [e,List.getElem?_append_right (Nat.le_refl _)]; simp
 have hk:k < (rowS st).length:=(List.getElem?_eq_some_iff.mp h).1
 have hk2:pre.length < (rowS st).length:=(List.getElem?_eq_some_iff.mp h2).1
 have:k=pre.length:=(List.getElem_inj n1).mp (by
  have e1:=(List.getElem?_eq_some_iff.mp h).2
  have e2:=(List.getElem?_eq_some_iff.mp h2).2
  rw [e1,e2])
 rw [this]
 exact ⟨hl.symm,hx⟩
theorem row_at {st pre post:List Int} {x:Int} (nd:st.Nodup) (hb:∀ y∈st,0≤y∧y≤255) (e:rowS st=pre++x :: post):plS st x=((pre.length:Nat):Int)∧rowS (stepS st x)=x :: (pre++post)∧0≤x∧x≤255:=by
 obtain ⟨h1,h2,h3⟩:=pl_at nd hb (k:=pre.length) (x:=x) (by rw [e,List.getElem?_append_right (Nat.le_refl _)]; simp)
 obtain ⟨p1,q1,r1,_,l1,w1⟩:=row_step nd hb h2 h3
 have hl:p1.length=pre.length:=by trivial
 have:=List.append_inj (r1.symm.trans e) hl
 have e2:=(List.cons.inj this.2).2
 rw [this.1,e2] at w1
 exact ⟨h1,w1,h2,h3⟩
noncomputable def spCell (K:Frag):Sp:=fun vs H Q _ => ∃ (a:Addr) (ns:List Int) (k:Int),vs=[.ref a,.int k]∧SqL K H a (ns.map V.int)∧0≤k∧k≤1000∧∀ z:Int,Q (.int z) H
noncomputable def spPut (K:Frag):Sp:=fun vs H Q _ => ∃ (a:Addr) (pre post:List Int) (x:Int),vs=[.ref a,.int (pre.length:Int)]∧H a=some (lsI (pre++x :: post))∧pre.length+post.length≤1000 ∧
 ∀ (D:Addr) (H':Hp),H D=none -> H' D=some (lsI (x :: (pre++post))) -> Same H H' -> Q (.ref D) H'
noncomputable def spFronts (K:Frag):Sp:=fun vs H Q _ => ∃ (a:Addr) (ns:List Int),vs=[.ref a]∧SqL K H a (ns.map V.int)∧(∀ x∈ns,0≤x∧x≤255)∧ns.length≤1000 ∧
 ∀ (D:Addr) (H':Hp),H D=none -> H' D=some (lsI (frs ns)) -> Same H H' -> Q (.ref D) H'
noncomputable def spTbf (K:Frag) (cB:Addr):Sp:=fun vs H Q E => ∃ (a:Addr) (ps:List Int),vs=[.ref a]∧SqL K H a (ps.map V.int)∧ps.length≤1000 ∧
 ((∃ p∈ps,p < 0∨255 < p) -> ∀ H',Same H H' -> E (.ref cB) none H') ∧
 ((∀ p∈ps,0≤p∧p≤255) -> ∀ (D:Addr) (ts:List Int) (H':Hp),H D=none -> H' D=some (lsI ts) -> (∀ x∈ts,0≤x∧x≤255) -> frs ts=ps -> Same H H' -> Q (.ref D) H')
noncomputable def LSf (mg:Str -> Option Value):Prop:=∃ v:Value,mg "LAST_SIGN" = some v∧RelV (.int 255) v
end PH
namespace L2
open PySem PySem.Spec PyProof.Rows PySem.W
section
variable {prog:Program} {w:World} {A:Around} {E:Value -> Shared -> Prop} {s:Shared}
theorem collect_range {R:List Value -> Shared -> Prop} {r:Addr} {a b c:Int} {t u v:Tok} {n:Nat} (hh:A.handled=none) (hr:IsRange s.heap r a b c t u v) (hsmall:Builtin.Range.small a b c=true)
  (hn:Builtin.Range.rangeSize a b c=n) (hlen:n≤2 ^ 24)
  (h:∀ (h':Heap) (tk:Nat) (acc:Array Value),(∀ b o,s.heap.get? b=some o -> h'.get? b=some o) -> ItemsOf (fun i v => ∃ t,v=.int (a+i * c) t) acc n -> R acc.toList { s with heap:=h',toks:=tk }) :
  wpAny (model prog w) A (collect (.ref r)) R E s:=by
 unfold collect
 refine wpAny_bind (wpAny_runValue (codeAny_builtin PySem.F.entry_proto_collect ?_))
 rw [Around.under_plainId PySem.F.plain_proto_collect _]
 show wpAny _ A.in1 (newList [] >>= fun l => again (.builtin "list.__iadd__" ⟨[l,.ref r],[]⟩)) _ _ s
 refine wpAny_bind (wpAny_newObj_type ?_)
 refine wpAny_pure ⟨plainId_quiet PySem.F.plain_list_iadd _,codeAny_builtin PySem.F.entry_list_iadd ?_⟩
 rw [Around.under_plainId PySem.F.plain_list_iadd _]
 have hS₁:(s.heap.push { cls:=.type "list",data:=.seq ([]:List Value).toArray }).get? s.heap.objs.size=some { cls:=.type "list",data:=.seq #[] }:=Heap.get?_push_size _ rfl
 show wpAny _ A.in1 (Builtin.List.listExtendWith (.ref s.heap.objs.size) (.ref r) (.ref s.heap.objs.size)) _ _ _
 have key:=wpAny_extend_range (prog:=prog) (w:=w) (A:=A) (s:={ s with heap:=s.heap.push { cls:=.type "list",data:=.seq ([]:List Value).toArray } })
  (R:=fun (q:Result) (s':Shared) => ∃ (h':Heap) (tk:Nat) (acc':Array Value) (c':Nat),q=.ok (.ret (.ref s.heap.objs.size))∧s'={ s with heap:=h',toks:=tk } ∧
   (∀ b o,s.heap.get? b=some o -> h'.get? b=some o)∧h'.get? s.heap.objs.size=some { cls:=.type "list",dict:=none,data:=.seq acc' c',slots:=#[] }∧ItemsOf (fun i v => ∃ t,v=.int (a+i * c) t) acc' n)
  hh (Heap.get?_push_of_some _ hr) hsmall hn hlen s.heap.objs.size (.ref s.heap.objs.size) 0 hS₁
  (fun h' tk acc' c' hk hS' hacc => ⟨h',tk,acc',c',rfl,rfl,fun b o e => hk b o (Nat.ne_of_lt (Heap.lt_size e)) (Heap.get?_push_of_some _ e),hS',hacc⟩)
 refine wpAny_mono key (fun fin s' x => ?_) fun e s' x => ?_
 ·cases fin with
  | done f =>
   obtain ⟨h',tk,acc',c',e,rfl,hk,hS',hacc⟩:=x
   cases e
   show wpAny _ A (load s.heap.objs.size >>= _) _ _ _
   refine wpAny_bind (wpAny_load hS' ?_)
   exact wpAny_pure (h h' tk acc' hk hacc)
  | again c₁ =>
   refine ⟨x.1,codeAny_mono x.2 fun q s₂ y => ?_⟩
   obtain ⟨h',tk,acc',c',rfl,rfl,hk,hS',hacc⟩:=y
   show wpAny _ A (load s.heap.objs.size >>= _) _ _ _
   refine wpAny_bind (wpAny_load hS' ?_)
   exact wpAny_pure (h h' tk acc' hk hacc)
 ·obtain ⟨_,_,_,_,e',_⟩:=x
  cases e'
end
noncomputable def lamEnv (X:Cx) (scope:Scope) (qual:Str) (L f c':Addr):Env:=envX qual scope L f (.ref c') (clos X.env.cells scope.names [])
noncomputable def lamCx (X:Cx) (N:List Str) (scope:Scope) (qual:Str) (A:Around) (f c':Addr) (s:Shared) (H:Hp):Cx where
 prog:=X.prog
 w:=X.w
 K:=X.K
 mg:=X.mg
 base:=X.base
 A:=A.deeper (lamEnv X scope qual s.heap.objs.size f c')
 N:=N
 s₀:=s
 H₀:=H
 env:=lamEnv X scope qual s.heap.objs.size f c'
 outer:=X.stack
 stack:=lamEnv X scope qual s.heap.objs.size f c' :: X.stack
 ex:=[]
 fn:=fun _ => false
 calm:=true
 pn:=[]
 xe:=fun _ _ => False
section
variable {X:Cx} {pins:List (Addr×Obj)} {σ:St} {H:Hp} {s:Shared} {N:List Str} {js:List (Option Nat)} {scope:Scope} {qual x:Str} {A:Around} {f c':Addr} {h₁:Heap} {tk:Nat} {v:V} {u:Value}
theorem inv_lam (S:CompScope X N js scope) (hj:js[0]?=some none) (hN:N[0]?=some x) (nd:N.Nodup) (hx:scope.names.lookup x=some .local) (I:Inv X pins σ H s) (hA:A.frames=some X.stack) (hd:A.handled=none)
  (keep:∀ b o,s.heap.get? b=some o -> h₁.get? b=some o) (hns:h₁.Ns s.heap.objs.size (fun y => [(x,u)].reverse.lookup y)) (r:RelV v u) :
  Inv (lamCx X N scope qual A f c' s H) [] ((innerSt js σ).set 0 (some v)) H { s with heap:=h₁,toks:=tk }:=by
 have hc:∀ x∈scope.names,x.2=.free -> ∃ c,X.env.cells.lookup x.1=some c:=fun x hx e => I.ok.has _ (S.free x hx e)
 have sub:∀ x c,(clos X.env.cells scope.names []).lookup x=some c -> X.env.cells.lookup x=some c:=fun x c e => clos_sub _ _ (fun _ _ z => by simp at z) e
 have clt:∀ x c,X.env.cells.lookup x=some c -> c < s.heap.objs.size:=fun x c e => by obtain ⟨v,q⟩:=I.cell x c e; exact q.lt
 have hasF:∀ x,(x,NameKind.free)∈scope.names -> ∃ c,(clos X.env.cells scope.names []).lookup x=some c:=fun x hx => clos_has _ _ hx (hc (x,.free) hx rfl)
 have noA:∀ b:Addr,b ∉ (lamCx X N scope qual A f c' s H).ex:=fun b z => absurd (show b∈([]:List Addr) from z) (by simp)
 have fL:H s.heap.objs.size=none:=I.hok.fresh (Nat.le_refl _)
 have hjl:0 < js.length:=(List.getElem?_eq_some_iff.mp hj).1
 refine ⟨⟨I.ok.mod,S.kind,rfl,rfl,Nat.le_refl _,fun x y c h1 h2 => I.ok.inj x y c (sub _ _ h1) (sub _ _ h2),fun y hy => ?_,fun x c h _ => (Bool.noConfusion h),fun _ => hd,Around.frames_deeper hA,.inr ⟨rfl,rfl⟩,fun b z => absurd z (noA b),I.bs,
   Nat.le_trans I.ok.bsz I.sz,fun b _ _ => noA b,fun b z => absurd z (noA b),I.stack,I.stkFree⟩,
  rfl,I.bare,Un.kept keep,⟨_,hns,fun i y z h1 h2 h3 => ?_⟩,fun x c e => ?_,fL,fun x c e => ?_,fun p hp => absurd hp (by simp [lamCx]),I.hok.kept keep,?_⟩
 ·have hy':scope.names.lookup y=some .cell∨scope.names.lookup y=some .free:=hy
  rcases hy' with q | q
  ·exact absurd rfl (S.nocell _ (lookup_mem q))
  ·exact hasF y (lookup_mem q)
 ·have h2':((innerSt js σ).set 0 (some v))[i]?=some (some z):=h2
  by_cases hi:i=0
  ·subst hi
   rw [List.getElem?_set_self (by unfold innerSt; rw [List.length_map]; exact hjl)] at h2'
   have ez:v=z:=Option.some.inj (Option.some.inj h2')
   have ey:x=y:=Option.some.inj (hN.symm.trans h1)
   subst ez ey
   exact ⟨u,r,.inl ⟨hx,by simp⟩⟩
  ·rw [List.getElem?_set_ne (Ne.symm hi)] at h2'
   have h2'':(js[i]?.map fun j => (j.bind fun j => σ[j]?).join)=some (some z):=by rw [← List.getElem?_map]; exact h2'
   cases ej:js[i]? with
   | none => rw [ej] at h2''; cases h2''
   | some j =>
    rw [ej] at h2''
    cases j with
    | none => simp at h2''
    | some j =>
     have e2:σ[j]?=some (some z):=by
      simp only [Option.map_some,Option.bind_some,Option.some.injEq] at h2''
      cases q:σ[j]? with
      | none => rw [q] at h2''; simp at h2''
      | some y' => rw [q] at h2''; simp at h2''; rw [h2'']
     obtain ⟨n1,n2⟩:=S.js i j y ej h1
     have hy:=lookup_mem n2
     have hk:=S.free _ hy rfl
     obtain ⟨m0,_,hl⟩:=I.loc
     obtain ⟨u',r',l⟩:=hl j y z n1 e2 (hk.elim (fun z => .inr (.inl z)) fun z => .inr (.inr z))
     refine ⟨u',r',?_⟩
     rcases l with ⟨k,_⟩ | ⟨_,c,e,q⟩
     ·have k':X.env.kindOf y=some .local:=k
      rcases hk with q | q <;> (rw [show X.env.kindOf y=_ from q] at k'; cases k')
     ·obtain ⟨c2,e'⟩:=hasF y hy
      have:=sub _ _ e'
      rw [e] at this; cases this
      exact .inr ⟨.inr n2,c,e',q.keeps keep⟩
 ·obtain ⟨v',q⟩:=I.cell x c (sub _ _ e)
  exact ⟨v',q.keeps keep⟩
 ·exact I.freeC x c (sub _ _ e)
 ·show ((innerSt js σ).set 0 (some v)).length=N.length
  unfold innerSt
  rw [List.length_set,List.length_map,S.len]
theorem lam_call {params:Arguments} {body:Expr} {te:TE} {Q:VK} {pm ctv:Value} (S:CompScope X N js scope) (hj:js[0]?=some none) (hN:N[0]?=some x) (nd:N.Nodup) (hx:scope.names.lookup x=some .local)
  (hco:scope.isCoroutine=false) (hgen:scope.isGenerator=false)
  (he:∀ (A:Around) (f c':Addr) (s:Shared) (H:Hp),PE (lamCx X N scope qual A f c' s H) body te)
  (hbind:∀ (cl:List (Str×Addr)) (pm:Value) (c':Addr) (ctv u:Value),bindArgs (kla_fn "<lambda>" qual params body scope cl pm (.ref c') ctv) ⟨[u],[]⟩=pure [(x,u)])
  (hA:A.frames=some X.stack) (hd:A.handled=none) (hdep:A.depth < recursionLimit) (I:Inv X pins σ H s)
  (ho:s.heap.get? f=some (kla_obj "<lambda>" qual params body scope (clos X.env.cells scope.names []) pm c' ctv)) (hcd:s.heap.CodeRec (.ref c') qual) (r:RelV v u)
  (h:te ((innerSt js σ).set 0 (some v)) H Q) :
  wpAny (model X.prog X.w) A (call (.ref f) [u]) (fun u' s' => CE X.stack X.prog X.w H s Q u' s') (fun _ _ => False) s:=by
 refine wpAny_call (kla_callFunE hdep ho rfl hco hgen rfl hcd ?_)
 show wpAny _ A.in1 (bindArgs (kla_fn "<lambda>" qual params body scope (clos X.env.cells scope.names []) pm (.ref c') ctv) ⟨[u],[]⟩) _ _ s
 rw [hbind]
 refine wpAny_pure (wpAny_newFunctionEnv S.nocell (fun y hy => ?_) (fun h₁ hns hsb => ⟨?_,?_⟩) S.kind)
 ·have:y=(x,u):=by simpa using hy
  rw [this]; exact hx
 ·have hk₁:∀ b o,s.heap.get? b=some o -> h₁.get? b=some o:=fun b o e => hsb.extBut b o (Nat.ne_of_lt (Heap.lt_size e)) (Heap.get?_push_of_some _ e)
  exact I.nolimit.keeps hk₁
 ·have hk₁:∀ b o,s.heap.get? b=some o -> h₁.get? b=some o:=fun b o e => hsb.extBut b o (Nat.ne_of_lt (Heap.lt_size e)) (Heap.get?_push_of_some _ e)
  show codeAny _ _ (.expr body (lamEnv X scope qual s.heap.objs.size f c')) _ _
  have I':Inv (lamCx X N scope qual A f c' s H) [] ((innerSt js σ).set 0 (some v)) H { s with heap:=h₁,toks:=s.toks+[(x,u)].length }:=inv_lam S hj hN nd hx I hA hd hk₁ hns r
  refine kla_codeExpr (wpAny_mono (he A f c' s H [] _ _ H Q I' h) (fun u' s' hs => ?_) fun _ _ z => z.elim)
  obtain ⟨v',H',J,rv,q⟩:=hs
  exact ⟨v',H',J.os,J.bare,J.base,J.hok,rv,q⟩
end
noncomputable def TB (P:Addr) (pos:Pos) (qual:Str) (H:Hp):Prop:=H P=some (.tbl #[])∨∃ (c':Addr) (oc:Obj) (vs:Array Value) (t:Tok),H P=some (.tbl #[rawInt pos.line,rawInt pos.col,.ref c'])∧H c'=some (.frz oc (.own c'))∧oc.data=.fields vs∧vs[1]?=some (.str qual t)
noncomputable def BM (mg:Str -> Option Value) (h:Heap):Prop:=∃ bm ob,mg "__builtins__" = some (.ref bm)∧bm≠builtinsNs∧h.get? bm=some ob∧ob.cls=.type "module"∧ob.dict=some builtinsNs∧ob.data=.plain
noncomputable def KbT (P:Addr) (H H':Hp):Prop:=∀ b u,b≠P -> H b=some u -> H' b=some u
section
variable {X:Cx} {pins:List (Addr×Obj)} {σ:St} {H:Hp} {s:Shared} {N:List Str} {js:List (Option Nat)} {scope:Scope} {qual:Str} {A:Around} {c P:Addr} {params:Arguments} {body:Expr} {pos:Pos} {E:Value -> Shared -> Prop} {Q:Value -> Shared -> Prop}
theorem lam_make (S:CompScope X N js scope) (I:Inv X pins σ H s) (hcode:X.env.code=.ref c) (CH:CodeHd X.base c P) (hbm:BM X.mg X.base) (hq:X.env.qual ++ "<lambda>" = qual) (tb:TB P pos qual H) (hdef:defaultsOf params X.env=([],[]))
  (h:∀ (f c':Addr) (pm ctv:Value) (H':Hp) (s':Shared),Inv X pins σ H' s' -> KbT P H H' -> TB P pos qual H' -> s'.heap.get? f=some (kla_obj "<lambda>" qual params body scope (clos X.env.cells scope.names []) pm c' ctv) -> s'.heap.CodeRec (.ref c') qual →
   FpOk X pins H' f -> (∃ oc,H' c'=some (.frz oc (.own c'))) -> Q (.ref f) s') :
  wpAny (model X.prog X.w) A (eval (.Lambda params body scope pos) X.env) Q E s:=by
 have hcl:closureFor scope X.env=pure (clos X.env.cells scope.names []):=clos_eq fun x hx e => I.ok.has _ (S.free x hx e)
 have hg:s.heap.Ns mainGlobals X.mg:=I.ok.mod.glob.keeps I.bk
 have HP:∃ ps,H P=some (.tbl ps):=by
  rcases tb with e | ⟨_,_,_,_,e,_⟩
  ·exact ⟨_,e⟩
  ·exact ⟨_,e⟩
 have hbase:∀ b o,X.base.get? b=some o -> b≠P:=fun b o e z => by
  have:=(I.bs b o e).2
  obtain ⟨ps,hp⟩:=HP
  rw [z,hp] at this; cases this
 have hgP:mainGlobals≠P:=by
  obtain ⟨o,es,ep,e,_⟩:=I.ok.mod.glob
  exact hbase _ _ e
 have hb:s.heap.BuiltinsAt X.mg P:=by
  obtain ⟨bm,ob,b1,b2,b3,b4,b5,b6⟩:=hbm
  refine ⟨bm,ob,b1,b2,fun z => ?_,hbase _ _ b3,I.bk _ _ b3,b4,b5,b6⟩
  obtain ⟨o,es,ep,e,hd,_⟩:=I.ok.mod.glob
  rw [z,e] at b3; cases b3; rw [hd] at b6; cases b6
 refine kla_eval hdef ?_
 rw [hq]
 rcases tb with e0 | ⟨c',oc,vs,t,e0,e1,e2,e3⟩
 ·have hP:s.heap.get? P=some (tabObj #[]):=I.hok P _ e0
  refine kla_makeFunction (mg:=X.mg) hcl I.ok.glob hg hcode (CH.keeps I.bk) hP True.intro rfl hgP hb fun c' ctv h' tk hx hge hlt hrec htb => ?_
  obtain ⟨c2,oc,vs,t,ec,hoc,hd,hv⟩:=hrec
  cases ec
  have hPlt:P < s.heap.objs.size:=Heap.lt_size hP
  have hcP:c'≠P:=Nat.ne_of_gt (Nat.lt_of_lt_of_le hPlt hge)
  have hcn:H c'=none:=I.hok.fresh hge
  have hfn:H h'.objs.size=none:=I.hok.fresh (Nat.le_trans hge (Nat.le_of_lt hlt))
  have hfc:h'.objs.size≠c':=Nat.ne_of_gt hlt
  have hfP:h'.objs.size≠P:=Nat.ne_of_gt (Nat.lt_of_lt_of_le hPlt (Nat.le_trans hge (Nat.le_of_lt hlt)))
  have htb':h'.get? P=some (tabObj #[rawInt pos.line,rawInt pos.col,.ref c']):=by simpa using htb
  generalize hob:kla_obj "<lambda>" qual params body scope (clos X.env.cells scope.names []) ((X.mg "__name__").getD .none) c' ctv=fo
  have kp:∀ b o,b≠P -> s.heap.get? b=some o -> (h'.push fo).get? b=some o:=fun b o n e => Heap.get?_push_of_some _ (hx b o n e)
  have hH:∀ b,b≠P -> b≠c' -> upd (upd H P (.tbl #[rawInt pos.line,rawInt pos.col,.ref c'])) c' (.frz oc (.own c')) b=H b:=fun b n1 n2 => by rw [upd_ne n2,upd_ne n1]
  have nP:∀ {b:Addr} {u:HO},H b=some u -> u≠.tbl #[] -> b≠P:=fun {b u} e n z => by rw [z,e0] at e; exact n (Option.some.inj e).symm
  have nC:∀ {b:Addr} {u:HO},H b=some u -> b≠c':=fun {b u} e z => by rw [z,hcn] at e; cases e
  have u:Un X.fs [] H (upd (upd H P (.tbl #[rawInt pos.line,rawInt pos.col,.ref c'])) c' (.frz oc (.own c'))) s.heap (h'.push fo):=by
   have nb:∀ b,H b=none -> b≠P:=fun b n z => by rw [z,e0] at n; cases n
   refine ⟨fun b o e n _ _ => kp b o (nb b n) e,fun b o e n _ _ => ⟨o.slots,kp b o (nb b n) e⟩,fun b o e n _ => ?_,fun b o e _ => ?_,fun b xs e => ?_,fun b o xs e => ?_,fun b ps e => ?_⟩
   ·rw [hH b (nb b n) (Nat.ne_of_lt (Nat.lt_of_lt_of_le (Heap.lt_size e) hge))]; exact n
   ·by_cases hbP:b=P
    ·rw [hbP]; exact ⟨_,Heap.get?_push_of_some _ htb'⟩
    ·exact ⟨o,kp b o hbP e⟩
   ·rw [hH b (nP e (fun z => by cases z)) (nC e)]; exact e
   ·rw [hH b (nP e (fun z => by cases z)) (nC e)]; exact e
   ·by_cases hbP:b=P
    ·subst hbP
     rw [e0] at e
     have ep:#[]=ps:=HO.tbl.inj (Option.some.inj e)
     subst ep
     exact ⟨#[rawInt pos.line,rawInt pos.col,.ref c'],by rw [upd_ne hcP.symm,upd_same]; simp⟩
    ·exact ⟨#[],by rw [hH b hbP (nC e),e]; simp⟩
  have hok:HOk X.prog X.w (upd (upd H P (.tbl #[rawInt pos.line,rawInt pos.col,.ref c'])) c' (.frz oc (.own c'))) (h'.push fo):=fun b ob e => by
   by_cases h1:b=c'
   ·subst h1
    rw [upd_same] at e; cases e
    exact ⟨Heap.get?_push_of_some _ hoc,⟨oc,Heap.get?_push_of_some _ hoc⟩⟩
   ·rw [upd_ne h1] at e
    by_cases h2:b=P
    ·subst h2
     rw [upd_same] at e; cases e
     exact Heap.get?_push_of_some _ htb'
    ·rw [upd_ne h2] at e
     refine (I.hok b ob e).stay (fun d w' hd' q => kp d w' ?_ q) (fun d q => ?_) (fun d xs q => ?_)
     ·rcases hd' with z | z
      ·rw [z]; exact h2
      ·exact nP z (fun z => by cases z)
     ·rw [hH d (nP q (fun z => by cases z)) (nC q)]; exact q
     ·rw [hH d (nP q (fun z => by cases z)) (nC q)]; exact q
  have I':=I.un (t':=tk) u hok
  have hf':upd (upd H P (.tbl #[rawInt pos.line,rawInt pos.col,.ref c'])) c' (.frz oc (.own c')) h'.objs.size=none:=by rw [hH _ hfP hfc]; exact hfn
  refine h h'.objs.size c' ((X.mg "__name__").getD .none) ctv _ _ I' (fun b u n e => ?_) (.inr ⟨c',oc,vs,t,by rw [upd_ne hcP.symm,upd_same],upd_same,hd,hv⟩) (by rw [← hob]; exact Heap.get?_push_size _ rfl) ⟨c',oc,vs,t,rfl,Heap.get?_push_of_some _ hoc,hd,hv⟩ (I.fpOk (Nat.le_trans hge (Nat.le_of_lt hlt)) hf') ⟨oc,upd_same⟩
  rw [hH b n (nC e)]; exact e
 ·have hP:s.heap.get? P=some (tabObj #[rawInt pos.line,rawInt pos.col,.ref c']):=I.hok P _ e0
  have hcc:s.heap.get? c'=some oc:=(I.hok c' _ e1).1
  refine kla_makeFunctionHit (mg:=X.mg) (cv:=.ref c') hcl I.ok.glob hg hcode (CH.keeps I.bk) hP (by simp [TriplesOk,rawInt]) (by simp [codeAmong,rawInt]) hb fun ctv h' tk hk hsz => ?_
  generalize hob:({ cls:=.type "function",data:=.func (kla_fn "<lambda>" qual params body scope (clos X.env.cells scope.names []) ((X.mg "__name__").getD .none) (.ref c') ctv) }:Obj)=fo
  have kp:∀ b o,s.heap.get? b=some o -> (h'.push fo).get? b=some o:=fun b o e => Heap.get?_push_of_some _ (hk b o e)
  exact h h'.objs.size c' ((X.mg "__name__").getD .none) ctv H _ (I.kept (t':=tk) kp) (fun b u _ e => e) (.inr ⟨c',oc,vs,t,e0,e1,e2,e3⟩) (by rw [← hob]; exact Heap.get?_push_size _ rfl) ⟨c',oc,vs,t,rfl,kp _ _ hcc,e2,e3⟩ (I.fpOk hsz (I.hok.fresh hsz)) ⟨oc,e1⟩
end
end L2
namespace L2
open PySem PySem.Spec PyProof.Rows PySem.W
section
variable {X:Cx} {pins:List (Addr×Obj)} {σ:St} {H:Hp} {s:Shared} {h':Heap} {a:Addr} {o:HO}
theorem Inv.track {t':Nat} (I:Inv X pins σ H s) (fa:FpOk X pins H a) (k:∀ b u,b≠a -> s.heap.get? b=some u -> h'.get? b=some u) (new:ObjOk X.prog X.w (upd H a o) h' a o):Inv X pins σ (upd H a o) { s with heap:=h',toks:=t' }:=by
 have nn:∀ b u,H b=some u -> b≠a:=fun b u e z => by rw [z,fa.1] at e; cases e
 refine I.step (g':=s.gens) (d':=s.drawn) (ch:=[a]) (fun b hb => ?_) (fun b o _ _ hc e _ => k b o (fun z => hc (by simp [z])) e) (fun b o _ _ hc e _ => ⟨o.slots,k b o (fun z => hc (by simp [z])) e⟩) (fun b o hc _ n => by rw [upd_ne (fun z => hc (by simp [z]))]; exact n)
  (fun b o hc e => ⟨o,k b o (fun z => hc (by simp [z])) e⟩) (fun b xs e => by rw [upd_ne (nn b _ e)]; exact e) (fun b ob u e => by rw [upd_ne (nn b _ e)]; exact e) (fun b ps e => ⟨#[],by rw [upd_ne (nn b _ e),e]; simp⟩) (fun m hm => ?_) (fun b u e => ?_) I.bare
 ·have e:b=a:=by simpa using hb
  subst e
  exact ⟨fa.2.2.2.1,fa.2.1,fa.2.2.2.2.1,fa.2.2.2.2.2⟩
 ·obtain ⟨o,es,ep,ho,r⟩:=hm
  exact ⟨o,es,ep,k _ o (Ne.symm fa.2.1) ho,r⟩
 ·by_cases hb:b=a
  ·subst hb; rw [upd_same] at e; cases e; exact new
  ·rw [upd_ne hb] at e
   refine (I.hok b u e).stay (fun c v hc q => k c v ?_ q) (fun c q => by rw [upd_ne (nn c _ q)]; exact q) fun c xs q => by rw [upd_ne (nn c _ q)]; exact q
   rcases hc with z | z
   ·rw [z]; exact hb
   ·exact nn c _ z
theorem FpOk.heap {H':Hp} (f:FpOk X pins H a) (h:H' a=none):FpOk X pins H' a:=⟨h,f.2⟩
end
noncomputable def ixK (p:Keyed):Nat:=(numOf p.2).toNat
theorem rise_zip {kv items:List Value} {n:Nat} (hl:kv.length=n) (hit:Vals (((List.range n).map fun k => ((k:Nat):Int)).map V.int) items):(kv.zip items).Pairwise fun x y => ixK x≤ixK y:=by
 have e:(items.map numOf).map Int.toNat=List.range n:=by
  rw [(vals_intsAre hit).nums,List.map_map]
  exact (List.map_congr_left fun k _ => by simp).trans (List.map_id _)
 have hil:items.length=n:=by
  have:=congrArg List.length e
  rw [List.length_map,List.length_map,List.length_range] at this
  exact this
 have e2:(kv.zip items).map ixK=List.range n:=by
  rw [← e,List.map_map]
  have:(kv.zip items).map ixK=((kv.zip items).map (·.2)).map (Int.toNat ∘ numOf):=by rw [List.map_map]; rfl
  rw [this,List.map_snd_zip (by trivial)]
 have h:=List.pairwise_le_range (n:=n)
 rw [← e2,List.pairwise_map] at h
 exact h
theorem zip_arr (keys:Array Value) (vs:Array Value):(keys.zip vs).toList=keys.toList.zip vs.toList:=by simp
section
variable {X:Cx} {pins:List (Addr×Obj)} {σ:St} {N:List Str} {js:List (Option Nat)} {scope:Scope} {qual x:Str} {params:Arguments} {body:Expr} {te:TE} {Q:VK}
theorem call_sortK {H:Hp} {s:Shared} {r f c':Addr} {pm ctv:Value} {n:Nat} {t u v:Tok} (S:CompScope X N js scope) (hj:js[0]?=some none) (hN:N[0]?=some x) (nd:N.Nodup) (hx:scope.names.lookup x=some .local)
  (hco:scope.isCoroutine=false) (hgen:scope.isGenerator=false)
  (he:∀ (A:Around) (f c':Addr) (s:Shared) (H:Hp),PE (lamCx X N scope qual A f c' s H) body te)
  (hbind:∀ (cl:List (Str×Addr)) (pm:Value) (c':Addr) (ctv u:Value),bindArgs (kla_fn "<lambda>" qual params body scope cl pm (.ref c') ctv) ⟨[u],[]⟩=pure [(x,u)])
  (hroom:Room 2 X.A) (I:Inv X pins σ H s) (hrg:IsRange s.heap r 0 n 1 t u v) (hn:n≤1000000)
  (ho:s.heap.get? f=some (kla_obj "<lambda>" qual params body scope (clos X.env.cells scope.names []) pm c' ctv)) (hcd:s.heap.CodeRec (.ref c') qual) (hf:FpOk X pins H f) (hc':∃ oc,H c'=some (.frz oc (.own c')))
  (W:Nat -> List V -> Hp -> Prop) (w0:W 0 [] H) (turn:∀ (i:Nat) (ks:List V) (H':Hp),i < n -> ks.length=i -> W i ks H' -> te ((innerSt js σ).set 0 (some (.int (i:Int)))) H' fun v H'' => W (i+1) (ks++[v]) H'')
  (hend:∀ (ks:List V) (H':Hp) (s':Shared) (kv items:List Value),W n ks H' -> ks.length=n -> Inv X pins σ H' s' -> Vals ks kv -> Vals (((List.range n).map fun k => ((k:Nat):Int)).map V.int) items →
   ∃ (kd:SortKind) (O:KeyOrd) (ky:Keyed -> O.α) (Sx:Keyed -> Prop),(∀ v∈kv,∀ u,Sx (v,u))∧(2≤kv.length -> ∀ {E:Value -> Shared -> Prop} {Q:SortKind -> Shared -> Prop},Q kd s' -> wpAny (model X.prog X.w) X.A.in1.in1 (keyKind' kv.toArray) Q E s') ∧
    TS.Cmp X.prog X.w X.A.in1.in1 s' kd O ky Sx∧∀ (xs:List Keyed) (D:Addr),xs.Perm (kv.zip items) -> TT.Srt O ky ixK xs -> H' D=none -> ∃ ns:List Int,Vals (ns.map V.int) (xs.map (·.2))∧Q (.ref D) (upd H' D (.lst (ns.map V.int)))) :
  wpAny (model X.prog X.w) X.A (call (.builtin "sorted") [.ref r] [(Str.ofString "key",.ref f)]) (EP X pins σ Q) X.xe s:=by
 have hh:X.A.handled=none:=hroom.hd
 have hsz16:sizeLine=16777216:=by decide
 have hsm:Builtin.Range.small 0 (n:Int) 1=true:=small_one (by trivial) (by trivial) (by trivial) (by trivial)
 obtain ⟨oc,hc'⟩:=hc'
 refine call_function_entry_kw kind_sorted plain_sorted entry_sorted (ksk_s1 _ _) ?_
 unfold Builtin.«sorted»
 refine wpAny_bind (m:=checkCount "sorted" 1 1 _) (wpAny_pure ?_)
 refine wpAny_bind (collect_range (A:=X.A.in1) (n:=n) hh hrg hsm (by rw [rangeSize_one]; split <;> trivial) (by trivial) fun h1 tk acc hk hacc => ?_)
 have hal:acc.toList.length=n:=by rw [Array.length_toList]; exact hacc.1
 have hit:Vals (((List.range n).map fun k => ((k:Nat):Int)).map V.int) acc.toList:=by
  refine vals_of (by rw [List.length_map,List.length_map,List.length_range,hal]) fun i x u e1 e2 => ?_
  have hin:i < n:=by
   have:=(List.getElem?_eq_some_iff.mp e1).1
   rw [List.length_map,List.length_map,List.length_range] at this
   exact this
  rw [List.getElem?_map,List.getElem?_map,List.getElem?_range hin] at e1
  obtain ⟨t',e3⟩:=hacc.2 i u (by rw [← Array.getElem?_toList]; exact e2)
  have ex:x=.int (i:Int):=(Option.some.inj e1).symm
  rw [ex,e3]
  exact ⟨t',by rw [Int.mul_one,Int.zero_add]⟩
 refine wpAny_bind (wpAny_newList ?_ (by rw [hal]; trivial))
 have hoL:(h1.push (seqObj "list" acc.toList.toArray 0)).get? h1.objs.size=some (seqObj "list" acc.toList.toArray 0):=Heap.get?_push_size _ rfl
 have I1:Inv X pins σ H { s with heap:=h1,toks:=tk }:=I.kept (t':=tk) hk
 have fa:FpOk X pins H h1.objs.size:=I1.fpOk (Nat.le_refl _) (I1.hok.fresh (Nat.le_refl _))
 generalize hh2:h1.push (seqObj "list" acc.toList.toArray 0)=h2 at hoL ⊢
 have k2:∀ b o,s.heap.get? b=some o -> h2.get? b=some o:=fun b o e => by rw [← hh2]; exact Heap.get?_push_of_some _ (hk b o e)
 have hs2:h2.objs.size=h1.objs.size+1:=by rw [← hh2,Heap.size_push]
 generalize ha:h1.objs.size=a at hoL fa hs2
 have hane:∀ b o,s.heap.get? b=some o -> b≠a:=fun b o e => by rw [← ha]; exact Nat.ne_of_lt (Heap.lt_size (hk b o e))
 show wpAny _ _ _ _ _ { s with heap:=h2,toks:=tk }
 refine wpAny_bind (wpAny_holding (wpAny_call_entry_kw slot_list_sort ⟨_,hoL,rfl⟩ entry_list_sort ?body (ksk_l1 _ _)))
 case body =>
 show wpAny (model X.prog X.w) X.A.in1.in1 (Builtin.«list.sort» ⟨[.ref a],[(Str.ofString "key",.ref f)]⟩) _ _ _
 rw [ksk_t1]
 unfold ksk_tree
 have hsza:acc.toList.toArray.size=n:=by rw [List.size_toArray]; exact hal
 refine wpAny_bind (listItems_at hoL rfl ?_)
 refine wpAny_bind (listUpdate_at hoL rfl ?_ (by rw [hsza]; trivial) (Nat.zero_le _))
 obtain ⟨e1,ho1⟩:∃ e1,(h2.update a (Obj.mapSeq fun _ => (#[]:Array Value))).get? a=some (seqObj "list" #[] e1):=⟨_,get?_update_seq hoL fun _ => #[]⟩
 have k3:∀ b o,b≠a -> h2.get? b=some o -> (h2.update a (Obj.mapSeq fun _ => (#[]:Array Value))).get? b=some o:=fun b o n e => by rw [Heap.get?_update_ne _ _ _ _ n]; exact e
 have hs3:(h2.update a (Obj.mapSeq fun _ => (#[]:Array Value))).objs.size=h2.objs.size:=Heap.size_update ..
 generalize h2.update a (Obj.mapSeq fun _ => (#[]:Array Value))=h3 at ho1 k3 hs3 ⊢
 refine wpAny_bind (seqEpoch_at ho1 rfl ?_)
 refine wpAny_bind (wpAny_newTuple ?_ (by show acc.toList.toArray.toList.length≤_; rw [List.toList_toArray,hal]; trivial))
 refine wpAny_bind (wpAny_newList ?_ (Nat.zero_le _))
 refine wpAny_holding ?_
 have hs4:(h3.push (seqObj "tuple" acc.toList.toArray 0)).objs.size=a+2:=by rw [Heap.size_push,hs3,hs2]
 have hoK:((h3.push (seqObj "tuple" acc.toList.toArray 0)).push (seqObj "list" #[] 0)).get? (a+2)=some (seqObj "list" #[] 0):=by rw [← hs4]; exact Heap.get?_push_size _ rfl
 have k5:∀ b o,b≠a -> h2.get? b=some o -> ((h3.push (seqObj "tuple" acc.toList.toArray 0)).push (seqObj "list" #[] 0)).get? b=some o:=fun b o n e => Heap.get?_push_of_some _ (Heap.get?_push_of_some _ (k3 b o n e))
 have ho5:((h3.push (seqObj "tuple" acc.toList.toArray 0)).push (seqObj "list" #[] 0)).get? a=some (seqObj "list" #[] e1):=Heap.get?_push_of_some _ (Heap.get?_push_of_some _ ho1)
 show wpAny _ _ (ksk_rest a (.ref f) false acc.toList.toArray e1 (.ref (h3.push (seqObj "tuple" acc.toList.toArray 0)).objs.size)) _ _ { s with heap:=(h3.push (seqObj "tuple" acc.toList.toArray 0)).push (seqObj "list" #[] 0),toks:=tk }
 rw [hs4]
 generalize (h3.push (seqObj "tuple" acc.toList.toArray 0)).push (seqObj "list" #[] 0)=h5 at hoK k5 ho5 ⊢
 have k6:∀ b o,s.heap.get? b=some o -> h5.get? b=some o:=fun b o e => k5 b o (hane b o e) (k2 b o e)
 have I5:Inv X pins σ H { s with heap:=h5,toks:=tk }:=I.kept (t':=tk) k6
 have fk:FpOk X pins H (a+2):=I1.fpOk (show h1.objs.size≤a+2 by rw [ha]; trivial) (I1.hok.fresh (show h1.objs.size≤a+2 by rw [ha]; trivial))
 have hka:a+2≠a:=by
  intro z
  have:(a:Nat)+2=a:=z
  trivial
 generalize hkS:a+2=kS at hoK fk hka ⊢
 clear hoL hs2 hs3 hs4 k3 ho1 k5 hkS
 obtain ⟨c2,oc2,vs2,t2,ec2,hoc2,hd2,hv2⟩:=hcd
 cases ec2
 have eoc:oc2=oc:=by
  have:=(I.hok c' _ hc').1
  rw [hoc2] at this; exact Option.some.inj this
 subst eoc
 unfold ksk_rest
 refine wpAny_bind (wpAny_rule ?_)
 rw [List.forIn_toArray]
 refine wpAny_bind (ksk_fold (fun i s' => ∃ (H':Hp) (ks:List V) (kA:Array Value) (e:Nat),Inv X pins σ H' s'∧s'.heap.get? kS=some (seqObj "list" kA e)∧s'.heap.get? a=some (seqObj "list" #[] e1)∧FpOk X pins H' kS∧FpOk X pins H' a ∧
   s'.heap.get? f=some (kla_obj "<lambda>" qual params body scope (clos X.env.cells scope.names []) pm c' ctv)∧FpOk X pins H' f∧H' c'=some (.frz oc2 (.own c'))∧Vals ks kA.toList∧ks.length=i∧W i ks H') acc.toList 0 _
  ⟨H,[],#[],0,I5,hoK,ho5,fk,fa,k6 _ _ ho,hf,hc',.nil,rfl,w0⟩ ?step ?done)
 case step =>
  rintro j y s1 hy ⟨H1,ks,kA,e,J,hK1,ha1,fk1,fa1,hf1,ff1,hc1,hv1,hl1,w1⟩
  rw [Nat.zero_add] at hl1 w1
  have hjn:j < n:=by rw [← hal]; exact (List.getElem?_eq_some_iff.mp hy).1
  have ry:RelV (.int (j:Int)) y:=by
   have h1:(((List.range n).map fun k => ((k:Nat):Int)).map V.int)[j]?=some (.int (j:Int)):=by rw [List.getElem?_map,List.getElem?_map,List.getElem?_range hjn]; rfl
   obtain ⟨u',e1',r'⟩:=hit.get h1
   rw [hy] at e1'
   cases e1'
   exact r'
  have hcd1:s1.heap.CodeRec (.ref c') qual:=⟨c',oc2,vs2,t2,rfl,(J.hok c' _ hc1).1,hd2,hv2⟩
  refine wpAny_bind (wpAny_attempt (wpAny_mono (lam_call (A:=X.A.in1.in1) S hj hN nd hx hco hgen he hbind J.ok.frames hh (by have:=hroom.dp; show X.A.depth < _; trivial) J hf1 hcd1 ry (turn j ks H1 hjn hl1 w1)) (fun u' s2 ce => ?_) (fun _ _ z => z.elim)))
  obtain ⟨v',H2,os,bare,un,hok,rv,w2⟩:=ce
  dsimp only
  have nst:∀ b,FpOk X pins H1 b -> b ∉ frs X.stack:=fun b fb z => by
   rcases List.mem_cons.mp (J.stkSub b z) with q | q
   ·exact fb.2.1 q
   ·exact fb.2.2.1 q
  have hK2:=un.keep kS _ hK1 fk1.1 (nst kS fk1) (by simp)
  have ha2:=un.keep a _ ha1 fa1.1 (nst a fa1) (by simp)
  have hf2:=un.keep f _ hf1 ff1.1 (nst f ff1) (by simp)
  have fk2:=fk1.heap (un.free kS _ hK1 fk1.1 (by simp))
  have fa2:=fa1.heap (un.free a _ ha1 fa1.1 (by simp))
  have ff2:=ff1.heap (un.free f _ hf1 ff1.1 (by simp))
  have hc2:=un.frzs c' _ _ hc1
  have J2:Inv X pins σ H2 s2:=J.call' (ch:=[]) os un hok bare (fun b z => absurd z (by simp))
  have hkl:kA.size=j:=by
   have:=hv1.length
   have e9:kA.toList.length=kA.size:=Array.length_toList
   trivial
  refine wpAny_bind (listUpdate_at hK2 rfl ?_ (by rw [hkl]; trivial) (Nat.le_trans (Nat.le_of_eq (Array.size_push ..)) (by rw [hkl]; trivial)))
  obtain ⟨e3,hK3⟩:∃ e3,(s2.heap.update kS (Obj.mapSeq (·.push u'))).get? kS=some (seqObj "list" (kA.push u') e3):=⟨_,get?_update_seq hK2 (·.push u')⟩
  have k4:∀ b o,b≠kS -> s2.heap.get? b=some o -> (s2.heap.update kS (Obj.mapSeq (·.push u'))).get? b=some o:=fun b o n e => by rw [Heap.get?_update_ne _ _ _ _ n]; exact e
  have hfk:f≠kS:=fun z => by
   rw [z,hK2] at hf2
   have q:Value.type "list" = Value.type "function":=congrArg Obj.cls (Option.some.inj hf2)
   exact absurd (Value.type.inj q) (by decide)
  have J3:Inv X pins σ H2 { s2 with heap:=s2.heap.update kS (Obj.mapSeq (·.push u')),toks:=s2.toks }:=J2.turned (t':=s2.toks) k4 fk2.1 fk2.2.1 fk2.2.2.2.1 fk2.2.2.2.2.1 fk2.2.2.2.2.2
  refine wpAny_pure ⟨rfl,H2,ks++[v'],kA.push u',e3,J3,hK3,k4 _ _ hka.symm ha2,fk2,fa2,k4 _ _ hfk hf2,ff2,hc2,?_,by rw [List.length_append,hl1,List.length_singleton]; trivial,by rw [Nat.zero_add]; exact w2⟩
  rw [Array.toList_push]
  exact hv1.append (.cons rv .nil)
 case done =>
  rintro s1 ⟨H1,ks,kA,e,J,hK1,ha1,fk1,fa1,hf1,ff1,hc1,hv1,hl1,w1⟩
  rw [Nat.zero_add,hal] at hl1 w1
  have hkl:kA.size=n:=by
   have:=hv1.length
   have e9:kA.toList.length=kA.size:=Array.length_toList
   trivial
  refine wpAny_bind (listItems_at hK1 rfl ?_)
  obtain ⟨kd,O,ky,Sx,hS,hkk,hC,hres⟩:=hend ks H1 s1 kA.toList acc.toList w1 hl1 J hv1 hit
  -- behind the sort
  have fin:∀ st:SortSt,(arrOf st).Perm (kA.zip acc.toList.toArray) -> failedOf st=none -> TT.Srt O ky ixK (arrOf st).toList -> wpAny (model X.prog X.w) X.A.in1.in1 (ksk_tail a false e1 (.ref kS) st) (fun r s' => ∃ v,r=.done (.ret v)∧wpAny (model X.prog X.w) X.A.in1 (ret (.ref a)) (fun r s' => ∃ v,r=.done (.ret v)∧EP X pins σ Q v s') X.xe s') X.xe s1:=fun st hp hfl hs => by
   have hlp:(arrOf st).toList.Perm (kA.toList.zip acc.toList):=by
    have:=Array.perm_iff_toList_perm.mp hp
    rw [zip_arr,List.toList_toArray] at this
    exact this
   have hsz2:(arrOf st).size=n:=by
    rw [← Array.length_toList,hlp.length_eq,List.length_zip,Array.length_toList,hkl,hal,Nat.min_self]
   have k4:∀ b o,b≠kS -> s1.heap.get? b=some o -> (s1.heap.update kS (Obj.mapSeq fun _ => (#[]:Array Value))).get? b=some o:=fun b o n e => by rw [Heap.get?_update_ne _ _ _ _ n]; exact e
   have J2:Inv X pins σ H1 { s1 with heap:=s1.heap.update kS (Obj.mapSeq fun _ => (#[]:Array Value)),toks:=s1.toks }:=J.turned (t':=s1.toks) k4 fk1.1 fk1.2.1 fk1.2.2.2.1 fk1.2.2.2.2.1 fk1.2.2.2.2.2
   have ha2:=k4 _ _ hka.symm ha1
   obtain ⟨ns,hvn,hq⟩:=hres (arrOf st).toList a hlp hs fa1.1
   have hnl:ns.length=n:=by
    have:=hvn.length
    have e9:(arrOf st).toList.length=(arrOf st).size:=Array.length_toList
    rw [List.length_map,List.length_map] at this
    trivial
   unfold ksk_tail
   dsimp only
   refine wpAny_bind (listUpdate_at hK1 rfl ?_ (by rw [hkl]; trivial) (Nat.zero_le _))
   refine wpAny_bind (wpAny_letGo ?_)
   refine wpAny_bind (seqEpoch_at ha2 rfl ?_)
   refine wpAny_bind (listUpdate_at ha2 rfl ?_ (Nat.zero_le _) (by simp only [Bool.false_eq_true,if_false,Array.size_map]; rw [hsz2]; trivial))
   rw [hfl]
   simp only [bne_self_eq_false,Bool.false_eq_true,if_false]
   refine wpAny_pure ⟨_,rfl,wpAny_pure ⟨_,rfl,?_⟩⟩
   obtain ⟨e4,ho4⟩:∃ e4,((s1.heap.update kS (Obj.mapSeq fun _ => (#[]:Array Value))).update a (Obj.mapSeq fun _ => (arrOf st).map (·.2))).get? a=some (seqObj "list" ((arrOf st).map (·.2)) e4):=⟨_,get?_update_seq ha2 fun _ => (arrOf st).map (·.2)⟩
   refine ⟨.ref a,_,J2.track (t':=s1.toks) (h':=(s1.heap.update kS (Obj.mapSeq fun _ => (#[]:Array Value))).update a (Obj.mapSeq fun _ => (arrOf st).map (·.2))) (o:=.lst (ns.map V.int)) fa1 (fun b o n e => by rw [Heap.get?_update_ne _ _ _ _ n]; exact e) ?_,rfl,hq⟩
   refine ⟨by rw [List.length_map,hnl]; trivial,((arrOf st).map (·.2)).toList,e4,by rw [Array.toList_map]; exact hvn,by rw [Array.toArray_toList]; exact ho4⟩
  unfold ksk_end
  dsimp only
  simp only [Bool.false_eq_true,if_false]
  by_cases h2:acc.toList.toArray.size < 2
  ·rw [if_pos h2,if_pos h2]
   refine wpAny_bind (wpAny_pure ?_)
   rw [StateT.run_pure]
   refine wpAny_bind (wpAny_pure ?_)
   dsimp only
   refine fin (SortSt.mk' general' (kA.zip acc.toList.toArray) #[] 7 none) (Array.Perm.refl _) rfl ?_
   show TT.Srt O ky ixK (kA.zip acc.toList.toArray).toList
   rw [zip_arr]
   have hz:(kA.toList.zip acc.toList.toArray.toList).length < 2:=by
    rw [List.length_zip,List.toList_toArray,hal,Array.length_toList,hkl,Nat.min_self]
    rw [hsza] at h2; exact h2
   unfold TT.Srt
   generalize kA.toList.zip acc.toList.toArray.toList=l at hz
   match l,hz with
   | [],_ => exact List.Pairwise.nil
   | [_],_ => exact List.pairwise_singleton _ _
   | _ :: _ :: _,z => simp at z; trivial
  ·rw [if_neg h2,if_neg h2]
   rw [hsza] at h2
   have h2':2≤kA.toList.length:=by
    have e9:kA.toList.length=kA.size:=Array.length_toList
    trivial
   have hkk':∀ {E:Value -> Shared -> Prop} {Q:SortKind -> Shared -> Prop},Q kd s1 -> wpAny (model X.prog X.w) X.A.in1.in1 (keyKind' kA) Q E s1:=fun {E Q} q => by
    have z:=hkk h2' (E:=E) (Q:=Q) q
    rw [Array.toArray_toList] at z
    exact z
   refine wpAny_bind (hkk' ?_)
   refine wpAny_bind (wpAny_mono (TT.wpS_sort (ix:=ixK) hC (st0:=SortSt.mk' kd (kA.zip acc.toList.toArray) #[] 7 none) (Q:=fun _ st' => (arrOf st').Perm (kA.zip acc.toList.toArray)∧failedOf st'=none∧TT.Srt O ky ixK (arrOf st').toList) (fun p hp => ?_) rfl rfl rfl (by show ((kA.zip acc.toList.toArray).toList).Pairwise _; rw [zip_arr,List.toList_toArray]; exact rise_zip (by rw [Array.length_toList]; exact hkl) hit) fun st' a1 a2 a3 => ⟨a1,a2,a3⟩) ?_ fun _ _ e => e)
   ·have hp':p∈(kA.zip acc.toList.toArray).toList:=hp
    rw [zip_arr] at hp'
    obtain ⟨p1,p2⟩:=p
    exact hS p1 (List.of_mem_zip hp').1 p2
   ·rintro ⟨⟨⟩,st'⟩ s' ⟨rfl,hp,hfl,hs⟩
    exact fin st' hp hfl hs
end
end L2
namespace L2
open PySem PySem.Spec PyProof.Rows PySem.W
noncomputable def rgI (n:Nat):List Int:=(List.range n).map fun k => ((k:Nat):Int)
noncomputable def tSortL (K:Frag) (P:Addr) (lpos:Pos) (qual:Str) (js:List (Option Nat)) (ta:TA) (te:TE):TE:=fun σ H Q => ta σ H fun vs H1 => ∃ n:Nat,vs=[.int (n:Int)]∧n≤1000000∧TB P lpos qual H1∧∀ H2,KbT P H1 H2 -> TB P lpos qual H2 →
 ∃ W:Nat -> List V -> Hp -> Prop,W 0 [] H2∧(∀ (i:Nat) (ks:List V) (H':Hp),i < n -> ks.length=i -> W i ks H' -> te ((innerSt js σ).set 0 (some (.int (i:Int)))) H' fun v H'' => W (i+1) (ks++[v]) H'') ∧
  ∀ (ks:List V) (H':Hp),W n ks H' -> ks.length=n -> ∃ zs:List (Addr×List Int),ks=zs.map (fun z => V.ref z.1)∧(∀ z∈zs,SqL K H' z.1 (z.2.map V.int)) ∧
   ∀ (ps:List (List Int×Int)) (D:Addr),ps.Perm ((zs.map (·.2)).zip (rgI n)) -> (ps.map (·.1)).Pairwise (fun a b => HT.lexLt b a=false) -> H' D=none -> Q (.ref D) (upd H' D (.lst (ps.map fun p => V.int p.2)))
noncomputable def tSortI (P:Addr) (lpos:Pos) (qual:Str) (js:List (Option Nat)) (ta:TA) (te:TE):TE:=fun σ H Q => ta σ H fun vs H1 => ∃ n:Nat,vs=[.int (n:Int)]∧n≤1000000∧TB P lpos qual H1∧∀ H2,KbT P H1 H2 -> TB P lpos qual H2 →
 ∃ W:Nat -> List V -> Hp -> Prop,W 0 [] H2∧(∀ (i:Nat) (ks:List V) (H':Hp),i < n -> ks.length=i -> W i ks H' -> te ((innerSt js σ).set 0 (some (.int (i:Int)))) H' fun v H'' => W (i+1) (ks++[v]) H'') ∧
  ∀ (ks:List V) (H':Hp),W n ks H' -> ks.length=n -> ∃ kz:List Int,ks=kz.map V.int ∧
   ∀ (ps:List (Int×Int)) (D:Addr),ps.Perm (kz.zip (rgI n)) -> ps.Pairwise (fun a b => a.1 < b.1∨(a.1=b.1∧a.2≤b.2)) -> H' D=none -> Q (.ref D) (upd H' D (.lst (ps.map fun p => V.int p.2)))
section
variable {X:Cx} {N:List Str} {js:List (Option Nat)} {scope:Scope} {qual x:Str} {params:Arguments} {body:Expr} {te:TE} {a:Expr} {ta:TA} {p p2 pos pos2 lpos kp:Pos} {c P:Addr}
theorem sortK_road {pins:List (Addr×Obj)} {s:Shared} {σ:St} {H:Hp} {Q:VK} (hg:Gl X "sorted") (hm:X.mg "sorted" = none) (hgr:Gl X "range") (hmr:X.mg "range" = none) (ha:PA X [a] ta)
  (S:CompScope X N js scope) (hj:js[0]?=some none) (hN:N[0]?=some x) (nd:N.Nodup) (hx:scope.names.lookup x=some .local) (hco:scope.isCoroutine=false) (hgen:scope.isGenerator=false)
  (he:∀ (A:Around) (f c':Addr) (s:Shared) (H:Hp),PE (lamCx X N scope qual A f c' s H) body te)
  (hbind:∀ (cl:List (Str×Addr)) (pm:Value) (c':Addr) (ctv u:Value),bindArgs (kla_fn "<lambda>" qual params body scope cl pm (.ref c') ctv) ⟨[u],[]⟩=pure [(x,u)])
  (hroom:Room 2 X.A) (hcode:X.env.code=.ref c) (CH:CodeHd X.base c P) (hbm:BM X.mg X.base) (hq:X.env.qual ++ "<lambda>" = qual) (hdef:defaultsOf params X.env=([],[]))
  (hs:starEach [a] X.env=[(false,eval a X.env)]) (hs2:starEach [.Call (.Name "range" p2) [a] [] pos2] X.env=[(false,eval (.Call (.Name "range" p2) [a] [] pos2) X.env)])
  (I:Inv X pins σ H s)
  {Rp:List V -> Hp -> Prop} (h:ta σ H Rp) (hR:∀ vs H1,Rp vs H1 -> ∃ n:Nat,vs=[.int (n:Int)]∧n≤1000000∧TB P lpos qual H1∧∀ H2,KbT P H1 H2 -> TB P lpos qual H2 →
   ∃ W:Nat -> List V -> Hp -> Prop,W 0 [] H2∧(∀ (i:Nat) (ks:List V) (H':Hp),i < n -> ks.length=i -> W i ks H' -> te ((innerSt js σ).set 0 (some (.int (i:Int)))) H' fun v H'' => W (i+1) (ks++[v]) H'') ∧
    ∀ (pins':List (Addr×Obj)) (ks:List V) (H':Hp) (s':Shared) (kv items:List Value),W n ks H' -> ks.length=n -> Inv X pins' σ H' s' -> Vals ks kv -> Vals ((rgI n).map V.int) items →
     ∃ (kd:SortKind) (O:KeyOrd) (ky:Keyed -> O.α) (Sx:Keyed -> Prop),(∀ v∈kv,∀ u,Sx (v,u))∧(2≤kv.length -> ∀ {E:Value -> Shared -> Prop} {Q:SortKind -> Shared -> Prop},Q kd s' -> wpAny (model X.prog X.w) X.A.in1.in1 (keyKind' kv.toArray) Q E s') ∧
      TS.Cmp X.prog X.w X.A.in1.in1 s' kd O ky Sx∧∀ (xs:List Keyed) (D:Addr),xs.Perm (kv.zip items) -> TT.Srt O ky ixK xs -> H' D=none -> ∃ ns:List Int,Vals (ns.map V.int) (xs.map (·.2))∧Q (.ref D) (upd H' D (.lst (ns.map V.int)))) :
  wpAny (model X.prog X.w) X.A (eval (.Call (.Name "sorted" p) [.Call (.Name "range" p2) [a] [] pos2] [⟨some "key",.Lambda params body scope lpos,kp⟩] pos) X.env) (EP X pins σ Q) X.xe s:=by
 refine wpAny_Call_Name_kw (ld_blt I hg hm (show bootBuiltins "sorted" = some (.builtin "sorted") by decide +kernel) ?_)
 refine callWith_kw ?_ (by rw [hs2]; rfl) (by rw [hs2]; rfl) rfl rfl
 rw [hs2]
 show wpAny _ _ (spliced ((false,eval (.Call (.Name "range" p2) [a] [] pos2) X.env) :: backTo pos [])) _ _ s
 refine Calls.spliced_cons ?_
 refine Call_ (ld_blt I hgr hmr boot_range (PyProof.Rows.callWith_type1 (thn (ha pos2 pins s σ H _ I h) fun us s1 ⟨vs,H1,I1,r1,q1⟩ => ?_) hs rfl))
 obtain ⟨n,e,hn,tb,q⟩:=hR _ _ q1
 subst e
 cases r1 with
 | cons r rr =>
  cases rr
  obtain ⟨t,rfl⟩:=r
  refine call_range_1 ?_
  refine Calls.spliced_nil ?_
  refine kws_cons ?_
  have I2:Inv X pins σ H1 { s1 with heap:=s1.heap.push { cls:=.type "range",data:=.fields #[.int 0 s1.toks,.int n t,.int 1 (s1.toks+1)] },toks:=s1.toks+2 }:=I1.kept fun b o e => Heap.get?_push_of_some _ e
  have fr:FpOk X pins H1 s1.heap.objs.size:=I1.fpOk (Nat.le_refl _) (I1.hok.fresh (Nat.le_refl _))
  have I3:Inv X ((s1.heap.objs.size,{ cls:=.type "range",data:=.fields #[.int 0 s1.toks,.int n t,.int 1 (s1.toks+1)] }) :: pins) σ H1 { s1 with heap:=s1.heap.push { cls:=.type "range",data:=.fields #[.int 0 s1.toks,.int n t,.int 1 (s1.toks+1)] },toks:=s1.toks+2 } :=
   I2.pins_of fun p hp => by
    rcases List.mem_cons.mp hp with z | z
    ·subst z
     exact ⟨Heap.get?_push_size _ rfl,fr.1,fr.2.1,fr.2.2.1,fun v q => by cases q⟩
    ·exact I2.pin p (List.mem_append_right _ z)
  refine lam_make S I3 hcode CH hbm hq tb hdef fun f c' pm ctv H2 s2 J kb tb2 ho hcd hf hc => ?_
  refine kws_nil ?_
  obtain ⟨W,w0,turn,fin⟩:=q H2 kb tb2
  have hrg:IsRange s2.heap s1.heap.objs.size 0 n 1 s1.toks t (s1.toks+1):=(J.pin _ (List.mem_append_right _ List.mem_cons_self)).1
  refine thn (call_sortK (Q:=Q) S hj hN nd hx hco hgen he hbind hroom J hrg hn ho hcd hf hc W w0 turn fun ks H' s' kv items => fin _ ks H' s' kv items) fun v s' ⟨y,H',J',r,q⟩ => ⟨y,H',?_,r,q⟩
  exact J'.pins_of fun p hp => J'.pin p (List.mem_append_right _ (List.mem_cons_of_mem _ hp))
theorem vals_refsV {zs:List (Addr×List Int)} {us:List Value} (r:Vals (zs.map fun z => V.ref z.1) us):us=zs.map fun z => Value.ref z.1:=vals_refsA r
theorem rg_len (n:Nat):(rgI n).length=n:=by unfold rgI; rw [List.length_map,List.length_range]
theorem out_ints {xs:List Keyed} {kv items:List Value} {ms:List Int} (hI:IntsAre items ms) (hp:xs.Perm (kv.zip items)):Vals ((xs.map fun p:Keyed => numOf p.2).map V.int) (xs.map (·.2)):=by
 have hall:∀ v∈xs.map (fun p:Keyed => p.2),∃ n t,v=Value.int n t:=fun v hv => by
  obtain ⟨p,hp',rfl⟩:=List.mem_map.mp hv
  obtain ⟨p1,p2⟩:=p
  exact hI.all p2 (List.of_mem_zip (hp.mem_iff.mp hp')).2
 have:=intsAre_vals (intsAre_map (xs.map fun p:Keyed => p.2) hall)
 rw [List.map_map,List.map_map] at this
 rw [List.map_map]
 exact this
theorem pe_sortL (hg:Gl X "sorted") (hm:X.mg "sorted" = none) (hgr:Gl X "range") (hmr:X.mg "range" = none) (ha:PA X [a] ta)
  (S:CompScope X N js scope) (hj:js[0]?=some none) (hN:N[0]?=some x) (nd:N.Nodup) (hx:scope.names.lookup x=some .local) (hco:scope.isCoroutine=false) (hgen:scope.isGenerator=false)
  (he:∀ (A:Around) (f c':Addr) (s:Shared) (H:Hp),PE (lamCx X N scope qual A f c' s H) body te)
  (hbind:∀ (cl:List (Str×Addr)) (pm:Value) (c':Addr) (ctv u:Value),bindArgs (kla_fn "<lambda>" qual params body scope cl pm (.ref c') ctv) ⟨[u],[]⟩=pure [(x,u)])
  (hroom:Room 2 X.A) (hcode:X.env.code=.ref c) (CH:CodeHd X.base c P) (hbm:BM X.mg X.base) (hq:X.env.qual ++ "<lambda>" = qual) (hdef:defaultsOf params X.env=([],[]):=by rfl)
  (hs:starEach [a] X.env=[(false,eval a X.env)]:=by rfl) (hs2:starEach [.Call (.Name "range" p2) [a] [] pos2] X.env=[(false,eval (.Call (.Name "range" p2) [a] [] pos2) X.env)]:=by rfl) :
  PE X (.Call (.Name "sorted" p) [.Call (.Name "range" p2) [a] [] pos2] [⟨some "key",.Lambda params body scope lpos,kp⟩] pos) (tSortL X.K P lpos qual js ta te):=by
 intro pins s σ H Q I h
 have hu2:X.A.in1.in1.units < cLine:=by rw [Around.in1_units,Around.in1_units]; have:=hroom.un; trivial
 refine sortK_road hg hm hgr hmr ha S hj hN nd hx hco hgen he hbind hroom hcode CH hbm hq hdef hs hs2 I h fun vs H1 z => ?_
 obtain ⟨n,e,hn,tb,q⟩:=z
 refine ⟨n,e,hn,tb,fun H2 kb tb2 => ?_⟩
 obtain ⟨W,w0,turn,fin⟩:=q H2 kb tb2
 refine ⟨W,w0,turn,fun pins' ks H' s' kv items w hl J hv hit => ?_⟩
 obtain ⟨zs,rfl,hz,q⟩:=fin ks H' w hl
 have ekv:=vals_refsV hv
 subst ekv
 have hI:=vals_intsAre hit
 have hpa:∀ z∈zs,LstAt s'.heap z:=fun z hm => by
  obtain ⟨its2,rv,p2,_⟩:=J.list (hz z hm)
  exact ⟨_,p2.isList,vals_intsAre rv⟩
 have same:∀ z∈zs,∀ y∈zs,z.1=y.1 -> z.2=y.2:=fun z h1 y h2 e => by
  have e1:=hz z h1
  have e2:=hz y h2
  rw [← e] at e2
  have:=J.list_inj e1 e2
  exact ints_inj this
 refine ⟨oneType',listOrd,fky [] zs,fun p => ∃ z∈zs,p.1=.ref z.1,fun v hv' u => ?_,fun h2 {E Q'} qq => ?_,cmp_list hu2 same hpa,fun xs D hp hs' hD => ?_⟩
 ·obtain ⟨z,hm,rfl⟩:=List.mem_map.mp hv'
  exact ⟨z,hm,rfl⟩
 ·refine kas_kind (T:=.type "list") h2 (fun v hv' => ?_) (by rfl) (by rfl) qq
  obtain ⟨z,hm,rfl⟩:=List.mem_map.mp hv'
  obtain ⟨i1,⟨o1,e1,c1,_⟩,_⟩:=hpa z hm
  rw [← c1]
  exact (Looks.ld e1).andThen .now
 ·have eg:((zs.map fun z => Value.ref z.1).zip items).map (fun p:Keyed => (fky [] zs p,numOf p.2))=(zs.map (·.2)).zip (rgI n):=by
   have e1:(fun p:Keyed => (fky [] zs p,numOf p.2))=Prod.map (fun v => fky [] zs (v,v)) numOf:=by
    funext p
    obtain ⟨p1,p2⟩:=p
    rfl
   rw [e1,← List.zip_map,List.map_map,hI.nums]
   congr 1
   exact List.map_congr_left fun z hm => fky_at same hm (Value.ref z.1)
  have hpp:=hp.map (fun p:Keyed => (fky [] zs p,numOf p.2))
  rw [eg] at hpp
  have hq:=q (xs.map fun p:Keyed => (fky [] zs p,numOf p.2)) D hpp (by
   rw [List.pairwise_map,List.pairwise_map]
   exact List.Pairwise.imp (fun {y z} r => r.1) hs') hD
  refine ⟨xs.map fun p:Keyed => numOf p.2,out_ints hI hp,?_⟩
  rw [List.map_map] at hq ⊢
  exact hq
theorem pe_sortI (hg:Gl X "sorted") (hm:X.mg "sorted" = none) (hgr:Gl X "range") (hmr:X.mg "range" = none) (ha:PA X [a] ta)
  (S:CompScope X N js scope) (hj:js[0]?=some none) (hN:N[0]?=some x) (nd:N.Nodup) (hx:scope.names.lookup x=some .local) (hco:scope.isCoroutine=false) (hgen:scope.isGenerator=false)
  (he:∀ (A:Around) (f c':Addr) (s:Shared) (H:Hp),PE (lamCx X N scope qual A f c' s H) body te)
  (hbind:∀ (cl:List (Str×Addr)) (pm:Value) (c':Addr) (ctv u:Value),bindArgs (kla_fn "<lambda>" qual params body scope cl pm (.ref c') ctv) ⟨[u],[]⟩=pure [(x,u)])
  (hroom:Room 2 X.A) (hcode:X.env.code=.ref c) (CH:CodeHd X.base c P) (hbm:BM X.mg X.base) (hq:X.env.qual ++ "<lambda>" = qual) (hdef:defaultsOf params X.env=([],[]):=by rfl)
  (hs:starEach [a] X.env=[(false,eval a X.env)]:=by rfl) (hs2:starEach [.Call (.Name "range" p2) [a] [] pos2] X.env=[(false,eval (.Call (.Name "range" p2) [a] [] pos2) X.env)]:=by rfl) :
  PE X (.Call (.Name "sorted" p) [.Call (.Name "range" p2) [a] [] pos2] [⟨some "key",.Lambda params body scope lpos,kp⟩] pos) (tSortI P lpos qual js ta te):=by
 intro pins s σ H Q I h
 refine sortK_road hg hm hgr hmr ha S hj hN nd hx hco hgen he hbind hroom hcode CH hbm hq hdef hs hs2 I h fun vs H1 z => ?_
 obtain ⟨n,e,hn,tb,q⟩:=z
 refine ⟨n,e,hn,tb,fun H2 kb tb2 => ?_⟩
 obtain ⟨W,w0,turn,fin⟩:=q H2 kb tb2
 refine ⟨W,w0,turn,fun pins' ks H' s' kv items w hl J hv hit => ?_⟩
 obtain ⟨kz,rfl,q⟩:=fin ks H' w hl
 have hK:=vals_intsAre hv
 have hI:=vals_intsAre hit
 refine ⟨oneType',TS.intOrd,TS.intKy,fun p => ∃ n t,p.1=.int n t,fun v hv' u => hK.all v hv',fun h2 {E Q'} qq => kk_ints hK h2 qq,TS.cmp_int,fun xs D hp hs' hD => ?_⟩
 have eg:(kv.zip items).map (fun p:Keyed => (numOf p.1,numOf p.2))=kz.zip (rgI n):=by
  have e1:(fun p:Keyed => (numOf p.1,numOf p.2))=Prod.map numOf numOf:=by
   funext p
   obtain ⟨p1,p2⟩:=p
   rfl
  rw [e1,← List.zip_map,hK.nums,hI.nums]
 have hpp:=hp.map (fun p:Keyed => (numOf p.1,numOf p.2))
 rw [eg] at hpp
 have pos:∀ p∈xs,0≤numOf p.2:=fun p hp' => by
  have hm:numOf p.2∈items.map numOf:=List.mem_map.mpr ⟨p.2,(List.of_mem_zip (a:=p.1) (b:=p.2) (hp.mem_iff.mp hp')).2,rfl⟩
  rw [hI.nums] at hm
  unfold rgI at hm
  obtain ⟨k,_,e⟩:=List.mem_map.mp hm
  trivial
 have hq:=q (xs.map fun p:Keyed => (numOf p.1,numOf p.2)) D hpp (by
  rw [List.pairwise_map]
  refine List.Pairwise.imp_of_mem (fun {y z} hy hz r => ?_) hs'
  have r':decide (numOf z.1 < numOf y.1)=false:=r.1
  have h1:=of_decide_eq_false r'
  show numOf y.1 < numOf z.1∨(numOf y.1=numOf z.1∧numOf y.2≤numOf z.2)
  by_cases c:numOf y.1 < numOf z.1
  ·exact .inl c
  ·refine .inr ⟨by trivial,?_⟩
   have h2:ixK y≤ixK z:=r.2 (show decide (numOf y.1 < numOf z.1)=false from decide_eq_false c)
   unfold ixK at h2
   have p1:=pos y hy
   have p2:=pos z hz
   trivial) hD
 refine ⟨xs.map fun p:Keyed => numOf p.2,out_ints hI hp,?_⟩
 rw [List.map_map] at hq ⊢
 exact hq
end
end L2
namespace L2
open PySem PySem.Spec PyProof.Rows PySem.W
noncomputable def codeOf (K:Frag) (P:Addr):Option (Addr×Obj):=K.find? fun p => codeHdIn K p.1 P
noncomputable def tabsK (K:Frag) (ts:List Addr):Bool:=noTabs K && ts.all fun P => (codeOf K P).isSome
theorem tabsK_no {K:Frag} {ts:List Addr} {h:Heap} (e:tabsK K ts=true) (X:K.In h) {P:Addr} (hP:h.get? P=some (tabObj #[])):K.lookup P=none:=by
 unfold tabsK at e
 rw [Bool.and_eq_true] at e
 cases q:K.lookup P with
 | none => rfl
 | some o =>
  have e2:=X P o q
  rw [hP] at e2
  have e3:tabObj #[]=o:=Option.some.inj e2
  have h2:=List.all_eq_true.mp e.1 (P,o) (mem_of_lookupK q)
  subst e3
  exact absurd (show false=true from h2) Bool.false_ne_true
theorem tabsK_code {K:Frag} {ts:List Addr} {h:Heap} (e:tabsK K ts=true) (X:K.In h) {P:Addr} (hP:P∈ts) (hg:h.get? P=some (tabObj #[])):isCodeTable h P:=by
 unfold tabsK at e
 rw [Bool.and_eq_true] at e
 have h2:=List.all_eq_true.mp e.2 P hP
 unfold codeOf at h2
 cases q:K.find? fun p => codeHdIn K p.1 P with
 | none => rw [q] at h2; cases h2
 | some p =>
  have h3:=List.find?_some q
  exact ((codeHd_of_K X h3).tab hg).isCodeTable
theorem law_callT {P:Program} {w:World} {K:PySem.W.Frag} {mg mb:Str -> Option Value} {CX:CXT} {k:Nat} {fa a:Addr} {fd:FuncData} {x:Str} {sp:Sp} {s₁:Shared} {vs:List Value} {ns:List Int} {ts:List Addr}
  (KX:K.In s₁.heap) (hns:s₁.heap.Ns mainGlobals mg) (hb:s₁.heap.Ns builtinsNs mb) (hbb:∀ x:Str,x ≠ "__name__" -> mb x=bootBuiltins x) (hlim:s₁.heap.NoLimit) (hg:s₁.gens=#[])
  (ha:s₁.heap.get? a=some { cls:=.type "list",data:=.seq vs.toArray }) (hi:IntsAre vs ns) (hl:ns.length≤sizeLine) (hr:Room k callerA)
  (hT:∀ Q∈ts,s₁.heap.get? Q=some (tabObj #[])) (hK:tabsK K ts=true) (hbm:BM mg s₁.heap)
  (F:∀ base:Heap,K.In base -> base.Ns mainGlobals mg -> BM mg base -> FnOk P w K mg base CX k fa fd [x] sp) (hbind:∀ (s:Shared) (u:Value),BindsTo s fd ⟨[u],[]⟩ [(x,u)])
  (hsp:∀ H:Hp,SqL K H a (ns.map V.int) -> (∀ Q∈ts,H Q=some (.tbl #[])) -> sp [.ref a] H (fun v _ => v=.bl true) fun _ _ _ => False)
  (hCX:∀ H e s',CX [] H s₁ (fun _ _ _ => False) e s' -> False) :
  codeAny (model P w) callerA (.call (.ref fa) ⟨[.ref a],[]⟩) (fun r s' => r=.ok (.ret (.bool true))∧OldK s₁.heap s'.heap∧s'.os=s₁.os∧AllBare s'.gens) s₁:=by
 have rv:=vals_ints hi
 have lenV:=hi.length
 have nat:∀ Q∈ts,Q≠a:=fun Q hQ z => by
  have e:=hT Q hQ
  rw [z,ha] at e
  have e2:Value.type "list" = Value.none:=congrArg Obj.cls (Option.some.inj e)
  cases e2
 have core:∀ H:Hp,SqL K H a (ns.map V.int) -> HOk P w H s₁.heap -> (∀ b,H b≠none -> b=a∨b∈ts) -> (H a≠none -> K.lookup a=none) -> (∀ Q∈ts,H Q=some (.tbl #[])) -> (H a=none∨∃ ob u,H a=some (.frz ob u)) →
   codeAny (model P w) callerA (.call (.ref fa) ⟨[.ref a],[]⟩) (fun r s' => r=.ok (.ret (.bool true))∧OldK s₁.heap s'.heap∧s'.os=s₁.os∧AllBare s'.gens) s₁:=by
  intro H hS hok hA hKa hTH hfr
  have base_of:∀ {b:Addr} {o:Obj},s₁.heap.get? b=some o -> H b=none -> (hidT s₁.heap H).get? b=some o:=fun e n => hidT_get e n
  have noA:∀ {b:Addr} {o:Obj},s₁.heap.get? b=some o -> (∀ xs n,o.data≠.seq xs n) -> (∀ vs,o.data≠.fields vs) -> H b=none:=fun {b o} e d1 d2 => by
   cases q:H b with
   | none => rfl
   | some u =>
    rcases hA b (by rw [q]; simp) with z | z
    ·subst z
     rw [ha] at e; cases e
     exact absurd rfl (d1 _ _)
    ·rw [hT b z] at e; cases e
     exact absurd rfl (d2 _)
  have nsK:∀ {b:Addr} {m:Str -> Option Value},s₁.heap.Ns b m -> (hidT s₁.heap H).Ns b m:=fun {b m} ⟨o,es,ep,e,d,r⟩ => ⟨o,es,ep,base_of e (noA e (fun xs n z => by rw [d] at z; cases z) (fun vs z => by rw [d] at z; cases z)),d,r⟩
  have hKb:K.In (hidT s₁.heap H):=fun b o e => base_of (KX b o e) (by
   cases q:H b with
   | none => rfl
   | some u =>
    rcases hA b (by rw [q]; simp) with z | z
    ·subst z
     rw [hKa (by rw [q]; simp)] at e; cases e
    ·rw [tabsK_no hK KX (hT b z)] at e; cases e)
  have hM:Mod K mg (hidT s₁.heap H):=⟨hKb,nsK hns,⟨mb,nsK hb,hbb⟩,let ⟨mc,h1,h2⟩:=hlim; ⟨mc,nsK h1,h2⟩⟩
  have hbm':BM mg (hidT s₁.heap H):=by
   obtain ⟨bm,ob,b1,b2,b3,b4,b5,b6⟩:=hbm
   exact ⟨bm,ob,b1,b2,base_of b3 (noA b3 (fun xs n z => by rw [b6] at z; cases z) (fun vs z => by rw [b6] at z; cases z)),b4,b5,b6⟩
  have e0:Env0 P w K mg (hidT s₁.heap H) callerA [] s₁ H:=⟨rfl,hM,fun b o e => of_hidT e,Nat.le_of_eq (hidT_size _ _),trivial,fun b hb => absurd (show b∈([]:List Addr) from hb) (by simp),hok,.of_eq hg⟩
  refine codeAny_mono ((F _ hKb (nsK hns) hbm').run callerA [] s₁ H ⟨[.ref a],[]⟩ [.ref a] [.ref a] _ _ hr e0 (hbind s₁ (.ref a)) (.cons rfl .nil) (hsp H hS hTH)) fun r s' h => ?_
  cases r with
  | error e => exact (hCX H e s' h).elim
  | ok fl =>
   cases fl with
   | next => exact False.elim h
   | brk => exact False.elim h
   | cont => exact False.elim h
   | ret u =>
    obtain ⟨v,H',os,bare,un,hok',r',q⟩:=h
    have q':v=.bl true:=q
    subst q'
    obtain rfl:u=Value.bool true:=r'
    have grown:∀ b∈ts,∃ ps,s'.heap.get? b=some (tabObj ps):=fun b hb => by
     obtain ⟨more,e⟩:=un.tbls b #[] (hTH b hb)
     exact ⟨_,hok' b _ e⟩
    have kept:∀ b o,b ∉ ts -> s₁.heap.get? b=some o -> s'.heap.get? b=some o:=fun b o hb e => by
     cases q:H b with
     | none => exact un.keep b o e q (by intro z; exact absurd (show b∈([]:List Addr) from z) (by simp)) (by simp)
     | some u =>
      rcases hA b (by rw [q]; simp) with z | z
      ·subst z
       rcases hfr with y | ⟨ob,u',y⟩
       ·rw [q] at y; cases y
       ·have z2:=un.frzs b ob _ y
        obtain ⟨e1,_⟩:=hok b _ y
        obtain ⟨e2,_⟩:=hok' b _ z2
        rw [e] at e1; cases e1
        exact e2
      ·exact absurd z hb
    refine ⟨rfl,⟨fun b o e => ?_,fun b o e => ?_⟩,os,bare⟩
    ·by_cases hb:b∈ts
     ·have e2:=hT b hb
      rw [e] at e2
      cases e2
      obtain ⟨ps,hP⟩:=grown b hb
      exact .inr (.inl ⟨tabsK_code hK KX hb (hT b hb),rfl,#[],ps,rfl,by rw [Array.empty_append]; exact hP⟩)
     ·exact .inl (kept b o hb e)
    ·by_cases hb:b∈ts
     ·obtain ⟨ps,hP⟩:=grown b hb
      exact ⟨_,hP⟩
     ·exact ⟨o,kept b o hb e⟩
 cases hk:K.lookup a with
 | some o =>
  have e:=KX a o hk
  rw [ha] at e
  cases e
  refine core (fun b => if b∈ts then some (.tbl #[]) else none) (.inr ⟨_,vs.toArray,_,hk,rfl,rfl,rfl,by rw [List.size_toArray,lenV]; exact hl,by simpa using rv⟩) (fun b u z => ?_) (fun b z => ?_) (fun z => ?_) (fun Q hQ => if_pos hQ) (.inl ?_)
  ·by_cases hb:b∈ts
   ·have z':=(if_pos hb).symm.trans z
    cases z'
    exact hT b hb
   ·have z':=(if_neg hb).symm.trans z
    cases z'
  ·by_cases hb:b∈ts
   ·exact .inr hb
   ·exact absurd (if_neg hb) z
  ·exact absurd (if_neg fun h => nat a h rfl) z
  ·exact if_neg fun h => nat a h rfl
 | none =>
  refine core (fun b => if b=a then some (.frz { cls:=.type "list",data:=.seq vs.toArray } (.lst (ns.map V.int))) else if b∈ts then some (.tbl #[]) else none) (.inl (.inr ⟨{ cls:=.type "list",data:=.seq vs.toArray },if_pos rfl⟩)) (fun b u z => ?_) (fun b z => ?_) (fun _ => hk) (fun Q hQ => ?_) (.inr ⟨_,_,if_pos rfl⟩)
  ·by_cases hb:b=a
   ·have z':=(if_pos hb).symm.trans z
    cases z'
    subst hb
    exact ⟨ha,by rw [List.length_map]; exact hl,vs,_,rv,ha⟩
   ·have z':=(if_neg hb).symm.trans z
    by_cases hb2:b∈ts
    ·have z2:=(if_pos hb2).symm.trans z'
     cases z2
     exact hT b hb2
    ·have z2:=(if_neg hb2).symm.trans z'
     cases z2
  ·by_cases hb:b=a
   ·exact .inl hb
   ·by_cases hb2:b∈ts
    ·exact .inr hb2
    ·exact absurd ((if_neg hb).trans (if_neg hb2)) z
  ·show (if Q=a then _ else if Q∈ts then _ else none)=_
   rw [if_neg (nat Q hQ),if_pos hQ]
theorem walk_ofT {l:PySem.W.OpenLaw} {n k:Nat} {q:Program} {loose:List Str} {XP:(Str -> Option Value) -> Heap -> Prop} {YP:World -> Heap -> Prop} {d:DefRec} {K:Params -> PySem.W.Frag} {CX:World -> CXT} {sp:World -> Sp} {x:Str} {ts:List Addr}
  (hn:l.most=some n) (hn2:n≤sizeLine) (hdf:d.params.defaults=[]) (hr:Room k callerA)
  (hY:∀ (w:World) (h:Heap),YP w h -> (K w.params).In h) (hT:∀ (w:World) (h:Heap),YP w h -> ∀ P∈ts,h.get? P=some (tabObj #[])) (hK:∀ w:World,tabsK (K w.params) ts=true)
  (F:∀ (w:World) (mg:Str -> Option Value) (fa:Addr) (h:Heap),(K w.params).In h -> h.Ns mainGlobals mg -> mg d.name=some (.ref fa) →
   ∃ fd:FuncData,(∀ (s:Shared) (u:Value),BindsTo s fd ⟨[u],[]⟩ [(x,u)]) ∧
    ∀ base:Heap,(K w.params).In base -> base.Ns mainGlobals mg -> BM mg base -> FnOk l.prog w (K w.params) mg base (CX w) k fa fd [x] (sp w))
  (hsp:∀ (w:World) (H:Hp) (a:Addr) (ns:List Int),ns.length≤n -> SqL (K w.params) H a (ns.map V.int) -> (∀ Q∈ts,H Q=some (.tbl #[])) -> sp w [.ref a] H (fun v _ => v=.bl true) fun _ _ _ => False)
  (hCX:∀ (w:World) (H:Hp) (s:Shared) (e:Value) (s':Shared),CX w [] H s (fun _ _ _ => False) e s' -> False) :
  PySem.W.WalkO q loose XP YP l.row.toRowW d [] (fun f vs => PySem.call f vs):=by
 refine Att.attach_call hn hdf fun w s₀ s₁ mg mb fa o pm cd doc a vs ns G Y ho hd hcd hmg hobj hints hlen hg => ?_
 have KX:=hY w _ Y
 obtain ⟨fd,hb,hF⟩:=F w mg fa _ KX G.T.g hmg
 exact law_callT KX G.T.g G.T.b G.T.builtins G.T.nolimit hg hobj hints (Nat.le_trans hlen hn2) hr (hT w _ Y) (hK w) G.T.bmain hF hb (fun H hS hQ => hsp w H a ns hlen hS hQ) fun H e s' => hCX w H s₁ e s'
section
variable {P:Program} {w:World} {K:PySem.W.Frag} {mg:Str -> Option Value} {base:Heap}
theorem Fun.okL {x qual:Str} {st:Stmt} {f c:Addr} {fd:FuncData} {N ps:List Str} {k:Nat} {sp:Sp} (F:Fun K x qual st f fd) (hc:fd.code=.ref c) (S:FnScope N ps (defScope st)) (len:∀ vs H Q E,sp vs H Q E -> vs.length=ps.length)
  (hbody:∀ (A:Around) (outer:List Env) (s:Shared) (H:Hp) (vs:List V) (Q:VK) (E:XK),Room k (A.deeper (envOfC qual (defScope st) s.heap.objs.size f (.ref c))) -> sp vs H Q E →
   ∃ t,PSs (cxOf (CXW P w) P w K mg base N qual (defScope st) f (.ref c) A outer s H E).nox (defBody st) t∧t { nx:=fun _ H' => Q .non H',rt:=Q } (start N vs) H):FnOk P w K mg base (CXW P w) (k+1) f fd ps sp:=by
 obtain ⟨oc,od,kV,doc,pm,an,cdv,ct,osl,rfl,lk,hcd⟩:=F.ex
 have e:cdv=.ref c:=hc
 subst e
 refine fn_of lk hcd S len fun A outer s H vs Q E hr hsp => ?_
 obtain ⟨t,h,q⟩:=hbody A outer s H vs Q E hr hsp
 exact ⟨t,h.nox,q⟩
theorem Fun.okLX {x qual:Str} {st:Stmt} {f c:Addr} {fd:FuncData} {N ps:List Str} {k:Nat} {sp:Sp} (F:Fun K x qual st f fd) (hc:fd.code=.ref c) (S:FnScope N ps (defScope st)) (len:∀ vs H Q E,sp vs H Q E -> vs.length=ps.length)
  (hbody:∀ (A:Around) (outer:List Env) (s:Shared) (H:Hp) (vs:List V) (Q:VK) (E:XK),Room k (A.deeper (envOfC qual (defScope st) s.heap.objs.size f (.ref c))) -> sp vs H Q E →
   ∃ t,PSs (cxOf (CXW P w) P w K mg base N qual (defScope st) f (.ref c) A outer s H E) (defBody st) t∧t { nx:=fun _ H' => Q .non H',rt:=Q } (start N vs) H):FnOk P w K mg base (CXW P w) (k+1) f fd ps sp:=by
 obtain ⟨oc,od,kV,doc,pm,an,cdv,ct,osl,rfl,lk,hcd⟩:=F.ex
 have e:cdv=.ref c:=hc
 subst e
 exact fn_of lk hcd S len fun A outer s H vs Q E hr hsp => hbody A outer s H vs Q E hr hsp
end
end L2
namespace PH
open PySem L2 PySem.W
structure SameT (P:Addr) (lp:Pos) (qn:Str) (H H':Hp):Prop where
 kb:KbT P H H'
 tb:TB P lp qn H'
section
variable {P:Addr} {lp:Pos} {qn:Str} {H H1 H2:Hp}
theorem _root_.L2.TB.at (t:TB P lp qn H):∃ ps,H P=some (.tbl ps):=by
 rcases t with e | ⟨_,_,_,_,e,_⟩
 ·exact ⟨_,e⟩
 ·exact ⟨_,e⟩
theorem _root_.L2.TB.ne (t:TB P lp qn H) {b:Addr} {u:HO} (h:H b=some u) (n:∀ ps,u≠.tbl ps):b≠P:=fun z => by
 obtain ⟨ps,e⟩:=t.at
 rw [z,e] at h
 exact n ps (Option.some.inj h).symm
theorem _root_.L2.TB.same (t:TB P lp qn H) (s:Same H H1):TB P lp qn H1:=by
 rcases t with e | ⟨c',oc,vs,t,e,e1,e2,e3⟩
 ·exact .inl (s _ _ e)
 ·exact .inr ⟨c',oc,vs,t,s _ _ e,s _ _ e1,e2,e3⟩
theorem SameT.refl (t:TB P lp qn H):SameT P lp qn H H:=⟨fun _ _ _ e => e,t⟩
theorem SameT.of (t:TB P lp qn H) (s:Same H H1):SameT P lp qn H H1:=⟨fun b u _ e => s b u e,t.same s⟩
theorem SameT.trans (a:SameT P lp qn H H1) (b:SameT P lp qn H1 H2):SameT P lp qn H H2:=⟨fun x u n e => b.kb x u n (a.kb x u n e),b.tb⟩
theorem SameT.same (a:SameT P lp qn H H1) (b:Same H1 H2):SameT P lp qn H H2:=a.trans (.of a.tb b)
theorem SameT.g (s:SameT P lp qn H H1) (t:TB P lp qn H) {b:Addr} {u:HO} (h:H b=some u) (n:∀ ps,u≠.tbl ps:=by intro ps z; cases z):H1 b=some u:=s.kb b u (t.ne h n) h
theorem SameT.free (s:SameT P lp qn H H1) {q:Addr} (hq:H1 q=none):H q=none:=by
 cases e:H q with
 | none => rfl
 | some u =>
  by_cases hP:q=P
  ·obtain ⟨ps,e2⟩:=s.tb.at
   rw [hP,e2] at hq; cases hq
  ·rw [s.kb q u hP e] at hq; cases hq
theorem SameT.upd (s:SameT P lp qn H H1) (t:TB P lp qn H) {q:Addr} (u:HO) (hq:H q=none) (hn:∀ o v,H1 q≠some (.frz o v)):SameT P lp qn H (upd H1 q u):=by
 have hP:P≠q:=fun z => by
  obtain ⟨ps,e⟩:=t.at
  rw [z,hq] at e; cases e
 refine ⟨fun b w n e => ?_,?_⟩
 ·rw [upd_ne (fun z => by rw [z,hq] at e; cases e)]; exact s.kb b w n e
 ·rcases s.tb with e | ⟨c',oc,vs,t,e,e1,e2,e3⟩
  ·exact .inl (by rw [upd_ne hP]; exact e)
  ·refine .inr ⟨c',oc,vs,t,by rw [upd_ne hP]; exact e,?_,e2,e3⟩
   rw [upd_ne (fun z => hn oc (.own c') (by rw [← z]; exact e1))]; exact e1
theorem SameT.seq (s:SameT P lp qn H H1) (t:TB P lp qn H) {K:Frag} {a:Addr} {xs:List V} (h:SqL K H a xs):SqL K H1 a xs:=by
 rcases h with (h | ⟨o,h⟩) | h
 ·exact .inl (.inl (s.g t h))
 ·exact .inl (.inr ⟨o,s.g t h⟩)
 ·exact .inr h
end
noncomputable def endsOf (t:List Int):List Int:=(rgI (t.length+1)).mergeSort fun a b => !HT.lexLt (t.drop b.toNat) (t.drop a.toNat)
theorem uniq_sorted {α:Type} {R:α -> α -> Prop}:∀ {a b:List α},(∀ x∈a,∀ y∈a,R x y -> R y x -> x=y) -> a.Perm b -> a.Pairwise R -> b.Pairwise R -> a=b
 | [],b,_,p,_,_ => (List.nil_perm.mp p).symm
 | x :: a,b,hR,p,h1,h2 => by
  cases b with
  | nil => exact absurd p (by simp)
  | cons y b =>
   rw [List.pairwise_cons] at h1 h2
   have e:x=y:=by
    rcases List.mem_cons.mp (p.mem_iff.mp List.mem_cons_self) with z | z
    ·exact z
    ·rcases List.mem_cons.mp (p.mem_iff.mpr (List.mem_cons_self (a:=y) (l:=b))) with w | w
     ·exact w.symm
     ·exact hR x List.mem_cons_self y (List.mem_cons_of_mem _ w) (h1.1 y w) (h2.1 x z)
   subst e
   rw [uniq_sorted (fun u hu v hv => hR u (List.mem_cons_of_mem _ hu) v (List.mem_cons_of_mem _ hv)) (List.perm_cons _ |>.mp p) h1.2 h2.2]
theorem mem_rg {n:Nat} {x:Int}:x∈rgI n ↔ 0≤x∧x < n:=by
 unfold rgI
 rw [List.mem_map]
 constructor
 ·rintro ⟨k,hk,rfl⟩
  have:=List.mem_range.mp hk
  trivial
 ·intro h
  exact ⟨x.toNat,List.mem_range.mpr (by trivial),by trivial⟩
theorem drop_inj {t:List Int} {a b:Int} (ha:0≤a) (ha':a≤t.length) (hb:0≤b) (hb':b≤t.length) (h:t.drop a.toNat=t.drop b.toNat):a=b:=by
 have:=congrArg List.length h
 rw [List.length_drop,List.length_drop] at this
 trivial
theorem ends_sorted (t:List Int):(endsOf t).Pairwise fun a b => HT.lexLt (t.drop b.toNat) (t.drop a.toNat)=false:=by
 have h:=List.pairwise_mergeSort (le:=fun a b:Int => !HT.lexLt (t.drop b.toNat) (t.drop a.toNat)) (fun a b c h1 h2 => ?_) (fun a b => ?_) (rgI (t.length+1))
 ·exact h.imp fun {a b} z => by simpa using z
 ·simp only [Bool.not_eq_true'] at h1 h2 ⊢
  cases h3:HT.lexLt (t.drop c.toNat) (t.drop a.toNat) with
  | false => rfl
  | true =>
   exfalso
   rcases listOrd.negTrans _ (t.drop b.toNat) _ h3 with z | z
   ·have z':HT.lexLt (t.drop c.toNat) (t.drop b.toNat)=true:=z
    rw [h2] at z'; cases z'
   ·have z':HT.lexLt (t.drop b.toNat) (t.drop a.toNat)=true:=z
    rw [h1] at z'; cases z'
 ·cases h1:HT.lexLt (t.drop b.toNat) (t.drop a.toNat) with
  | false => rfl
  | true =>
   cases h2:HT.lexLt (t.drop a.toNat) (t.drop b.toNat) with
   | false => rfl
   | true =>
    have:=lex_trans _ _ _ h1 h2
    rw [lex_irr] at this; cases this
theorem ends_perm (t:List Int):(endsOf t).Perm (rgI (t.length+1)):=List.mergeSort_perm _ _
theorem ends_eq {t es:List Int} (hp:es.Perm (rgI (t.length+1))) (hs:es.Pairwise fun a b => HT.lexLt (t.drop b.toNat) (t.drop a.toNat)=false):es=endsOf t:=by
 refine uniq_sorted (fun x hx y hy h1 h2 => ?_) (hp.trans (ends_perm t).symm) hs (ends_sorted t)
 have hx':=mem_rg.mp (hp.mem_iff.mp hx)
 have hy':=mem_rg.mp (hp.mem_iff.mp hy)
 exact drop_inj hx'.1 (by trivial) hy'.1 (by trivial) (lex_total _ _ h2 h1)
theorem ends_len (t:List Int):(endsOf t).length=t.length+1:=by rw [(ends_perm t).length_eq,rg_len]
theorem ends_mem {t:List Int} {e:Int}:e∈endsOf t ↔ 0≤e∧e≤t.length:=by
 rw [(ends_perm t).mem_iff,mem_rg]
 constructor <;> (intro h; trivial)
theorem ends_nd (t:List Int):(endsOf t).Nodup:=by
 refine (ends_perm t).symm.nodup ?_
 unfold rgI
 exact List.Pairwise.map _ (fun a b (h:a≠b) => show (a:Int)≠(b:Int) by trivial) List.nodup_range
theorem ends_of_pairs {t:List Int} {ps:List (List Int×Int)} {ls:List (List Int)} (hl:ls=(List.range (t.length+1)).map fun k => t.drop k) (hp:ps.Perm (ls.zip (rgI (t.length+1)))) (hs:(ps.map (·.1)).Pairwise (fun a b => HT.lexLt b a=false)):ps.map (·.2)=endsOf t:=by
 have hz:ls.zip (rgI (t.length+1))=(rgI (t.length+1)).map fun e => (t.drop e.toNat,e):=by
  rw [hl]
  unfold rgI
  rw [List.zip_map',List.map_map]
  rfl
 rw [hz] at hp
 have h1:∀ p∈ps,p.1=t.drop p.2.toNat:=fun p hp' => by
  obtain ⟨e,_,rfl⟩:=List.mem_map.mp (hp.mem_iff.mp hp')
  rfl
 refine ends_eq ?_ ?_
 ·have:=hp.map (·.2)
  rw [List.map_map] at this
  exact this.trans (.of_eq (List.map_id _))
 ·rw [List.pairwise_map] at hs ⊢
  refine List.Pairwise.imp_of_mem ?_ hs
  intro a b ha hb h
  rw [← h1 a ha,← h1 b hb]; exact h
theorem at_intE {ns:List Int} {i:Nat} {z:Int} (h:ns[i]?=some z):atI (ns.map V.int) (i:Int)=some (.int z):=atI_nat (by rw [List.getElem?_map,h]; rfl)
noncomputable abbrev qnE:Str:="endings_of.<locals>.<lambda>"
noncomputable def spEndings (K:Frag) (P:Addr) (lp:Pos):Sp:=fun vs H Q _ => ∃ (a:Addr) (t:List Int),vs=[.ref a]∧SqL K H a (t.map V.int)∧t.length≤5000∧TB P lp qnE H ∧
 ∀ (D:Addr) (H':Hp),SameT P lp qnE H H' -> H D=none -> H' D=some (lsI (endsOf t)) -> Q (.ref D) H'
noncomputable def spLawT (K:PySem.W.Frag) (ts:List Addr):Sp:=fun vs H Q _ => ∃ (a:Addr) (ns:List Int),vs=[.ref a]∧SqL K H a (ns.map V.int)∧ns.length≤63∧(∀ P∈ts,H P=some (.tbl #[]))∧∀ H',Q (.bl true) H'
end PH
namespace L2
open PySem PySem.Spec PyProof.Rows PySem.W
theorem eqD_ints (a b:List Int):eqD (.lst (a.map DV.int)) (.lst (b.map DV.int))=decide (a=b):=by
 unfold eqD; rw [eqDs_ints]
end L2
namespace PH
open PySem L2 PySem.W
noncomputable def rowE (t es:List Int):List Int:=es.filterMap fun e => if e=0 then none else t[(e - 1).toNat]?
noncomputable def rowT (t:List Int):List Int:=rowE t (endsOf t)
noncomputable def holeT (t:List Int):Int:=((endsOf t).idxOf 0:Nat)
noncomputable def holeAt (es:List Int) (i:Nat):Int:=if (0:Int)∈es.take i then ((es.idxOf 0:Nat):Int) else 0
theorem rowE_take {t es:List Int} {i:Nat} {e:Int} (h:es[i]?=some e):rowE t (es.take (i+1))=rowE t (es.take i)++(if e=0 then none else t[(e - 1).toNat]?).toList:=by
 unfold rowE
 rw [take_at h,List.filterMap_append]
 congr 1
theorem hole_zero {es:List Int} {i:Nat} (nd:es.Nodup) (h:es[i]?=some 0):holeAt es (i+1)=(i:Int):=by
 unfold holeAt
 rw [take_at h,if_pos (List.mem_append_right _ List.mem_cons_self)]
 congr 1
 obtain ⟨hi,e⟩:=List.getElem?_eq_some_iff.mp h
 have:=nd.idxOf_getElem (i:=i) hi
 rw [e] at this
 exact this
theorem hole_step {es:List Int} {i:Nat} {e:Int} (h:es[i]?=some e) (ne:e≠0):holeAt es (i+1)=holeAt es i:=by
 unfold holeAt
 rw [take_at h]
 by_cases hm:(0:Int)∈es.take i
 ·rw [if_pos hm,if_pos (List.mem_append_left _ hm)]
 ·rw [if_neg hm,if_neg]
  intro z
  rcases List.mem_append.mp z with z | z
  ·exact hm z
  ·have:(0:Int)=e:=by simpa using z
   exact ne this.symm
theorem hole_end (t:List Int):holeAt (endsOf t) (endsOf t).length=holeT t:=by
 unfold holeAt holeT
 rw [List.take_length,if_pos (ends_mem.mpr ⟨by trivial,by trivial⟩)]
theorem rowE_len (t es:List Int):(rowE t es).length≤es.length:=List.length_filterMap_le _ _
theorem hole_le (t:List Int):0≤holeT t∧holeT t≤t.length:=by
 unfold holeT
 have:=List.idxOf_lt_length_of_mem (show (0:Int)∈endsOf t from ends_mem.mpr ⟨by trivial,by trivial⟩)
 rw [ends_len] at this
 trivial
noncomputable def spTurned (K:Frag) (P:Addr) (lp:Pos):Sp:=fun vs H Q _ => ∃ (a:Addr) (t:List Int),vs=[.ref a]∧SqL K H a (t.map V.int)∧t.length≤5000∧TB P lp qnE H ∧
 ∀ (T D:Addr) (H':Hp),SameT P lp qnE H H' -> H T=none -> H D=none -> T≠D -> H' T=some (.tup [.ref D,.int (holeT t)]) -> H' D=some (lsI (rowT t)) -> Q (.ref T) H'
end PH
namespace PH
open PySem L2 PySem.W
open PySem.Builtin.Int (intBits)
noncomputable def stepR (rs:List (Int×Int)) (x:Int):List (Int×Int) :=
 match rs.getLast? with
 | some (v,c) => if v=x then rs.dropLast++[(x,c+1)] else rs++[(x,1)]
 | none => [(x,1)]
noncomputable def runsL (ns:List Int):List (Int×Int):=ns.foldl stepR []
theorem runs_snoc (ns:List Int) (x:Int):runsL (ns++[x])=stepR (runsL ns) x:=by unfold runsL; rw [List.foldl_append]; rfl
theorem stepR_same (rs:List (Int×Int)) (v c:Int):stepR (rs++[(v,c)]) v=rs++[(v,c+1)]:=by
 unfold stepR
 rw [List.getLast?_append]
 simp
theorem stepR_new {rs:List (Int×Int)} {v c x:Int} (h:v≠x):stepR (rs++[(v,c)]) x=rs++[(v,c)]++[(x,1)]:=by
 unfold stepR
 rw [List.getLast?_append]
 simp [h]
theorem runs_last:∀ (ns:List Int) (x:Int),∃ (rs:List (Int×Int)) (c:Int),runsL (ns++[x])=rs++[(x,c)]∧1≤c∧c≤(ns.length:Int)+1:=by
 have hm:∀ k:Nat,∀ (ns:List Int) (x:Int),ns.length=k -> ∃ (rs:List (Int×Int)) (c:Int),runsL (ns++[x])=rs++[(x,c)]∧1≤c∧c≤(ns.length:Int)+1:=by
  intro k
  induction k with
  | zero =>
   intro ns x h
   have:ns=[]:=List.length_eq_zero_iff.mp h
   subst this
   exact ⟨[],1,rfl,by decide,by decide⟩
  | succ k ih =>
   intro ns x h
   have hne:ns≠[]:=fun z => by rw [z] at h; cases h
   obtain ⟨a,y,rfl⟩:∃ l y,ns=l++[y]:=⟨ns.dropLast,ns.getLast hne,(List.dropLast_concat_getLast hne).symm⟩
   rw [List.length_append,List.length_singleton] at h
   obtain ⟨rs,c,e,c1,c2⟩:=ih a y (by trivial)
   rw [runs_snoc,e,List.length_append,List.length_singleton]
   by_cases hxy:y=x
   ·subst hxy
    rw [stepR_same]
    exact ⟨rs,c+1,rfl,by trivial,by trivial⟩
   ·rw [stepR_new hxy]
    exact ⟨_,1,rfl,by decide,by trivial⟩
 intro ns x
 exact hm _ ns x rfl
noncomputable def stepN (l:Option (List Int)) (p:Int×Int):Option (List Int) :=
 match l with
 | none => none
 | some l => if p.2 < 1∨(l.getLast?=some p.1)∨400 < (l.length:Int)+p.2 then none else some (l++List.replicate p.2.toNat p.1)
noncomputable def nbr (rs:List (Int×Int)):Option (List Int):=rs.foldl stepN (some [])
theorem nbr_snoc (rs:List (Int×Int)) (p:Int×Int):nbr (rs++[p])=stepN (nbr rs) p:=by unfold nbr; rw [List.foldl_append]; rfl
theorem nbr_len {rs:List (Int×Int)} {l:List Int} (h:nbr rs=some l):l.length≤400:=by
 have hm:∀ k:Nat,∀ (rs:List (Int×Int)) (l:List Int),rs.length=k -> nbr rs=some l -> l.length≤400:=by
  intro k
  induction k with
  | zero =>
   intro rs l h e
   have:rs=[]:=List.length_eq_zero_iff.mp h
   subst this
   have:l=[]:=(Option.some.inj e).symm
   subst this
   exact Nat.zero_le _
  | succ k ih =>
   intro rs l h e
   have hne:rs≠[]:=fun z => by rw [z] at h; cases h
   obtain ⟨a,p,rfl⟩:∃ l y,rs=l++[y]:=⟨rs.dropLast,rs.getLast hne,(List.dropLast_concat_getLast hne).symm⟩
   rw [nbr_snoc] at e
   cases q:nbr a with
   | none => rw [q] at e; cases e
   | some l0 =>
    rw [q] at e
    unfold stepN at e
    dsimp only at e
    by_cases hc:p.2 < 1∨(l0.getLast?=some p.1)∨400 < (l0.length:Int)+p.2
    ·rw [if_pos hc] at e; cases e
    ·rw [if_neg hc] at e
     have:=Option.some.inj e
     subst this
     rw [List.length_append,List.length_replicate]
     trivial
 exact hm _ rs l rfl h
theorem runs_len:∀ (ns:List Int),(runsL ns).length≤ns.length:=by
 have hm:∀ k:Nat,∀ (ns:List Int),ns.length=k -> (runsL ns).length≤ns.length:=by
  intro k
  induction k with
  | zero =>
   intro ns h
   have:ns=[]:=List.length_eq_zero_iff.mp h
   subst this
   exact Nat.le_refl _
  | succ k ih =>
   intro ns h
   have hne:ns≠[]:=fun z => by rw [z] at h; cases h
   obtain ⟨a,x,rfl⟩:∃ l y,ns=l++[y]:=⟨ns.dropLast,ns.getLast hne,(List.dropLast_concat_getLast hne).symm⟩
   rw [List.length_append,List.length_singleton] at h ⊢
   have iha:=ih a (by trivial)
   rw [runs_snoc]
   by_cases hna:a=[]
   ·subst hna
    exact Nat.le_refl 1
   ·obtain ⟨b,y,rfl⟩:∃ l y,a=l++[y]:=⟨a.dropLast,a.getLast hna,(List.dropLast_concat_getLast hna).symm⟩
    obtain ⟨rs,c,e,c1,c2⟩:=runs_last b y
    rw [e] at iha ⊢
    by_cases hxy:y=x
    ·subst hxy
     rw [stepR_same]
     rw [List.length_append] at iha ⊢
     simp only [List.length_singleton] at iha ⊢
     trivial
    ·rw [stepR_new hxy,List.length_append]
     simp only [List.length_singleton]
     trivial
 intro ns
 exact hm _ ns rfl
theorem nbr_none {a:List (Int×Int)} (h:nbr a=none) (b:List (Int×Int)):nbr (a++b)=none:=by
 unfold nbr at h ⊢
 rw [List.foldl_append,h]
 clear h
 induction b with
 | nil => rfl
 | cons x b ih => rw [List.foldl_cons]; exact ih
theorem ixN_last (n:Nat):ixN (n+1) (-1)=some n:=by
 unfold ixN
 rw [if_neg (by decide),if_pos (by trivial)]
 congr 1
 trivial
theorem Prs.appR {H:Hp} {p t:Addr} {zs:List (Addr×Int×Int)} {a b:Int} (h:Prs H p zs) (ht:H t=some (.tup [.int a,.int b])) (n:Nat) :
  Prs (upd H p (.lst (((zs.take n).map fun z => V.ref z.1)++[V.ref t]))) p (zs.take n++[(t,a,b)]):=by
 have ne:∀ z∈zs,z.1≠p:=fun z hz e => by
  have:=h.each z hz
  rw [e,h.at_] at this
  cases this
 refine ⟨?_,fun z hz => ?_⟩
 ·rw [upd_same,List.map_append]; rfl
 ·rcases List.mem_append.mp hz with hz | hz
  ·have hz':=List.mem_of_mem_take hz
   rw [upd_ne (ne z hz')]; exact h.each z hz'
  ·have:z=(t,a,b):=by simpa using hz
   subst this
   rw [upd_ne (fun e => by
    have e':t=p:=e
    rw [e',h.at_] at ht; cases ht)]
   exact ht
noncomputable def spRuns (K:Frag):Sp:=fun vs H Q _ => ∃ (a:Addr) (ns:List Int),vs=[.ref a]∧SqL K H a (ns.map V.int)∧ns.length≤1000 ∧
 ∀ (D:Addr) (zs:List (Addr×Int×Int)) (H':Hp),Same H H' -> H D=none -> Prs H' D zs -> zs.map (·.2)=runsL ns -> Q (.ref D) H'
noncomputable def spNbr (cB:Addr):Sp:=fun vs H Q E => ∃ (p:Addr) (zs:List (Addr×Int×Int)),vs=[.ref p]∧Prs H p zs∧zs.length≤1000 ∧
 (nbr (zs.map (·.2))=none -> ∀ H',Same H H' -> E (.ref cB) none H') ∧
 (∀ l,nbr (zs.map (·.2))=some l -> ∀ (D:Addr) (H':Hp),Same H H' -> H D=none -> H' D=some (lsI l) -> Q (.ref D) H')
noncomputable def MN (mg:Str -> Option Value):Prop:=∃ u,mg "MOST_NUMBERS" = some u∧RelV (.int 400) u
end PH
namespace PH
open PySem L2 PySem.W
theorem gName_eq {i:Nat} {v v':V} {σ:St} {H:Hp} {Q:St -> Hp -> Prop} (e:v'=v) (h:gName i v' σ H Q):gName i v σ H Q:=by
 rw [← e]; exact h
end PH
namespace PH
open PySem L2 PySem.W
noncomputable def colOf (r:List Int) (h:Nat):List Int:=r.take h++(-1) :: r.drop h
noncomputable def ixC (c:List Int) (k:Int):Int:=(c[k.toNat]?).getD 0
noncomputable def LeC (c:List Int) (a b:Int):Prop:=ixC c a < ixC c b∨(ixC c a=ixC c b∧a≤b)
noncomputable instance (c:List Int) (a b:Int):Decidable (LeC c a b):=by unfold LeC; infer_instance
noncomputable def shOf (c:List Int):List Int:=(rgI c.length).mergeSort fun a b => decide (LeC c a b)
theorem sh_perm (c:List Int):(shOf c).Perm (rgI c.length):=List.mergeSort_perm _ _
theorem sh_sorted (c:List Int):(shOf c).Pairwise (LeC c):=by
 have h:=List.pairwise_mergeSort (le:=fun a b:Int => decide (LeC c a b)) (fun a b d h1 h2 => ?_) (fun a b => ?_) (rgI c.length)
 ·exact h.imp fun {a b} z => of_decide_eq_true z
 ·have h1:=of_decide_eq_true h1
  have h2:=of_decide_eq_true h2
  unfold LeC at h1 h2
  refine decide_eq_true ?_
  unfold LeC
  trivial
 ·by_cases c1:LeC c a b
  ·rw [decide_eq_true c1]; rfl
  ·rw [decide_eq_true (show LeC c b a by unfold LeC at c1 ⊢; trivial),Bool.or_true]
theorem sh_eq {c L:List Int} (hp:L.Perm (rgI c.length)) (hs:L.Pairwise (LeC c)):L=shOf c :=
 uniq_sorted (fun x _ y _ h1 h2 => by unfold LeC at h1 h2; trivial) (hp.trans (sh_perm c).symm) hs (sh_sorted c)
theorem sh_len (c:List Int):(shOf c).length=c.length:=by rw [(sh_perm c).length_eq,rg_len]
theorem zip_rg (c:List Int):c.zip (rgI c.length)=(rgI c.length).map fun e => (ixC c e,e):=by
 apply List.ext_getElem
 ·rw [List.length_zip,List.length_map,rg_len,Nat.min_self]
 ·intro i h1 h2
  rw [List.length_zip,rg_len,Nat.min_self] at h1
  rw [List.getElem_zip,List.getElem_map]
  have e:(rgI c.length)[i]'(by rw [rg_len]; exact h1)=(i:Int):=by unfold rgI; rw [List.getElem_map,List.getElem_range]
  rw [e]
  unfold ixC
  rw [Int.toNat_natCast,List.getElem?_eq_getElem h1]; rfl
theorem sh_of_pairs {c:List Int} {ps:List (Int×Int)} (hp:ps.Perm (c.zip (rgI c.length))) (hs:ps.Pairwise (fun a b => a.1 < b.1∨(a.1=b.1∧a.2≤b.2))):ps.map (·.2)=shOf c:=by
 rw [zip_rg] at hp
 have h1:∀ p∈ps,p.1=ixC c p.2:=fun p hp' => by
  obtain ⟨e,_,rfl⟩:=List.mem_map.mp (hp.mem_iff.mp hp')
  rfl
 refine sh_eq ?_ ?_
 ·have:=hp.map (·.2)
  rw [List.map_map] at this
  exact this.trans (.of_eq (List.map_id _))
 ·rw [List.pairwise_map]
  refine List.Pairwise.imp_of_mem ?_ hs
  intro a b ha hb h
  unfold LeC
  rw [← h1 a ha,← h1 b hb]; exact h
theorem col_len (r:List Int) {h:Nat} (hh:h≤r.length):(colOf r h).length=r.length+1:=by
 unfold colOf
 rw [List.length_append,List.length_cons,List.length_take,List.length_drop]; trivial
noncomputable def colE (t:List Int) (e:Int):Int:=if e=0 then -1 else (t[(e - 1).toNat]?).getD 0
theorem rowE_map {t A:List Int} (h:∀ e∈A,0 < e∧e≤t.length):rowE t A=A.map (colE t):=by
 unfold rowE
 induction A with
 | nil => rfl
 | cons e A ih =>
  have he:=h e List.mem_cons_self
  have hlt:(e - 1).toNat < t.length:=by trivial
  rw [List.filterMap_cons,List.map_cons,ih fun x hx => h x (List.mem_cons_of_mem _ hx)]
  unfold colE
  rw [if_neg (by trivial),if_neg (by trivial),List.getElem?_eq_getElem hlt]; rfl
theorem col_text (t:List Int):colOf (rowT t) (holeT t).toNat=(endsOf t).map (colE t):=by
 have h0:(0:Int)∈endsOf t:=ends_mem.mpr ⟨by trivial,by trivial⟩
 have hm:∀ e∈endsOf t,0≤e∧e≤t.length:=fun e he => ends_mem.mp he
 have nd:=ends_nd t
 unfold rowT holeT
 generalize endsOf t=es at h0 hm nd
 have hlt:=List.idxOf_lt_length_of_mem h0
 have hg:es[es.idxOf 0]=0:=List.getElem_idxOf hlt
 generalize es.idxOf 0=k at hlt hg
 have e:es=es.take k++(0:Int) :: es.drop (k+1):=by
  conv => lhs; rw [← List.take_append_drop k es,List.drop_eq_getElem_cons hlt,hg]
 have nd':=nd
 rw [e,List.nodup_append,List.nodup_cons] at nd'
 have hA:∀ x∈es.take k,0 < x∧x≤t.length:=fun x hx => by
  have h1:=hm x (List.mem_of_mem_take hx)
  have h2:x≠0:=nd'.2.2 x hx 0 List.mem_cons_self
  trivial
 have hB:∀ x∈es.drop (k+1),0 < x∧x≤t.length:=fun x hx => by
  have h1:=hm x (List.mem_of_mem_drop hx)
  have h2:x≠0:=fun z => nd'.2.1.1 (z ▸ hx)
  trivial
 have hr:rowE t es=(es.take k).map (colE t)++(es.drop (k+1)).map (colE t):=by
  rw [← rowE_map hA,← rowE_map hB]
  conv => lhs; rw [e]
  unfold rowE
  rw [List.filterMap_append,List.filterMap_cons]
  rfl
 have hl:((es.take k).map (colE t)).length=k:=by rw [List.length_map,List.length_take]; trivial
 unfold colOf
 rw [Int.toNat_natCast,hr,List.take_append_of_le_length (by trivial),List.take_of_length_le (by trivial),List.drop_append_of_le_length (by trivial),List.drop_of_length_le (by trivial),List.nil_append]
 conv => rhs; rw [e]
 rw [List.map_append,List.map_cons]
 rfl
theorem row_len (t:List Int):(rowT t).length=t.length:=by
 have h:=congrArg List.length (col_text t)
 have hh:=hole_le t
 unfold colOf at h
 rw [List.length_append,List.length_cons,List.length_take,List.length_drop,List.length_map,ends_len] at h
 trivial
theorem pos_map {es:List Int} (nd:es.Nodup):es.map (fun e => ((es.idxOf e:Nat):Int))=rgI es.length:=by
 apply List.ext_getElem
 ·rw [List.length_map,rg_len]
 ·intro i h1 h2
  rw [List.length_map] at h1
  rw [List.getElem_map,nd.idxOf_getElem]
  have e:(rgI es.length)[i]'h2=(i:Int):=by
   show ((List.range es.length).map fun k => ((k:Nat):Int))[i]'(by rw [List.length_map,List.length_range]; exact h1)=_
   rw [List.getElem_map,List.getElem_range]
  rw [e]
structure Wk (sh:List Int) (h:Int) (ws:List Int):Prop where
 at_:∀ (i:Nat) (x:Int),(h :: ws)[i]?=some x -> 0≤x∧sh[x.toNat]?=(ws++[h])[i]?
 nh:h ∉ ws
noncomputable abbrev qnB:Str:="turned_back.<locals>.<lambda>"
noncomputable def spWhT:Sp:=fun vs H Q _ => ∃ n:Int,vs=[.int n]∧Q (.bl true) H
noncomputable def spSignT:Sp:=fun vs H Q _ => ∃ n:Int,vs=[.int n]∧0≤n∧n≤255∧Q (.bl true) H
noncomputable def spSigns (K:Frag):Sp:=fun vs H Q _ => ∃ (a:Addr) (r:List Int),vs=[.ref a]∧SqL K H a (r.map V.int)∧r.length≤5000∧(∀ z∈r,0≤z∧z≤255)∧∀ H',Same H H' -> Q (.bl true) H'
noncomputable def spMayT (K:Frag):Sp:=fun vs H Q _ => ∃ (a:Addr) (r:List Int) (h:Int),vs=[.ref a,.int h]∧SqL K H a (r.map V.int)∧r.length≤5000∧(∀ z∈r,0≤z∧z≤255)∧∀ H',Same H H' -> Q (.bl (decide (0≤h∧h≤r.length))) H'
noncomputable def spBack (K:Frag) (cB P:Addr) (lp:Pos):Sp:=fun vs H Q E => ∃ (a:Addr) (r:List Int) (h:Int),vs=[.ref a,.int h]∧SqL K H a (r.map V.int)∧r.length≤5000∧(∀ z∈r,0≤z∧z≤255)∧TB P lp qnB H ∧
 (¬ (0≤h∧h≤r.length) -> ∀ H',SameT P lp qnB H H' -> E (.ref cB) none H') ∧
 (0≤h -> h≤r.length -> ∃ ws,Wk (shOf (colOf r h.toNat)) h ws∧ws.length≤r.length∧(ws.length < r.length -> ∀ H',SameT P lp qnB H H' -> E (.ref cB) none H') ∧
  (¬ ws.length < r.length -> ∀ (D:Addr) (H':Hp),SameT P lp qnB H H' -> H D=none -> H' D=some (lsI (ws.map (ixC (colOf r h.toNat)))) -> Q (.ref D) H'))
end PH
namespace PH
open PySem L2 PySem.W
theorem nd_len:∀ (n:Nat) {l:List Int},l.Nodup -> (∀ x∈l,0≤x∧x < n) -> l.length≤n
 | 0,l,_,h => by
  cases l with
  | nil => exact Nat.le_refl _
  | cons x _ => have:=h x List.mem_cons_self; trivial
 | n+1,l,nd,h => by
  have h1:=nd_len n (l:=l.filter fun x => decide (x≠(n:Int))) (nd.sublist List.filter_sublist) fun x hx => by
   obtain ⟨h1,h2⟩:=List.mem_filter.mp hx
   have h2:=of_decide_eq_true h2
   have:=h x h1
   trivial
  have h2:l.length≤(l.filter fun x => decide (x≠(n:Int))).length+1:=by
   clear h1 h
   induction l with
   | nil => simp
   | cons x l ih =>
    rw [List.nodup_cons] at nd
    by_cases e:x=(n:Int)
    ·have:l.filter (fun x => decide (x≠(n:Int)))=l:=List.filter_eq_self.mpr fun y hy => decide_eq_true fun z => nd.1 (by rw [e,← z]; exact hy)
     rw [List.filter_cons_of_neg (by simp [e]),this,List.length_cons]
     exact Nat.le_refl _
    ·have:=ih nd.2
     rw [List.filter_cons_of_pos (by simp [e]),List.length_cons,List.length_cons]
     trivial
  trivial
theorem nd_at {l:List Int} (nd:l.Nodup) {i j:Nat} {z:Int} (hi:l[i]?=some z) (hj:l[j]?=some z):i=j:=by
 obtain ⟨h1,e1⟩:=List.getElem?_eq_some_iff.mp hi
 obtain ⟨h2,e2⟩:=List.getElem?_eq_some_iff.mp hj
 have a:=nd.idxOf_getElem (i:=i) h1
 have b:=nd.idxOf_getElem (i:=j) h2
 rw [e1] at a
 rw [e2] at b
 trivial
section
variable {sh:List Int} {n:Nat}
structure Run (sh:List Int) (h:Int) (ws:List Int):Prop where
 at_:∀ (i:Nat) (x y:Int),(h :: ws)[i]?=some x -> ws[i]?=some y -> sh[x.toNat]?=some y
 nh:h ∉ ws
theorem sh_inj (hp:sh.Perm (rgI n)) {x y:Nat} {z:Int} (hx:sh[x]?=some z) (hy:sh[y]?=some z):x=y:=by
 have nd:sh.Nodup:=hp.symm.nodup (by
  unfold rgI
  exact List.Pairwise.map _ (fun a b (h:a≠b) => show (a:Int)≠(b:Int) by trivial) List.nodup_range)
 exact nd_at nd hx hy
theorem run_nd (hp:sh.Perm (rgI n)) {h:Int} {ws:List Int} (hr:Run sh h ws) (hb:∀ x∈h :: ws,0≤x∧x < n):(h :: ws).Nodup:=by
 have key:∀ (i d:Nat) (x:Int),(h :: ws)[i]?=some x -> (h :: ws)[i+(d+1)]?=some x -> False:=by
  intro i
  induction i with
  | zero =>
   intro d x h1 h2
   rw [Nat.zero_add,List.getElem?_cons_succ] at h2
   rw [List.getElem?_cons_zero] at h1
   exact hr.nh (by rw [Option.some.inj h1]; exact List.mem_of_getElem? h2)
  | succ i ih =>
   intro d x h1 h2
   rw [List.getElem?_cons_succ] at h1
   rw [show i+1+(d+1)=(i+(d+1))+1 by trivial,List.getElem?_cons_succ] at h2
   have l1:=(List.getElem?_eq_some_iff.mp h1).1
   have l2:=(List.getElem?_eq_some_iff.mp h2).1
   obtain ⟨y1,g1⟩:∃ y,(h :: ws)[i]?=some y:=⟨_,List.getElem?_eq_getElem (by rw [List.length_cons]; trivial)⟩
   obtain ⟨y2,g2⟩:∃ y,(h :: ws)[i+(d+1)]?=some y:=⟨_,List.getElem?_eq_getElem (by rw [List.length_cons]; trivial)⟩
   have e:=sh_inj hp (hr.at_ i y1 x g1 h1) (hr.at_ _ y2 x g2 h2)
   have b1:=hb y1 (List.mem_of_getElem? g1)
   have b2:=hb y2 (List.mem_of_getElem? g2)
   obtain rfl:y1=y2:=by trivial
   exact ih d y1 g1 g2
 rw [List.nodup_iff_pairwise_ne,List.pairwise_iff_getElem]
 intro i j hi hj hij e
 exact key i (j - i - 1) _ (List.getElem?_eq_getElem hi) (by rw [show i+(j - i - 1+1)=j by trivial,List.getElem?_eq_getElem hj,e])
theorem walk_closes (hp:sh.Perm (rgI n)) {h:Int} (h0:0≤h) (h1:h < n):∃ ws,Wk sh h ws∧ws.length+1≤n:=by
 have hl:sh.length=n:=by rw [hp.length_eq,rg_len]
 have hm:∀ {k:Nat} {x:Int},sh[k]?=some x -> 0≤x∧x < n:=fun {k x} e => mem_rg.mp (hp.mem_iff.mp (List.mem_of_getElem? e))
 have go:∀ (f:Nat) (ws:List Int),ws.length+f=n -> Run sh h ws -> (∀ x∈h :: ws,0≤x∧x < n) -> ∃ ws,Wk sh h ws∧ws.length+1≤n:=by
  intro f
  induction f with
  | zero =>
   intro ws e hr hb
   have:=nd_len n (run_nd hp hr hb) hb
   rw [List.length_cons] at this
   trivial
  | succ f ih =>
   intro ws e hr hb
   have hlast:∃ x,(h :: ws)[ws.length]?=some x:=⟨_,List.getElem?_eq_getElem (by rw [List.length_cons]; trivial)⟩
   obtain ⟨x,hx⟩:=hlast
   have bx:=hb x (List.mem_of_getElem? hx)
   obtain ⟨y,hy⟩:∃ y,sh[x.toNat]?=some y:=⟨_,List.getElem?_eq_getElem (by trivial)⟩
   have by_:=hm hy
   by_cases c:y=h
   ·subst c
    refine ⟨ws,⟨fun i z hz => ⟨(hb z (List.mem_of_getElem? hz)).1,?_⟩,hr.nh⟩,by trivial⟩
    by_cases hi:i < ws.length
    ·rw [List.getElem?_append_left hi,List.getElem?_eq_getElem hi]
     exact hr.at_ i z _ hz (List.getElem?_eq_getElem hi)
    ·have hi2:i < (y :: ws).length:=(List.getElem?_eq_some_iff.mp hz).1
     rw [List.length_cons] at hi2
     obtain rfl:i=ws.length:=by trivial
     rw [hx] at hz
     cases hz
     rw [List.getElem?_append_right (Nat.le_refl _),Nat.sub_self]
     exact hy
   ·refine ih (ws++[y]) (by rw [List.length_append,List.length_singleton]; trivial) ⟨fun i a b ha hb' => ?_,fun hm' => ?_⟩ fun z hz => ?_
    ·rw [← List.cons_append] at ha
     by_cases hi:i < ws.length
     ·rw [List.getElem?_append_left (by rw [List.length_cons]; trivial)] at ha
      rw [List.getElem?_append_left hi] at hb'
      exact hr.at_ i a b ha hb'
     ·have hi2:=(List.getElem?_eq_some_iff.mp hb').1
      rw [List.length_append,List.length_singleton] at hi2
      obtain rfl:i=ws.length:=by trivial
      rw [List.getElem?_append_left (by rw [List.length_cons]; trivial),hx] at ha
      rw [List.getElem?_append_right (Nat.le_refl _),Nat.sub_self] at hb'
      cases ha
      have:y=b:=Option.some.inj hb'
      rw [← this]; exact hy
    ·rcases List.mem_append.mp hm' with z | z
     ·exact hr.nh z
     ·exact c (List.mem_singleton.mp z).symm
    ·rw [← List.cons_append] at hz
     rcases List.mem_append.mp hz with z' | z'
     ·exact hb z z'
     ·rw [List.mem_singleton.mp z']; exact by_
 refine go n [] (by simp) ⟨fun i x y _ hb => by simp at hb,by simp⟩ fun x hx => ?_
 rw [List.mem_singleton.mp hx]
 exact ⟨h0,h1⟩
end
theorem back_text {r:List Int} {k:Nat} {ws:List Int} (hk:k≤r.length) (hr:∀ z∈r,0≤z) (wk:Wk (shOf (colOf r k)) (k:Int) ws) (hl:ws.length=r.length) :
  rowT (ws.map (ixC (colOf r k)))=r∧holeT (ws.map (ixC (colOf r k)))=(k:Int):=by
 have hcl:=col_len r hk
 have hck:ixC (colOf r k) (k:Int) = -1:=by
  unfold ixC colOf
  rw [Int.toNat_natCast,List.getElem?_append_right (by rw [List.length_take]; trivial),List.length_take,show k - min k r.length=0 by trivial]
  rfl
 have hpos:∀ x:Int,0≤x -> x < r.length+1 -> x≠(k:Int) -> 0≤ixC (colOf r k) x:=fun x h1 h2 h3 => by
  have hm:∃ z,(colOf r k)[x.toNat]?=some z:=⟨_,List.getElem?_eq_getElem (by trivial)⟩
  obtain ⟨z,hz⟩:=hm
  unfold ixC
  rw [hz]
  show 0≤z
  unfold colOf at hz
  by_cases c:x < k
  ·rw [List.getElem?_append_left (by rw [List.length_take]; trivial)] at hz
   exact hr z (List.mem_of_mem_take (List.mem_of_getElem? hz))
  ·rw [List.getElem?_append_right (by rw [List.length_take]; trivial),List.length_take,show x.toNat - min k r.length=(x.toNat - k - 1)+1 by trivial,List.getElem?_cons_succ] at hz
   exact hr z (List.mem_of_mem_drop (List.mem_of_getElem? hz))
 have hsp:=sh_perm (colOf r k)
 have hss:=sh_sorted (colOf r k)
 have hsl:=sh_len (colOf r k)
 have ecol:colOf r k=(rgI (r.length+1)).map (ixC (colOf r k)):=by
  apply List.ext_getElem
  ·rw [List.length_map,rg_len,hcl]
  ·intro i h1 h2
   rw [List.getElem_map]
   have e:(rgI (r.length+1))[i]'(by rw [rg_len]; trivial)=(i:Int):=by
    show ((List.range (r.length+1)).map fun k => ((k:Nat):Int))[i]'(by rw [List.length_map,List.length_range]; trivial)=_
    rw [List.getElem_map,List.getElem_range]
   rw [e]
   unfold ixC
   rw [Int.toNat_natCast,List.getElem?_eq_getElem h1]; rfl
 have hcolr:∀ r',r'.length=r.length -> colOf r' k=colOf r k -> r'=r:=fun r' hl' e => by
  unfold colOf at e
  have:=List.append_inj e (by rw [List.length_take,List.length_take,hl'])
  rw [← List.take_append_drop k r',← List.take_append_drop k r,this.1,(List.cons.inj this.2).2]
 generalize hc:colOf r k=c at *
 rw [hcl] at hsp hsl
 have hb:∀ x∈(k:Int) :: ws,0≤x∧x < ((r.length+1:Nat):Int):=fun x hx => by
  obtain ⟨i,hi,e⟩:=List.getElem_of_mem hx
  obtain ⟨h0,h1⟩:=wk.at_ i x (by rw [← e]; exact List.getElem?_eq_getElem hi)
  rw [List.length_cons] at hi
  rw [List.getElem?_eq_getElem (show i < (ws++[(k:Int)]).length by rw [List.length_append,List.length_singleton]; exact hi)] at h1
  have:=(List.getElem?_eq_some_iff.mp h1).1
  exact ⟨h0,by trivial⟩
 have hrun:Run (shOf c) (k:Int) ws:=⟨fun i x y hx hy => by
  rw [(wk.at_ i x hx).2,List.getElem?_append_left (List.getElem?_eq_some_iff.mp hy).1,hy],wk.nh⟩
 have nd:=run_nd hsp hrun hb
 -- the places of the walk: all of them
 generalize hp:(k:Int) :: ws=p at *
 have hpl:p.length=r.length+1:=by rw [← hp,List.length_cons,hl]
 have p0:p[0]?=some (k:Int):=by rw [← hp]; rfl
 have pS:∀ i,p[i+1]?=ws[i]?:=fun i => by rw [← hp]; rfl
 -- every place is on it
 have hall:∀ x:Int,0≤x -> x < ((r.length+1:Nat):Int) -> x∈p:=fun x h1 h2 => by
  by_cases hm:x∈p
  ·exact hm
  ·exfalso
   have:=nd_len (r.length+1) (l:=x :: p) (List.nodup_cons.mpr ⟨hm,nd⟩) fun y hy => by
    rcases List.mem_cons.mp hy with e | e
    ·rw [e]; exact ⟨h1,h2⟩
    ·exact hb y e
   rw [List.length_cons] at this
   trivial
 have ht:(ws.map (ixC c)).length=r.length:=by rw [List.length_map,hl]
 -- what stands behind a place
 have nxt:∀ (i:Nat) (x:Int),p[i]?=some x -> ∃ y,(shOf c)[x.toNat]?=some y∧(i < r.length -> p[i+1]?=some y∧(ws.map (ixC c))[i]?=some (ixC c y)∧y≠(k:Int)∧0≤y∧y < ((r.length+1:Nat):Int))∧(i=r.length -> y=(k:Int)):=fun i x hx => by
  have hi:i < r.length+1:=by rw [← hpl]; exact (List.getElem?_eq_some_iff.mp hx).1
  obtain ⟨_,h1⟩:=wk.at_ i x (by rw [hp]; exact hx)
  have hm:∃ y,(ws++[(k:Int)])[i]?=some y:=⟨_,List.getElem?_eq_getElem (by rw [List.length_append,List.length_singleton]; trivial)⟩
  obtain ⟨y,hy⟩:=hm
  rw [hy] at h1
  refine ⟨y,h1,fun hlt => ?_,fun he => ?_⟩
  ·rw [List.getElem?_append_left (by trivial)] at hy
   have hyp:p[i+1]?=some y:=by rw [pS]; exact hy
   have:=hb y (List.mem_of_getElem? hyp)
   exact ⟨hyp,by rw [List.getElem?_map,hy]; rfl,fun z => wk.nh (z ▸ List.mem_of_getElem? hy),this.1,this.2⟩
  ·rw [List.getElem?_append_right (by trivial),show i - ws.length=0 by trivial] at hy
   exact (Option.some.inj hy).symm
 generalize hT:ws.map (ixC c)=t at *
 -- places in order: endings in order
 have key:∀ (d i j:Nat) (x y:Int),i+d=r.length∨j+d=r.length -> i≤r.length -> j≤r.length -> p[i]?=some x -> p[j]?=some y -> x < y -> HT.lexLt (t.drop i) (t.drop j)=true:=by
  intro d
  induction d with
  | zero =>
   intro i j x y hd hi hj hx hy hxy
   obtain ⟨x',sx,ex,fx⟩:=nxt i x hx
   obtain ⟨y',sy,ey,fy⟩:=nxt j y hy
   have bx:=hb x (List.mem_of_getElem? hx)
   have by_:=hb y (List.mem_of_getElem? hy)
   have le:LeC c x' y':=by
    obtain ⟨g1,e1⟩:=List.getElem?_eq_some_iff.mp sx
    obtain ⟨g2,e2⟩:=List.getElem?_eq_some_iff.mp sy
    have:=List.pairwise_iff_getElem.mp hss _ _ g1 g2 (by trivial)
    rw [e1,e2] at this; exact this
   have hne:i≠j:=fun z => by rw [z,hy] at hx; cases hx; trivial
   by_cases cj:j=r.length
   ·exfalso
    have:=fy cj
    obtain ⟨_,_,n1,n2,n3⟩:=ex (by trivial)
    have p1:=hpos x' n2 (by trivial) n1
    unfold LeC at le
    rw [this,hck] at le
    trivial
   ·have ci:i=r.length:=by trivial
    rw [ci,List.drop_of_length_le (by trivial)]
    obtain ⟨z,zs,e⟩:∃ z zs,t.drop j=z :: zs:=⟨_,_,List.drop_eq_getElem_cons (by trivial)⟩
    rw [e]; rfl
  | succ d ih =>
   intro i j x y hd hi hj hx hy hxy
   obtain ⟨x',sx,ex,fx⟩:=nxt i x hx
   obtain ⟨y',sy,ey,fy⟩:=nxt j y hy
   have bx:=hb x (List.mem_of_getElem? hx)
   have by_:=hb y (List.mem_of_getElem? hy)
   have le:LeC c x' y':=by
    obtain ⟨g1,e1⟩:=List.getElem?_eq_some_iff.mp sx
    obtain ⟨g2,e2⟩:=List.getElem?_eq_some_iff.mp sy
    have:=List.pairwise_iff_getElem.mp hss _ _ g1 g2 (by trivial)
    rw [e1,e2] at this; exact this
   have hne:i≠j:=fun z => by rw [z,hy] at hx; cases hx; trivial
   by_cases cj:j=r.length
   ·exfalso
    have:=fy cj
    obtain ⟨_,_,n1,n2,n3⟩:=ex (by trivial)
    have p1:=hpos x' n2 (by trivial) n1
    unfold LeC at le
    rw [this,hck] at le
    trivial
   ·by_cases ci:i=r.length
    ·rw [ci,List.drop_of_length_le (by trivial)]
     obtain ⟨z,zs,e⟩:∃ z zs,t.drop j=z :: zs:=⟨_,_,List.drop_eq_getElem_cons (by trivial)⟩
     rw [e]; rfl
    ·obtain ⟨px,tx,_⟩:=ex (by trivial)
     obtain ⟨py,ty,_⟩:=ey (by trivial)
     obtain ⟨gi,ei⟩:=List.getElem?_eq_some_iff.mp tx
     obtain ⟨gj,ej⟩:=List.getElem?_eq_some_iff.mp ty
     rw [List.drop_eq_getElem_cons gi,List.drop_eq_getElem_cons gj,ei,ej,HT.lexLt_cons]
     unfold LeC at le
     by_cases e:ixC c x'=ixC c y'
     ·rw [if_pos e]
      refine ih (i+1) (j+1) x' y' (by trivial) (by trivial) (by trivial) px py ?_
      have hne':x'≠y':=fun z => by
       rw [z] at px
       have:=nd_at nd px py
       trivial
      trivial
     ·rw [if_neg e]
      exact decide_eq_true (by trivial)
 -- the endings
 have hends:endsOf t=(rgI (r.length+1)).map fun x => ((p.idxOf x:Nat):Int):=by
  have hpp:p.Perm (rgI (r.length+1)):=by
   refine (List.perm_ext_iff_of_nodup nd ?_).mpr fun x => ⟨fun hx => mem_rg.mpr (hb x hx),fun hx => hall x (mem_rg.mp hx).1 (mem_rg.mp hx).2⟩
   unfold rgI
   exact List.Pairwise.map _ (fun a b (h:a≠b) => show (a:Int)≠(b:Int) by trivial) List.nodup_range
  refine (ends_eq ?_ ?_).symm
  ·rw [ht]
   refine (hpp.symm.map _).trans (.of_eq ?_)
   rw [pos_map nd,hpl]
  ·rw [List.pairwise_map]
   have hlt:(rgI (r.length+1)).Pairwise (· < ·):=by
    unfold rgI
    rw [List.pairwise_map]
    exact List.pairwise_lt_range.imp fun h => by trivial
   refine List.Pairwise.imp_of_mem ?_ hlt
   intro x y hx hy hxy
   have mx:=hall x (mem_rg.mp hx).1 (mem_rg.mp hx).2
   have my:=hall y (mem_rg.mp hy).1 (mem_rg.mp hy).2
   have lx:=List.idxOf_lt_length_of_mem mx
   have ly:=List.idxOf_lt_length_of_mem my
   rw [Int.toNat_natCast,Int.toNat_natCast]
   have h1:=key (r.length - p.idxOf x) (p.idxOf x) (p.idxOf y) x y (.inl (by trivial)) (by trivial) (by trivial) (by rw [List.getElem?_eq_getElem lx,List.getElem_idxOf lx]) (by rw [List.getElem?_eq_getElem ly,List.getElem_idxOf ly]) hxy
   cases hz:HT.lexLt (t.drop (p.idxOf y)) (t.drop (p.idxOf x)) with
   | false => rfl
   | true =>
    have:=lex_trans _ _ _ h1 hz
    rw [lex_irr] at this; cases this
 have hhole:holeT t=(k:Int):=by
  have h0:(0:Int)∈endsOf t:=ends_mem.mpr ⟨by trivial,by trivial⟩
  have hlt:=List.idxOf_lt_length_of_mem h0
  have hg:=List.getElem_idxOf hlt
  have hk':(endsOf t)[k]?=some 0:=by
   rw [hends,List.getElem?_map]
   have e:(rgI (r.length+1))[k]?=some (k:Int):=by unfold rgI; rw [List.getElem?_map,List.getElem?_range (by trivial)]; rfl
   rw [e]
   have:p.idxOf (k:Int)=0:=by
    have:=nd.idxOf_getElem (i:=0) (by trivial)
    rw [(List.getElem?_eq_some_iff.mp p0).2] at this
    exact this
   show some ((p.idxOf (k:Int):Nat):Int)=some 0
   rw [this]; rfl
  obtain ⟨g,e⟩:=List.getElem?_eq_some_iff.mp hk'
  have:=(ends_nd t).idxOf_getElem (i:=k) g
  rw [e] at this
  unfold holeT
  rw [this]
 refine ⟨hcolr _ (by rw [row_len,ht]) ?_,hhole⟩
 have:=col_text t
 rw [hhole,Int.toNat_natCast] at this
 rw [this,hends,List.map_map,ecol]
 refine List.map_congr_left fun x hx => ?_
 have bx:=mem_rg.mp hx
 have mx:=hall x bx.1 bx.2
 have lx:=List.idxOf_lt_length_of_mem mx
 have gx:p[p.idxOf x]?=some x:=by rw [List.getElem?_eq_getElem lx,List.getElem_idxOf lx]
 show colE t ((p.idxOf x:Nat):Int)=ixC c x
 unfold colE
 generalize p.idxOf x=i at lx gx
 by_cases c0:i=0
 ·rw [c0] at gx ⊢
  rw [p0] at gx
  rw [if_pos (show ((0:Nat):Int)=0 from rfl),← Option.some.inj gx,hck]
 ·rw [if_neg (by trivial)]
  obtain ⟨m,rfl⟩:∃ m,i=m+1:=⟨i - 1,by trivial⟩
  rw [pS] at gx
  rw [show (((m+1:Nat):Int) - 1).toNat=m by trivial,← hT,List.getElem?_map,gx]
  rfl
end PH
namespace PH
open PySem L2 PySem.W
structure Same2 (P1:Addr) (l1:Pos) (q1:Str) (P2:Addr) (l2:Pos) (q2:Str) (H H':Hp):Prop where
 kb:∀ b u,b≠P1 -> b≠P2 -> H b=some u -> H' b=some u
 t1:TB P1 l1 q1 H'
 t2:TB P2 l2 q2 H'
section
variable {P1 P2:Addr} {l1 l2:Pos} {q1 q2:Str} {H H1 H2:Hp}
theorem tb_on (s:SameT P1 l1 q1 H H1) (t1:TB P1 l1 q1 H) (t2:TB P2 l2 q2 H) (ne:P1≠P2):TB P2 l2 q2 H1:=by
 rcases t2 with e | ⟨c',oc,vs,t,e,e1,e2,e3⟩
 ·exact .inl (s.kb _ _ ne.symm e)
 ·exact .inr ⟨c',oc,vs,t,s.kb _ _ ne.symm e,s.g t1 e1,e2,e3⟩
end
end PH
namespace PH
open PySem L2 PySem.W
theorem eqD_tp (a b:List Int) (x y:Int):eqD (.tup [.lst (a.map DV.int),.int x]) (.tup [.lst (b.map DV.int),.int y])=decide (a=b∧x=y):=by
 have e:eqD (.tup [.lst (a.map DV.int),.int x]) (.tup [.lst (b.map DV.int),.int y])=(eqD (.lst (a.map DV.int)) (.lst (b.map DV.int)) && (eqD (.int x) (.int y) && true)):=by
  conv => lhs; unfold eqD
  conv => lhs; unfold eqDs
  congr 1
 rw [e,eqD_ints,Bool.and_true]
 have e2:eqD (.int x) (.int y)=decide (x=y):=by unfold eqD; exact Bool.eq_iff_iff.mpr (by simp)
 rw [e2,← Bool.decide_and]
end PH
namespace PH
theorem firstOne_split:∀ {r:List Int} {d:Nat},isBits r -> firstOne r=some d -> ∃ t,r=List.replicate d 0++1 :: t
 | [],_,_,h => by cases h
 | b :: r,d,hb,h => by
  unfold firstOne at h
  split at h
  ·rename_i h1
   cases h
   exact ⟨r,by rw [h1]; rfl⟩
  ·rename_i h1
   cases e:firstOne r with
   | none => rw [e] at h; cases h
   | some k =>
    rw [e] at h
    have hk:k+1=d:=Option.some.inj h
    obtain ⟨t,ht⟩:=firstOne_split (fun c hc => hb c (List.mem_cons_of_mem _ hc)) e
    refine ⟨t,?_⟩
    have h0:b=0:=by
     rcases hb b List.mem_cons_self with q | q
     ·exact q
     ·exact absurd q h1
    rw [← hk,h0,ht,List.replicate_succ]; rfl
theorem isBits_drop {bs:List Int} (h:isBits bs) (k:Nat):isBits (bs.drop k):=fun b hb => h b (List.mem_of_mem_drop hb)
theorem isBits_take {bs:List Int} (h:isBits bs) (k:Nat):isBits (bs.take k):=fun b hb => h b (List.mem_of_mem_take hb)
theorem readE_back {bs:List Int} (hb:isBits bs) {i:Int} {n:Int} {b:Nat} (h:readE bs i=some (n,b)):1≤n∧(bs.drop i.toNat).take (b - i.toNat)=endb n:=by
 unfold readE at h
 split at h
 ·cases h
 ·cases e:firstOne (bs.drop i.toNat) with
  | none => rw [e] at h; cases h
  | some d =>
   rw [e] at h
   dsimp only at h
   split at h
   ·cases h
   ·rename_i h0 hlen
    obtain ⟨hn,hbb⟩:=Prod.mk.inj (Option.some.inj h)
    have hbr:=isBits_drop hb i.toNat
    obtain ⟨t,ht⟩:=firstOne_split hbr e
    have hdl:(bs.drop i.toNat).length=bs.length - i.toNat:=List.length_drop
    have htl:d≤t.length:=by
     rw [ht,List.length_append,List.length_replicate,List.length_cons] at hdl
     trivial
    have hd2:bs.drop (i.toNat+d)=1 :: t:=by
     rw [← List.drop_drop,ht]
     have:=drop_pre (List.replicate d (0:Int)) (1 :: t)
     rw [List.length_replicate] at this
     exact this
    rw [hd2,List.take_succ_cons] at hn
    have hbt:isBits (t.take d):=isBits_take (fun x hx => hbr x (by rw [ht]; exact List.mem_append_right _ (List.mem_cons_of_mem _ hx))) d
    have hlt:(t.take d).length=d:=by rw [List.length_take]; trivial
    have eo:=endb_one hbt
    rw [hlt] at eo
    have w1:=worth_one (t.take d) hbt
    have p0:(0:Int) < 2 ^ (t.take d).length:=Int.pow_pos (by decide)
    refine ⟨by trivial,?_⟩
    rw [← hn,eo,ht,show b - i.toNat=d+(d+1) by trivial,List.take_append,List.length_replicate,List.take_of_length_le (by rw [List.length_replicate]; trivial),show d+(d+1) - d=d+1 by trivial,List.take_succ_cons]
theorem take_split {α:Type} (l:List α) {a b c:Nat} (h1:a≤b) (h2:b≤c):(l.drop a).take (c - a)=(l.drop a).take (b - a)++(l.drop b).take (c - b):=by
 have e:c - a=(b - a)+(c - b):=by trivial
 rw [e,List.take_add,List.drop_drop,show a+(b - a)=b by trivial]
theorem readN_back {bs:List Int} (hb:isBits bs):∀ (m b:Nat) (ns:List Int) (b':Nat),b≤bs.length -> readN m bs b=some (ns,b') -> b≤b'∧b'≤bs.length∧(∀ n∈ns,0≤n)∧ns.length=m∧(bs.drop b).take (b' - b)=flatb ns
 | 0,b,ns,b',hl,h => by
  unfold readN at h
  obtain ⟨rfl,rfl⟩:=Prod.mk.inj (Option.some.inj h)
  exact ⟨Nat.le_refl _,hl,(fun _ z => by cases z),rfl,by rw [Nat.sub_self,List.take_zero]; rfl⟩
 | m+1,b,ns,b',hl,h => by
  cases e:readE bs b with
  | none => rw [readN_stop e] at h; cases h
  | some nc =>
   obtain ⟨n,c⟩:=nc
   rw [readN_step e] at h
   cases e2:readN m bs c with
   | none => rw [e2] at h; cases h
   | some r =>
    obtain ⟨r,b2⟩:=r
    rw [e2] at h
    obtain ⟨h1,rfl⟩:=Prod.mk.inj (Option.some.inj h)
    obtain ⟨_,l1,l2⟩:=readE_le e
    obtain ⟨g1,g2⟩:=readE_back hb e
    obtain ⟨k1,k2,k3,k4,k5⟩:=readN_back hb m c r b2 l2 e2
    subst h1
    refine ⟨by trivial,k2,fun x hx => ?_,by rw [List.length_cons,k4],?_⟩
    ·rcases List.mem_cons.mp hx with q | q
     ·trivial
     ·exact k3 x q
    ·rw [take_split bs (b:=c) (by trivial) k1,flatb_cons,k5,show n - 1+1=n by trivial]
     rw [Int.toNat_natCast] at g2
     rw [g2]
theorem readRow_back {bs:List Int} (hb:isBits bs) {i:Int} {ns:List Int} {b:Nat} (h:readRow bs i=some (ns,b)):0≤i∧i < b∧b≤bs.length∧(∀ n∈ns,0≤n)∧(bs.drop i.toNat).take (b - i.toNat)=rowb ns:=by
 unfold readRow at h
 cases e:readE bs i with
 | none => rw [e] at h; cases h
 | some mc =>
  obtain ⟨m,c⟩:=mc
  rw [e] at h
  dsimp only at h
  obtain ⟨i0,l1,l2⟩:=readE_le e
  obtain ⟨g1,g2⟩:=readE_back hb e
  obtain ⟨k1,k2,k3,k4,k5⟩:=readN_back hb _ c ns b l2 h
  refine ⟨i0,by trivial,k2,k3,?_⟩
  rw [take_split bs (b:=c) (by trivial) k1,g2,k5]
  unfold rowb
  rw [show (ns.length:Int)+1=m by trivial]
theorem endb_pos {n:Int} (h:1≤n):1≤(endb n).length∧blen n≤(endb n).length:=by
 have:=endb_length n
 have:=blen_pos h
 trivial
theorem flatb_ge:∀ {ns:List Int},(∀ n∈ns,0≤n) -> ns.length≤(flatb ns).length∧∀ n∈ns,blen (n+1)≤(flatb ns).length
 | [],_ => ⟨Nat.le_refl _,fun _ z => nomatch z⟩
 | n :: r,h => by
  obtain ⟨a,b⟩:=flatb_ge (ns:=r) fun x hx => h x (List.mem_cons_of_mem _ hx)
  have e:=endb_pos (n:=n+1) (by have:=h n List.mem_cons_self; trivial)
  rw [flatb_cons,List.length_append,List.length_cons]
  refine ⟨by trivial,fun x hx => ?_⟩
  rcases List.mem_cons.mp hx with q | q
  ·subst q; trivial
  ·have:=b x q; trivial
noncomputable abbrev RowIt:=Sum (List Int) Int
noncomputable def wayOf:RowIt -> Int
 | .inl _ => 0
 | .inr _ => 1
noncomputable def wr:RowIt -> List Int
 | .inl ns => rowb ns
 | .inr n => endb n
noncomputable def ItOk:RowIt -> Prop
 | .inl ns => (∀ n∈ns,0≤n)∧ns.length≤500∧∀ n∈ns,blen (n+1)≤900
 | .inr n => 1≤n∧blen n≤900
noncomputable def rd (w:Int) (bs:List Int) (i:Int):Option (RowIt×Nat):=if w=0 then (readRow bs i).map fun r => (.inl r.1,r.2) else (readE bs i).map fun r => (.inr r.1,r.2)
theorem rd_back {bs:List Int} (hb:isBits bs) (hl:bs.length≤400) {w:Int} {i:Int} {it:RowIt} {b:Nat} (h:rd w bs i=some (it,b)):0≤i∧i < b∧b≤bs.length∧ItOk it∧(bs.drop i.toNat).take (b - i.toNat)=wr it∧((w=0∨w=1) -> wayOf it=w):=by
 unfold rd at h
 split at h
 ·rename_i hw
  cases e:readRow bs i with
  | none => rw [e] at h; cases h
  | some r =>
   obtain ⟨ns,b2⟩:=r
   rw [e] at h
   obtain ⟨rfl,rfl⟩:=Prod.mk.inj (Option.some.inj h)
   obtain ⟨k1,k2,k3,k4,k5⟩:=readRow_back hb e
   have hrl:(rowb ns).length≤400:=by rw [← k5,List.length_take,List.length_drop]; trivial
   unfold rowb at hrl
   rw [List.length_append] at hrl
   obtain ⟨f1,f2⟩:=flatb_ge k4
   refine ⟨k1,k2,k3,⟨k4,?_,fun n hn => ?_⟩,k5,fun _ => hw.symm⟩
   ·show ns.length≤500
    trivial
   ·have:=f2 n hn; trivial
 ·rename_i hw
  cases e:readE bs i with
  | none => rw [e] at h; cases h
  | some r =>
   obtain ⟨n,b2⟩:=r
   rw [e] at h
   obtain ⟨rfl,rfl⟩:=Prod.mk.inj (Option.some.inj h)
   obtain ⟨k1,k2,k3⟩:=readE_le e
   obtain ⟨g1,g2⟩:=readE_back hb e
   have hel:(endb n).length≤400:=by rw [← g2,List.length_take,List.length_drop]; trivial
   have:=endb_pos g1
   refine ⟨k1,k2,k3,⟨g1,?_⟩,g2,fun z => ?_⟩
   ·show blen n≤900
    trivial
   ·show (1:Int)=w
    rcases z with z | z
    ·exact absurd z hw
    ·exact z.symm
end PH
namespace L2
open PySem PySem.Spec PyProof.Rows PySem.W
variable {X:Cx}
end L2
namespace L2
open PySem PySem.Spec PyProof.Rows PySem.W
variable {X:Cx}
end L2
namespace L2
open PySem PySem.Spec PyProof.Rows PySem.W
section
variable {X:Cx} {pins:List (Addr×Obj)} {σ:St} {ta tk tr:TS} {pos:Pos}
noncomputable def tIfs (tc:TT) (ta tk tr:TS):TS:=fun D σ H => tc σ H fun b H1 => if b=true then ta { D with nx:=tk D } σ H1 else tr D σ H1
theorem psa_nil:PSsAt X pins σ [] tNext:=fun _ H _ I h => wpAny_execs_nil ⟨σ,H,I,h⟩
theorem psa_ifs {c:Expr} {a rest:List Stmt} {tc:TT} (hc:PT X c tc) (ha:PSsAt X pins σ a ta) (hk:PSs X rest tk) (hr:PSsAt X pins σ rest tr):PSsAt X pins σ (.If c a [] pos :: rest) (tIfs tc ta tk tr):=by
 intro s H D I h
 refine wpAny_execs_cons (wpAny_If (thn (hc pins s σ H _ I h) fun d s1 ⟨H1,I1,q1⟩ => ?_))
 cases d with
 | true =>
  refine thn (ha s1 H1 { D with nx:=tk D } I1 q1) fun f s2 q => ?_
  cases f with
  | next =>
   obtain ⟨σ2,H2,I2,q2⟩:=q
   exact hk pins s2 σ2 H2 D I2 q2
  | ret v => exact q
  | brk => exact q
  | cont => exact q
 | false => exact wpAny_execs_nil (hr s1 H1 D I1 q1)
end
end L2
namespace PH
open PySem L2 PySem.W
theorem rdw_in:∀ {ws:List (Int×List Int)} {bits:List Int} {a:Nat} {r:Int×Nat},rdw ws bits a=some r -> ∃ p∈ws,r=(p.1,a+p.2.length)∧(bits.drop a).take p.2.length=p.2
 | [],bits,a,r,h => by cases h
 | p :: ps,bits,a,r,h => by
  unfold rdw at h
  by_cases c:(bits.drop a).take p.2.length=p.2
  ·rw [if_pos c] at h
   exact ⟨p,List.mem_cons_self,(Option.some.inj h).symm,c⟩
  ·rw [if_neg c] at h
   obtain ⟨q,h1,h2⟩:=rdw_in h
   exact ⟨q,List.mem_cons_of_mem _ h1,h2⟩
theorem fnd_nd:∀ {ws:List (Int×List Int)} {p:Int×List Int},(ws.map (·.1)).Nodup -> p∈ws -> fnd ws p.1=some p.2
 | [],p,_,h => by cases h
 | q :: ws,p,nd,h => by
  rw [List.map_cons,List.nodup_cons] at nd
  unfold fnd
  rw [List.find?_cons]
  rcases List.mem_cons.mp h with h | h
  ·rw [h,decide_eq_true rfl]; rfl
  ·have:¬ q.1=p.1:=fun z => nd.1 (by rw [z]; exact List.mem_map.mpr ⟨p,h,rfl⟩)
   rw [decide_eq_false this]
   exact fnd_nd nd.2 h
theorem dcd_back {ws:List (Int×List Int)} (nd:(ws.map (·.1)).Nodup) {bits:List Int}:∀ {n a:Nat} {t:List Int} {e:Nat},a≤bits.length -> dcd ws bits n a=some (t,e) -> a≤e∧e≤bits.length∧t.length=n∧cdd ws t=some ((bits.drop a).take (e - a))
 | 0,a,t,e,ha,h => by
  have h:=Option.some.inj h
  have e1:[]=t:=congrArg Prod.fst h
  have e2:a=e:=congrArg Prod.snd h
  subst e1 e2
  rw [Nat.sub_self,List.take_zero]
  exact ⟨Nat.le_refl _,ha,rfl,rfl⟩
 | n+1,a,t,e,ha,h => by
  cases hr:rdw ws bits a with
  | none => rw [dcd_no hr] at h; cases h
  | some r =>
   rw [dcd_on hr] at h
   obtain ⟨q,h1,h2⟩:=Option.map_eq_some_iff.mp h
   obtain ⟨hle,hle2⟩:=rdw_le ha hr
   obtain ⟨p,hp,rfl,hw⟩:=rdw_in hr
   obtain ⟨i1,i2,i3,i4⟩:=dcd_back nd (t:=q.1) (e:=q.2) hle2 (by rw [h1])
   have e1:p.1 :: q.1=t:=congrArg Prod.fst h2
   have e2:q.2=e:=congrArg Prod.snd h2
   subst e1 e2
   have hle':a≤a+p.2.length:=hle
   refine ⟨Nat.le_trans hle' i1,i2,by rw [List.length_cons,i3],?_⟩
   rw [cdd_on (fnd_nd nd hp),i4]
   show some (p.2++_)=_
   congr 1
   have i1':a+p.2.length≤q.2:=i1
   rw [show q.2 - a=p.2.length+(q.2 - (a+p.2.length)) by trivial,List.take_add,hw,List.drop_drop]
theorem rdO_back {cs:List (Int×Int)} (hc:canB cs=true) (nd:(cs.map (·.1)).Nodup) {bits:List Int} {i:Int} {n:Nat} {t:List Int} {e:Nat} (h:rdO cs bits i n=.tx t e):0≤i∧i≤e∧e≤bits.length∧t.length=n∧cdO cs t=some ((bits.drop i.toNat).take (e - i.toNat)):=by
 unfold rdO at h
 rw [if_pos hc] at h
 by_cases q:0≤i∧i≤(bits.length:Int)
 ·rw [if_pos q] at h
  cases hd:dcd (wrdsOf cs) bits n i.toNat with
  | none => rw [hd] at h; cases h
  | some r =>
   rw [hd] at h
   have h':Rd10.tx r.1 r.2=.tx t e:=h
   injection h' with h1 h2
   subst h1 h2
   obtain ⟨g1,g2,g3,g4⟩:=dcd_back (by rw [wrds_keys]; exact nd) (by trivial) hd
   refine ⟨q.1,by trivial,g2,g3,?_⟩
   unfold cdO
   rw [if_pos hc,g4]
 ·rw [if_neg q] at h; cases h
theorem rdO_nn {cs:List (Int×Int)} (hc:canB cs=true) {bits:List Int} {i:Int} {n:Nat}:rdO cs bits i n≠.nc:=by
 unfold rdO
 rw [if_pos hc]
 split
 ·cases dcd (wrdsOf cs) bits n i.toNat <;> (intro z; cases z)
 ·intro z; cases z
theorem ht_ti (x y:Int):ht (.tup [.int x,.int y])≤60:=by simp [hts,ht]
theorem runs_rep (l:List Int) (x:Int) (h:l.getLast?≠some x):∀ k:Nat,runsL (l++List.replicate (k+1) x)=runsL l++[(x,((k+1:Nat):Int))]
 | 0 => by
  show runsL (l++[x])=runsL l++[(x,1)]
  rw [runs_snoc]
  cases hl:l.getLast? with
  | none =>
   have:l=[]:=List.getLast?_eq_none_iff.mp hl
   subst this; rfl
  | some y =>
   obtain ⟨a,rfl⟩:∃ a,l=a++[y]:=List.getLast?_eq_some_iff.mp hl
   obtain ⟨rs,c,e,_⟩:=runs_last a y
   rw [e,stepR_new (fun z => h (by rw [hl,z]))]
 | k+1 => by
  rw [List.replicate_succ',← List.append_assoc,runs_snoc,runs_rep l x h k,stepR_same]
  congr 3
theorem nbr_back:∀ {rs:List (Int×Int)} {l:List Int},nbr rs=some l -> runsL l=rs:=by
 have hm:∀ k:Nat,∀ (rs:List (Int×Int)) (l:List Int),rs.length=k -> nbr rs=some l -> runsL l=rs:=by
  intro k
  induction k with
  | zero =>
   intro rs l hk h
   have:rs=[]:=List.length_eq_zero_iff.mp hk
   subst this
   rw [← Option.some.inj h]; rfl
  | succ k ih =>
   intro rs l hk h
   have hne:rs≠[]:=fun z => by rw [z] at hk; cases hk
   obtain ⟨a,p,rfl⟩:∃ l y,rs=l++[y]:=⟨rs.dropLast,rs.getLast hne,(List.dropLast_concat_getLast hne).symm⟩
   rw [nbr_snoc] at h
   cases ha:nbr a with
   | none => rw [ha] at h; cases h
   | some m =>
    rw [ha] at h
    unfold stepN at h
    dsimp only at h
    split at h
    ·cases h
    ·rename_i hc
     have e:=Option.some.inj h
     rw [← e]
     obtain ⟨j,hj⟩:∃ j:Nat,p.2.toNat=j+1:=⟨p.2.toNat - 1,by trivial⟩
     rw [hj,runs_rep m p.1 (fun z => hc (.inr (.inl z))) j,ih a m (by rw [List.length_append,List.length_singleton] at hk; trivial) ha]
     congr 2
     exact Prod.ext rfl (by show ((j+1:Nat):Int)=p.2; trivial)
 intro rs l h
 exact hm _ rs l rfl h
noncomputable def szL (m s:Nat):List Int:=((((List.range (m - 1)).map fun k:Nat => (k:Int)+1)++[((m:Nat):Int) - 1]).drop s)++((((List.range (m - 1)).map fun k:Nat => (k:Int)+1)++[((m:Nat):Int) - 1]).take s)
theorem szL_ok:∀ m,m < 8 -> 2≤m -> ∀ s,s < m -> ((szL m s).all (fun l => decide (1≤l) && decide (l≤256)) && decide (sK (szL m s) 256≤2 ^ 256) && decide ((szL m s).length=m))=true:=by decide +kernel
theorem lens_can {m s:Nat} (h8:m < 8) (h2:2≤m) (hs:s < m) {cs:List (Int×Int)} (e:cs.map (·.2)=szL m s) (h:∀ (k:Nat) c,cs[k]?=some c -> 10 * (k:Int)≤c.1∧c.1≤10 * (k:Int)+8):canB cs=true∧(cs.map (·.1)).Nodup:=by
 have q:=szL_ok m h8 h2 s hs
 rw [Bool.and_eq_true,Bool.and_eq_true] at q
 obtain ⟨⟨q1,q2⟩,q3⟩:=q
 have q1:=List.all_eq_true.mp q1
 have q2:=of_decide_eq_true q2
 have q3:=of_decide_eq_true q3
 rw [← e] at q1 q2 q3
 rw [List.length_map] at q3
 have up:(cs.map (·.1)).Pairwise (· < ·):=by
  rw [List.pairwise_map,List.pairwise_iff_getElem]
  intro i j hi hj hij
  have a:=h i _ (List.getElem?_eq_getElem hi)
  have b:=h j _ (List.getElem?_eq_getElem hj)
  show cs[i].1 < cs[j].1
  trivial
 have ri:RiseC cs:=by
  refine ⟨up,fun c hc => ?_⟩
  obtain ⟨k,hk,e'⟩:=List.mem_iff_getElem.mp hc
  have a:=h k c (by rw [List.getElem?_eq_getElem hk,e'])
  have b:=q1 c.2 (List.mem_map.mpr ⟨c,hc,rfl⟩)
  rw [Bool.and_eq_true] at b
  have b1:=of_decide_eq_true b.1
  trivial
 refine ⟨?_,up.imp fun {a b} z => Int.ne_of_lt z⟩
 rw [let_can ri]
 unfold letB
 rw [roomB_iff,Bool.and_eq_true]
 refine ⟨List.all_eq_true.mpr fun c hc => ?_,decide_eq_true q2⟩
 have b:=q1 c.2 (List.mem_map.mpr ⟨c,hc,rfl⟩)
 rw [Bool.and_eq_true] at b
 exact b.2
theorem cut_any48 (ns:List Int) (lo hi:Option Int):∃ ms:List Int,cutV (ns.map V.int) lo hi=ms.map V.int∧ms.length≤ns.length:=by
 unfold cutV
 rw [← List.map_drop,← List.map_take]
 refine ⟨_,rfl,?_⟩
 rw [List.length_take,List.length_drop]
 trivial
theorem sqMid {A B:TS} {D:Ends} {σ:St} {H:Hp} (M:St -> Hp -> Prop) (h2:∀ σ' H',M σ' H' -> B D σ' H') (h1:∀ N:St -> Hp -> Prop,(∀ σ' H',M σ' H' -> N σ' H') -> A { D with nx:=N } σ H):tSeq A B D σ H:=h1 _ h2
noncomputable def kinds3:HO:=.lst [.bl true,.bl false,.bl false]
noncomputable def kinds3D:DV:=.lst [.bl true,.bl false,.bl false]
theorem deep_kinds3 {K:Frag} {H:Hp} {p:Addr} (h:H p=some kinds3):Deep K H (.ref p) kinds3D :=
 .lst (SqL.of h) (.cons (.bl _) (.cons (.bl _) (.cons (.bl _) .nil)))
theorem ht_kinds3:ht kinds3D≤60:=by unfold kinds3D; rw [ht_lst]; simp [hts,ht]
theorem eqD_t3 (a:List DV):eqD (.tup a) kinds3D=false:=by unfold kinds3D eqD; rfl
noncomputable def spGot (K : Frag) (P : Addr) (lp : Pos) : Sp := fun vs H Q _ => ∃ (w : Int) (B : Addr) (i : Int) (p : Addr),vs=[.int w,.ref B,.int i,.ref p] ∧ TB P lp qnB H ∧
  (∀ (D : Addr) (H' : Hp),SameT P lp qnB H H' → H D=none → H' D=some kinds3 → Q (.ref D) H') ∧
  ((w=0 ∧ ∃ bs : List Int,H B=some (lsI bs) ∧ bs.length≤1000 ∧ i≤1000 ∧ ∀ n b,readE bs i=some (n,b) → ∀ (t : Addr) (H' : Hp),SameT P lp qnB H H' → H' t=some (.tup [.int n,.int (b : Int)]) → Q (.ref t) H') ∨
   (w=1 ∧ ∃ bs : List Int,H B=some (lsI bs) ∧ bs.length≤1000 ∧ i≤1000 ∧ ∀ ns b,readRow bs i=some (ns,b) → ∀ (l t : Addr) (H' : Hp),SameT P lp qnB H H' → H' l=some (lsI ns) → H' t=some (.tup [.ref l,.int (b : Int)]) → Q (.ref t) H') ∨
   (w=2 ∧ ∃ (bs : List Int) (zs : List (Addr×Int×Int)),H B=some (lsI bs) ∧ bs.length≤1000 ∧ Prs H p zs ∧ zs.length≤300 ∧ canB (zs.map (·.2))=true ∧ ∀ t e,rdO (zs.map (·.2)) bs i 3=.tx t e → ∀ (T D : Addr) (H' : Hp),SameT P lp qnB H H' → H' T=some (.tup [.ref D,.int (e : Int)]) → H' D=some (lsI t) → Q (.ref T) H') ∨
   (w=3 ∧ ∃ r : List Int,SqL K H B (r.map V.int) ∧ r.length≤1000 ∧ (∀ z∈r,0≤z ∧ z≤255) ∧ ∀ t,rowT t=r → holeT t=i → ∀ (D : Addr) (H' : Hp),SameT P lp qnB H H' → H D=none → H' D=some (lsI t) → Q (.ref D) H') ∨
   (w=4 ∧ ∃ zs : List (Addr×Int×Int),Prs H B zs ∧ zs.length≤1000 ∧ ∀ l,nbr (zs.map (·.2))=some l → ∀ (D : Addr) (H' : Hp),SameT P lp qnB H H' → H D=none → H' D=some (lsI l) → Q (.ref D) H'))
noncomputable def spBGood (K:Frag) (P:Addr) (lp:Pos):Sp:=fun vs H Q _ => ∃ (B:Addr) (i:Nat) (p:Addr) (bs:List Int) (zs:List (Addr×Int×Int)),vs=[.ref B,.int (i:Int),.ref p]∧TB P lp qnB H∧H B=some (lsI bs)∧isBits bs∧bs.length≤400∧i≤1000∧Prs H p zs∧zs.length≤300∧canB (zs.map (·.2))=true∧((zs.map (·.2)).map (·.1)).Nodup ∧
 ∀ H',SameT P lp qnB H H' -> Q (.bl true) H'
noncomputable def spLens48 (K:Frag):Sp:=fun vs H Q _ => ∃ (a:Addr) (ns:List Int),vs=[.ref a]∧SqL K H a (ns.map V.int) ∧
 ∀ (p:Addr) (zs:List (Addr×Int×Int)) (H':Hp),Same H H' -> H p=none -> Prs H' p zs -> zs.length≤300 -> canB (zs.map (·.2))=true -> ((zs.map (·.2)).map (·.1)).Nodup -> Q (.ref p) H'
noncomputable def spRGood (K:Frag) (P:Addr) (lp:Pos) (P2:Addr) (lp2:Pos):Sp:=fun vs H Q _ => ∃ (a:Addr) (ns:List Int),vs=[.ref a]∧SqL K H a (ns.map V.int)∧ns.length≤63∧TB P lp qnB H∧TB P2 lp2 qnE H∧∀ H',Q (.bl true) H'
end PH
namespace K48
open PySem L2 PySem.W PH
noncomputable def top (i:Nat):Stmt:=PySem.Challenge.pw_packhall_k48_whole_any_bits_and_rows.main.body.getD i (.Pass ⟨0,0,0,0⟩)
noncomputable abbrev s_low:Stmt:=top 6
noncomputable abbrev s_num:Stmt:=top 7
noncomputable abbrev s_end:Stmt:=top 8
noncomputable abbrev s_first:Stmt:=top 9
noncomputable abbrev s_read:Stmt:=top 10
noncomputable abbrev s_row:Stmt:=top 11
noncomputable abbrev s_rdrow:Stmt:=top 12
noncomputable abbrev s_whole:Stmt:=top 15
noncomputable abbrev s_sign:Stmt:=top 16
noncomputable abbrev s_signs:Stmt:=top 17
noncomputable abbrev s_may:Stmt:=top 38
noncomputable abbrev s_rise:Stmt:=top 20
noncomputable abbrev s_room:Stmt:=top 21
noncomputable abbrev s_can:Stmt:=top 22
noncomputable abbrev s_next:Stmt:=top 23
noncomputable abbrev s_words:Stmt:=top 24
noncomputable abbrev s_coded:Stmt:=top 25
noncomputable abbrev s_readw:Stmt:=top 26
noncomputable abbrev s_decoded:Stmt:=top 27
noncomputable abbrev s_put:Stmt:=top 30
noncomputable abbrev s_tbf:Stmt:=top 32
noncomputable abbrev s_fronts:Stmt:=top 31
noncomputable abbrev s_runs:Stmt:=top 33
noncomputable abbrev s_nbr:Stmt:=top 34
noncomputable abbrev s_ends:Stmt:=top 36
noncomputable abbrev s_turned:Stmt:=top 37
noncomputable abbrev s_back:Stmt:=top 39
noncomputable abbrev s_cell:Stmt:=top 41
noncomputable abbrev s_lwhole:Stmt:=top 42
noncomputable abbrev s_got:Stmt:=top 43
noncomputable abbrev s_bgood:Stmt:=top 44
noncomputable abbrev s_llens:Stmt:=top 45
noncomputable abbrev s_rgood:Stmt:=top 46
noncomputable abbrev s_law:Stmt:=top 47
noncomputable abbrev sLow:Stmt:=top 6
noncomputable abbrev sNum:Stmt:=top 7
noncomputable abbrev sEnd:Stmt:=top 8
noncomputable abbrev sFirst:Stmt:=top 9
noncomputable abbrev sRead:Stmt:=top 10
section
variable {P:Program} {w:World} {K:Frag} {mg:Str -> Option Value} {base:Heap}
theorem scLow:FnScope ["n","k","bits","left"] ["n","k"] (defScope sLow):=⟨rfl,rfl,rfl,by decide +kernel,rfl,by decide +kernel,by decide +kernel⟩
theorem ok_low {f cN:Addr} {fd:FuncData} (F:Fun K "low_bits" "low_bits" sLow f fd) (xN:Ex K mg "NoNumber" cN) (ml:mg "len" = none):FnOk P w K mg base (CXW P w) 1 f fd ["n","k"] (spLow cN):=by
 refine F.okX scLow (fun vs H Q E h => ?_) (fun cdv A outer s H vs Q E hr h => ?_)
 ·obtain ⟨n,k,rfl,_⟩:=h
  rfl
 ·obtain ⟨n,k,rfl,hk,h⟩:=h
  refine ⟨_,pss_cons (ps_if (PW.pt (pw_or (pt_cmpR op_lt (pv 0) pe_int (nomark _)) (pw_or1 (pt_cmpR op_gt (pe_bm0 PySem.F.plainAttrs_int PySem.F.slot_int_bit_length PySem.F.type_int_bit_length mt_bitlen (pv 0)) (pv 1) (nomark _)))))
    (pss_one (ps_raise PySem.F.excBase_ValueError xN.ex xN.mg rfl)) pss_nil)
   (pss_cons (ps_set (i:=2) scLow.nd rfl (Or.inl rfl) (pe_lst pa_nil))
   (pss_cons (ps_set (i:=3) scLow.nd rfl (Or.inl rfl) (pv 0))
   (pss_cons (ps_while pown (pt_cmpR op_lt (pe_callB call_len_seq rfl ml PySem.boot_len (pa_cons (pv 2) pa_nil)) (pv 1) (nomark _))
    (pss_cons (ps_expr (pe_bm PySem.F.plainAttrs_list PySem.F.slot_list_append PySem.F.type_list_append mt_append (pv 2) (pa_cons (pe_op op_mod (pv 3) pe_int) pa_nil)))
    (pss_one (ps_set (i:=3) scLow.nd rfl (Or.inl rfl) (pe_op op_fdiv (pv 3) pe_int)))))
   (pss_cons (ps_expr (pe_bm0 PySem.F.plainAttrs_list PySem.F.slot_list_reverse PySem.F.type_list_reverse mt_reverse (pv 2)))
   (pss_one (ps_ret (pv 2))))))),?_⟩
  rcases h with ⟨hb,hE⟩ | ⟨⟨h0,h1⟩,hQ⟩
  ·refine ⟨_,rfl,_,_,rfl,rfl,_,rfl,?_⟩
   refine ite2 (fun c => ?_) (fun c => ?_)
   ·exact iteT hE
   ·have c':¬ n < 0:=fun z => c (decide_eq_true z)
    refine ⟨_,rfl,rfl,n,rfl,rfl,_,rfl,_,_,rfl,rfl,_,rfl,?_⟩
    rw [bits_over (by trivial),decide_eq_true (by trivial)]
    exact iteT hE
  refine ⟨_,rfl,_,_,rfl,rfl,_,rfl,?_⟩
  rw [decide_eq_false (by trivial)]
  refine iteF ?_
  refine ⟨_,rfl,rfl,n,rfl,rfl,_,rfl,_,_,rfl,rfl,_,rfl,?_⟩
  rw [bits_over h0,decide_eq_false (by trivial)]
  refine iteF ?_
  refine ⟨(by show 0≤sizeLine; decide),fun p hp => ?_⟩
  refine ⟨_,rfl,?_⟩
  refine ⟨fun m σ H' => ∃ i:Nat,i≤k∧m=k - i∧σ=[some (.int n),some (.int k),some (.ref p),some (.int (n / 2 ^ i))]∧H'=upd H p (lsI (rlow n i)),⟨k,0,Nat.zero_le _,rfl,?_,rfl⟩,?_⟩
  ·show _=[some (V.int n),some (V.int k),some (V.ref p),some (V.int (n / 2 ^ 0))]
   rw [Int.pow_zero,Int.ediv_one]; rfl
  rintro m σ H' ⟨i,hi,rfl,rfl,rfl⟩
  refine ⟨_,rfl,p,_,rfl,.inl (SqL.of upd_same),_,rfl,_,_,rfl,rfl,_,rfl,?_⟩
  rw [List.length_map,rlow_length]
  refine ite2 (fun c => ?_) (fun c => ?_)
  ·have c':i < k:=by have:=of_decide_eq_true c; trivial
   refine ⟨fun σ' H'' => ∃ m',m' < k - i∧∃ i:Nat,i≤k∧m'=k - i∧σ'=[some (.int n),some (.int k),some (.ref p),some (.int (n / 2 ^ i))]∧H''=upd H p (lsI (rlow n i)),fun σ' H'' z => z,?_⟩
   refine ⟨_,rfl,.inl ⟨rfl,_,SqL.of upd_same⟩,_,rfl,_,_,rfl,rfl,(by show (0:Int) < 2; decide),p,_,_,rfl,rfl,upd_same,small1000 (by rw [List.length_map,rlow_length]; trivial),?_⟩
   refine ⟨_,rfl,_,_,rfl,rfl,⟨by decide,by decide⟩,?_⟩
   refine ⟨k - (i+1),by trivial,i+1,c',rfl,?_,?_⟩
   ·rw [← div_pow_succ]; rfl
   ·rw [upd_upd]; unfold lsI; rw [rlow_snoc,List.map_append]; rfl
  ·have c':i=k:=by
    have:¬ ((i:Nat):Int) < (k:Int):=fun z => c (decide_eq_true z)
    trivial
   subst c'
   refine ⟨_,rfl,.inl ⟨rfl,_,SqL.of upd_same⟩,p,_,rfl,rfl,upd_same,?_⟩
   refine ⟨_,rfl,?_⟩
   rw [upd_upd,← List.map_reverse]
   exact hQ p hp
theorem scNum:FnScope ["bits","number","bit"] ["bits"] (defScope sNum):=⟨rfl,rfl,rfl,by decide +kernel,rfl,by decide +kernel,by decide +kernel⟩
theorem ok_num {f:Addr} {fd:FuncData} (F:Fun K "number_of" "number_of" sNum f fd):FnOk P w K mg base (CXW P w) 1 f fd ["bits"] (spWorth K):=by
 refine F.okN scNum (fun vs H Q E h => ?_) (fun cdv A outer s H vs Q E hr h => ?_)
 ·obtain ⟨a,bs,rfl,_⟩:=h
  rfl
 ·obtain ⟨a,bs,rfl,hS,k⟩:=h
  refine ⟨_,pss_cons (ps_set (i:=1) scNum.nd rfl (Or.inl rfl) pe_int)
   (pss_cons (ps_for PassesOwn.never rfl (pi_list (pv 0)) (pg_name (i:=2) scNum.nd rfl (Or.inl rfl)) (pss_one (ps_set (i:=1) scNum.nd rfl (Or.inl rfl) (pe_op op_add (pe_op op_mul pe_int (pv 1)) (pv 2)))))
   (pss_one (ps_ret (pv 1)))),?_⟩
  refine ⟨_,rfl,a,rfl,⟨_,hS⟩,for_list (K:=K) (a:=a) (xs:=bs.map V.int) (fun i σ H2 => ∃ v,σ=[some (.ref a),some (.int (horner (bs.take i))),v]∧H2=H) ⟨none,rfl,rfl⟩ (fun i σ H2 _ ⟨_,_,e⟩ => by rw [e]; exact hS) ?_ ?_⟩
  ·rintro i y σ H2 hi ⟨v,rfl,rfl⟩
   obtain ⟨z,rfl,hz⟩:=int_at hi
   refine ⟨_,rfl,_,_,rfl,rfl,.inl ⟨by decide,by decide⟩,_,rfl,_,_,rfl,rfl,?_⟩
   exact ⟨_,by rw [take_at hz,horner_snoc]; rfl,rfl⟩
  ·rintro σ H2 ⟨v,rfl,rfl⟩
   refine ⟨_,rfl,?_⟩
   rw [List.length_map,List.take_length,worth_eq]
   exact k
theorem scEnd:FnScope ["n","many"] ["n"] (defScope sEnd):=⟨rfl,rfl,rfl,by decide +kernel,rfl,by decide +kernel,by decide +kernel⟩
theorem ok_end {f g cN:Addr} {fd gd:FuncData} (F:Fun K "ending_bits" "ending_bits" sEnd f fd) (xN:Ex K mg "NoNumber" cN) (G:FnOk P w K mg base (CXW P w) 1 g gd ["n","k"] (spLow cN)) (bG:Binds K gd ["n","k"] []) (kG:keepIn K (.ref g)=true) (mG:mg "low_bits" = some (.ref g)) :
  FnOk P w K mg base (CXW P w) 2 f fd ["n"] (spEnd cN):=by
 refine F.okX scEnd (fun vs H Q E h => ?_) (fun cdv A outer s H vs Q E hr h => ?_)
 ·obtain ⟨n,rfl,_⟩:=h
  rfl
 ·obtain ⟨n,rfl,h⟩:=h
  refine ⟨_,pss_cons (ps_if (pt_cmpR op_lt (pv 0) pe_int (nomark _)) (pss_one (ps_raise PySem.F.excBase_ValueError xN.ex xN.mg rfl)) pss_nil)
   (pss_cons (ps_set (i:=1) scEnd.nd rfl (Or.inl rfl) (pe_bm0 PySem.F.plainAttrs_int PySem.F.slot_int_bit_length PySem.F.type_int_bit_length mt_bitlen (pv 0)))
   (pss_one (ps_ret (pe_op op_cat (pe_op op_rep (pe_lst (pa_cons pe_int pa_nil)) (pe_op op_sub (pv 1) pe_int)) (pe_call G hr rfl mG kG bG .nil passW (pa_cons (pv 0) (pa_cons (pv 1) pa_nil))))))),?_⟩
  refine ⟨_,rfl,_,_,rfl,rfl,_,rfl,?_⟩
  rcases h with ⟨h1,hE⟩ | ⟨h1,h9,k⟩
  ·rw [decide_eq_true h1]
   exact iteT hE
  ·rw [decide_eq_false (by trivial)]
   refine iteF ?_
   have bp:=blen_pos h1
   refine ⟨_,rfl,rfl,n,rfl,rfl,?_⟩
   refine ⟨(by show 1≤sizeLine; decide),fun p1 hp1 => ?_⟩
   have et:(((blen n:Nat):Int) - 1).toNat=blen n - 1:=by trivial
   refine ⟨_,rfl,_,_,rfl,rfl,p1,((blen n:Nat):Int) - 1,[.int 0],rfl,rfl,upd_same,by trivial,by trivial,Nat.le_of_lt (small1000 (by rw [List.length_singleton,et]; trivial)),fun p2 hp2 => ?_⟩
   refine ⟨_,rfl,_,rfl,n,blen n,rfl,by trivial,.inr ⟨⟨by trivial,lt_blen (by trivial)⟩,fun p3 hp3 => ?_⟩⟩
   refine ⟨p2,p3,_,_,rfl,rfl,by rw [upd_ne (ne_of_none upd_same hp3),upd_same],upd_same,fits ?_,fun p4 hp4 => ?_⟩
   ·rw [et,rep_ints,List.length_map,List.length_map,List.length_replicate,lowb_length]; trivial
   have s3:=(same_new hp1 (.lst [.int 0])).trans ((same_new hp2 (.lst (List.replicate (((blen n:Nat):Int) - 1).toNat [V.int 0]).flatten)).trans (same_new hp3 (lsI (lowb n (blen n)))))
   refine k p4 _ (s3.trans (same_new hp4 _)) (s3.free hp4) ?_
   rw [upd_same,et,rep_ints,← List.map_append]; rfl
theorem scFirst:FnScope ["bits","at","place"] ["bits","at"] (defScope sFirst):=⟨rfl,rfl,rfl,by decide +kernel,rfl,by decide +kernel,by decide +kernel⟩
theorem ok_first {f cB:Addr} {fd:FuncData} (F:Fun K "first_one" "first_one" sFirst f fd) (xB:Ex K mg "Broken" cB) (B:Bl mg):FnOk P w K mg base (CXW P w) 1 f fd ["bits","at"] (spFirst K cB):=by
 refine F.okX scFirst (fun vs H Q E h => ?_) (fun cdv A outer s H vs Q E hr h => ?_)
 ·obtain ⟨a,bs,i,rfl,_⟩:=h
  rfl
 ·obtain ⟨a,bs,i,rfl,hS,hl,hi6,h⟩:=h
  refine ⟨_,pss_cons (ps_if (pt_cmpR op_lt (pv 1) pe_int (nomark _)) (pss_one (ps_raise PySem.F.excBase_ValueError xB.ex xB.mg rfl)) pss_nil)
   (pss_cons (ps_for pown rfl (pi_range2 rfl B.range (pa_cons (pv 1) (pa_cons (pe_callB call_len_seq rfl B.len PySem.boot_len (pa_cons (pv 0) pa_nil)) pa_nil))) (pg_name (i:=2) scFirst.nd rfl (Or.inl rfl))
    (pss_one (ps_if (pt_cmpR op_eq (pe_ix ix_list (pv 0) (pv 2) (fun _ _ => rfl)) pe_int (nomark _)) (pss_one (ps_ret (pv 2))) pss_nil)))
   (pss_one (ps_raise PySem.F.excBase_ValueError xB.ex xB.mg rfl))),?_⟩
  refine ⟨_,rfl,_,_,rfl,rfl,_,rfl,?_⟩
  rcases h with ⟨h0,hE⟩ | ⟨h0,h⟩
  ·rw [decide_eq_true h0]
   exact iteT hE
  ·rw [decide_eq_false (by trivial)]
   refine iteF ?_
   have hbl:(bs.map V.int).length=bs.length:=List.length_map _
   refine ⟨_,rfl,_,rfl,a,_,rfl,.inl hS,_,_,rfl,⟨by trivial,by trivial,by trivial,by rw [hbl]; trivial⟩,for_range (fun j σ H2 => ∃ v,σ=[some (.ref a),some (.int i),v]∧H2=H∧firstOne (bs.drop i.toNat)=(firstOne (bs.drop (i.toNat+j))).map (j+·)) ⟨none,rfl,rfl,?_⟩ ?_ ?_⟩
   ·rw [Nat.add_zero]
    cases firstOne (bs.drop i.toNat) with
    | none => rfl
    | some d => rw [Option.map_some,Nat.zero_add]
   ·rintro j σ H2 hj ⟨v,rfl,rfl,he⟩
    rw [hbl] at hj
    have hlt:i.toNat+j < bs.length:=by trivial
    have hz:bs[i.toNat+j]?=some bs[i.toNat+j]:=List.getElem?_eq_getElem hlt
    have hat:atI (bs.map V.int) (i+(j:Int))=some (.int bs[i.toNat+j]):=by
     rw [show i+(j:Int)=((i.toNat+j:Nat):Int) by trivial]
     exact atI_nat (by rw [List.getElem?_map,hz]; rfl)
    refine ⟨_,rfl,_,rfl,a,_,_,_,rfl,rfl,hS,hat,rfl,_,rfl,?_⟩
    rw [firstOne_step hz] at he
    refine ite2 (fun c => ?_) (fun c => ?_)
    ·have c':bs[i.toNat+j]=1:=by injection of_decide_eq_true c
     rw [if_pos c'] at he
     refine ⟨_,rfl,?_⟩
     rw [he] at h
     rw [show i+(j:Int)=((i.toNat+(j+0):Nat):Int) by trivial]
     exact h
    ·have c':¬ bs[i.toNat+j]=1:=fun z => c (by rw [z]; rfl)
     rw [if_neg c'] at he
     refine ⟨_,rfl,rfl,?_⟩
     rw [he,← Nat.add_assoc]
     cases firstOne (bs.drop (i.toNat+j+1)) with
     | none => rfl
     | some d =>
      rw [Option.map_some,Option.map_some,Option.map_some]
      congr 1; trivial
   ·rintro σ H2 ⟨v,rfl,rfl,he⟩
    have he2:firstOne (bs.drop i.toNat)=none:=by
     rw [he,firstOne_end (k:=i.toNat+(((bs.map V.int).length:Int) - i).toNat) (by rw [hbl]; trivial)]; rfl
    rw [he2] at h
    exact h
theorem scRead:FnScope ["bits","at","one","behind"] ["bits","at"] (defScope sRead):=⟨rfl,rfl,rfl,by decide +kernel,rfl,by decide +kernel,by decide +kernel⟩
theorem ok_read {f fF fN cB:Addr} {fd dF dN:FuncData} (F:Fun K "read_ending" "read_ending" sRead f fd) (xB:Ex K mg "Broken" cB) (B:Bl mg)
  (GF:FnOk P w K mg base (CXW P w) 1 fF dF ["bits","at"] (spFirst K cB)) (bF:Binds K dF ["bits","at"] []) (kF:keepIn K (.ref fF)=true) (mF:mg "first_one" = some (.ref fF))
  (GN:FnOk P w K mg base (CXW P w) 1 fN dN ["bits"] (spWorth K)) (bN:Binds K dN ["bits"] []) (kN:keepIn K (.ref fN)=true) (mN:mg "number_of" = some (.ref fN)):FnOk P w K mg base (CXW P w) 2 f fd ["bits","at"] (spRead K cB):=by
 refine F.okX scRead (fun vs H Q E h => ?_) (fun cdv A outer s H vs Q E hr h => ?_)
 ·obtain ⟨a,bs,i,rfl,_⟩:=h
  rfl
 ·obtain ⟨a,bs,i,rfl,hS,hl,hi6,h⟩:=h
  refine ⟨_,pss_cons (ps_set (i:=2) scRead.nd rfl (Or.inl rfl) (pe_call GF hr rfl mF kF bF .nil passW (pa_cons (pv 0) (pa_cons (pv 1) pa_nil))))
   (pss_cons (ps_set (i:=3) scRead.nd rfl (Or.inl rfl) (pe_op op_add (pe_op op_add (pv 2) (pe_op op_sub (pv 2) (pv 1))) pe_int))
   (pss_cons (ps_if (pt_cmpR op_gt (pv 3) (pe_callB call_len_seq rfl B.len PySem.boot_len (pa_cons (pv 0) pa_nil)) (nomark _)) (pss_one (ps_raise PySem.F.excBase_ValueError xB.ex xB.mg rfl)) pss_nil)
   (pss_one (ps_ret (pe_tup (pa_cons (pe_call GN hr rfl mN kN bN .nil passW (pa_cons (pe_slice sl_list (pv 0) (po_some (pv 2)) (po_some (pv 3))) pa_nil)) (pa_cons (pv 3) pa_nil))))))),?_⟩
  have hbl:(bs.map V.int).length=bs.length:=List.length_map _
  unfold readE at h
  by_cases h0:i < 0
  ·rw [if_pos h0] at h
   exact ⟨_,rfl,_,rfl,a,bs,i,rfl,hS,hl,hi6,.inl ⟨h0,h⟩⟩
  rw [if_neg h0] at h
  refine ⟨_,rfl,_,rfl,a,bs,i,rfl,hS,hl,hi6,.inr ⟨by trivial,?_⟩⟩
  cases e:firstOne (bs.drop i.toNat) with
  | none =>
   rw [e] at h
   exact h
  | some d =>
   rw [e] at h
   have hd:=firstOne_lt e
   rw [List.length_drop] at hd
   have eb:((i.toNat+d:Nat):Int)+(((i.toNat+d:Nat):Int) - i)+1=((i.toNat+d+d+1:Nat):Int):=by trivial
   refine ⟨_,rfl,_,rfl,_,rfl,_,_,rfl,rfl,_,_,rfl,rfl,_,_,rfl,rfl,?_⟩
   refine ⟨_,rfl,_,rfl,a,_,rfl,.inl hS,_,_,rfl,rfl,_,rfl,?_⟩
   rw [hbl,eb]
   by_cases h1:bs.length < i.toNat+d+d+1
   ·dsimp only at h
    rw [if_pos h1] at h
    rw [decide_eq_true (by trivial)]
    exact iteT h
   ·dsimp only at h
    rw [if_neg h1] at h
    rw [decide_eq_false (by trivial)]
    refine iteF ?_
    refine ⟨_,rfl,_,rfl,_,rfl,_,rfl,_,rfl,a,_,rfl,hS,fun p hp => ?_⟩
    have ec:cutV (bs.map V.int) (some (((i.toNat+d:Nat):Int))) (some ((((i.toNat+d:Nat):Int)+(((i.toNat+d:Nat):Int) - i)+1)))=((bs.drop (i.toNat+d)).take (d+1)).map V.int:=by
     rw [eb,cut_two]; congr 2; trivial
    refine ⟨p,(bs.drop (i.toNat+d)).take (d+1),rfl,SqL.of (by rw [upd_same,ec]),?_⟩
    refine ⟨_,rfl,(by show 2≤sizeLine; decide),fun t ht => ?_⟩
    refine h t _ ((same_new hp _).trans (same_new ht _)) ((same_new hp _).free ht) ?_
    rw [upd_same,← eb]
theorem sc_row:FnScope ["numbers","bits","number"] ["numbers"] (defScope s_row):=⟨rfl,rfl,rfl,by decide +kernel,rfl,by decide +kernel,by decide +kernel⟩
theorem ok_row {f c_NoNumber f_end:Addr} {fd d_end:FuncData} (F:Fun K "row_bits" "row_bits" s_row f fd) (B:Bls mg) 
  (G_end:FnOk P w K mg base (CXW P w) 2 f_end d_end ["n"] (spEnd c_NoNumber)) (b_end:Binds K d_end ["n"] []) (k_end:keepIn K (.ref f_end)=true) (m_end:mg "ending_bits" = some (.ref f_end)):FnOk P w K mg base (CXW P w) 3 f fd ["numbers"] (spRow K c_NoNumber):=by
 refine F.okX sc_row (fun vs H Q E h => ?_) (fun cdv A outer s H vs Q E hr h => ?_)
 ·obtain ⟨a,ns,rfl,_⟩:=h
  rfl
 ·obtain ⟨a,ns,rfl,hS,h5,hbn,hE,hQ⟩:=h
  refine ⟨_,(pss_cons (ps_set (i:=1) sc_row.nd rfl (Or.inl rfl) (pe_call G_end hr rfl m_end k_end b_end .nil passW (pa_cons (pe_op op_add (pe_callB call_len_seq rfl B.len PySem.boot_len (pa_cons (pv 0) pa_nil)) pe_int) pa_nil)))
   (pss_cons (ps_for pown rfl (pi_list (pv 0)) (pg_name (i:=2) sc_row.nd rfl (Or.inl rfl))
    (pss_one (ps_expr (pe_bm PySem.F.plainAttrs_list PySem.F.slot_list_extend PySem.F.type_list_extend mt_extend (pv 1) (pa_cons (pe_call G_end hr rfl m_end k_end b_end .nil passW (pa_cons (pe_op op_add (pv 2) pe_int) pa_nil)) pa_nil)))))
   (pss_one (ps_ret (pv 1))))),?_⟩
  have hbl:=len_lsI ns
  refine ⟨_,rfl,a,_,rfl,.inl hS,_,_,rfl,rfl,_,rfl,.inr ⟨by trivial,blen_small (by trivial) (by trivial),fun p H1 s1 hp hp1 => ?_⟩⟩
  have e0:(((ns.map V.int).length:Nat):Int)+1=(ns.length:Int)+1:=by rw [hbl]
  rw [e0] at hp1
  have hb1:=blen_small (n:=(ns.length:Int)+1) (by trivial) (by trivial)
  have hl1:=endb_length ((ns.length:Int)+1)
  refine ⟨_,rfl,a,rfl,⟨_,s1.seq hS⟩,for_list (K:=K) (a:=a) (xs:=ns.map V.int) (fun i σ H2 => ∃ v,σ=[some (.ref a),some (.ref p),v]∧H2 p=some (lsI (endb ((ns.length:Int)+1)++flatb (ns.take i)))∧Same H H2∧(∀ n∈ns.take i,0≤n)∧(flatb (ns.take i)).length≤1799 * i)
   ⟨none,rfl,by rw [hp1,List.take_zero]; show _=some (lsI (_++[])); rw [List.append_nil],s1,by rw [List.take_zero]; exact (fun _ z => by cases z),by rw [List.take_zero]; exact Nat.zero_le _⟩ (fun i σ H2 _ ⟨_,_,_,e,_⟩ => e.seq hS) ?_ ?_⟩
  ·rintro i y σ H2 hi ⟨v,rfl,hp2,s2,hn,hfl⟩
   obtain ⟨z,rfl,hz⟩:=int_at hi
   have hil:i < ns.length:=(List.getElem?_eq_some_iff.mp hz).1
   have hzm:z∈ns:=List.mem_of_getElem? hz
   refine ⟨_,rfl,.inl ⟨rfl,_,SqL.of hp2⟩,_,rfl,_,_,rfl,rfl,z+1,rfl,?_⟩
   by_cases h0:z < 0
   ·exact .inl ⟨by trivial,hE ⟨z,hzm,h0⟩ _ s2⟩
   ·have hbz:=hbn z hzm (by trivial)
    refine .inr ⟨by trivial,hbz,fun q H3 s3 hq hq3 => ?_⟩
    have hl2:=endb_length (z+1)
    refine ⟨p,q,_,_,rfl,rfl,s3 _ _ hp2,hq3,fits ?_,?_⟩
    ·rw [List.length_map,List.length_map,List.length_append]; trivial
    ·refine ⟨_,rfl,?_,same_upd (s2.trans s3) _ hp,?_,?_⟩
     ·rw [upd_same,lsI_app,flatb_take hz,List.append_assoc]
     ·rw [take_at hz]
      intro n hm
      rcases List.mem_append.mp hm with hm | hm
      ·exact hn n hm
      ·have:n=z:=by simpa using hm
       trivial
     ·rw [flatb_take hz,List.length_append]; trivial
  ·rintro σ H2 ⟨v,rfl,hp2,s2,hn,hfl⟩
   rw [hbl,List.take_length] at hp2 hn
   refine ⟨_,rfl,?_⟩
   exact hQ hn p H2 s2 hp hp2
theorem sc_rdrow:FnScope ["bits","at","head","many","behind","numbers","found"] ["bits","at"] (defScope s_rdrow):=⟨rfl,rfl,rfl,by decide +kernel,rfl,by decide +kernel,by decide +kernel⟩
theorem ok_rdrow {f c_Broken f_read:Addr} {fd d_read:FuncData} (F:Fun K "read_row" "read_row" s_rdrow f fd) (B:Bls mg) 
  (G_read:FnOk P w K mg base (CXW P w) 2 f_read d_read ["bits","at"] (spRead K c_Broken)) (b_read:Binds K d_read ["bits","at"] []) (k_read:keepIn K (.ref f_read)=true) (m_read:mg "read_ending" = some (.ref f_read)):FnOk P w K mg base (CXW P w) 3 f fd ["bits","at"] (spRdRow K c_Broken):=by
 refine F.okX sc_rdrow (fun vs H Q E h => ?_) (fun cdv A outer s H vs Q E hr h => ?_)
 ·obtain ⟨a,bs,i,rfl,_⟩:=h
  rfl
 ·obtain ⟨a,bs,i,rfl,hS,hl,hi6,h⟩:=h
  refine ⟨_,(pss_cons (ps_set (i:=2) sc_rdrow.nd rfl (Or.inl rfl) (pe_call G_read hr rfl m_read k_read b_read .nil passW (pa_cons (pv 0) (pa_cons (pv 1) pa_nil))))
   (pss_cons (ps_set (i:=3) sc_rdrow.nd rfl (Or.inl rfl) (pe_op op_sub (pe_ix ix_tup (pv 2) pe_int (fun _ _ => rfl)) pe_int))
   (pss_cons (ps_set (i:=4) sc_rdrow.nd rfl (Or.inl rfl) (pe_ix ix_tup (pv 2) pe_int (fun _ _ => rfl)))
   (pss_cons (ps_set (i:=5) sc_rdrow.nd rfl (Or.inl rfl) (pe_lst pa_nil))
   (pss_cons (ps_while pown (pt_cmpR op_lt (pe_callB call_len_seq rfl B.len PySem.boot_len (pa_cons (pv 5) pa_nil)) (pv 3) (nomark _))
    (pss_cons (ps_set (i:=6) sc_rdrow.nd rfl (Or.inl rfl) (pe_call G_read hr rfl m_read k_read b_read .nil passW (pa_cons (pv 0) (pa_cons (pv 4) pa_nil))))
    (pss_cons (ps_expr (pe_bm PySem.F.plainAttrs_list PySem.F.slot_list_append PySem.F.type_list_append mt_append (pv 5) (pa_cons (pe_op op_sub (pe_ix ix_tup (pv 6) pe_int (fun _ _ => rfl)) pe_int) pa_nil)))
    (pss_one (ps_set (i:=4) sc_rdrow.nd rfl (Or.inl rfl) (pe_ix ix_tup (pv 6) pe_int (fun _ _ => rfl)))))))
   (pss_one (ps_ret (pe_tup (pa_cons (pv 5) (pa_cons (pv 4) pa_nil)))))))))),?_⟩
  refine ⟨_,rfl,_,rfl,a,bs,i,rfl,hS,hl,hi6,?_⟩
  cases e:readE bs i with
  | none =>
   rw [readRow_none e] at h
   exact h H (Same.refl H)
  | some mb =>
   obtain ⟨mm,b⟩:=mb
   obtain ⟨i0,ib,bl⟩:=readE_le e
   intro t H1 s1 ht ht1
   refine ⟨_,rfl,t,_,_,_,rfl,rfl,SqT.of ht1,rfl,_,_,rfl,rfl,?_⟩
   refine ⟨_,rfl,t,_,_,_,rfl,rfl,SqT.of ht1,rfl,?_⟩
   refine ⟨(by show 0≤sizeLine; decide),fun nl hnl => ?_⟩
   have hnt:t≠nl:=ne_of_none ht1 hnl
   have e0:readRow bs i=readN (mm - 1).toNat bs b:=by unfold readRow; rw [e]
   refine ⟨fun m σ H' => ∃ (xs:List Int) (bb:Nat) (fv:Option V),m=bs.length - bb∧σ=[some (.ref a),some (.int i),some (.ref t),some (.int (mm - 1)),some (.int bb),some (.ref nl),fv]∧H' nl=some (lsI xs)∧Same H1 H'∧bb≤bs.length∧xs.length≤bb∧xs.length≤(mm - 1).toNat∧readRow bs i=(readN ((mm - 1).toNat - xs.length) bs bb).map fun r => (xs++r.1,r.2),
    ⟨bs.length - b,[],b,none,rfl,rfl,upd_same,same_new hnl _,bl,Nat.zero_le _,Nat.zero_le _,?_⟩,?_⟩
   ·rw [e0]
    show _=(readN (mm - 1).toNat bs b).map _
    cases readN (mm - 1).toNat bs b with
    | none => rfl
    | some r => rfl
   rintro m σ H' ⟨xs,bb,fv,rfl,rfl,hnl',s2,hbb,hxb,hxm,hrr⟩
   refine ⟨_,rfl,nl,_,rfl,.inl (SqL.of hnl'),_,rfl,_,_,rfl,rfl,_,rfl,?_⟩
   rw [len_lsI]
   have hH1:Same H H':=s1.trans s2
   refine ite2 (fun c => ?_) (fun c => ?_)
   ·have c':(xs.length:Int) < mm - 1:=of_decide_eq_true c
    obtain ⟨k,hk⟩:∃ k,(mm - 1).toNat - xs.length=k+1:=⟨(mm - 1).toNat - xs.length - 1,by trivial⟩
    rw [hk] at hrr
    refine ⟨fun σ' H'' => ∃ m',m' < bs.length - bb∧∃ (xs:List Int) (bb:Nat) (fv:Option V),m'=bs.length - bb∧σ'=[some (.ref a),some (.int i),some (.ref t),some (.int (mm - 1)),some (.int bb),some (.ref nl),fv]∧H'' nl=some (lsI xs)∧Same H1 H''∧bb≤bs.length∧xs.length≤bb∧xs.length≤(mm - 1).toNat∧readRow bs i=(readN ((mm - 1).toNat - xs.length) bs bb).map fun r => (xs++r.1,r.2),fun σ' H'' z => z,?_⟩
    refine ⟨_,rfl,_,rfl,a,bs,(bb:Int),rfl,hH1.seq hS,hl,by trivial,?_⟩
    cases e2:readE bs bb with
    | none =>
     rw [readN_stop e2] at hrr
     rw [hrr] at h
     exact h H' hH1
    | some nb =>
     obtain ⟨n',b'⟩:=nb
     obtain ⟨_,lt2,le2⟩:=readE_le e2
     intro t2 H3 s3 ht2 ht3
     have hn3:=s3 _ _ hnl'
     have hnt2:nl≠t2:=ne_of_none hnl' ht2
     have z1:H1 nl=none:=hnl
     refine ⟨_,rfl,.inl ⟨rfl,_,SqL.of hn3⟩,_,rfl,t2,_,_,_,rfl,rfl,SqT.of ht3,rfl,_,_,rfl,rfl,nl,_,_,rfl,rfl,hn3,fits_lt (by rw [len_lsI]; trivial),?_⟩
     refine ⟨_,rfl,t2,_,_,_,rfl,rfl,SqT.of (by rw [upd_ne hnt2.symm]; exact ht3),rfl,?_⟩
     refine ⟨bs.length - b',by trivial,xs++[n' - 1],b',_,rfl,rfl,?_,same_upd (s2.trans s3) _ hnl,le2,?_,?_,?_⟩
     ·rw [upd_same,lsI_app1]
     ·rw [List.length_append,List.length_singleton]; trivial
     ·rw [List.length_append,List.length_singleton]; trivial
     ·rw [hrr,readN_step e2,List.length_append,List.length_singleton,show (mm - 1).toNat - (xs.length+1)=k by trivial]
      cases readN k bs b' with
      | none => rfl
      | some r => simp
   ·have c':¬ (xs.length:Int) < mm - 1:=fun z => c (decide_eq_true z)
    rw [show (mm - 1).toNat - xs.length=0 by trivial] at hrr
    have hrr2:readRow bs i=some (xs,bb):=by rw [hrr]; show some (xs++[],bb)=_; rw [List.append_nil]
    rw [hrr2] at h
    refine ⟨_,rfl,_,rfl,(by show 2≤sizeLine; decide),fun tt htt => ?_⟩
    exact h nl tt _ (hH1.trans (same_new htt _)) (s1.free hnl) (hH1.free htt) (ne_of_none hnl' htt) (by rw [upd_ne (ne_of_none hnl' htt)]; exact hnl') upd_same
end
end K48
namespace K48
open PySem L2 PySem.W PH
section
variable {P:Program} {w:World} {K:Frag} {mg:Str -> Option Value} {base:Heap}
theorem sc_whole:FnScope ["thing"] ["thing"] (defScope s_whole):=⟨rfl,rfl,rfl,by decide +kernel,rfl,by decide +kernel,by decide +kernel⟩
theorem ok_whole {f:Addr} {fd:FuncData} (F:Fun K "is_whole" "is_whole" s_whole f fd) (B:Bls mg):FnOk P w K mg base (CXW P w) 1 f fd ["thing"] (spWhT):=by
 refine F.okN sc_whole (fun vs H Q E h => ?_) (fun cdv A outer s H vs Q E hr h => ?_)
 ·obtain ⟨n,rfl,_⟩:=h
  rfl
 ·obtain ⟨n,rfl,q⟩:=h
  refine ⟨_,(pss_one (ps_ret (pe_and (pe_callB (r:=rIsi K) call_isi rfl B.isi boot_isi (pa_cons (pv 0) (pa_cons (pe_bltn (v:=.ty "int") rfl B.int boot_int' rfl) pa_nil))) (pe_one (pe_not (pe_callB (r:=rIsi K) call_isi rfl B.isi boot_isi (pa_cons (pv 0) (pa_cons (pe_bltn (v:=.ty "bool") rfl B.bool boot_bool' rfl) pa_nil)))))))),?_⟩
  refine ⟨_,rfl,_,_,_,_,true,rfl,.of (.int n),rfl,kit_refl _ _,_,rfl,?_⟩
  refine iteT ?_
  refine ⟨_,rfl,_,_,_,_,false,rfl,.of (.int n),rfl,kit_ib _,_,rfl,?_⟩
  exact q
theorem sc_sign:FnScope ["thing"] ["thing"] (defScope s_sign):=⟨rfl,rfl,rfl,by decide +kernel,rfl,by decide +kernel,by decide +kernel⟩
theorem ok_sign {f f_whole:Addr} {fd d_whole:FuncData} (F:Fun K "is_sign" "is_sign" s_sign f fd) (B:Bls mg) (m_LS:LSf mg) 
  (G_whole:FnOk P w K mg base (CXW P w) 1 f_whole d_whole ["thing"] (spWhT)) (b_whole:Binds K d_whole ["thing"] []) (k_whole:keepIn K (.ref f_whole)=true) (m_whole:mg "is_whole" = some (.ref f_whole)):FnOk P w K mg base (CXW P w) 2 f fd ["thing"] (spSignT):=by
 refine F.okN sc_sign (fun vs H Q E h => ?_) (fun cdv A outer s H vs Q E hr h => ?_)
 ·obtain ⟨n,rfl,_⟩:=h
  rfl
 ·obtain ⟨n,rfl,h0,h1,q⟩:=h
  obtain ⟨u_LS,m_u,r_u⟩:=m_LS
  refine ⟨_,(pss_one (ps_ret (pe_and (pe_call G_whole hr rfl m_whole k_whole b_whole .nil passN (pa_cons (pv 0) pa_nil)) (pe_one (pe_chain op_le op_le pe_int (pv 0) (pe_glob (v:=.int 255) rfl m_u r_u)))))),?_⟩
  refine ⟨_,rfl,n,rfl,_,rfl,?_⟩
  refine iteT ?_
  refine ⟨_,rfl,_,_,rfl,rfl,_,rfl,?_⟩
  rw [decide_eq_true h0]
  refine iteT ?_
  refine ⟨_,_,rfl,rfl,?_⟩
  show Q (.bl (decide (n≤255))) H
  rw [decide_eq_true h1]
  exact q
theorem sc_signs:FnScope ["things"] ["things"] (defScope s_signs):=⟨rfl,rfl,rfl,by decide +kernel,rfl,by decide +kernel,by decide +kernel⟩
theorem ok_signs {f f_sign:Addr} {fd d_sign:FuncData} (F:Fun K "are_signs" "are_signs" s_signs f fd) (B:Bls mg) 
  (G_sign:FnOk P w K mg base (CXW P w) 2 f_sign d_sign ["thing"] (spSignT)) (b_sign:Binds K d_sign ["thing"] []) (k_sign:keepIn K (.ref f_sign)=true) (m_sign:mg "is_sign" = some (.ref f_sign)):FnOk P w K mg base (CXW P w) 3 f fd ["things"] (spSigns K):=by
 refine F.okN sc_signs (fun vs H Q E h => ?_) (fun cdv A outer s H vs Q E hr h => ?_)
 ·obtain ⟨a,r,rfl,_⟩:=h
  rfl
 ·obtain ⟨a,r,rfl,hS,h5,hsg,q⟩:=h
  refine ⟨_,(pss_one (ps_ret (pe_callB (call_allL rfl) rfl B.all boot_all' (pa_cons (pe_comp (N:=["thing"]) (js:=[none]) (g:=(gName 0)) (tc:=tTrue) (te:=(tCall (spSignT) [] E0 (tCons (tVar 0) tNil))) rfl (comp_scope (osc:=defScope s_signs) (XN:=["things"]) rfl rfl rfl (by decide +kernel)) (pi_list (pv 0)) (fun _ _ _ _ => pg_name (i:=0) (show (["thing"]:List Str).Nodup by decide +kernel) rfl (Or.inl rfl)) (fun _ _ _ _ => pif_nil) (fun _ _ _ _ => (pe_call G_sign hr rfl m_sign k_sign b_sign .nil passN (pa_cons (pv 0) pa_nil)))) pa_nil)))),?_⟩
  refine ⟨_,rfl,a,rfl,⟨_,hS⟩,fun D hD => ?_⟩
  refine comp_lstQ (K:=K) (a:=a) (xs:=r.map V.int) (fun i σ' H' => ∃ x:Option V,σ'=[x]∧H' D=some (.lst ((List.replicate i true).map V.bl))∧Same H H')
   ⟨none,rfl,upd_same,same_new hD _⟩ (fun i σ' H' _ ⟨_,_,_,s⟩ => s.seq hS) ?_ ?_
  ·rintro i v σ' H' hi ⟨x,rfl,hD',sm⟩
   obtain ⟨z,rfl,hz⟩:=int_at hi
   have hil:i < r.length:=(List.getElem?_eq_some_iff.mp hz).1
   have hb:=hsg z (List.mem_of_getElem? hz)
   refine nameT ?_
   refine ⟨_,rfl,z,rfl,hb.1,hb.2,?_⟩
   refine ⟨D,_,_,rfl,rfl,hD',fits_lt (by rw [List.length_map,List.length_replicate]; trivial),?_⟩
   refine CW.next (by rw [List.length_map]; exact hil) ⟨_,rfl,?_,same_upd sm _ hD⟩
   rw [upd_same,List.replicate_succ',List.map_append]; rfl
  ·rintro σ' H' ⟨x,rfl,hD',sm⟩
   refine ⟨D,_,rfl,SqL.of hD',?_⟩
   rw [show (List.replicate (r.map V.int).length true).all id=true by rw [List.all_eq_true]; intro b hb; rw [List.eq_of_mem_replicate hb]; rfl]
   exact q _ sm
theorem sc_may:FnScope ["row","hole"] ["row","hole"] (defScope s_may):=⟨rfl,rfl,rfl,by decide +kernel,rfl,by decide +kernel,by decide +kernel⟩
theorem ok_may {f f_signs:Addr} {fd d_signs:FuncData} (F:Fun K "may_be_turned" "may_be_turned" s_may f fd) (B:Bls mg) 
  (G_signs:FnOk P w K mg base (CXW P w) 3 f_signs d_signs ["things"] (spSigns K)) (b_signs:Binds K d_signs ["things"] []) (k_signs:keepIn K (.ref f_signs)=true) (m_signs:mg "are_signs" = some (.ref f_signs)):FnOk P w K mg base (CXW P w) 4 f fd ["row","hole"] (spMayT K):=by
 refine F.okN sc_may (fun vs H Q E h => ?_) (fun cdv A outer s H vs Q E hr h => ?_)
 ·obtain ⟨a,r,h,rfl,_⟩:=h
  rfl
 ·obtain ⟨a,r,h,rfl,hS,h5,hsg,q⟩:=h
  refine ⟨_,(pss_one (ps_ret (pe_and (pe_call G_signs hr rfl m_signs k_signs b_signs .nil passN (pa_cons (pv 0) pa_nil)) (pe_one (pe_chain op_le op_le pe_int (pv 1) (pe_callB call_len_seq rfl B.len PySem.boot_len (pa_cons (pv 0) pa_nil))))))),?_⟩
  refine ⟨_,rfl,a,r,rfl,hS,h5,hsg,fun H1 s1 => ?_⟩
  refine ⟨_,rfl,?_⟩
  refine iteT ?_
  refine ⟨_,rfl,_,_,rfl,rfl,_,rfl,?_⟩
  by_cases h0:0≤h
  ·rw [decide_eq_true h0]
   refine iteT ?_
   refine ⟨_,rfl,a,_,rfl,.inl (s1.seq hS),_,_,rfl,rfl,?_⟩
   have:=q H1 s1
   rw [show decide (0≤h∧h≤(r.length:Int))=decide (h≤(((r.map V.int).length:Nat):Int)) by rw [List.length_map]; exact decide_eq_decide.mpr ⟨fun z => z.2,fun z => ⟨h0,z⟩⟩] at this
   exact this
  ·rw [decide_eq_false h0]
   refine iteF ?_
   have:=q H1 s1
   rw [decide_eq_false (fun z => h0 z.1)] at this
   exact this
end
end K48
namespace K48
open PySem L2 PySem.W PH
section
variable {P:Program} {w:World} {K:Frag} {mg:Str -> Option Value} {base:Heap}
theorem sc_rise:FnScope ["pairs","ahead","sign","number"] ["pairs"] (defScope s_rise):=⟨rfl,rfl,rfl,by decide +kernel,rfl,by decide +kernel,by decide +kernel⟩
theorem ok_rise {f:Addr} {fd:FuncData} (F:Fun K "signs_rise" "signs_rise" s_rise f fd) (B:Bls mg) (m_LS:LS mg):FnOk P w K mg base (CXW P w) 1 f fd ["pairs"] (spRise):=by
 refine F.okN sc_rise (fun vs H Q E h => ?_) (fun cdv A outer s H vs Q E hr h => ?_)
 ·obtain ⟨p,zs,rfl,_⟩:=h
  rfl
 ·obtain ⟨p,zs,rfl,prZ,q⟩:=h
  obtain ⟨u_LS,m_u,r_u⟩:=m_LS
  refine ⟨_,(pss_cons (ps_set (i:=1) sc_rise.nd rfl (Or.inl rfl) (pe_un un_neg pe_int))
   (pss_cons (ps_for PassesOwn.never rfl (pi_list (pv 0)) (pg_tup rfl (pgs_cons (pg_name (i:=2) sc_rise.nd rfl (Or.inl rfl)) (pgs_cons (pg_name (i:=3) sc_rise.nd rfl (Or.inl rfl)) pgs_nil)))
    (pss_cons (ps_if (PW.pt (pw_or (pt_cmpR op_le (pv 2) (pv 1) (nomark _)) (pw_or1 (pt_cmpR op_gt (pv 2) (pe_glob (v:=.int 255) rfl m_u r_u) (nomark _)))))
     (pss_one (ps_ret pe_bl))
     pss_nil)
    (pss_one (ps_set (i:=1) sc_rise.nd rfl (Or.inl rfl) (pv 2)))))
   (pss_one (ps_ret pe_bl)))),?_⟩
  generalize hcs:zs.map (·.2)=cs at q
  have hF:riseB (-1) cs=false -> Q (.bl false) H:=fun e => by rwa [e] at q
  refine ⟨1,rfl,?_⟩
  refine ⟨_,rfl,p,rfl,⟨_,SqL.of prZ.at_⟩,for_list (K:=K) (a:=p) (xs:=zs.map fun z => V.ref z.1) (fun k σ H2 => ∃ (ah:Int) (v2 v3:Option V),σ=[some (.ref p),some (.int ah),v2,v3]∧H2=H∧riseB (-1) cs=riseB ah (cs.drop k))
   ⟨-1,none,none,rfl,rfl,by rw [List.drop_zero]⟩ (fun k σ H2 _ ⟨_,_,_,_,e,_⟩ => by rw [e]; exact SqL.of prZ.at_) ?_ ?_⟩
  ·rintro k y σ H2 hi ⟨ah,v2,v3,rfl,rfl,hr⟩
   obtain ⟨z,hz,rfl⟩:=ref_at hi
   have hck:cs[k]?=some z.2:=by rw [← hcs,List.getElem?_map,hz]; rfl
   rw [riseB_step hck] at hr
   refine ⟨z.1,_,rfl,SqT.of (prZ.each z (List.mem_of_getElem? hz)),rfl,_,_,rfl,_,_,rfl,rfl,?_⟩
   refine ⟨_,rfl,_,rfl,_,_,rfl,rfl,_,rfl,?_⟩
   by_cases h1:z.2.1≤ah
   ·rw [decide_eq_true h1]
    refine iteT (iteT ?_)
    exact hF (by rw [hr,decide_eq_false (show ¬ ah < z.2.1 by trivial)]; rfl)
   rw [decide_eq_false h1]
   refine iteF ?_
   refine ⟨_,rfl,_,_,rfl,rfl,_,rfl,?_⟩
   by_cases h2:255 < z.2.1
   ·rw [decide_eq_true h2]
    refine iteT ?_
    exact hF (by rw [hr,decide_eq_false (show ¬ z.2.1≤255 by trivial),Bool.and_false]; rfl)
   rw [decide_eq_false h2]
   refine iteF ?_
   refine ⟨_,rfl,?_⟩
   exact ⟨z.2.1,_,_,rfl,rfl,by rw [hr,decide_eq_true (show ah < z.2.1 by trivial),decide_eq_true (show z.2.1≤255 by trivial)]; rfl⟩
  ·rintro σ H2 ⟨ah,v2,v3,rfl,rfl,hr⟩
   rw [hr,List.drop_of_length_le (by rw [← hcs,List.length_map,List.length_map]; exact Nat.le_refl _)] at q
   exact q
end
end K48
namespace K48
open PySem L2 PySem.W PH
section
variable {P:Program} {w:World} {K:Frag} {mg:Str -> Option Value} {base:Heap}
theorem sc_room:FnScope ["lengths","times","sign","length","room"] ["lengths"] (defScope s_room):=⟨rfl,rfl,rfl,by decide +kernel,rfl,by decide +kernel,by decide +kernel⟩
theorem ok_room {f:Addr} {fd:FuncData} (F:Fun K "have_room" "have_room" s_room f fd) (B:Bls mg) (m_LW:LW mg):FnOk P w K mg base (CXW P w) 1 f fd ["lengths"] (spRoom):=by
 refine F.okN sc_room (fun vs H Q E h => ?_) (fun cdv A outer s H vs Q E hr h => ?_)
 ·obtain ⟨p,zs,rfl,_⟩:=h
  rfl
 ·obtain ⟨p,zs,rfl,prZ,hzl,hQ⟩:=h
  obtain ⟨u_LW,m_w,r_w⟩:=m_LW
  refine ⟨_,(pss_cons (ps_set (i:=1) sc_room.nd rfl (Or.inl rfl) pe_dnewK)
   (pss_cons (ps_for PassesOwn.never rfl (pi_list (pv 0)) (pg_tup rfl (pgs_cons (pg_name (i:=2) sc_room.nd rfl (Or.inl rfl)) (pgs_cons (pg_name (i:=3) sc_room.nd rfl (Or.inl rfl)) pgs_nil)))
    (pss_one (ps_dput (hu_of hr) (pv 1) (pv 3) (pe_op op_add (pe_dget2 (hu_of hr) (pv 1) (pv 3) pe_int ⟨rfl,rfl,rfl,rfl⟩) pe_int) rfl)))
   (pss_cons (ps_set (i:=4) sc_room.nd rfl (Or.inl rfl) pe_int)
   (pss_cons (ps_for PassesOwn.never rfl (pi_range2 rfl B.range (pa_cons pe_int (pa_cons (pe_op op_add (pe_glob (v:=.int 256) rfl m_w r_w) pe_int) pa_nil))) (pg_name (i:=3) sc_room.nd rfl (Or.inl rfl))
    (pss_cons (ps_set (i:=4) sc_room.nd rfl (Or.inl rfl) (pe_op op_sub (pe_op op_mul pe_int (pv 4)) (pe_dget2 (hu_of hr) (pv 1) (pv 3) pe_int ⟨rfl,rfl,rfl,rfl⟩)))
    (pss_one (ps_if (pt_cmpR op_lt (pv 4) pe_int (nomark _))
     (pss_one (ps_ret pe_bl))
     pss_nil))))
   (pss_one (ps_ret pe_bl)))))),?_⟩
  generalize hcs:zs.map (·.2)=cs at hQ
  have hcl:cs.length=zs.length:=by rw [← hcs,List.length_map]
  refine fun dt hdt => ?_
  have s0:=same_new hdt (.dK [])
  refine ⟨_,rfl,p,rfl,⟨_,SqL.of (s0 _ _ prZ.at_)⟩,for_list (K:=K) (a:=p) (xs:=zs.map fun z => V.ref z.1) (fun i σ H2 => ∃ (v2 v3 v4:Option V) (ks:List Int),σ=[some (.ref p),some (.ref dt),v2,v3,v4]∧H2 dt=some (.dK (cntD ks ((cs.map (·.2)).take i)))∧ks.Nodup∧(∀ k,k∈ks ↔ k∈(cs.map (·.2)).take i)∧ks.length≤i∧Same H H2)
   ⟨none,none,none,[],rfl,upd_same,List.nodup_nil,(fun k => by rw [List.take_zero]),Nat.le_refl _,s0⟩ (fun i σ H2 _ ⟨_,_,_,_,_,_,_,_,_,e⟩ => SqL.of (e _ _ prZ.at_)) ?_ ?_⟩
  ·rintro i y σ H2 hi ⟨v2,v3,v4,ks,rfl,hd2,nd,hm,hkl,sm⟩
   obtain ⟨z,hz,rfl⟩:=ref_at hi
   have hil:i < zs.length:=(List.getElem?_eq_some_iff.mp hz).1
   have hli:(cs.map (·.2))[i]?=some z.2.2:=by rw [List.getElem?_map,← hcs,List.getElem?_map,hz]; rfl
   refine ⟨z.1,_,rfl,SqT.of (sm _ _ (prZ.each z (List.mem_of_getElem? hz))),rfl,_,_,rfl,_,_,rfl,rfl,?_⟩
   have hg:=DGet.k (k:=Sum.inl z.2.2) hd2
   rw [valV_cntD] at hg
   refine ⟨_,rfl,dt,rfl,.inl ⟨_,.inl hd2⟩,_,rfl,_,hg,(((cs.map (·.2)).take i).count z.2.2:Int),1,?_,rfl,?_⟩
   ·show ((if z.2.2∈ks then some (V.int (((cs.map (·.2)).take i).count z.2.2:Int)) else none).getD (.int 0))=.int (((cs.map (·.2)).take i).count z.2.2:Int)
    by_cases h:z.2.2∈ks
    ·rw [if_pos h]; rfl
    ·rw [if_neg h]
     have:((cs.map (·.2)).take i).count z.2.2=0:=List.count_eq_zero.mpr fun q => h ((hm _).mpr q)
     rw [this]; rfl
   refine ⟨_,rfl,_,rfl,dt,_,rfl,DPut.k (k:=Sum.inl z.2.2) hd2 (fits_lt (by unfold cntD; rw [List.length_map]; trivial)),?_⟩
   rw [put_cntD hm,← take_at hli]
   refine ⟨_,_,_,if z.2.2∈ks then ks else ks++[z.2.2],rfl,upd_same,?_,fun k => ?_,?_,same_upd sm _ hdt⟩
   ·by_cases h:z.2.2∈ks
    ·rw [if_pos h]; exact nd
    ·rw [if_neg h]; exact nd_snoc nd h
   ·rw [take_at hli,List.mem_append,List.mem_singleton,← hm]
    by_cases h:z.2.2∈ks
    ·rw [if_pos h]
     constructor
     ·exact .inl
     ·rintro (q | q)
      ·exact q
      ·rw [q]; exact h
    ·rw [if_neg h,List.mem_append,List.mem_singleton]
   ·by_cases h:z.2.2∈ks
    ·rw [if_pos h]; trivial
    ·rw [if_neg h,List.length_append,List.length_singleton]; trivial
  rintro σ H2 ⟨v2,v3,v4,ks,rfl,hd2,nd,hm,hkl,sm⟩
  rw [List.length_map,List.take_of_length_le (by rw [List.length_map]; trivial)] at hm hd2
  refine ⟨_,_,rfl,rfl,_,_,rfl,⟨by decide,by decide,by decide,by decide⟩,?_⟩
  refine for_range (n:=256) (fun i σ H3 => ∃ (v2 v3:Option V),σ=[some (.ref p),some (.ref dt),v2,v3,some (.int (rmA cs i))]∧H3=H2∧∀ k,k < i -> 0≤rmA cs (k+1))
   ⟨_,_,rfl,rfl,fun _ h => absurd h (Nat.not_lt_zero _)⟩ ?_ ?_
  ·rintro i σ H3 hi ⟨w2,w3,rfl,rfl,hp⟩
   have ei:(1:Int)+(i:Int)=((i+1:Nat):Int):=by trivial
   rw [ei]
   have hg:=DGet.k (k:=Sum.inl ((i+1:Nat):Int)) hd2
   rw [valV_cntD] at hg
   refine ⟨_,rfl,_,_,rfl,rfl,.inl ⟨by decide,by decide⟩,_,rfl,dt,rfl,.inl ⟨_,.inl hd2⟩,_,rfl,_,hg,2 * rmA cs i,((cs.map (·.2)).count ((i+1:Nat):Int):Int),rfl,?_,?_⟩
   ·by_cases h:((i+1:Nat):Int)∈ks
    ·rw [if_pos h]; rfl
    ·rw [if_neg h]
     have:(cs.map (·.2)).count ((i+1:Nat):Int)=0:=List.count_eq_zero.mpr fun q => h ((hm _).mpr q)
     rw [this]; rfl
   refine ⟨_,rfl,_,_,rfl,rfl,_,rfl,?_⟩
   rw [show decide (2 * rmA cs i - ((cs.map (·.2)).count ((i+1:Nat):Int):Int) < 0)=decide (rmA cs (i+1) < 0) from rfl]
   by_cases hneg:rmA cs (i+1) < 0
   ·rw [decide_eq_true hneg]
    refine iteT ?_
    have:=hQ H3 sm
    rw [roomB_no hi hneg] at this
    exact this
   ·rw [decide_eq_false hneg]
    refine iteF ?_
    refine ⟨_,_,rfl,rfl,fun k hk => ?_⟩
    by_cases h:k < i
    ·exact hp k h
    ·have:k=i:=by trivial
     subst this
     trivial
  ·rintro σ H3 ⟨w2,w3,rfl,rfl,hp⟩
   have:=hQ H3 sm
   rw [roomB_yes hp] at this
   exact this
theorem sc_can:FnScope ["lengths"] ["lengths"] (defScope s_can):=⟨rfl,rfl,rfl,by decide +kernel,rfl,by decide +kernel,by decide +kernel⟩
theorem ok_can {f f_rise f_room:Addr} {fd d_rise d_room:FuncData} (F:Fun K "can_be_words" "can_be_words" s_can f fd) (B:Bls mg) (m_LW:LW mg) 
  (G_rise:FnOk P w K mg base (CXW P w) 1 f_rise d_rise ["pairs"] (spRise)) (b_rise:Binds K d_rise ["pairs"] []) (k_rise:keepIn K (.ref f_rise)=true) (m_rise:mg "signs_rise" = some (.ref f_rise)) 
  (G_room:FnOk P w K mg base (CXW P w) 1 f_room d_room ["lengths"] (spRoom)) (b_room:Binds K d_room ["lengths"] []) (k_room:keepIn K (.ref f_room)=true) (m_room:mg "have_room" = some (.ref f_room)):FnOk P w K mg base (CXW P w) 2 f fd ["lengths"] (spCan):=by
 refine F.okN sc_can (fun vs H Q E h => ?_) (fun cdv A outer s H vs Q E hr h => ?_)
 ·obtain ⟨p,zs,rfl,_⟩:=h
  rfl
 ·obtain ⟨p,zs,rfl,prZ,hzl,hQ⟩:=h
  obtain ⟨u_LW,m_w,r_w⟩:=m_LW
  refine ⟨_,(pss_cons (ps_if (pt_not (pt_val (pe_call G_rise hr rfl m_rise k_rise b_rise .nil passN (pa_cons (pv 0) pa_nil))))
    (pss_one (ps_ret pe_bl))
    pss_nil)
   (pss_cons (ps_if (pt_not (pt_val (pe_callB (call_allL rfl) rfl B.all boot_all' (pa_cons (pe_comp (N:=["sign","length"]) (js:=[none,none]) (g:=(gTup K 2 (gCons (gName 0) (gCons (gName 1) gNil)))) (tc:=tTrue) (te:=(tChain (rI0 fun i j => .bl (decide (i≤j))) (rI0 fun i j => .bl (decide (i≤j))) (tC (.int 1)) (tVar 1) (tC (.int 256)))) rfl (comp_scope (osc:=defScope s_can) (XN:=["lengths"]) rfl rfl rfl (by decide +kernel)) (pi_list (pv 0)) (fun _ _ _ _ => pg_tup rfl (pgs_cons (pg_name (i:=0) (show (["sign","length"]:List Str).Nodup by decide +kernel) rfl (Or.inl rfl)) (pgs_cons (pg_name (i:=1) (show (["sign","length"]:List Str).Nodup by decide +kernel) rfl (Or.inl rfl)) pgs_nil))) (fun _ _ _ _ => pif_nil) (fun _ _ _ _ => (pe_chain op_le op_le pe_int (pv 1) (pe_glob (v:=.int 256) rfl m_w r_w)))) pa_nil))))
    (pss_one (ps_ret pe_bl))
    pss_nil)
   (pss_one (ps_ret (pe_call G_room hr rfl m_room k_room b_room .nil passN (pa_cons (pv 0) pa_nil)))))),?_⟩
  generalize hcs:zs.map (·.2)=cs at hQ
  have hF:∀ H',Same H H' -> canB cs=false -> Q (.bl false) H':=fun H' s e => by
   have:=hQ H' s
   rwa [e] at this
  refine ⟨_,rfl,p,zs,rfl,prZ,_,rfl,?_⟩
  rw [hcs]
  cases hb:riseB (-1) cs with
  | false =>
   refine iteT ?_
   exact hF _ (Same.refl _) (by unfold canB; rw [hb]; rfl)
  | true =>
   refine iteF ?_
   refine ⟨_,rfl,p,rfl,⟨_,SqL.of prZ.at_⟩,fun D hD => ?_⟩
   refine comp_lstQ (K:=K) (a:=p) (xs:=zs.map fun z => V.ref z.1) (fun i σ' H' => ∃ (x y:Option V) (bs:List Bool),σ'=[x,y]∧H' D=some (.lst (bs.map V.bl))∧bs=(cs.take i).map (fun c => decide (1≤c.2) && decide (c.2≤256))∧Same H H')
    ⟨none,none,[],rfl,upd_same,by rw [List.take_zero]; rfl,same_new hD _⟩ (fun i σ' H' _ ⟨_,_,_,_,_,_,e⟩ => SqL.of (e _ _ prZ.at_)) ?_ ?_
   ·rintro i v σ' H' hi ⟨x,y,bs,rfl,hB,hbs,sm⟩
    obtain ⟨z,hz,rfl⟩:=ref_at hi
    have hlt:i < (zs.map fun z => V.ref z.1).length:=(List.getElem?_eq_some_iff.mp hi).1
    have hck:cs[i]?=some z.2:=by rw [← hcs,List.getElem?_map,hz]; rfl
    have hbl:bs.length≤i:=by rw [hbs,List.length_map,List.length_take]; trivial
    refine ⟨z.1,_,rfl,SqT.of (sm _ _ (prZ.each z (List.mem_of_getElem? hz))),rfl,_,_,rfl,_,_,rfl,rfl,?_⟩
    refine trueT ?_
    have go:∀ b:Bool,b=(decide (1≤z.2.2) && decide (z.2.2≤256)) -> rAppend (.ref D) [.bl b] H' fun _ H6 => ∃ m',m' < (zs.map fun z => V.ref z.1).length - i∧CW (zs.map fun z => V.ref z.1).length (fun i σ' H' => ∃ (x y:Option V) (bs:List Bool),σ'=[x,y]∧H' D=some (.lst (bs.map V.bl))∧bs=(cs.take i).map (fun c => decide (1≤c.2) && decide (c.2≤256))∧Same H H') (i+1) m' [some (.int z.2.1),some (.int z.2.2)] H6:=fun b hb' => by
     refine ⟨D,_,_,rfl,rfl,hB,fits_lt (by rw [List.length_map]; rw [List.length_map] at hlt; trivial),?_⟩
     refine CW.next hlt ⟨_,_,bs++[b],rfl,by rw [upd_same,List.map_append]; rfl,?_,same_upd sm _ hD⟩
     rw [hbs,take_at hck,List.map_append,hb']
     rfl
    refine ⟨_,rfl,_,_,rfl,rfl,_,rfl,?_⟩
    by_cases h1:1≤z.2.2
    ·rw [decide_eq_true h1]
     refine iteT ?_
     refine ⟨_,_,rfl,rfl,?_⟩
     exact go _ (by rw [decide_eq_true h1,Bool.true_and])
    ·rw [decide_eq_false h1]
     refine iteF ?_
     exact go _ (by rw [decide_eq_false h1,Bool.false_and])
   ·rintro σ' H' ⟨x,y,bs,rfl,hB,hbs,sm⟩
    rw [List.take_of_length_le (by rw [← hcs,List.length_map,List.length_map]; exact Nat.le_refl _)] at hbs
    refine ⟨D,bs,rfl,SqL.of hB,_,rfl,?_⟩
    have el:bs.all id=lenB cs:=by rw [hbs,List.all_map]; rfl
    rw [el]
    cases hl:lenB cs with
    | false =>
     refine iteT ?_
     exact hF _ sm (by unfold canB; rw [hl,Bool.and_false]; rfl)
    | true =>
     refine iteF ?_
     refine ⟨_,rfl,p,zs,rfl,prZ.same sm,hzl,fun H3 s3 => ?_⟩
     have:=hQ H3 (sm.trans s3)
     unfold canB at this
     rw [hb,hl,Bool.true_and,Bool.true_and] at this
     rw [hcs]
     exact this
theorem sc_next:FnScope ["word","length","behind"] ["word","length"] (defScope s_next):=⟨rfl,rfl,rfl,by decide +kernel,rfl,by decide +kernel,by decide +kernel⟩
theorem ok_next {f c_NoNumber f_low f_num:Addr} {fd d_low d_num:FuncData} (F:Fun K "next_word" "next_word" s_next f fd) (B:Bls mg) 
  (G_low:FnOk P w K mg base (CXW P w) 1 f_low d_low ["n","k"] (spLow c_NoNumber)) (b_low:Binds K d_low ["n","k"] []) (k_low:keepIn K (.ref f_low)=true) (m_low:mg "low_bits" = some (.ref f_low)) 
  (G_num:FnOk P w K mg base (CXW P w) 1 f_num d_num ["bits"] (spWorth K)) (b_num:Binds K d_num ["bits"] []) (k_num:keepIn K (.ref f_num)=true) (m_num:mg "number_of" = some (.ref f_num)):FnOk P w K mg base (CXW P w) 2 f fd ["word","length"] (spNext K):=by
 refine F.okN sc_next (fun vs H Q E h => ?_) (fun cdv A outer s H vs Q E hr h => ?_)
 ·obtain ⟨a,ws,L,rfl,_⟩:=h
  rfl
 ·obtain ⟨a,ws,L,rfl,hS,hb,hl,h1,h2,hQ⟩:=h
  refine ⟨_,(pss_cons (ps_set (i:=2) sc_next.nd rfl (Or.inl rfl) (pe_call G_low hr rfl m_low k_low b_low .nil passN (pa_cons (pe_op op_add (pe_call G_num hr rfl m_num k_num b_num .nil passN (pa_cons (pv 0) pa_nil)) pe_int) (pa_cons (pe_callB call_len_seq rfl B.len PySem.boot_len (pa_cons (pv 0) pa_nil)) pa_nil))))
   (pss_one (ps_ret (pe_op op_cat (pv 2) (pe_op op_rep (pe_lst (pa_cons pe_int pa_nil)) (pe_op op_sub (pv 1) (pe_callB call_len_seq rfl B.len PySem.boot_len (pa_cons (pv 0) pa_nil)))))))),?_⟩
  refine ⟨_,rfl,a,ws,rfl,hS,_,_,rfl,rfl,_,rfl,a,_,rfl,.inl hS,?_⟩
  rw [List.length_map]
  have hw0:=(worth_bound hb).1
  refine ⟨worth ws+1,ws.length,rfl,by trivial,.inr ⟨⟨by trivial,hl⟩,fun b hbn => ?_⟩⟩
  have s1:=same_new hbn (lsI (lowb (worth ws+1) ws.length))
  have hb1:upd H b (lsI (lowb (worth ws+1) ws.length)) b=some (lsI (lowb (worth ws+1) ws.length)):=upd_same
  generalize upd H b (lsI (lowb (worth ws+1) ws.length))=H1 at s1 hb1 ⊢
  refine ⟨_,rfl,(by show 1≤sizeLine; decide),fun l0 hl0 => ?_⟩
  have s2:=same_new hl0 (.lst [V.int 0])
  refine ⟨_,rfl,_,rfl,a,_,rfl,.inl (s2.seq (s1.seq hS)),_,_,rfl,rfl,?_⟩
  rw [List.length_map]
  have em:(L:Int) - (ws.length:Int)=((L - ws.length:Nat):Int):=by trivial
  refine ⟨l0,((L - ws.length:Nat):Int),_,rfl,by show V.int ((L:Int) - (ws.length:Int))=_; rw [em],upd_same,by trivial,by trivial,?_,fun l1 hl1 => ?_⟩
  ·rw [Int.toNat_natCast]
   have:1 * (L - ws.length)≤256:=by trivial
   exact Nat.le_trans this (by decide)
  rw [Int.toNat_natCast,rep_zer]
  have s3:=same_new hl1 (lsI (zer (L - ws.length)))
  refine ⟨b,l1,_,_,rfl,rfl,(s2.trans s3) _ _ hb1,upd_same,fits (by rw [len_lsI,len_lsI,lowb_length,zer_len]; trivial),fun r hr => ?_⟩
  have s4:=same_new hr (.lst ((lowb (worth ws+1) ws.length).map V.int++(zer (L - ws.length)).map V.int))
  have S:=s1.trans (s2.trans s3)
  refine hQ r _ (S.trans s4) (S.free hr) ?_
  rw [upd_same,lsI_app]
  rfl
end
end K48
namespace K48
open PySem L2 PySem.W PH
section
variable {P:Program} {w:World} {K:Frag} {mg:Str -> Option Value} {base:Heap}
theorem sc_words:FnScope ["lengths","words","word","length","sign"] ["lengths"] (defScope s_words):=⟨rfl,rfl,rfl,by decide +kernel,rfl,by decide +kernel,by decide +kernel⟩
theorem ok_words {f c_NoCode f_can f_next:Addr} {fd d_can d_next:FuncData} (F:Fun K "words_by" "words_by" s_words f fd) (B:Bls mg) (X_NoCode:Ex K mg "NoCode" c_NoCode) (m_NoCode:mg "NoCode" = some (.ref c_NoCode)) 
  (G_can:FnOk P w K mg base (CXW P w) 2 f_can d_can ["lengths"] (spCan)) (b_can:Binds K d_can ["lengths"] []) (k_can:keepIn K (.ref f_can)=true) (m_can:mg "can_be_words" = some (.ref f_can)) 
  (G_next:FnOk P w K mg base (CXW P w) 2 f_next d_next ["word","length"] (spNext K)) (b_next:Binds K d_next ["word","length"] []) (k_next:keepIn K (.ref f_next)=true) (m_next:mg "next_word" = some (.ref f_next)):FnOk P w K mg base (CXW P w) 3 f fd ["lengths"] (spWords c_NoCode):=by
 refine F.okX sc_words (fun vs H Q E h => ?_) (fun cdv A outer s H vs Q E hr h => ?_)
 ·obtain ⟨p,zs,rfl,_⟩:=h
  rfl
 ·obtain ⟨p,zs,rfl,prZ,hzl,hE,hQ⟩:=h
  refine ⟨_,(pss_cons (ps_if (pt_not (pt_val (pe_call G_can hr rfl m_can k_can b_can .nil passW (pa_cons (pv 0) pa_nil))))
    (pss_one (ps_raise PySem.F.excBase_ValueError X_NoCode.ex X_NoCode.mg rfl))
    pss_nil)
   (pss_cons (ps_set (i:=1) sc_words.nd rfl (Or.inr rfl) pe_dnewK)
   (pss_cons (ps_set (i:=2) sc_words.nd rfl (Or.inl rfl) (pe_lst pa_nil))
   (pss_cons (ps_for pown rfl (pi_list (pe_callB call_sortedT rfl B.sorted boot_sorted' (pa_cons (pe_comp (N:=["sign","length"]) (js:=[none,none]) (g:=(gTup K 2 (gCons (gName 0) (gCons (gName 1) gNil)))) (tc:=tTrue) (te:=(tTup (tCons (tVar 1) (tCons (tVar 0) tNil)))) rfl (comp_scope (osc:=defScope s_words) (XN:=["lengths","words","word","length","sign"]) rfl rfl rfl (by decide +kernel)) (pi_list (pv 0)) (fun _ _ _ _ => pg_tup rfl (pgs_cons (pg_name (i:=0) (show (["sign","length"]:List Str).Nodup by decide +kernel) rfl (Or.inl rfl)) (pgs_cons (pg_name (i:=1) (show (["sign","length"]:List Str).Nodup by decide +kernel) rfl (Or.inl rfl)) pgs_nil))) (fun _ _ _ _ => pif_nil) (fun _ _ _ _ => (pe_tup (pa_cons (pv 1) (pa_cons (pv 0) pa_nil))))) pa_nil))) (pg_tup rfl (pgs_cons (pg_name (i:=3) sc_words.nd rfl (Or.inl rfl)) (pgs_cons (pg_name (i:=4) sc_words.nd rfl (Or.inl rfl)) pgs_nil)))
    (pss_cons (ps_if (pt_cmpR op_eq (pe_callB call_lenD rfl B.len PySem.boot_len (pa_cons (pv 1) pa_nil)) pe_int (nomark _))
     (pss_one (ps_set (i:=2) sc_words.nd rfl (Or.inl rfl) (pe_op op_rep (pe_lst (pa_cons pe_int pa_nil)) (pv 3))))
     (pss_one (ps_set (i:=2) sc_words.nd rfl (Or.inl rfl) (pe_call G_next hr rfl m_next k_next b_next .nil passW (pa_cons (pv 2) (pa_cons (pv 3) pa_nil))))))
    (pss_one (ps_dput (hu_of hr) (pv 1) (pv 4) (pv 2) rfl))))
   (pss_one (ps_ret (pe_comp (N:=["sign","length","words"]) (js:=[none,none,some 1]) (g:=(gTup K 2 (gCons (gName 0) (gCons (gName 1) gNil)))) (tc:=tTrue) (te:=(tTup (tCons (tVar 0) (tCons (tDGet (tVar 2) (tVar 0)) tNil)))) rfl (comp_scope (osc:=defScope s_words) (XN:=["lengths","words","word","length","sign"]) rfl rfl rfl (by decide +kernel)) (pi_list (pv 0)) (fun _ _ _ _ => pg_tup rfl (pgs_cons (pg_name (i:=0) (show (["sign","length","words"]:List Str).Nodup by decide +kernel) rfl (Or.inl rfl)) (pgs_cons (pg_name (i:=1) (show (["sign","length","words"]:List Str).Nodup by decide +kernel) rfl (Or.inl rfl)) pgs_nil))) (fun _ _ _ _ => pif_nil) (fun _ _ _ _ => (pe_tup (pa_cons (pv 0) (pa_cons (pe_dget (hu_of hr) (pv 2) (pv 0) (fun _ _ => rfl)) pa_nil))))))))))),?_⟩
  generalize hcs:zs.map (·.2)=cs at hE hQ
  have hcl:cs.length=zs.length:=by rw [← hcs,List.length_map]
  refine ⟨_,rfl,p,zs,rfl,prZ,hzl,fun H1 s1 => ⟨_,rfl,?_⟩⟩
  rw [hcs]
  cases hb:canB cs with
  | false =>
   refine iteT ?_
   exact hE hb _ s1
  | true =>
   refine iteF ?_
   obtain ⟨hlen,hsum⟩:=can_lens hb
   have hsg:=can_signs hb
   have hup:=lens_up cs hlen
   have hsl:(stO cs).length=zs.length:=by unfold stO; rw [srt_len,List.length_map,hcl]
   refine fun dt hdt => ?_
   have s2:=s1.trans (same_new hdt (.dK []))
   have hdH:H dt=none:=s1.free hdt
   refine ⟨(by show 0≤sizeLine; decide),fun w0 hw0 => ?_⟩
   have s3:=s2.trans (same_new hw0 (.lst []))
   have hd3:upd (upd H1 dt (.dK [])) w0 (.lst []) dt=some (.dK []):=(same_new hw0 _) _ _ upd_same
   generalize upd (upd H1 dt (.dK [])) w0 (.lst [])=H3 at s3 hd3 ⊢
   refine ⟨_,rfl,p,rfl,⟨_,SqL.of (s3 _ _ prZ.at_)⟩,fun D hD => ?_⟩
   refine comp_lstQ (K:=K) (a:=p) (xs:=zs.map fun z => V.ref z.1) (fun i σ' H' => ∃ (x y:Option V) (th:List (Addr×Int×Int)),σ'=[x,y]∧Prs H' D th∧th.map (·.2)=(cs.map swp).take i∧th.length≤i∧Same H3 H')
    ⟨none,none,[],rfl,⟨upd_same,(fun _ z => by cases z)⟩,by rw [List.take_zero]; rfl,Nat.le_refl _,same_new hD _⟩ (fun i σ' H' _ ⟨_,_,_,_,_,_,_,e⟩ => SqL.of (e _ _ (s3 _ _ prZ.at_))) ?_ ?_
   ·rintro i v σ' H' hi ⟨x,y,th,rfl,prT,hth,htl,sm⟩
    obtain ⟨z,hz,rfl⟩:=ref_at hi
    have hlt:i < (zs.map fun z => V.ref z.1).length:=(List.getElem?_eq_some_iff.mp hi).1
    have hil:i < zs.length:=(List.getElem?_eq_some_iff.mp hz).1
    have hck:(cs.map swp)[i]?=some (swp z.2):=by rw [List.getElem?_map,← hcs,List.getElem?_map,hz]; rfl
    refine ⟨z.1,_,rfl,SqT.of (sm _ _ (s3 _ _ (prZ.each z (List.mem_of_getElem? hz)))),rfl,_,_,rfl,_,_,rfl,rfl,?_⟩
    refine trueT ?_
    refine ⟨_,rfl,_,rfl,(by show 2≤sizeLine; decide),fun t ht => ?_⟩
    have st:=same_new ht (.tup [.int z.2.2,.int z.2.1])
    refine ⟨D,_,_,rfl,rfl,st _ _ prT.at_,fits_lt (by rw [List.length_map]; trivial),?_⟩
    refine CW.next hlt ⟨_,_,th++[(t,z.2.2,z.2.1)],rfl,(prT.same st).app upd_same,?_,by rw [List.length_append,List.length_singleton]; trivial,same_upd (sm.trans st) _ hD⟩
    rw [List.map_append,hth,take_at hck]; rfl
   rintro σ' H4 ⟨x,y,th,rfl,prT,hth,htl,sm⟩
   rw [List.length_map,List.take_of_length_le (by rw [List.length_map]; trivial)] at hth
   refine ⟨D,th,rfl,SqL.of prT.at_,(fun z hz => SqT.of (prT.each z hz)),fun tz' q hp hs hq => ?_⟩
   have est:tz'.map (·.2)=stO cs:=by unfold stO; rw [← hth]; exact srt_eq (hp.map _) hs
   have prQ:Prs (upd H4 q (.lst (tz'.map fun z => V.ref z.1))) q tz':=⟨upd_same,fun z hz => (same_new hq _) _ _ (prT.each z (hp.mem_iff.mp hz))⟩
   have s5:=s3.trans (sm.trans (same_new hq (.lst (tz'.map fun z => V.ref z.1))))
   have hd5:=(same_new hq (.lst (tz'.map fun z => V.ref z.1))) _ _ (sm _ _ hd3)
   generalize upd H4 q (.lst (tz'.map fun z => V.ref z.1))=H5 at prQ s5 hd5 ⊢
   have nqd:q≠dt:=fun e => by have:=prQ.at_; rw [e,hd5] at this; cases this
   have nzd:∀ z∈tz',z.1≠dt:=fun z hz e => by have:=prQ.each z hz; rw [e,hd5] at this; cases this
   have kS:∀ {H':Hp},Kb dt H5 H' -> Same H H':=fun {H'} k b u e => k b u (fun c => by rw [c,hdH] at e; cases e) (s5 b u e)
   refine ⟨q,rfl,⟨_,SqL.of prQ.at_⟩,for_list (K:=K) (a:=q) (xs:=tz'.map fun z => V.ref z.1) (fun i σ H' => ∃ (es:List (Int×Addr×List Int)) (v2 v3 v4:Option V),σ=[some (.ref p),some (.ref dt),v2,v3,v4]∧H' dt=some (.dK (dW es))∧es.map (·.1)=((stO cs).take i).map (·.2)∧(∀ e∈es,H' e.2.1=some (lsI e.2.2)∧H e.2.1=none)∧(es.map (·.2.1)).Nodup∧Kb dt H5 H'∧((i=0∧es=[])∨(∃ es' s b w,es=es'++[(s,b,w)]∧v2=some (.ref b)∧isBits w∧w.length≤256∧Up w.length ((lensOf cs).drop i)∧tk w+sP ((lensOf cs).drop i)≤2 ^ 256∧wds (lensOf cs)=es.map (·.2.2)++wdsN w ((lensOf cs).drop i))))
    ⟨[],_,_,_,rfl,hd5,by rw [List.take_zero]; rfl,(fun _ z => by cases z),List.nodup_nil,Kb.refl _ _,.inl ⟨rfl,rfl⟩⟩ (fun i σ H' _ ⟨_,_,_,_,_,_,_,_,_,k,_⟩ => SqL.of (k _ _ nqd prQ.at_)) ?_ ?_⟩
   ·rintro i y σ H6 hi ⟨es,v2,v3,v4,rfl,hd2,hes,hev,hnd,kb,htail⟩
    obtain ⟨z,hz,rfl⟩:=ref_at hi
    have hzm:=List.mem_of_getElem? hz
    have hst:(stO cs)[i]?=some z.2:=by rw [← est,List.getElem?_map,hz]; rfl
    have hil:i < (stO cs).length:=(List.getElem?_eq_some_iff.mp hst).1
    have hz1:1≤z.2.1∧z.2.1≤256:=by
     have hm:=List.mem_of_getElem? hst
     have:=(srt_perm (cs.map swp)).mem_iff.mp hm
     obtain ⟨c,hc,e⟩:=List.mem_map.mp this
     have:=hlen c hc
     rw [← e]; exact this
    obtain ⟨l,hl⟩:∃ l:Nat,z.2.1=(l:Int):=⟨z.2.1.toNat,by trivial⟩
    have hli:(lensOf cs)[i]?=some l:=by
     unfold lensOf
     rw [List.getElem?_map,hst]
     show some z.2.1.toNat=some l
     rw [hl,Int.toNat_natCast]
    have hld:(lensOf cs).drop i=l :: (lensOf cs).drop (i+1):=by
     obtain ⟨h1,h2⟩:=List.getElem?_eq_some_iff.mp hli
     rw [List.drop_eq_getElem_cons h1,h2]
    have hel:es.length=i:=by
     have:=congrArg List.length hes
     rw [List.length_map,List.length_map,List.length_take] at this
     trivial
    have hSH:=kS kb
    refine ⟨z.1,_,rfl,SqT.of (kb _ _ (nzd z hzm) (prQ.each z hzm)),rfl,_,_,rfl,_,_,rfl,rfl,?_⟩
    refine ⟨_,rfl,dt,_,rfl,hd2,rfl,_,rfl,?_⟩
    rw [dW_len,hel,hl]
    rcases htail with ⟨h0,hnil⟩ | ⟨es',s',b,w,hes',hv2,hwb,hwl,hwu,hwt,hwd⟩
    ·rw [decide_eq_true (show V.int (i:Int)=V.int 0 by rw [h0]; rfl)]
     refine iteT ?_
     refine ⟨(by show 1≤sizeLine; decide),fun l0 hl0 => ?_⟩
     have t0:=same_new hl0 (.lst [V.int 0])
     refine ⟨_,rfl,l0,_,_,rfl,rfl,upd_same,by trivial,by trivial,?_,fun b hbn => ?_⟩
     ·rw [Int.toNat_natCast]
      have:1 * l≤256:=by trivial
      exact Nat.le_trans this (by decide)
     rw [Int.toNat_natCast,rep_zer]
     have t1:=same_new hbn (lsI (zer l))
     have hB:upd (upd H6 l0 (.lst [V.int 0])) b (lsI (zer l)) b=some (lsI (zer l)):=upd_same
     have S7:=t0.trans t1
     have hB2:H6 b=none:=t0.free hbn
     have hBH:H b=none:=hSH.free hB2
     have hD7:=S7 _ _ hd2
     rw [show HO.lst ((zer l).map V.int)=lsI (zer l) from rfl]
     generalize upd (upd H6 l0 (.lst [V.int 0])) b (lsI (zer l))=H7 at hB S7 hD7 ⊢
     have hnew:z.2.2 ∉ es.map (·.1):=by
      rw [hes]
      intro c
      have hn:=hsg
      rw [show (stO cs).map (·.2)=((stO cs).take i).map (·.2)++((stO cs).drop i).map (·.2) by rw [← List.map_append,List.take_append_drop],List.nodup_append] at hn
      have hd':z.2.2∈((stO cs).drop i).map (·.2):=List.mem_map.mpr ⟨z.2,List.mem_iff_getElem?.mpr ⟨0,by rw [List.getElem?_drop,Nat.add_zero]; exact hst⟩,rfl⟩
      exact hn.2.2 _ c _ hd' rfl
     have hbd:b≠dt:=fun e => by rw [e,hD7] at hB; cases hB
     refine ⟨_,rfl,_,rfl,_,rfl,dt,_,rfl,DPut.k (k:=Sum.inl z.2.2) hD7 (fits_lt (by rw [dW_len]; trivial)),?_⟩
     rw [putK_dW (w:=zer l) hnew]
     refine ⟨es++[(z.2.2,b,zer l)],_,_,_,rfl,upd_same,?_,?_,?_,(kb.trans (Kb.of S7)).trans (Kb.put dt _ _),.inr ⟨es,z.2.2,b,zer l,rfl,rfl,zer_bits l,(by rw [zer_len]; trivial),?_,?_,?_⟩⟩
     ·rw [List.map_append,hes,take_at hst,List.map_append]; rfl
     ·intro e he
      rcases List.mem_append.mp he with q | q
      ·have nq:e.2.1≠dt:=fun c => by have:=(hev e q).1; rw [c,hd2] at this; cases this
       exact ⟨by rw [upd_ne nq]; exact S7 _ _ (hev e q).1,(hev e q).2⟩
      ·have:e=(z.2.2,b,zer l):=by simpa using q
       subst this
       exact ⟨by rw [upd_ne hbd]; exact hB,hBH⟩
     ·rw [List.map_append,List.nodup_append]
      refine ⟨hnd,by simp,fun x hx y hy c => ?_⟩
      have hy':y=b:=by simpa using hy
      obtain ⟨e,he,rfl⟩:=List.mem_map.mp hx
      have:=(hev e he).1
      rw [c,hy',hB2] at this; cases this
     ·have:=hup
      rw [show lensOf cs=l :: (lensOf cs).drop (i+1) by rw [← hld,h0,List.drop_zero]] at this
      rw [zer_len]
      exact this.2.2
     ·have:=hsum
      rw [show lensOf cs=l :: (lensOf cs).drop (i+1) by rw [← hld,h0,List.drop_zero],sP_cons] at this
      rw [tk_zer]
      exact this
     ·rw [hnil]
      conv => lhs; rw [show lensOf cs=l :: (lensOf cs).drop (i+1) by rw [← hld,h0,List.drop_zero]]
      rfl
    ·have hi0:i≠0:=fun c => by rw [hes',List.length_append,List.length_singleton] at hel; trivial
     rw [decide_eq_false (show ¬ V.int (i:Int)=V.int 0 from fun c => by have:=V.int.inj c; trivial)]
     refine iteF ?_
     subst hv2
     rw [hld] at hwu hwt hwd
     have hbm:(s',b,w)∈es:=by rw [hes']; exact List.mem_append_right _ List.mem_cons_self
     refine ⟨_,rfl,_,rfl,b,w,l,rfl,SqL.of (hev _ hbm).1,hwb,room_at hwb hwl hwt,hwu.1,hwu.2.1,fun b2 H7 S7 hB2 hB => ?_⟩
     have hBH:H b2=none:=hSH.free hB2
     have hD7:=S7 _ _ hd2
     have hnew:z.2.2 ∉ es.map (·.1):=by
      rw [hes]
      intro c
      have hn:=hsg
      rw [show (stO cs).map (·.2)=((stO cs).take i).map (·.2)++((stO cs).drop i).map (·.2) by rw [← List.map_append,List.take_append_drop],List.nodup_append] at hn
      have hd':z.2.2∈((stO cs).drop i).map (·.2):=List.mem_map.mpr ⟨z.2,List.mem_iff_getElem?.mpr ⟨0,by rw [List.getElem?_drop,Nat.add_zero]; exact hst⟩,rfl⟩
      exact hn.2.2 _ c _ hd' rfl
     have hbd:b2≠dt:=fun e => by rw [e,hD7] at hB; cases hB
     refine ⟨_,rfl,_,rfl,_,rfl,dt,_,rfl,DPut.k (k:=Sum.inl z.2.2) hD7 (fits_lt (by rw [dW_len]; trivial)),?_⟩
     rw [putK_dW (w:=nw w l) hnew]
     refine ⟨es++[(z.2.2,b2,nw w l)],_,_,_,rfl,upd_same,?_,?_,?_,(kb.trans (Kb.of S7)).trans (Kb.put dt _ _),.inr ⟨es,z.2.2,b2,nw w l,rfl,rfl,nw_bits w l,(by rw [nw_len hwu.1]; exact hwu.2.1),?_,?_,?_⟩⟩
     ·rw [List.map_append,hes,take_at hst,List.map_append]; rfl
     ·intro e he
      rcases List.mem_append.mp he with q | q
      ·have nq:e.2.1≠dt:=fun c => by have:=(hev e q).1; rw [c,hd2] at this; cases this
       exact ⟨by rw [upd_ne nq]; exact S7 _ _ (hev e q).1,(hev e q).2⟩
      ·have:e=(z.2.2,b2,nw w l):=by simpa using q
       subst this
       exact ⟨by rw [upd_ne hbd]; exact hB,hBH⟩
     ·rw [List.map_append,List.nodup_append]
      refine ⟨hnd,by simp,fun x hx y hy c => ?_⟩
      have hy':y=b2:=by simpa using hy
      obtain ⟨e,he,rfl⟩:=List.mem_map.mp hx
      have:=(hev e he).1
      rw [c,hy',hB2] at this; cases this
     ·rw [nw_len hwu.1]
      exact hwu.2.2
     ·exact room_on hwb hwu.1 hwu.2.1 hwt
     ·rw [hwd,List.map_append,List.append_assoc]; rfl
   ·rintro σ H6 ⟨es,v2,v3,v4,rfl,hd2,hes,hev,hnd,kb,htail⟩
    have htl':tz'.length=(stO cs).length:=by rw [← est,List.length_map]
    have hll:(lensOf cs).length=(stO cs).length:=by unfold lensOf; rw [List.length_map]
    rw [List.length_map,htl',List.take_length] at hes
    have hbits:es.map (·.2.2)=wds (lensOf cs):=by
     rcases htail with ⟨h0,hnil⟩ | ⟨_,_,_,w,_,_,_,_,_,_,hwd⟩
     ·rw [List.length_map,htl',← hll] at h0
      rw [hnil,List.eq_nil_of_length_eq_zero h0]; rfl
     ·rw [hwd,List.length_map,htl',← hll,List.drop_length]
      show _=_++[]
      rw [List.append_nil]
    have hw:es.map (fun e => (e.1,e.2.2))=wof cs:=by
     unfold wof
     rw [← hes,← hbits,zip_two]
    have hcan:=hb
    unfold canB at hcan
    rw [Bool.and_eq_true,Bool.and_eq_true] at hcan
    have hcn:=(riseB_lt hcan.1.1).2
    have hfind:∀ c∈cs,∃ e∈es,es.find? (fun e => decide (e.1=c.1))=some e∧e.1=c.1:=fun c hc => by
     have hm:c.1∈es.map (·.1):=by
      rw [hes]
      have:swp c∈stO cs:=(srt_perm (cs.map swp)).mem_iff.mpr (List.mem_map.mpr ⟨c,hc,rfl⟩)
      exact List.mem_map.mpr ⟨swp c,this,rfl⟩
     obtain ⟨e0,h0,h1⟩:=List.mem_map.mp hm
     cases hf:es.find? (fun e => decide (e.1=c.1)) with
     | none =>
      have:=List.find?_eq_none.mp hf e0 h0
      simp [h1] at this
     | some e => exact ⟨e,List.mem_of_find?_eq_some hf,rfl,by simpa using List.find?_some hf⟩
    have sH6:=kS kb
    refine ⟨_,rfl,p,rfl,⟨_,SqL.of (sH6 _ _ prZ.at_)⟩,fun R hR => ?_⟩
    have hRH:H R=none:=sH6.free hR
    have nRd:dt≠R:=ne_of_none hd2 hR
    refine comp_lst (K:=K) (a:=p) (xs:=zs.map fun z => V.ref z.1) (fun i σ' H' => ∃ (x y:Option V) (ws:List (Addr×Int×Addr×List Int)),σ'=[x,y,some (.ref dt)]∧Wrs H' R ws∧ws.map (fun w => (w.2.1,w.2.2.2))=(wrdsOf cs).take i∧ws.length≤i∧(∀ w∈ws,∃ e∈es,e.1=w.2.1∧e.2.1=w.2.2.1)∧Same H6 H')
     ⟨none,none,[],rfl,⟨upd_same,(fun _ z => by cases z)⟩,by rw [List.take_zero]; rfl,Nat.le_refl _,(fun _ z => by cases z),same_new hR _⟩ (fun i σ' H' _ ⟨_,_,_,_,_,_,_,_,e⟩ => SqL.of (e _ _ (sH6 _ _ prZ.at_))) ?_ ?_
    ·rintro i v σ' H' hi ⟨x,y,ws,rfl,wr,hws,hwl,hwe,sm'⟩
     obtain ⟨z,hz,rfl⟩:=ref_at hi
     have hzm:=List.mem_of_getElem? hz
     have hil:i < zs.length:=(List.getElem?_eq_some_iff.mp hz).1
     have hlt:i < (zs.map fun z => V.ref z.1).length:=(List.getElem?_eq_some_iff.mp hi).1
     have hck:cs[i]?=some z.2:=by rw [← hcs,List.getElem?_map,hz]; rfl
     obtain ⟨e,he,hf,hes1⟩:=hfind z.2 (List.mem_of_getElem? hck)
     refine ⟨z.1,_,rfl,SqT.of (sm' _ _ (sH6 _ _ (prZ.each z hzm))),rfl,_,_,rfl,_,_,rfl,rfl,?_⟩
     refine trueT ?_
     have hg:=DGet.k (k:=Sum.inl z.2.1) (sm' _ _ hd2)
     rw [valV_dW,hf] at hg
     refine ⟨_,rfl,_,rfl,_,rfl,dt,_,rfl,hg,(by show 2≤sizeLine; decide),fun t ht => ?_⟩
     have st:=same_new ht (.tup [.int z.2.1,.ref e.2.1])
     refine ⟨R,_,_,rfl,rfl,st _ _ wr.at_,fits_lt (by rw [List.length_map]; trivial),?_⟩
     have nR:∀ b xs,upd H' t (.tup [.int z.2.1,.ref e.2.1]) b=some (.tup xs) -> b≠R:=fun b xs q c => by
      rw [c,st _ _ wr.at_] at q; cases q
     have nB:∀ w∈ws,w.2.2.1≠R:=fun w hw c => by
      obtain ⟨e',he',_,q⟩:=hwe w hw
      have:=(hev e' he').1
      rw [q,c,hR] at this; cases this
     refine CW.next hlt ⟨_,_,ws++[(t,z.2.1,e.2.1,e.2.2)],rfl,⟨by rw [upd_same,List.map_append]; rfl,fun w hw => ?_⟩,?_,by rw [List.length_append,List.length_singleton]; trivial,fun w hw => ?_,same_upd (sm'.trans st) _ hR⟩
     ·rcases List.mem_append.mp hw with q | q
      ·have q1:=st _ _ (wr.each w q).1
       exact ⟨by rw [upd_ne (nR _ _ q1)]; exact q1,by rw [upd_ne (nB w q)]; exact st _ _ (wr.each w q).2⟩
      ·have:w=(t,z.2.1,e.2.1,e.2.2):=by simpa using q
       subst this
       have neR:e.2.1≠R:=fun c => by have:=(hev e he).1; rw [c,hR] at this; cases this
       exact ⟨by rw [upd_ne (nR t _ upd_same)]; exact upd_same,by rw [upd_ne neR]; exact st _ _ (sm' _ _ (hev e he).1)⟩
     ·have hwi:(wrdsOf cs)[i]?=some (z.2.1,e.2.2):=by
       unfold wrdsOf
       rw [List.getElem?_map,hck,← hw]
       show some (z.2.1,look (es.map fun e => (e.1,e.2.2)) z.2.1)=_
       rw [look_es es hf]
      rw [List.map_append,hws,take_at hwi]; rfl
     ·rcases List.mem_append.mp hw with q | q
      ·exact hwe w q
      ·have:w=(t,z.2.1,e.2.1,e.2.2):=by simpa using q
       subst this
       exact ⟨e,he,hes1,rfl⟩
    ·rintro σ' H' ⟨x,y,ws,rfl,wr,hws,hwl,hwe,sm'⟩
     rw [List.length_map,List.take_of_length_le (by unfold wrdsOf; rw [List.length_map]; trivial)] at hws
     refine hQ hb R ws H' (sH6.trans sm') hRH wr (fun w hw => ?_) ?_ hws
     ·obtain ⟨e,he,_,q⟩:=hwe w hw
      rw [← q]; exact (hev e he).2
     ·have hsn:(ws.map (·.2.1)).Nodup:=by
       have:ws.map (·.2.1)=cs.map (·.1):=by
        have:=congrArg (List.map (·.1)) hws
        unfold wrdsOf at this
        rw [List.map_map,List.map_map] at this
        exact this
       rw [this]; exact hcn
      have inj:∀ e∈es,∀ e'∈es,e.2.1=e'.2.1 -> e.1=e'.1:=fun e he e' he' c => by
       have:=nodup_inj hnd he he' c
       rw [this]
      rw [List.Nodup,List.pairwise_map] at hsn ⊢
      refine hsn.imp_of_mem fun {w w'} hw hw' hne c => ?_
      obtain ⟨e,he,q1,q2⟩:=hwe w hw
      obtain ⟨e',he',q1',q2'⟩:=hwe w' hw'
      exact hne (by rw [← q1,← q1']; exact inj e he e' he' (by rw [q2,q2',c]))
end
end K48
namespace K48
open PySem L2 PySem.W PH
section
variable {P:Program} {w:World} {K:Frag} {mg:Str -> Option Value} {base:Heap}
theorem sc_coded:FnScope ["text","lengths","words","bits","sign"] ["text","lengths"] (defScope s_coded):=⟨rfl,rfl,rfl,by decide +kernel,rfl,by decide +kernel,by decide +kernel⟩
theorem ok_coded {f c_NoCode f_words:Addr} {fd d_words:FuncData} (F:Fun K "coded" "coded" s_coded f fd) (B:Bls mg) (X_NoCode:Ex K mg "NoCode" c_NoCode) (m_NoCode:mg "NoCode" = some (.ref c_NoCode)) 
  (G_words:FnOk P w K mg base (CXW P w) 3 f_words d_words ["lengths"] (spWords c_NoCode)) (b_words:Binds K d_words ["lengths"] []) (k_words:keepIn K (.ref f_words)=true) (m_words:mg "words_by" = some (.ref f_words)):FnOk P w K mg base (CXW P w) 4 f fd ["text","lengths"] (spCoded c_NoCode):=by
 refine F.okX sc_coded (fun vs H Q E h => ?_) (fun cdv A outer s H vs Q E hr h => ?_)
 ·obtain ⟨T,p,t,zs,rfl,_⟩:=h
  rfl
 ·obtain ⟨T,p,t,zs,rfl,hT,htl,pr,hzl,hE,hQ⟩:=h
  refine ⟨_,(pss_cons (ps_set (i:=2) sc_coded.nd rfl (Or.inl rfl) (pe_callTy (call_dictP rfl) rfl B.dict boot_dictP (pa_cons (pe_call G_words hr rfl m_words k_words b_words .nil passW (pa_cons (pv 1) pa_nil)) pa_nil)))
   (pss_cons (ps_set (i:=3) sc_coded.nd rfl (Or.inl rfl) (pe_lst pa_nil))
   (pss_cons (ps_for pown rfl (pi_list (pv 0)) (pg_name (i:=4) sc_coded.nd rfl (Or.inl rfl))
    (pss_cons (ps_if (pt_cmp (pc_dnotin (hu_of hr) (pv 4) (pv 2)))
     (pss_one (ps_raise PySem.F.excBase_ValueError X_NoCode.ex X_NoCode.mg rfl))
     pss_nil)
    (pss_one (ps_expr (pe_bm PySem.F.plainAttrs_list PySem.F.slot_list_extend PySem.F.type_list_extend mt_extend (pv 3) (pa_cons (pe_dget (hu_of hr) (pv 2) (pv 4) (fun _ _ => rfl)) pa_nil))))))
   (pss_one (ps_ret (pv 3)))))),?_⟩
  refine ⟨_,rfl,p,zs,rfl,pr,hzl,(fun hb H1 s1 => hE (by unfold cdO; rw [if_neg (by rw [hb]; decide)]) H1 s1),fun hb r ws H1 s1 hr0 wr hnew hnd hm => ?_⟩
  have hm':wdM ws=wrdsOf (zs.map (·.2)):=hm
  have nd:(ws.map fun w => w.2.1).Nodup:=can_nd (wrds_keys _) hm' (can_keys hb)
  have hcd:cdO (zs.map (·.2)) t=cdd (wdM ws) t:=by unfold cdO; rw [if_pos hb,hm']
  rw [hcd] at hE hQ
  have hwl:∀ w∈ws,w.2.2.2.length≤256:=fun w hw => wrds_le2 hb (w.2.1,w.2.2.2) (by rw [← hm']; exact List.mem_map.mpr ⟨w,hw,rfl⟩)
  refine ⟨r,wdV ws,rfl,(by unfold wdV; rw [List.map_map]; exact SqL.of wr.at_),(fun z hz => by
   obtain ⟨w,hw,rfl⟩:=List.mem_map.mp hz
   exact SqT.of (wr.each w hw).1),fun dt hdt => ?_⟩
  have udt:=same_new hdt (.dK (putP [] (wdV ws)))
  have edt:upd H1 dt (.dK (putP [] (wdV ws))) dt=some (.dK (putP [] (wdV ws))):=upd_same
  generalize upd H1 dt (.dK (putP [] (wdV ws)))=H2 at udt edt ⊢
  have s2:=s1.trans udt
  refine ⟨(by show 0≤sizeLine; decide),fun B_ hB => ?_⟩
  have u3:=same_new hB (.lst [])
  have eB:upd H2 B_ (.lst []) B_=some (lsI []):=upd_same
  have hBH:H B_=none:=s2.free hB
  generalize upd H2 B_ (.lst [])=H3 at u3 eB ⊢
  refine ⟨_,rfl,T,rfl,⟨_,SqL.of (u3 _ _ (s2 _ _ hT))⟩,for_list (K:=K) (a:=T) (xs:=t.map V.int) (fun i σ H' => ∃ (bs:List Int) (v4:Option V),σ=[some (.ref T),some (.ref p),some (.ref dt),some (.ref B_),v4]∧H' B_=some (lsI bs)∧cdd (wdM ws) t=(cdd (wdM ws) (t.drop i)).map (bs++·)∧bs.length≤256 * i∧Same H2 H')
   ⟨[],none,rfl,eB,by rw [List.drop_zero]; cases cdd (wdM ws) t <;> rfl,Nat.zero_le _,u3⟩ (fun i σ H' _ ⟨_,_,_,_,_,_,e⟩ => SqL.of (e _ _ (s2 _ _ hT))) ?_ ?_⟩
  ·rintro i y σ H' hi ⟨bs,v4,rfl,hB',hcd',hbl,sm⟩
   obtain ⟨s,rfl,hs⟩:=int_at hi
   have hil:i < t.length:=(List.getElem?_eq_some_iff.mp hs).1
   rw [dropH_at hs] at hcd'
   have hd':=sm _ _ edt
   rcases val_wd nd s with ⟨f1,f2⟩ | ⟨w,hw,f1,f2⟩
   ·refine ⟨_,rfl,_,rfl,dt,_,rfl,DGet.k (k:=Sum.inl s) hd',_,rfl,?_⟩
    rw [f2]
    refine iteT ?_
    rw [cdd_no f1] at hcd'
    exact hE hcd' H' (s2.trans sm)
   ·refine ⟨_,rfl,_,rfl,dt,_,rfl,DGet.k (k:=Sum.inl s) hd',_,rfl,?_⟩
    rw [f2]
    refine iteF ?_
    have hwB:H' w.2.2.1=some (lsI w.2.2.2):=sm _ _ (udt _ _ (wr.each w hw).2)
    have hg:=DGet.k (k:=Sum.inl s) hd'
    rw [f2] at hg
    have hwn:=hwl w hw
    have hnB:w.2.2.1≠B_:=fun e => by
     have:=udt _ _ (wr.each w hw).2
     rw [e,hB] at this; cases this
    refine ⟨_,rfl,.inl ⟨rfl,_,SqL.of hB'⟩,_,rfl,_,rfl,dt,_,rfl,hg,B_,w.2.2.1,_,_,rfl,rfl,hB',hwB,fits (by rw [List.length_map,List.length_map]; trivial),?_⟩
    refine ⟨bs++w.2.2.2,_,rfl,by rw [upd_same]; unfold lsI; rw [List.map_append],?_,by rw [List.length_append]; trivial,same_upd sm _ hB⟩
    rw [hcd',cdd_on f1,Option.map_map]
    congr 1
    funext q
    exact (List.append_assoc _ _ _).symm
  ·rintro σ H' ⟨bs,v4,rfl,hB',hcd',hbl,sm⟩
   rw [List.length_map,List.drop_length] at hcd'
   refine ⟨_,rfl,?_⟩
   refine hQ bs ?_ B_ H' (s2.trans sm) hBH hB'
   rw [hcd']
   show some (bs++[])=_
   rw [List.append_nil]
end
end K48
namespace K48
open PySem L2 PySem.W PH
section
variable {P:Program} {w:World} {K:Frag} {mg:Str -> Option Value} {base:Heap}
theorem sc_readw:FnScope ["bits","at","words","sign","word","behind"] ["bits","at","words"] (defScope s_readw):=⟨rfl,rfl,rfl,by decide +kernel,rfl,by decide +kernel,by decide +kernel⟩
theorem ok_readw {f c_Broken:Addr} {fd:FuncData} (F:Fun K "read_word" "read_word" s_readw f fd) (B:Bls mg) (X_Broken:Ex K mg "Broken" c_Broken) (m_Broken:mg "Broken" = some (.ref c_Broken)):FnOk P w K mg base (CXW P w) 1 f fd ["bits","at","words"] (spReadW c_Broken):=by
 refine F.okX sc_readw (fun vs H Q E h => ?_) (fun cdv A outer s H vs Q E hr h => ?_)
 ·obtain ⟨Bt,W,bits,a,ws,rfl,_⟩:=h
  rfl
 ·obtain ⟨Bt,W,bits,a,ws,rfl,hBt,wr,hwl,hE,hQ⟩:=h
  refine ⟨_,(pss_cons (ps_for pown rfl (pi_list (pv 2)) (pg_tup rfl (pgs_cons (pg_name (i:=3) sc_readw.nd rfl (Or.inl rfl)) (pgs_cons (pg_name (i:=4) sc_readw.nd rfl (Or.inl rfl)) pgs_nil)))
    (pss_cons (ps_set (i:=5) sc_readw.nd rfl (Or.inl rfl) (pe_op op_add (pv 1) (pe_callB call_len_seq rfl B.len PySem.boot_len (pa_cons (pv 4) pa_nil))))
    (pss_one (ps_if (pt_cmpR (op_eqL (units_of hr)) (pe_slice sl_list (pv 0) (po_some (pv 1)) (po_some (pv 5))) (pv 4) (nomark _))
     (pss_one (ps_ret (pe_tup (pa_cons (pv 3) (pa_cons (pv 5) pa_nil)))))
     pss_nil))))
   (pss_one (ps_raise PySem.F.excBase_ValueError X_Broken.ex X_Broken.mg rfl))),?_⟩
  refine ⟨_,rfl,W,rfl,⟨_,SqL.of wr.at_⟩,for_list (K:=K) (a:=W) (xs:=ws.map fun w => V.ref w.1) (fun i σ H' => ∃ (v3 v4 v5:Option V),σ=[some (.ref Bt),some (.int (a:Int)),some (.ref W),v3,v4,v5]∧rdw (wdM ws) bits a=rdw ((wdM ws).drop i) bits a∧Same H H')
   ⟨none,none,none,rfl,by rw [List.drop_zero],Same.refl _⟩ (fun i σ H' _ ⟨_,_,_,_,_,e⟩ => SqL.of (e _ _ wr.at_)) ?_ ?_⟩
  ·rintro i y σ H' hi ⟨v3,v4,v5,rfl,hrd,sm⟩
   have hlt:i < (ws.map fun w => V.ref w.1).length:=(List.getElem?_eq_some_iff.mp hi).1
   have hil:i < ws.length:=by rw [List.length_map] at hlt; exact hlt
   obtain ⟨z,hz⟩:∃ z,ws[i]?=some z:=⟨_,List.getElem?_eq_getElem hil⟩
   rw [List.getElem?_map,hz] at hi
   have ey:V.ref z.1=y:=Option.some.inj hi
   subst ey
   have he:=wr.each z (List.mem_of_getElem? hz)
   have hzm:(wdM ws)[i]?=some (z.2.1,z.2.2.2):=by unfold wdM; rw [List.getElem?_map,hz]; rfl
   rw [dropH_at hzm,rdw] at hrd
   have hzw:H' z.2.2.1=some (lsI z.2.2.2):=sm _ _ he.2
   refine ⟨z.1,_,rfl,SqT.of (sm _ _ he.1),rfl,_,_,rfl,_,_,rfl,rfl,?_⟩
   refine ⟨_,rfl,_,rfl,z.2.2.1,_,rfl,.inl (SqL.of hzw),_,_,rfl,rfl,?_⟩
   refine gNam (v':=V.int ((a+z.2.2.2.length:Nat):Int)) (congrArg V.int (by rw [List.length_map]; trivial)) ?_
   refine ⟨_,rfl,_,rfl,_,rfl,_,rfl,_,rfl,Bt,_,rfl,SqL.of (sm _ _ hBt),fun q hq => ?_⟩
   have ec:HO.lst (cutV (bits.map V.int) (some (a:Int)) (some ((a+z.2.2.2.length:Nat):Int)))=lsI ((bits.drop a).take z.2.2.2.length):=by
    have:=cut_two bits a (a+z.2.2.2.length)
    rw [show a+z.2.2.2.length - a=z.2.2.2.length by trivial] at this
    exact congrArg HO.lst this
   rw [ec]
   have uq:=same_new hq (lsI ((bits.drop a).take z.2.2.2.length))
   have eq:upd H' q (lsI ((bits.drop a).take z.2.2.2.length)) q=some (lsI ((bits.drop a).take z.2.2.2.length)):=upd_same
   generalize upd H' q (lsI ((bits.drop a).take z.2.2.2.length))=H2 at uq eq ⊢
   refine ⟨_,rfl,q,z.2.2.1,_,_,rfl,rfl,SqL.of eq,SqL.of (uq _ _ hzw),_,rfl,?_⟩
   by_cases hm:(bits.drop a).take z.2.2.2.length=z.2.2.2
   ·rw [decide_eq_true hm]
    refine iteT ?_
    have hrd':rdw (wdM ws) bits a=some (z.2.1,a+z.2.2.2.length):=by rw [hrd]; exact if_pos hm
    refine ⟨_,rfl,_,rfl,(by show 2≤sizeLine; decide),fun T hT => ?_⟩
    exact hQ _ hrd' T _ (sm.trans (uq.trans (same_new hT _))) upd_same
   ·rw [decide_eq_false hm]
    refine iteF ?_
    exact ⟨_,_,_,rfl,by rw [hrd]; exact if_neg hm,sm.trans uq⟩
  ·rintro σ H' ⟨v3,v4,v5,rfl,hrd,sm⟩
   rw [List.length_map,show ws.length=(wdM ws).length by unfold wdM; rw [List.length_map],List.drop_length,rdw] at hrd
   exact hE hrd H' sm
end
end K48
namespace K48
open PySem L2 PySem.W PH
section
variable {P:Program} {w:World} {K:Frag} {mg:Str -> Option Value} {base:Heap}
theorem sc_decoded:FnScope ["bits","at","lengths","many","words","text","behind","found"] ["bits","at","lengths","many"] (defScope s_decoded):=⟨rfl,rfl,rfl,by decide +kernel,rfl,by decide +kernel,by decide +kernel⟩
theorem ok_decoded {f c_Broken c_NoCode f_words f_readw:Addr} {fd d_words d_readw:FuncData} (F:Fun K "decoded" "decoded" s_decoded f fd) (B:Bls mg) (X_Broken:Ex K mg "Broken" c_Broken) (m_Broken:mg "Broken" = some (.ref c_Broken)) 
  (G_words:FnOk P w K mg base (CXW P w) 3 f_words d_words ["lengths"] (spWords c_NoCode)) (b_words:Binds K d_words ["lengths"] []) (k_words:keepIn K (.ref f_words)=true) (m_words:mg "words_by" = some (.ref f_words)) 
  (G_readw:FnOk P w K mg base (CXW P w) 1 f_readw d_readw ["bits","at","words"] (spReadW c_Broken)) (b_readw:Binds K d_readw ["bits","at","words"] []) (k_readw:keepIn K (.ref f_readw)=true) (m_readw:mg "read_word" = some (.ref f_readw)):FnOk P w K mg base (CXW P w) 4 f fd ["bits","at","lengths","many"] (spDecoded c_NoCode c_Broken):=by
 refine F.okX sc_decoded (fun vs H Q E h => ?_) (fun cdv A outer s H vs Q E hr h => ?_)
 ·obtain ⟨Bt,p,bits,at_,n,zs,rfl,_⟩:=h
  rfl
 ·obtain ⟨Bt,p,bits,at_,n,zs,rfl,hBt,hbl,hnl,pr,hzl,hE1,hE2,hQ⟩:=h
  refine ⟨_,(pss_cons (ps_set (i:=4) sc_decoded.nd rfl (Or.inl rfl) (pe_call G_words hr rfl m_words k_words b_words .nil passW (pa_cons (pv 2) pa_nil)))
   (pss_cons (ps_if (PW.pt (pw_or (pt_cmpR op_lt (pv 1) pe_int (nomark _)) (pw_or1 (pt_cmpR op_gt (pv 1) (pe_callB call_len_seq rfl B.len PySem.boot_len (pa_cons (pv 0) pa_nil)) (nomark _)))))
    (pss_one (ps_raise PySem.F.excBase_ValueError X_Broken.ex X_Broken.mg rfl))
    pss_nil)
   (pss_cons (ps_set (i:=5) sc_decoded.nd rfl (Or.inl rfl) (pe_lst pa_nil))
   (pss_cons (ps_set (i:=6) sc_decoded.nd rfl (Or.inl rfl) (pv 1))
   (pss_cons (ps_while pown (pt_cmpR op_lt (pe_callB call_len_seq rfl B.len PySem.boot_len (pa_cons (pv 5) pa_nil)) (pv 3) (nomark _))
    (pss_cons (ps_set (i:=7) sc_decoded.nd rfl (Or.inl rfl) (pe_call G_readw (hr.mono (show 1≤3 by decide)) rfl m_readw k_readw b_readw .nil passW (pa_cons (pv 0) (pa_cons (pv 6) (pa_cons (pv 4) pa_nil)))))
    (pss_cons (ps_expr (pe_bm PySem.F.plainAttrs_list PySem.F.slot_list_append PySem.F.type_list_append mt_append (pv 5) (pa_cons (pe_ix ix_tup (pv 7) pe_int (fun _ _ => rfl)) pa_nil)))
    (pss_one (ps_set (i:=6) sc_decoded.nd rfl (Or.inl rfl) (pe_ix ix_tup (pv 7) pe_int (fun _ _ => rfl)))))))
   (pss_one (ps_ret (pe_tup (pa_cons (pv 5) (pa_cons (pv 6) pa_nil)))))))))),?_⟩
  have hrdO:∀ hb:canB (zs.map (·.2))=true,rdO (zs.map (·.2)) bits at_ n=if 0≤at_∧at_≤((bits.length:Nat):Int) then rd1 (dcd (wrdsOf (zs.map (·.2))) bits n at_.toNat) else Rd10.br:=fun hb => by unfold rdO; rw [if_pos hb]
  refine ⟨_,rfl,p,zs,rfl,pr,hzl,(fun hb H1 s1 => hE1 (by unfold rdO; rw [if_neg (by rw [hb]; decide)]) H1 s1),fun hb W ws H1 s1 hW0 wr hnew hnd hm => ?_⟩
  have hm':wdM ws=wrdsOf (zs.map (·.2)):=hm
  rw [hrdO hb,← hm'] at hE2 hQ
  refine ⟨_,rfl,_,_,rfl,rfl,_,rfl,?_⟩
  by_cases h0:at_ < 0
  ·rw [decide_eq_true h0]
   refine iteT (iteT ?_)
   exact hE2 (if_neg (by trivial)) H1 s1
  rw [decide_eq_false h0]
  refine iteF ?_
  refine ⟨_,rfl,_,rfl,Bt,_,rfl,.inl (SqL.of (s1 _ _ hBt)),_,_,rfl,rfl,_,rfl,?_⟩
  rw [List.length_map]
  by_cases h1:((bits.length:Nat):Int) < at_
  ·rw [decide_eq_true h1]
   refine iteT ?_
   exact hE2 (if_neg (by trivial)) H1 s1
  rw [decide_eq_false h1]
  refine iteF ?_
  obtain ⟨a0,ea⟩:∃ a0:Nat,at_=(a0:Int):=⟨at_.toNat,by trivial⟩
  subst ea
  rw [if_pos ⟨by trivial,by trivial⟩,Int.toNat_natCast] at hE2 hQ
  have hws:ws.length≤300:=by
   have:=congrArg List.length hm'
   unfold wdM wrdsOf at this
   rw [List.length_map,List.length_map,List.length_map] at this
   trivial
  refine ⟨(by show 0≤sizeLine; decide),fun X_ hX => ?_⟩
  have u2:=same_new hX (.lst [])
  have eX:upd H1 X_ (.lst []) X_=some (lsI []):=upd_same
  have hXH:H X_=none:=s1.free hX
  generalize upd H1 X_ (.lst [])=H2 at u2 eX ⊢
  refine ⟨_,rfl,?_⟩
  refine ⟨fun mm σ H' => ∃ (tx:List Int) (b:Nat) (v7:Option V),mm=n - tx.length∧σ=[some (.ref Bt),some (.int (a0:Int)),some (.ref p),some (.int (n:Int)),some (.ref W),some (.ref X_),some (.int (b:Int)),v7]∧H' X_=some (lsI tx)∧tx.length≤n∧dcd (wdM ws) bits n a0=(dcd (wdM ws) bits (n - tx.length) b).map (fun q => (tx++q.1,q.2))∧Same H1 H',
   ⟨_,[],a0,none,rfl,rfl,eX,Nat.zero_le _,by cases dcd (wdM ws) bits n a0 <;> rfl,u2⟩,?_⟩
  rintro mm σ H' ⟨tx,b,v7,rfl,rfl,hX',htl,hdc,sm⟩
  refine ⟨_,rfl,X_,_,rfl,.inl (SqL.of hX'),_,rfl,_,_,rfl,rfl,_,rfl,?_⟩
  rw [List.length_map]
  by_cases hlt:tx.length < n
  rotate_left
  ·rw [decide_eq_false (show ¬ ((tx.length:Nat):Int) < (n:Int) by trivial)]
   refine iteF ?_
   rw [show n - tx.length=0 by trivial,dcd] at hdc
   refine ⟨_,rfl,_,rfl,(by show 2≤sizeLine; decide),fun T hT => ?_⟩
   have u:=same_new hT (.tup [V.ref X_,V.int (b:Int)])
   have e1:dcd (wdM ws) bits n a0=some (tx,b):=by
    rw [hdc]
    show some (tx++[],b)=_
    rw [List.append_nil]
   exact hQ tx b (by rw [e1]; rfl) T X_ _ (s1.trans (sm.trans u)) hXH upd_same (u _ _ hX')
  rw [decide_eq_true (show ((tx.length:Nat):Int) < (n:Int) by trivial)]
  refine iteT ?_
  refine ⟨fun σ' H'' => ∃ m',m' < n - tx.length∧∃ (tx:List Int) (b:Nat) (v7:Option V),m'=n - tx.length∧σ'=[some (.ref Bt),some (.int (a0:Int)),some (.ref p),some (.int (n:Int)),some (.ref W),some (.ref X_),some (.int (b:Int)),v7]∧H'' X_=some (lsI tx)∧tx.length≤n∧dcd (wdM ws) bits n a0=(dcd (wdM ws) bits (n - tx.length) b).map (fun q => (tx++q.1,q.2))∧Same H1 H'',fun σ' H'' z => z,?_⟩
  obtain ⟨k,ek⟩:∃ k,n - tx.length=k+1:=⟨n - tx.length - 1,by trivial⟩
  rw [ek] at hdc
  refine ⟨_,rfl,_,rfl,_,rfl,Bt,W,bits,b,ws,rfl,sm _ _ (s1 _ _ hBt),wr.same sm,hws,(fun hr H3 s3 => ?_),fun r hr T H3 s3 hT => ?_⟩
  ·rw [dcd_no hr] at hdc
   exact hE2 (by rw [hdc]; rfl) H3 (s1.trans (sm.trans s3))
  rw [dcd_on hr] at hdc
  have hX3:=s3 _ _ hX'
  refine ⟨_,rfl,.inl ⟨rfl,_,SqL.of hX3⟩,_,rfl,T,_,_,_,rfl,rfl,SqT.of hT,rfl,X_,_,_,rfl,rfl,hX3,fits_lt (by rw [List.length_map]; trivial),?_⟩
  have sm4:=same_upd (sm.trans s3) (.lst (tx.map V.int++[V.int r.1])) hX
  have hX4:upd H3 X_ (.lst (tx.map V.int++[V.int r.1])) X_=some (lsI (tx++[r.1])):=by rw [upd_same,lsI_app1]
  have hT4:upd H3 X_ (.lst (tx.map V.int++[V.int r.1])) T=some (.tup [V.int r.1,V.int (r.2:Int)]):=by rw [upd_ne (fun e => by rw [e,hX3] at hT; cases hT)]; exact hT
  generalize upd H3 X_ (.lst (tx.map V.int++[V.int r.1]))=H4 at sm4 hX4 hT4 ⊢
  refine ⟨_,rfl,T,_,_,_,rfl,rfl,SqT.of hT4,rfl,?_⟩
  refine ⟨n - (tx.length+1),by trivial,tx++[r.1],r.2,_,by rw [List.length_append]; rfl,rfl,hX4,by rw [List.length_append,List.length_singleton]; trivial,?_,sm4⟩
  rw [hdc,Option.map_map,List.length_append,List.length_singleton,show n - (tx.length+1)=k by trivial]
  congr 1
  funext q
  show (tx++r.1 :: q.1,q.2)=(tx++[r.1]++q.1,q.2)
  rw [List.append_assoc]; rfl
end
end K48
namespace K48
open PySem L2 PySem.W PH
section
variable {P:Program} {w:World} {K:Frag} {mg:Str -> Option Value} {base:Heap}
theorem sc_put:FnScope ["signs","place"] ["signs","place"] (defScope s_put):=⟨rfl,rfl,rfl,by decide +kernel,rfl,by decide +kernel,by decide +kernel⟩
theorem ok_put {f:Addr} {fd:FuncData} (F:Fun K "put_first" "put_first" s_put f fd) (B:Bls mg):FnOk P w K mg base (CXW P w) 1 f fd ["signs","place"] (spPut K):=by
 refine F.okN sc_put (fun vs H Q E h => ?_) (fun cdv A outer s H vs Q E hr h => ?_)
 ·obtain ⟨a,pre,post,x,rfl,_⟩:=h
  rfl
 ·obtain ⟨a,pre,post,x,rfl,ha,h1,hQ⟩:=h
  refine ⟨_,(pss_one (ps_ret (pe_op op_cat (pe_op op_cat (pe_lst (pa_cons (pe_ix ix_list (pv 0) (pv 1) (fun _ _ => rfl)) pa_nil)) (pe_slice sl_list (pv 0) po_none (po_some (pv 1)))) (pe_slice sl_list (pv 0) (po_some (pe_op op_add (pv 1) pe_int)) po_none)))),?_⟩
  have hz:(lsI (pre++x :: post))=.lst ((pre.map V.int)++V.int x :: post.map V.int):=by unfold lsI; rw [List.map_append,List.map_cons]
  have hat:atI ((pre++x :: post).map V.int) (pre.length:Int)=some (.int x):=atI_nat (by rw [List.getElem?_map,List.getElem?_append_right (Nat.le_refl _)]; simp)
  refine ⟨_,rfl,_,rfl,a,_,_,_,rfl,rfl,SqL.of ha,hat,(by show 1≤sizeLine; decide),fun l1 hl1 => ?_⟩
  have s1:=same_new hl1 (.lst [.int x])
  have e1:upd H l1 (.lst [.int x]) l1=some (lsI [x]):=upd_same
  generalize upd H l1 (.lst [.int x])=H1 at s1 e1 ⊢
  refine ⟨_,rfl,_,rfl,_,rfl,a,_,rfl,SqL.of (s1 _ _ ha),fun l2 hl2 => ?_⟩
  have ec1:cutV ((pre++x :: post).map V.int) none (some (pre.length:Int))=pre.map V.int:=by rw [cut_to (α:=Int) (f:=V.int),List.take_left']; rfl
  rw [ec1]
  have s2:=same_new hl2 (.lst (pre.map V.int))
  have e2:upd H1 l2 (.lst (pre.map V.int)) l2=some (lsI pre):=upd_same
  generalize upd H1 l2 (.lst (pre.map V.int))=H2 at s2 e2 ⊢
  refine ⟨l1,l2,_,_,rfl,rfl,s2 _ _ e1,e2,fits (by rw [List.length_map,List.length_map,List.length_singleton]; trivial),fun l3 hl3 => ?_⟩
  have s3:=same_new hl3 (.lst ([x].map V.int++pre.map V.int))
  have e3:upd H2 l3 (.lst ([x].map V.int++pre.map V.int)) l3=some (lsI (x :: pre)):=upd_same
  generalize upd H2 l3 (.lst ([x].map V.int++pre.map V.int))=H3 at s3 e3 ⊢
  refine ⟨_,rfl,_,rfl,_,_,rfl,rfl,_,rfl,a,_,rfl,SqL.of (s3 _ _ (s2 _ _ (s1 _ _ ha))),fun l4 hl4 => ?_⟩
  have ec2:cutV ((pre++x :: post).map V.int) (some ((pre.length:Int)+1)) none=post.map V.int:=by
   rw [show (pre.length:Int)+1=((pre.length+1:Nat):Int) by trivial,cut_from]
   congr 1
   rw [List.drop_append,List.drop_of_length_le (by trivial)]
   simp
  rw [ec2]
  have s4:=same_new hl4 (.lst (post.map V.int))
  have e4:upd H3 l4 (.lst (post.map V.int)) l4=some (lsI post):=upd_same
  generalize upd H3 l4 (.lst (post.map V.int))=H4 at s4 e4 ⊢
  refine ⟨l3,l4,_,_,rfl,rfl,s4 _ _ e3,e4,fits (by rw [List.length_map,List.length_map,List.length_cons]; trivial),fun D hD => ?_⟩
  have sA:=((s1.trans s2).trans s3).trans s4
  exact hQ D _ (sA.free hD) (by rw [upd_same]; unfold lsI; rw [← List.map_append]; rfl) (sA.trans (same_new hD _))
theorem sc_tbf:FnScope ["fronts","signs","text","place"] ["fronts"] (defScope s_tbf):=⟨rfl,rfl,rfl,by decide +kernel,rfl,by decide +kernel,by decide +kernel⟩
theorem ok_tbf {f c_Broken f_put:Addr} {fd d_put:FuncData} (F:Fun K "text_by_fronts" "text_by_fronts" s_tbf f fd) (B:Bls mg) (X_Broken:Ex K mg "Broken" c_Broken) (m_Broken:mg "Broken" = some (.ref c_Broken)) (m_LS:LSf mg) 
  (G_put:FnOk P w K mg base (CXW P w) 1 f_put d_put ["signs","place"] (spPut K)) (b_put:Binds K d_put ["signs","place"] []) (k_put:keepIn K (.ref f_put)=true) (m_put:mg "put_first" = some (.ref f_put)):FnOk P w K mg base (CXW P w) 2 f fd ["fronts"] (spTbf K c_Broken):=by
 refine F.okX sc_tbf (fun vs H Q E h => ?_) (fun cdv A outer s H vs Q E hr h => ?_)
 ·obtain ⟨a,ps,rfl,_⟩:=h
  rfl
 ·obtain ⟨a,ps,rfl,hS,h5,hE,hQ⟩:=h
  obtain ⟨u_LS,m_u,r_u⟩:=m_LS
  refine ⟨_,(pss_cons (ps_set (i:=1) sc_tbf.nd rfl (Or.inl rfl) (pe_listrange rfl B.range rfl B.list rfl (pa_cons (pe_op op_add (pe_glob (v:=.int 255) rfl m_u r_u) pe_int) pa_nil)))
   (pss_cons (ps_set (i:=2) sc_tbf.nd rfl (Or.inl rfl) (pe_lst pa_nil))
   (pss_cons (ps_for pown rfl (pi_list (pv 0)) (pg_name (i:=3) sc_tbf.nd rfl (Or.inl rfl))
    (pss_cons (ps_if (PW.pt (pw_or (pt_cmpR op_lt (pv 3) pe_int (nomark _)) (pw_or1 (pt_cmpR op_gt (pv 3) (pe_glob (v:=.int 255) rfl m_u r_u) (nomark _)))))
     (pss_one (ps_raise PySem.F.excBase_ValueError X_Broken.ex X_Broken.mg rfl))
     pss_nil)
    (pss_cons (ps_set (i:=1) sc_tbf.nd rfl (Or.inl rfl) (pe_call G_put hr rfl m_put k_put b_put .nil passW (pa_cons (pv 1) (pa_cons (pv 3) pa_nil))))
    (pss_one (ps_expr (pe_bm PySem.F.plainAttrs_list PySem.F.slot_list_append PySem.F.type_list_append mt_append (pv 2) (pa_cons (pe_ix ix_list (pv 1) pe_int (fun _ _ => rfl)) pa_nil)))))))
   (pss_one (ps_ret (pv 2)))))),?_⟩
  refine ⟨_,_,rfl,rfl,256,rfl,by decide,fun s0 hs0 => ?_⟩
  have ss:=same_new hs0 (.lst (((List.range 256).map fun k => ((k:Nat):Int)).map V.int))
  have es:upd H s0 (.lst (((List.range 256).map fun k => ((k:Nat):Int)).map V.int)) s0=some (lsI (rowS (stOf []))):=by rw [upd_same,show stOf []=[] from rfl,row_nil]; rfl
  generalize upd H s0 (.lst (((List.range 256).map fun k => ((k:Nat):Int)).map V.int))=H1 at ss es ⊢
  refine ⟨(by show 0≤sizeLine; decide),fun T hT1 => ?_⟩
  have hT:H T=none:=ss.free hT1
  have s2:=ss.trans (same_new hT1 (.lst []))
  refine ⟨_,rfl,a,rfl,⟨_,s2.seq hS⟩,for_list (K:=K) (a:=a) (xs:=ps.map V.int) (fun i σ H2 => ∃ (sa:Addr) (v3:Option V) (ts:List Int),σ=[some (.ref a),some (.ref sa),some (.ref T),v3]∧H2 sa=some (lsI (rowS (stOf ts)))∧H2 T=some (lsI ts)∧(∀ x∈ts,0≤x∧x≤255)∧frs ts=ps.take i∧(∀ p∈ps.take i,0≤p∧p≤255)∧sa≠T∧H sa=none∧Same H H2)
   ⟨s0,none,[],rfl,by rw [upd_ne (ne_of_none es hT1)]; exact es,upd_same,(fun _ z => by cases z),by rw [List.take_zero]; rfl,(fun _ z => by rw [List.take_zero] at z; cases z),ne_of_none es hT1,hs0,s2⟩ (fun i σ H2 _ ⟨_,_,_,_,_,_,_,_,_,_,_,e⟩ => e.seq hS) ?_ ?_⟩
  ·rintro i y σ H2 hi ⟨sa,v3,ts,rfl,hsa,hT2,htb,htf,hpb,nsT,hsn,sm⟩
   obtain ⟨z,rfl,hz⟩:=int_at hi
   have hil:i < ps.length:=(List.getElem?_eq_some_iff.mp hz).1
   have hzm:z∈ps:=List.mem_of_getElem? hz
   refine ⟨_,rfl,_,_,rfl,rfl,_,rfl,?_⟩
   refine ite2 (fun h => iteT ?_) (fun h => ?_)
   ·exact hE ⟨z,hzm,.inl (of_decide_eq_true h)⟩ _ sm
   refine ⟨_,rfl,_,_,rfl,rfl,_,rfl,?_⟩
   refine ite2 (fun h' => ?_) (fun h' => ?_)
   ·exact hE ⟨z,hzm,.inr (of_decide_eq_true h')⟩ _ sm
   have z0:0≤z:=by
    have:=of_decide_eq_false (Bool.eq_false_iff.mpr h)
    trivial
   have z1:z≤255:=by
    have:=of_decide_eq_false (Bool.eq_false_iff.mpr h')
    trivial
   obtain ⟨n1,n2,n3,n4⟩:=st_ok ts
   have hbs:∀ y∈stOf ts,0≤y∧y≤255:=fun y hy => htb y ((n2 y).mp hy)
   have hlen:=(row_perm n1 hbs).2.2
   obtain ⟨pre,post,x,e,hl⟩:∃ pre post x,rowS (stOf ts)=pre++x :: post∧((pre.length:Nat):Int)=z:=by
    have hk:z.toNat < (rowS (stOf ts)).length:=by trivial
    refine ⟨(rowS (stOf ts)).take z.toNat,(rowS (stOf ts)).drop (z.toNat+1),(rowS (stOf ts))[z.toNat],?_,?_⟩
    ·rw [← List.drop_eq_getElem_cons hk,List.take_append_drop]
    ·rw [List.length_take]; trivial
   subst hl
   obtain ⟨e1,e2,x0,x1⟩:=row_at n1 hbs e
   rw [e,List.length_append,List.length_cons] at hlen
   rw [e] at hsa
   have htl:ts.length=i:=by
    rw [← n4,htf,List.length_take]; trivial
   refine ⟨_,rfl,_,rfl,sa,pre,post,x,rfl,hsa,by trivial,fun D H' hD hD' s' => ?_⟩
   have hT':=s' _ _ hT2
   have nDT:D≠T:=fun q => by rw [q,hT2] at hD; cases hD
   refine ⟨_,rfl,.inl ⟨rfl,_,SqL.of hT'⟩,_,rfl,D,_,_,_,rfl,rfl,SqL.of hD',(atI_nat (j:=0) rfl:atI ((x :: (pre++post)).map V.int) ((0:Nat):Int)=some (.int x)),T,_,_,rfl,rfl,hT',fits_lt (by rw [List.length_map]; trivial),?_⟩
   refine ⟨D,_,ts++[x],rfl,?_,by rw [upd_same,lsI_app1],fun w hw => ?_,?_,fun w hw => ?_,nDT,sm.free hD,same_upd (sm.trans s') _ hT⟩
   ·rw [upd_ne nDT,stOf_snoc,e2]; exact hD'
   ·rcases List.mem_append.mp hw with hw | hw
    ·exact htb w hw
    ·have:w=x:=by simpa using hw
     trivial
   ·rw [frs_snoc,htf,e1,take_at hz]
   ·rw [take_at hz] at hw
    rcases List.mem_append.mp hw with hw | hw
    ·exact hpb w hw
    ·have:w=((pre.length:Nat):Int):=by simpa using hw
     trivial
  ·rintro σ H2 ⟨sa,v3,ts,rfl,hsa,hT2,htb,htf,hpb,nsT,hsn,sm⟩
   rw [List.length_map,List.take_length] at htf hpb
   exact ⟨_,rfl,hQ hpb T ts _ hT hT2 htb htf sm⟩
theorem sc_fronts:FnScope ["text","signs","fronts","sign","place"] ["text"] (defScope s_fronts):=⟨rfl,rfl,rfl,by decide +kernel,rfl,by decide +kernel,by decide +kernel⟩
theorem ok_fronts {f f_put:Addr} {fd d_put:FuncData} (F:Fun K "fronts_of" "fronts_of" s_fronts f fd) (B:Bls mg) (m_LS:LSf mg) 
  (G_put:FnOk P w K mg base (CXW P w) 1 f_put d_put ["signs","place"] (spPut K)) (b_put:Binds K d_put ["signs","place"] []) (k_put:keepIn K (.ref f_put)=true) (m_put:mg "put_first" = some (.ref f_put)):FnOk P w K mg base (CXW P w) 2 f fd ["text"] (spFronts K):=by
 refine F.okN sc_fronts (fun vs H Q E h => ?_) (fun cdv A outer s H vs Q E hr h => ?_)
 ·obtain ⟨a,ns,rfl,_⟩:=h
  rfl
 ·obtain ⟨a,ns,rfl,hS,hb,h5,hQ⟩:=h
  obtain ⟨u_LS,m_u,r_u⟩:=m_LS
  refine ⟨_,(pss_cons (ps_set (i:=1) sc_fronts.nd rfl (Or.inl rfl) (pe_listrange rfl B.range rfl B.list rfl (pa_cons (pe_op op_add (pe_glob (v:=.int 255) rfl m_u r_u) pe_int) pa_nil)))
   (pss_cons (ps_set (i:=2) sc_fronts.nd rfl (Or.inl rfl) (pe_lst pa_nil))
   (pss_cons (ps_for PassesOwn.never rfl (pi_list (pv 0)) (pg_name (i:=3) sc_fronts.nd rfl (Or.inl rfl))
    (pss_cons (ps_set (i:=4) sc_fronts.nd rfl (Or.inl rfl) (pe_bm PySem.F.plainAttrs_list PySem.F.slot_list_index PySem.F.type_list_index mt_index (pv 1) (pa_cons (pv 3) pa_nil)))
    (pss_cons (ps_expr (pe_bm PySem.F.plainAttrs_list PySem.F.slot_list_append PySem.F.type_list_append mt_append (pv 2) (pa_cons (pv 4) pa_nil)))
    (pss_one (ps_set (i:=1) sc_fronts.nd rfl (Or.inl rfl) (pe_call G_put hr rfl m_put k_put b_put .nil passN (pa_cons (pv 1) (pa_cons (pv 4) pa_nil))))))))
   (pss_one (ps_ret (pv 2)))))),?_⟩
  refine ⟨_,_,rfl,rfl,256,rfl,by decide,fun s0 hs0 => ?_⟩
  have ss:=same_new hs0 (.lst (((List.range 256).map fun k => ((k:Nat):Int)).map V.int))
  have es:upd H s0 (.lst (((List.range 256).map fun k => ((k:Nat):Int)).map V.int)) s0=some (lsI (rowS (stOf []))):=by rw [upd_same,show stOf []=[] from rfl,row_nil]; rfl
  generalize upd H s0 (.lst (((List.range 256).map fun k => ((k:Nat):Int)).map V.int))=H1 at ss es ⊢
  refine ⟨(by show 0≤sizeLine; decide),fun F hF1 => ?_⟩
  have hF:H F=none:=ss.free hF1
  have sF:=same_new hF1 (.lst [])
  have s2:=ss.trans sF
  refine ⟨_,rfl,a,rfl,⟨_,s2.seq hS⟩,for_list (K:=K) (a:=a) (xs:=ns.map V.int) (fun i σ H2 => ∃ (sa:Addr) (v3 v4:Option V),σ=[some (.ref a),some (.ref sa),some (.ref F),v3,v4]∧H2 sa=some (lsI (rowS (stOf (ns.take i))))∧H2 F=some (lsI (frs (ns.take i)))∧sa≠F∧H sa=none∧Same H H2)
   ⟨s0,none,none,rfl,by rw [List.take_zero,upd_ne (ne_of_none es hF1)]; exact es,upd_same,ne_of_none es hF1,hs0,s2⟩ (fun i σ H2 _ ⟨_,_,_,_,_,_,_,_,e⟩ => e.seq hS) ?_ ?_⟩
  ·rintro i y σ H2 hi ⟨sa,v3,v4,rfl,hsa,hF2,nsF,hsn,sm⟩
   obtain ⟨z,rfl,hz⟩:=int_at hi
   have hil:i < ns.length:=(List.getElem?_eq_some_iff.mp hz).1
   have hzb:=hb z (List.mem_of_getElem? hz)
   obtain ⟨n1,n2,n3,n4⟩:=st_ok (ns.take i)
   have hbs:∀ y∈stOf (ns.take i),0≤y∧y≤255:=fun y hy => hb y (List.mem_of_mem_take ((n2 y).mp hy))
   obtain ⟨pre,post,e,hn,hl,e2⟩:=row_step n1 hbs hzb.1 hzb.2
   have hlen:=(row_perm n1 hbs).2.2
   rw [e,List.length_append,List.length_cons] at hlen
   rw [e] at hsa
   rw [List.length_take] at n4
   refine ⟨_,rfl,.inl ⟨rfl,_,SqL.of hsa⟩,_,rfl,sa,pre,z,post,rfl,rfl,SqL.of hsa,hn,?_⟩
   refine ⟨_,rfl,.inl ⟨rfl,_,SqL.of hF2⟩,_,rfl,F,_,_,rfl,rfl,hF2,fits_lt (by rw [List.length_map]; trivial),?_⟩
   refine ⟨_,rfl,_,rfl,sa,pre,post,z,rfl,by rw [upd_ne nsF]; exact hsa,by trivial,fun D H' hD hD' s' => ?_⟩
   have nDF:D≠F:=fun q => by rw [q,upd_same] at hD; cases hD
   have hD0:H2 D=none:=by rw [upd_ne nDF] at hD; exact hD
   have er:frs (ns.take (i+1))=frs (ns.take i)++[((pre.length:Nat):Int)]:=by rw [take_at hz,frs_snoc,hl]
   refine ⟨D,_,_,rfl,?_,?_,nDF,sm.free hD0,(same_upd sm _ hF).trans s'⟩
   ·rw [take_at hz,stOf_snoc,e2]; exact hD'
   ·rw [er]; exact s' _ _ (by rw [upd_same,lsI_app1])
  ·rintro σ H2 ⟨sa,v3,v4,rfl,hsa,hF2,nsF,hsn,sm⟩
   rw [List.length_map,List.take_length] at hF2
   exact ⟨_,rfl,hQ F _ hF hF2 sm⟩
end
end K48
namespace K48
open PySem L2 PySem.W PH
section
variable {P:Program} {w:World} {K:Frag} {mg:Str -> Option Value} {base:Heap}
theorem sc_runs:FnScope ["numbers","runs","number"] ["numbers"] (defScope s_runs):=⟨rfl,rfl,rfl,by decide +kernel,rfl,by decide +kernel,by decide +kernel⟩
theorem ok_runs {f:Addr} {fd:FuncData} (F:Fun K "runs_of" "runs_of" s_runs f fd) (B:Bls mg):FnOk P w K mg base (CXW P w) 1 f fd ["numbers"] (spRuns K):=by
 refine F.okN sc_runs (fun vs H Q E h => ?_) (fun cdv A outer s H vs Q E hr h => ?_)
 ·obtain ⟨a,ns,rfl,_⟩:=h
  rfl
 ·obtain ⟨a,ns,rfl,hS,h5,hQ⟩:=h
  refine ⟨_,(pss_cons (ps_set (i:=1) sc_runs.nd rfl (Or.inl rfl) (pe_lst pa_nil))
   (pss_cons (ps_for PassesOwn.never rfl (pi_list (pv 0)) (pg_name (i:=2) sc_runs.nd rfl (Or.inl rfl))
    (pss_one (ps_if (PW.pt (pw_and (pt_cmpR op_gt (pe_callB call_len_seq rfl B.len PySem.boot_len (pa_cons (pv 1) pa_nil)) pe_int (nomark _)) (pw_and1 (pt_cmpR op_eq (pe_ix ix_tup (pe_ix ix_list (pv 1) (pe_un un_neg pe_int) (fun _ _ => rfl)) pe_int (fun _ _ => rfl)) (pv 2) (nomark _)))))
     (pss_one (ps_asg (pe_tup (pa_cons (pv 2) (pa_cons (pe_op op_add (pe_ix ix_tup (pe_ix ix_list (pv 1) (pe_un un_neg pe_int) (fun _ _ => rfl)) pe_int (fun _ _ => rfl)) pe_int) pa_nil))) (pg_sub (pv 1) (pe_un un_neg pe_int) set_list)))
     (pss_one (ps_expr (pe_bm PySem.F.plainAttrs_list PySem.F.slot_list_append PySem.F.type_list_append mt_append (pv 1) (pa_cons (pe_tup (pa_cons (pv 2) (pa_cons pe_int pa_nil))) pa_nil)))))))
   (pss_one (ps_ret (pv 1))))),?_⟩
  refine ⟨(by show 0≤sizeLine; decide),fun D hD => ?_⟩
  refine ⟨_,rfl,a,rfl,⟨_,(same_new hD _).seq hS⟩,for_list (K:=K) (a:=a) (xs:=ns.map V.int) (fun i σ H2 => ∃ (v2:Option V) (zs:List (Addr×Int×Int)),σ=[some (.ref a),some (.ref D),v2]∧Prs H2 D zs∧zs.map (·.2)=runsL (ns.take i)∧Same H H2)
   ⟨none,[],rfl,⟨upd_same,(fun _ z => by cases z)⟩,by rw [List.take_zero]; rfl,same_new hD _⟩ (fun i σ H2 _ ⟨_,_,_,_,_,e⟩ => e.seq hS) ?_ ?_⟩
  ·rintro i y σ H2 hi ⟨v2,zs,rfl,prs,hzs,sm⟩
   obtain ⟨z,rfl,hz⟩:=int_at hi
   have hil:i < ns.length:=(List.getElem?_eq_some_iff.mp hz).1
   have hrn:runsL (ns.take (i+1))=stepR (zs.map (·.2)) z:=by rw [take_at hz,runs_snoc,hzs]
   have hzl:zs.length≤1000:=by
    have h1:=runs_len (ns.take i)
    rw [← hzs,List.length_map,List.length_take] at h1
    trivial
   refine ⟨_,rfl,D,_,rfl,.inl (SqL.of prs.at_),_,_,rfl,rfl,_,rfl,?_⟩
   by_cases hne:zs=[]
   ·subst hne
    refine iteF ?_
    refine iteF ?_
    refine ⟨_,rfl,.inl ⟨rfl,_,SqL.of prs.at_⟩,_,rfl,(by show 2≤sizeLine; decide),fun t ht => ?_⟩
    have st:=same_new ht (.tup [.int z,.int 1])
    refine ⟨D,_,_,rfl,rfl,st _ _ prs.at_,fits_lt (by decide),?_⟩
    have:=(prs.same st).appR (t:=t) (a:=z) (b:=1) upd_same 0
    exact ⟨_,[(t,z,1)],rfl,this,by rw [hrn]; rfl,same_upd (sm.trans st) _ hD⟩
   ·obtain ⟨ys,⟨t0,v,c⟩,rfl⟩:∃ l x,zs=l++[x]:=⟨zs.dropLast,zs.getLast hne,(List.dropLast_concat_getLast hne).symm⟩
    have hpa:=prs.at_
    have hp0:=prs.each (t0,v,c) (List.mem_append_right _ (List.mem_singleton_self _))
    have hpa':H2 D=some (.lst ((ys.map fun z => V.ref z.1)++[V.ref t0])):=by rw [hpa,List.map_append]; rfl
    have hix:atI ((ys.map fun z => V.ref z.1)++[V.ref t0]) (-1)=some (V.ref t0):=atI_last _ _
    rw [List.map_append] at hrn
    have hpos:(0:Int) < ((((ys++[(t0,v,c)]).map fun z => V.ref z.1).length:Nat):Int):=by
     rw [List.length_map,List.length_append,List.length_singleton]; trivial
    rw [decide_eq_true hpos]
    refine iteT ?_
    refine ⟨_,rfl,_,rfl,D,_,_,_,rfl,rfl,SqL.of hpa',hix,t0,_,_,_,rfl,rfl,SqT.of hp0,(atI_nat (j:=0) rfl:atI [V.int v,V.int c] ((0:Nat):Int)=some (.int v)),_,rfl,rfl,_,rfl,?_⟩
    have hys:ys.length≤999:=by
     rw [List.length_append,List.length_singleton] at hzl; trivial
    by_cases hv:v=z
    ·subst hv
     rw [decide_eq_true rfl]
     refine iteT ?_
     refine ⟨_,rfl,_,rfl,_,rfl,D,_,_,_,rfl,rfl,SqL.of hpa',hix,t0,_,_,_,rfl,rfl,SqT.of hp0,(atI_nat (j:=1) rfl:atI [V.int v,V.int c] ((1:Nat):Int)=some (.int c)),_,_,rfl,rfl,(by show 2≤sizeLine; decide),fun t ht => ?_⟩
     have st:=same_new ht (.tup [.int v,.int (c+1)])
     refine ⟨_,rfl,_,rfl,D,_,_,ys.length,rfl,rfl,st _ _ hpa',?_,?_⟩
     ·rw [List.length_append,List.length_map,List.length_singleton]; exact ixN_last _
     ·have h1:=(prs.same st).appR (t:=t) (a:=v) (b:=c+1) upd_same ys.length
      rw [List.take_left'] at h1
      ·refine ⟨_,ys++[(t,v,c+1)],rfl,?_,?_,same_upd (sm.trans st) _ hD⟩
       ·rw [show ((ys.map fun z => V.ref z.1)++[V.ref t0]).set ys.length (V.ref t)=(ys.map fun z => V.ref z.1)++[V.ref t] by
         rw [List.set_append_right _ _ (by rw [List.length_map]; exact Nat.le_refl _),List.length_map,Nat.sub_self]; rfl]
        exact h1
       ·rw [hrn,List.map_append]
        exact (stepR_same _ _ _).symm
      ·rfl
    ·rw [decide_eq_false (fun q => hv (by injection q))]
     refine iteF ?_
     refine ⟨_,rfl,.inl ⟨rfl,_,SqL.of hpa'⟩,_,rfl,(by show 2≤sizeLine; decide),fun t ht => ?_⟩
     have st:=same_new ht (.tup [.int z,.int 1])
     refine ⟨D,_,_,rfl,rfl,st _ _ hpa',fits_lt (by rw [List.length_append,List.length_map,List.length_singleton]; trivial),?_⟩
     have h1:=(prs.same st).appR (t:=t) (a:=z) (b:=1) upd_same (ys.length+1)
     rw [List.take_of_length_le (by rw [List.length_append,List.length_singleton]; exact Nat.le_refl _),List.map_append] at h1
     refine ⟨_,ys++[(t0,v,c)]++[(t,z,1)],rfl,h1,?_,same_upd (sm.trans st) _ hD⟩
     rw [hrn,List.map_append,List.map_append]
     exact (stepR_new hv).symm
  ·rintro σ H2 ⟨v2,zs,rfl,prs,hzs,sm⟩
   rw [List.length_map,List.take_length] at hzs
   exact ⟨_,rfl,hQ D zs _ sm hD prs hzs⟩
theorem sc_nbr:FnScope ["runs","numbers","number","times"] ["runs"] (defScope s_nbr):=⟨rfl,rfl,rfl,by decide +kernel,rfl,by decide +kernel,by decide +kernel⟩
theorem ok_nbr {f c_Broken:Addr} {fd:FuncData} (F:Fun K "numbers_by_runs" "numbers_by_runs" s_nbr f fd) (B:Bls mg) (X_Broken:Ex K mg "Broken" c_Broken) (m_Broken:mg "Broken" = some (.ref c_Broken)) (m_MN:MN mg):FnOk P w K mg base (CXW P w) 1 f fd ["runs"] (spNbr c_Broken):=by
 refine F.okX sc_nbr (fun vs H Q E h => ?_) (fun cdv A outer s H vs Q E hr h => ?_)
 ·obtain ⟨p,zs,rfl,_⟩:=h
  rfl
 ·obtain ⟨p,zs,rfl,prs,h5,hE,hQ⟩:=h
  obtain ⟨u_MN,m_u,r_u⟩:=m_MN
  refine ⟨_,(pss_cons (ps_set (i:=1) sc_nbr.nd rfl (Or.inl rfl) (pe_lst pa_nil))
   (pss_cons (ps_for pown rfl (pi_list (pv 0)) (pg_tup rfl (pgs_cons (pg_name (i:=2) sc_nbr.nd rfl (Or.inl rfl)) (pgs_cons (pg_name (i:=3) sc_nbr.nd rfl (Or.inl rfl)) pgs_nil)))
    (pss_cons (ps_if (pt_cmpR op_lt (pv 3) pe_int (nomark _))
     (pss_one (ps_raise PySem.F.excBase_ValueError X_Broken.ex X_Broken.mg rfl))
     pss_nil)
    (pss_cons (ps_if (PW.pt (pw_and (pt_cmpR op_gt (pe_callB call_len_seq rfl B.len PySem.boot_len (pa_cons (pv 1) pa_nil)) pe_int (nomark _)) (pw_and1 (pt_cmpR op_eq (pe_ix ix_list (pv 1) (pe_un un_neg pe_int) (fun _ _ => rfl)) (pv 2) (nomark _)))))
     (pss_one (ps_raise PySem.F.excBase_ValueError X_Broken.ex X_Broken.mg rfl))
     pss_nil)
    (pss_cons (ps_if (pt_cmpR op_gt (pe_op op_add (pe_callB call_len_seq rfl B.len PySem.boot_len (pa_cons (pv 1) pa_nil)) (pv 3)) (pe_glob (v:=.int 400) rfl m_u r_u) (nomark _))
     (pss_one (ps_raise PySem.F.excBase_ValueError X_Broken.ex X_Broken.mg rfl))
     pss_nil)
    (pss_one (ps_expr (pe_bm PySem.F.plainAttrs_list PySem.F.slot_list_extend PySem.F.type_list_extend mt_extend (pv 1) (pa_cons (pe_op op_rep (pe_lst (pa_cons (pv 2) pa_nil)) (pv 3)) pa_nil))))))))
   (pss_one (ps_ret (pv 1))))),?_⟩
  refine ⟨(by show 0≤sizeLine; decide),fun N hN => ?_⟩
  have sN:=same_new hN (.lst [])
  generalize hcs:zs.map (·.2)=cs at hE hQ
  refine ⟨_,rfl,p,rfl,⟨_,SqL.of (sN _ _ prs.at_)⟩,for_list (K:=K) (a:=p) (xs:=zs.map fun z => V.ref z.1) (fun i σ H2 => ∃ (v2 v3:Option V) (l:List Int),σ=[some (.ref p),some (.ref N),v2,v3]∧nbr (cs.take i)=some l∧H2 N=some (lsI l)∧Same H H2)
   ⟨none,none,[],rfl,by rw [List.take_zero]; rfl,upd_same,sN⟩ (fun i σ H2 _ ⟨_,_,_,_,_,_,e⟩ => SqL.of (e _ _ prs.at_)) ?_ ?_⟩
  ·rintro i y σ H2 hi ⟨v2,v3,l,rfl,hl,hN2,sm⟩
   obtain ⟨z,hz,rfl⟩:=ref_at hi
   have hci:cs[i]?=some z.2:=by rw [← hcs,List.getElem?_map,hz]; rfl
   have hst:nbr (cs.take (i+1))=stepN (some l) z.2:=by rw [take_at hci,nbr_snoc,hl]
   have hbad:stepN (some l) z.2=none -> nbr cs=none:=fun q => by
    have:=nbr_none (hst.trans q) (cs.drop (i+1))
    rwa [List.take_append_drop] at this
   have hll:=nbr_len hl
   refine ⟨z.1,_,rfl,SqT.of (sm _ _ (prs.each z (List.mem_of_getElem? hz))),rfl,_,_,rfl,_,_,rfl,rfl,?_⟩
   refine ⟨_,rfl,_,_,rfl,rfl,_,rfl,?_⟩
   refine ite2 (fun h => ?_) (fun h => ?_)
   ·refine hE (hbad ?_) _ sm
    unfold stepN
    dsimp only
    rw [if_pos (.inl (of_decide_eq_true h))]
   have h1:¬ z.2.2 < 1:=of_decide_eq_false (Bool.eq_false_iff.mpr h)
   refine ⟨_,rfl,N,_,rfl,.inl (SqL.of hN2),_,_,rfl,rfl,_,rfl,?_⟩
   by_cases hne:l=[]
   ·subst hne
    refine iteF ?_
    refine iteF ?_
    refine ⟨_,rfl,N,_,rfl,.inl (SqL.of hN2),_,rfl,_,_,rfl,rfl,_,_,rfl,rfl,_,rfl,?_⟩
    refine ite2 (fun h4 => ?_) (fun h4 => ?_)
    ·refine hE (hbad ?_) _ sm
     have h5:=of_decide_eq_true h4
     rw [List.length_map] at h5
     unfold stepN
     dsimp only
     rw [if_pos (.inr (.inr h5))]
    have h5:=of_decide_eq_false (Bool.eq_false_iff.mpr h4)
    rw [List.length_map] at h5
    refine ⟨_,rfl,.inl ⟨rfl,_,SqL.of hN2⟩,_,rfl,(by show 1≤sizeLine; decide),fun l1 hl1 => ?_⟩
    have s1:=same_new hl1 (.lst [.int z.2.1])
    have e1:upd H2 l1 (.lst [.int z.2.1]) l1=some (lsI [z.2.1]):=upd_same
    generalize upd H2 l1 (.lst [.int z.2.1])=H3 at s1 e1 ⊢
    refine ⟨_,rfl,l1,_,_,rfl,rfl,e1,by trivial,by trivial,fits (by rw [List.length_map,List.length_singleton]; trivial),fun l2 hl2 => ?_⟩
    have er:(List.replicate z.2.2.toNat ([z.2.1].map V.int)).flatten=(List.replicate z.2.2.toNat z.2.1).map V.int:=rep_ints _ _
    rw [er]
    have s2:=same_new hl2 (.lst ((List.replicate z.2.2.toNat z.2.1).map V.int))
    refine ⟨N,l2,_,_,rfl,rfl,s2 _ _ (s1 _ _ hN2),upd_same,fits (by rw [List.length_map,List.length_map,List.length_replicate]; trivial),?_⟩
    refine ⟨_,_,([]:List Int)++List.replicate z.2.2.toNat z.2.1,rfl,?_,by rw [upd_same,lsI_app],same_upd ((sm.trans s1).trans s2) _ hN⟩
    rw [hst]
    unfold stepN
    dsimp only
    rw [if_neg (fun q => by
     rcases q with q | q | q
     ·exact h1 q
     ·exact by cases q
     ·trivial)]
   ·obtain ⟨l0,x,rfl⟩:∃ a x,l=a++[x]:=⟨l.dropLast,l.getLast hne,(List.dropLast_concat_getLast hne).symm⟩
    have hpos:(0:Int) < ((((l0++[x]).map V.int).length:Nat):Int):=by
     rw [List.length_map,List.length_append,List.length_singleton]; trivial
    rw [decide_eq_true hpos]
    refine iteT ?_
    have hix:atI ((l0++[x]).map V.int) (-1)=some (.int x):=by rw [List.map_append]; exact atI_last _ _
    refine ⟨_,rfl,_,rfl,N,_,_,_,rfl,rfl,SqL.of hN2,hix,_,rfl,rfl,_,rfl,?_⟩
    refine ite2 (fun h => ?_) (fun h => ?_)
    ·refine hE (hbad ?_) _ sm
     have hx:x=z.2.1:=by
      have:=of_decide_eq_true h
      injection this
     unfold stepN
     dsimp only
     rw [if_pos (.inr (.inl (by rw [List.getLast?_append]; simp [hx])))]
    have hx:¬ (l0++[x]).getLast?=some z.2.1:=fun q => by
     rw [List.getLast?_append] at q
     have:x=z.2.1:=by simpa using q
     exact h (by rw [this]; exact decide_eq_true rfl)
    generalize l0++[x]=l at hl hN2 hst hbad hll hx ⊢
    refine ⟨_,rfl,N,_,rfl,.inl (SqL.of hN2),_,rfl,_,_,rfl,rfl,_,_,rfl,rfl,_,rfl,?_⟩
    refine ite2 (fun h4 => ?_) (fun h4 => ?_)
    ·refine hE (hbad ?_) _ sm
     have h5:=of_decide_eq_true h4
     rw [List.length_map] at h5
     unfold stepN
     dsimp only
     rw [if_pos (.inr (.inr h5))]
    have h5:=of_decide_eq_false (Bool.eq_false_iff.mpr h4)
    rw [List.length_map] at h5
    refine ⟨_,rfl,.inl ⟨rfl,_,SqL.of hN2⟩,_,rfl,(by show 1≤sizeLine; decide),fun l1 hl1 => ?_⟩
    have s1:=same_new hl1 (.lst [.int z.2.1])
    have e1:upd H2 l1 (.lst [.int z.2.1]) l1=some (lsI [z.2.1]):=upd_same
    generalize upd H2 l1 (.lst [.int z.2.1])=H3 at s1 e1 ⊢
    refine ⟨_,rfl,l1,_,_,rfl,rfl,e1,by trivial,by trivial,fits (by rw [List.length_map,List.length_singleton]; trivial),fun l2 hl2 => ?_⟩
    have er:(List.replicate z.2.2.toNat ([z.2.1].map V.int)).flatten=(List.replicate z.2.2.toNat z.2.1).map V.int:=rep_ints _ _
    rw [er]
    have s2:=same_new hl2 (.lst ((List.replicate z.2.2.toNat z.2.1).map V.int))
    refine ⟨N,l2,_,_,rfl,rfl,s2 _ _ (s1 _ _ hN2),upd_same,fits (by rw [List.length_map,List.length_map,List.length_replicate]; trivial),?_⟩
    refine ⟨_,_,l++List.replicate z.2.2.toNat z.2.1,rfl,?_,by rw [upd_same,lsI_app],same_upd ((sm.trans s1).trans s2) _ hN⟩
    rw [hst]
    unfold stepN
    dsimp only
    rw [if_neg (fun q => by
     rcases q with q | q | q
     ·exact h1 q
     ·exact hx q
     ·trivial)]
  ·rintro σ H2 ⟨v2,v3,l,rfl,hl,hN2,sm⟩
   rw [List.length_map,← hcs] at hl
   rw [show (zs.map (·.2)).take zs.length=zs.map (·.2) from List.take_of_length_le (by rw [List.length_map]; exact Nat.le_refl _),hcs] at hl
   exact ⟨_,rfl,hQ l hl N _ sm hN hN2⟩
end
end K48
namespace K48
open PySem L2 PySem.W PH
section
variable {P:Program} {w:World} {K:Frag} {mg:Str -> Option Value} {base:Heap}
theorem sc_ends:FnScope ["text"] ["text"] (defScope s_ends):=⟨rfl,rfl,rfl,by decide +kernel,rfl,by decide +kernel,by decide +kernel⟩
theorem ok_ends {f ca c_T_endings_of:Addr} {fd:FuncData} (F:Fun K "endings_of" "endings_of" s_ends f fd) (B:Bls mg) (hc:fd.code=.ref ca) (CH:CodeHd base ca c_T_endings_of) (hbm:BM mg base):FnOk P w K mg base (CXW P w) 4 f fd ["text"] (spEndings K c_T_endings_of ⟨174,44,174,64⟩):=by
 refine F.okL hc sc_ends (fun vs H Q E h => ?_) (fun A outer s H vs Q E hr h => ?_)
 ·obtain ⟨a,t,rfl,_⟩:=h
  rfl
 ·obtain ⟨a,t,rfl,hS,h5,tb,hQ⟩:=h
  refine ⟨_,(pss_one (ps_ret (pe_sortL (c:=ca) (P:=c_T_endings_of) (lpos:=⟨174,44,174,64⟩) (qual:="endings_of.<locals>.<lambda>") (N:=["at","text"]) (js:=[none,some 0]) (x:="at") (te:=(tSl (rSlL K) (tVar 1) (tPart (tVar 0)) tNoPart)) rfl B.sorted rfl B.range (pa_cons (pe_op op_add (pe_callB call_len_seq rfl B.len PySem.boot_len (pa_cons (pv 0) pa_nil)) pe_int) pa_nil) (comp_scope (osc:=defScope s_ends) (XN:=["text"]) rfl rfl rfl (by decide +kernel)) rfl rfl (show (["at","text"]:List Str).Nodup by decide +kernel) rfl rfl rfl (fun _ _ _ _ _ => (pe_slice sl_list (pv 1) (po_some (pv 0)) po_none)) (fun _ _ _ _ _ => rfl) (hr.mono (show 2≤3 by decide)) rfl CH hbm rfl))),?_⟩
  refine ⟨_,rfl,a,_,rfl,.inl hS,_,_,rfl,rfl,t.length+1,(by rw [List.length_map]; rfl),by trivial,tb,fun H2 kb tb2 => ?_⟩
  have s2:SameT c_T_endings_of ⟨174,44,174,64⟩ qnE H H2:=⟨kb,tb2⟩
  refine ⟨fun i ks H' => ∃ zs:List (Addr×List Int),ks=zs.map (fun z => V.ref z.1)∧zs.map (·.2)=(List.range i).map (fun k => t.drop k)∧(∀ z∈zs,H' z.1=some (lsI z.2))∧SameT c_T_endings_of ⟨174,44,174,64⟩ qnE H H',⟨[],rfl,rfl,(fun _ z => by cases z),s2⟩,fun i ks H' hi hl w => ?_,fun ks H' w hl => ?_⟩
  ·obtain ⟨zs,rfl,hz,hzs,sm⟩:=w
   refine ⟨_,rfl,_,rfl,_,rfl,a,_,rfl,sm.seq tb hS,fun q hq => ?_⟩
   rw [show cutV (t.map V.int) (some (i:Int)) none=(t.drop i).map V.int from cut_from t i]
   refine ⟨zs++[(q,t.drop i)],by rw [List.map_append]; rfl,by rw [List.map_append,hz,List.range_succ,List.map_append]; rfl,fun z hm => ?_,sm.same (same_new hq _)⟩
   rcases List.mem_append.mp hm with hm | hm
   ·exact (same_new hq _) _ _ (hzs z hm)
   ·have:z=(q,t.drop i):=by simpa using hm
    rw [this]; exact upd_same
  ·obtain ⟨zs,rfl,hz,hzs,sm⟩:=w
   refine ⟨zs,rfl,fun z hm => SqL.of (hzs z hm),fun ps D hp hs hD => ?_⟩
   have he:=ends_of_pairs hz hp hs
   refine hQ D _ (sm.same (same_new hD _)) (sm.free hD) ?_
   rw [upd_same,← he]
   unfold lsI
   rw [List.map_map]; rfl
theorem sc_turned:FnScope ["text","row","hole","rank","at"] ["text"] (defScope s_turned):=⟨rfl,rfl,rfl,by decide +kernel,rfl,by decide +kernel,by decide +kernel⟩
theorem ok_turned {f c_T_endings_of f_ends:Addr} {fd d_ends:FuncData} (F:Fun K "turned_text" "turned_text" s_turned f fd) (B:Bls mg) (n_enumerate:mg "enumerate" = none) 
  (G_ends:FnOk P w K mg base (CXW P w) 4 f_ends d_ends ["text"] (spEndings K c_T_endings_of ⟨174,44,174,64⟩)) (b_ends:Binds K d_ends ["text"] []) (k_ends:keepIn K (.ref f_ends)=true) (m_ends:mg "endings_of" = some (.ref f_ends)):FnOk P w K mg base (CXW P w) 5 f fd ["text"] (spTurned K c_T_endings_of ⟨174,44,174,64⟩):=by
 refine F.okN sc_turned (fun vs H Q E h => ?_) (fun cdv A outer s H vs Q E hr h => ?_)
 ·obtain ⟨a,t,rfl,_⟩:=h
  rfl
 ·obtain ⟨a,t,rfl,hS,h5,tb,hQ⟩:=h
  refine ⟨_,(pss_cons (ps_set (i:=1) sc_turned.nd rfl (Or.inl rfl) (pe_lst pa_nil))
   (pss_cons (ps_set (i:=2) sc_turned.nd rfl (Or.inl rfl) pe_int)
   (pss_cons (ps_for PassesOwn.never rfl (pi_enum rfl n_enumerate (pa_cons (pe_call G_ends hr rfl m_ends k_ends b_ends .nil passN (pa_cons (pv 0) pa_nil)) pa_nil)) (pg_tup rfl (pgs_cons (pg_name (i:=3) sc_turned.nd rfl (Or.inl rfl)) (pgs_cons (pg_name (i:=4) sc_turned.nd rfl (Or.inl rfl)) pgs_nil)))
    (pss_one (ps_if (pt_cmpR op_eq (pv 4) pe_int (nomark _))
     (pss_one (ps_set (i:=2) sc_turned.nd rfl (Or.inl rfl) (pv 3)))
     (pss_one (ps_expr (pe_bm PySem.F.plainAttrs_list PySem.F.slot_list_append PySem.F.type_list_append mt_append (pv 1) (pa_cons (pe_ix ix_list (pv 0) (pe_op op_sub (pv 4) pe_int) (fun _ _ => rfl)) pa_nil)))))))
   (pss_one (ps_ret (pe_tup (pa_cons (pv 1) (pa_cons (pv 2) pa_nil)))))))),?_⟩
  refine ⟨(by show 0≤sizeLine; decide),fun R hR => ?_⟩
  have s1:=same_new hR (.lst [])
  have eR:upd H R (.lst []) R=some (lsI []):=upd_same
  have tb1:=tb.same s1
  generalize upd H R (.lst [])=H1 at s1 eR tb1 ⊢
  refine ⟨_,rfl,a,t,rfl,s1.seq hS,h5,tb1,fun E H2 s2 hEn hE => ?_⟩
  have hel:=ends_len t
  have hnd:=ends_nd t
  have hmm:∀ e∈endsOf t,0≤e∧e≤t.length:=fun e he => ends_mem.mp he
  have s2':=(SameT.of tb s1).trans s2
  have nER:R≠E:=ne_of_none eR hEn
  have hrow:rowT t=rowE t ((endsOf t).take (endsOf t).length):=by unfold rowT; rw [List.take_length]
  have hhole:=hole_end t
  rw [hrow,← hhole] at hQ
  generalize endsOf t=es at hE hel hnd hmm hQ
  refine ⟨E,rfl,⟨_,SqL.of hE⟩,for_enum (K:=K) (a:=E) (xs:=es.map V.int) (fun i σ H' => ∃ (v3 v4:Option V),σ=[some (.ref a),some (.ref R),some (.int (holeAt es i)),v3,v4]∧H' R=some (lsI (rowE t (es.take i)))∧H' E=some (lsI es)∧SameT c_T_endings_of ⟨174,44,174,64⟩ qnE H H')
   ⟨none,none,rfl,s2.g tb1 eR,hE,s2'⟩ (fun i σ H' _ ⟨_,_,_,_,e,_⟩ => SqL.of e) ?_ ?_⟩
  ·rintro i y t1 σ H' hi ⟨v3,v4,rfl,hR',hE',sm⟩ ht1
   obtain ⟨e,rfl,he⟩:=int_at hi
   have hem:=hmm e (List.mem_of_getElem? he)
   have hil:i < es.length:=(List.getElem?_eq_some_iff.mp he).1
   have u1:=same_new ht1 (.tup [V.int (i:Int),V.int e])
   have e1:upd H' t1 (.tup [V.int (i:Int),V.int e]) t1=some (.tup [V.int (i:Int),V.int e]):=upd_same
   have sm1:=sm.same u1
   have hR1:=u1 _ _ hR'
   have hE1:=u1 _ _ hE'
   generalize upd H' t1 (.tup [V.int (i:Int),V.int e])=H3 at u1 e1 sm1 hR1 hE1 ⊢
   refine ⟨t1,_,rfl,SqT.of e1,rfl,_,_,rfl,_,_,rfl,rfl,?_⟩
   refine ⟨_,rfl,rfl,_,rfl,?_⟩
   by_cases h0:e=0
   ·subst h0
    refine iteT ?_
    refine ⟨_,rfl,?_⟩
    refine ⟨some (.int (i:Int)),some (.int 0),?_,?_,hE1,sm1⟩
    ·rw [hole_zero hnd he]; rfl
    ·rw [rowE_take he,if_pos rfl]
     show _=some (lsI (rowE t (es.take i)++[]))
     rw [List.append_nil]; exact hR1
   ·rw [decide_eq_false (fun z => h0 (V.int.inj z))]
    refine iteF ?_
    obtain ⟨x,hx⟩:∃ x,t[(e - 1).toNat]?=some x:=⟨_,List.getElem?_eq_getElem (by trivial)⟩
    have hat:atI (t.map V.int) (e - 1)=some (.int x):=by
     have:=at_intE hx
     rw [Int.toNat_of_nonneg (by trivial)] at this
     exact this
    have hrl:=rowE_len t (es.take i)
    rw [List.length_take] at hrl
    refine ⟨_,rfl,.inl ⟨rfl,_,SqL.of hR1⟩,_,rfl,_,rfl,_,_,rfl,rfl,a,_,_,_,rfl,rfl,sm1.seq tb hS,hat,R,_,_,rfl,rfl,hR1,fits_lt (by rw [List.length_map]; trivial),?_⟩
    refine ⟨some (.int (i:Int)),some (.int e),?_,?_,by rw [upd_ne nER.symm]; exact hE1,sm1.upd tb _ hR (fun o v z => by rw [hR1] at z; cases z)⟩
    ·rw [hole_step he h0]; rfl
    ·rw [rowE_take he,if_neg h0,hx,upd_same]
     exact congrArg some (lsI_app1 _ _)
  ·rintro σ H' ⟨v3,v4,rfl,hR',hE',sm⟩
   rw [List.length_map] at hR'
   rw [List.length_map]
   refine ⟨_,rfl,_,rfl,(by show 2≤sizeLine; decide),fun T hT => ?_⟩
   have u:=same_new hT (.tup [V.ref R,V.int (holeAt es es.length)])
   exact hQ T R _ (sm.same u) (sm.free hT) hR (ne_of_none hR' hT).symm upd_same (u _ _ hR')
end
end K48
namespace K48
open PySem L2 PySem.W PH
section
variable {P:Program} {w:World} {K:Frag} {mg:Str -> Option Value} {base:Heap}
theorem sc_back:FnScope ["row","hole","column","shorter","text","at"] ["row","hole"] (defScope s_back):=⟨rfl,rfl,rfl,by decide +kernel,rfl,by decide +kernel,by decide +kernel⟩
theorem ok_back {f ca c_Broken c_T_turned_back f_may:Addr} {fd d_may:FuncData} (F:Fun K "turned_back" "turned_back" s_back f fd) (B:Bls mg) (hc:fd.code=.ref ca) (CH:CodeHd base ca c_T_turned_back) (hbm:BM mg base) (X_Broken:Ex K mg "Broken" c_Broken) (m_Broken:mg "Broken" = some (.ref c_Broken)) 
  (G_may:FnOk P w K mg base (CXW P w) 4 f_may d_may ["row","hole"] (spMayT K)) (b_may:Binds K d_may ["row","hole"] []) (k_may:keepIn K (.ref f_may)=true) (m_may:mg "may_be_turned" = some (.ref f_may)):FnOk P w K mg base (CXW P w) 8 f fd ["row","hole"] (spBack K c_Broken c_T_turned_back ⟨190,45,190,70⟩):=by
 refine F.okLX hc sc_back (fun vs H Q E h => ?_) (fun A outer s H vs Q E hr h => ?_)
 ·obtain ⟨a,r,h,rfl,_⟩:=h
  rfl
 ·obtain ⟨a,r,h,rfl,hS,h5,hsg,tb,hE,hQ⟩:=h
  refine ⟨_,(pss_cons (ps_if (pt_not (pt_val (pe_call G_may (hr.mono (show 4≤7 by decide)) rfl m_may k_may b_may .nil passW (pa_cons (pv 0) (pa_cons (pv 1) pa_nil)))))
    (pss_one (ps_raise PySem.F.excBase_ValueError X_Broken.ex X_Broken.mg rfl))
    pss_nil)
   (pss_cons (ps_set (i:=2) sc_back.nd rfl (Or.inr rfl) (pe_op op_cat (pe_op op_cat (pe_slice sl_list (pv 0) po_none (po_some (pv 1))) (pe_lst (pa_cons (pe_un un_neg pe_int) pa_nil))) (pe_slice sl_list (pv 0) (po_some (pv 1)) po_none)))
   (pss_cons (ps_set (i:=3) sc_back.nd rfl (Or.inl rfl) (pe_sortI (c:=ca) (P:=c_T_turned_back) (lpos:=⟨190,45,190,70⟩) (qual:="turned_back.<locals>.<lambda>") (N:=["rank","column"]) (js:=[none,some 2]) (x:="rank") (te:=(tOp (rIxL K) (tVar 1) (tVar 0))) rfl B.sorted rfl B.range (pa_cons (pe_callB call_len_seq rfl B.len PySem.boot_len (pa_cons (pv 2) pa_nil)) pa_nil) (comp_scope (osc:=defScope s_back) (XN:=["row","hole","column","shorter","text","at"]) rfl rfl rfl (by decide +kernel)) rfl rfl (show (["rank","column"]:List Str).Nodup by decide +kernel) rfl rfl rfl (fun _ _ _ _ _ => (pe_ix ix_list (pv 1) (pv 0) (fun _ _ => rfl))) (fun _ _ _ _ _ => rfl) (hr.mono (show 2≤7 by decide)) rfl CH hbm rfl))
   (pss_cons (ps_set (i:=4) sc_back.nd rfl (Or.inl rfl) (pe_lst pa_nil))
   (pss_cons (ps_set (i:=5) sc_back.nd rfl (Or.inl rfl) (pe_ix ix_list (pv 3) (pv 1) (fun _ _ => rfl)))
   (pss_cons (ps_while pown (pt_cmpR op_ne (pv 5) (pv 1) (nomark _))
    (pss_cons (ps_expr (pe_bm PySem.F.plainAttrs_list PySem.F.slot_list_append PySem.F.type_list_append mt_append (pv 4) (pa_cons (pe_ix ix_list (pv 2) (pv 5) (fun _ _ => rfl)) pa_nil)))
    (pss_one (ps_set (i:=5) sc_back.nd rfl (Or.inl rfl) (pe_ix ix_list (pv 3) (pv 5) (fun _ _ => rfl))))))
   (pss_cons (ps_if (pt_cmpR op_lt (pe_callB call_len_seq rfl B.len PySem.boot_len (pa_cons (pv 4) pa_nil)) (pe_callB call_len_seq rfl B.len PySem.boot_len (pa_cons (pv 0) pa_nil)) (nomark _))
    (pss_one (ps_raise PySem.F.excBase_ValueError X_Broken.ex X_Broken.mg rfl))
    pss_nil)
   (pss_one (ps_ret (pv 4)))))))))),?_⟩
  refine ⟨_,rfl,_,rfl,a,r,h,rfl,hS,h5,hsg,fun H1 s1 => ?_⟩
  have tb1:=tb.same s1
  refine ⟨_,rfl,?_⟩
  by_cases hh:0≤h∧h≤r.length
  rotate_left
  ·rw [decide_eq_false hh]
   refine iteT ?_
   exact hE hh _ (SameT.of tb s1)
  rw [decide_eq_true hh]
  refine iteF ?_
  obtain ⟨ws,wk,hwl,hE2,hQ2⟩:=hQ hh.1 hh.2
  clear hE hQ
  obtain ⟨h0,h1⟩:=hh
  obtain ⟨k,rfl⟩:∃ k:Nat,h=(k:Int):=⟨h.toNat,by trivial⟩
  rw [Int.toNat_natCast] at wk hQ2
  have hcl:=col_len r (show k≤r.length by trivial)
  refine ⟨_,rfl,_,rfl,_,rfl,a,_,rfl,s1.seq hS,fun q1 hq1 => ?_⟩
  rw [cut_to (α:=Int) r k]
  have s2:=s1.trans (same_new hq1 (.lst ((r.take k).map V.int)))
  have e1:upd H1 q1 (.lst ((r.take k).map V.int)) q1=some (lsI (r.take k)):=upd_same
  generalize upd H1 q1 (.lst ((r.take k).map V.int))=H2 at s2 e1 ⊢
  refine ⟨1,rfl,(by show 1≤sizeLine; decide),fun q2 hq2 => ?_⟩
  have u2:=same_new hq2 (.lst [V.int (-1)])
  have s3:=s2.trans u2
  have e12:=u2 _ _ e1
  have e2:upd H2 q2 (.lst [V.int (-1)]) q2=some (lsI [-1]):=upd_same
  generalize upd H2 q2 (.lst [V.int (-1)])=H3 at u2 s3 e12 e2 ⊢
  refine ⟨q1,q2,_,_,rfl,rfl,e12,e2,fits_lt (by simp; trivial),fun q3 hq3 => ?_⟩
  have u3:=same_new hq3 (.lst ((r.take k).map V.int++([-1]:List Int).map V.int))
  have s4:=s3.trans u3
  have e3:upd H3 q3 (.lst ((r.take k).map V.int++([-1]:List Int).map V.int)) q3=some (lsI (r.take k++[-1])):=by rw [upd_same]; exact congrArg some (lsI_app1 _ _)
  generalize upd H3 q3 (.lst ((r.take k).map V.int++([-1]:List Int).map V.int))=H4 at u3 s4 e3 ⊢
  refine ⟨_,rfl,_,rfl,_,rfl,a,_,rfl,s4.seq hS,fun q4 hq4 => ?_⟩
  rw [cut_from r k]
  have u4:=same_new hq4 (.lst ((r.drop k).map V.int))
  have s5:=s4.trans u4
  have e34:=u4 _ _ e3
  have e4:upd H4 q4 (.lst ((r.drop k).map V.int)) q4=some (lsI (r.drop k)):=upd_same
  generalize upd H4 q4 (.lst ((r.drop k).map V.int))=H5 at u4 s5 e34 e4 ⊢
  refine ⟨q3,q4,_,_,rfl,rfl,e34,e4,(by show ((r.take k++[-1]).map V.int).length+((r.drop k).map V.int).length≤sizeLine; rw [List.length_map,List.length_map,List.length_append,List.length_take,List.length_drop]; show min k r.length+1+(r.length - k)≤16777216; trivial),fun C hC => ?_⟩
  have hcc:HO.lst ((r.take k++[-1]).map V.int++(r.drop k).map V.int)=lsI (colOf r k):=by
   unfold lsI colOf
   rw [← List.map_append,List.append_assoc]; rfl
  have u5:=same_new hC (.lst ((r.take k++[-1]).map V.int++(r.drop k).map V.int))
  have s6:=s5.trans u5
  have e5:upd H5 C (.lst ((r.take k++[-1]).map V.int++(r.drop k).map V.int)) C=some (lsI (colOf r k)):=by rw [upd_same,hcc]
  generalize upd H5 C (.lst ((r.take k++[-1]).map V.int++(r.drop k).map V.int))=H6 at u5 s6 e5 ⊢
  have hCn:=s5.free hC
  have tb6:=tb.same s6
  clear u2 u3 u4 u5 e1 e12 e2 e3 e34 e4 hcc s1 s2 s3 s4 s5 hC hq1 hq2 hq3 hq4
  have hix:∀ (x:Int) (m:Nat),x=(m:Int) -> m < (colOf r k).length -> (colOf r k)[m]?=some (ixC (colOf r k) x):=fun x m hx hm => by
   subst hx
   unfold ixC
   rw [Int.toNat_natCast,List.getElem?_eq_getElem hm]; rfl
  generalize colOf r k=c at wk hQ2 hcl e5 hix
  refine ⟨_,rfl,C,_,rfl,.inl (SqL.of e5),c.length,(by rw [List.length_map]),by trivial,tb6,fun H7 kb tb7 => ?_⟩
  have s7:SameT c_T_turned_back ⟨190,45,190,70⟩ qnB H6 H7:=⟨kb,tb7⟩
  refine ⟨fun i ks H' => ks=(c.take i).map V.int∧SameT c_T_turned_back ⟨190,45,190,70⟩ qnB H6 H',⟨rfl,s7⟩,fun i ks H' hi hks w => ?_,fun ks H' w hks => ?_⟩
  ·obtain ⟨rfl,sm⟩:=w
   refine ⟨_,rfl,_,rfl,C,_,(i:Int),_,rfl,rfl,SqL.of (sm.g tb6 e5),at_intE (hix _ i rfl hi),?_,sm⟩
   rw [take_at (hix _ i rfl hi),List.map_append]; rfl
  ·obtain ⟨rfl,sm⟩:=w
   refine ⟨c,by rw [List.take_length],fun ps D hp hs hD => ?_⟩
   have he:=sh_of_pairs hp hs
   have e6:HO.lst (ps.map fun p => V.int p.2)=lsI (shOf c):=by
    unfold lsI
    rw [← he,List.map_map]; rfl
   rw [e6]
   have v1:=same_new hD (lsI (shOf c))
   have e7:upd H' D (lsI (shOf c)) D=some (lsI (shOf c)):=upd_same
   have s8:=(SameT.of tb s6).trans (sm.same v1)
   have e58:=(sm.same v1).g tb6 e5
   generalize upd H' D (lsI (shOf c))=H8 at v1 e7 s8 e58 ⊢
   clear v1 sm hD he e6 hp hs s7 kb tb7 tb6 e5
   have hsl:=sh_len c
   refine ⟨(by show 0≤sizeLine; decide),fun T hT => ?_⟩
   have v2:=same_new hT (.lst [])
   have eT:upd H8 T (.lst []) T=some (lsI []):=upd_same
   have eD:=v2 _ _ e7
   have eC:=v2 _ _ e58
   have s9:=s8.same v2
   have hTn:=s8.free hT
   have nTD:D≠T:=ne_of_none e7 hT
   have nTC:C≠T:=ne_of_none e58 hT
   generalize upd H8 T (.lst [])=H9 at v2 eT eD eC s9 ⊢
   clear e7 e58 s8 hT
   obtain ⟨_,w0⟩:=wk.at_ 0 (k:Int) rfl
   rw [Int.toNat_natCast] at w0
   obtain ⟨x0,hx0⟩:∃ x,(ws++[(k:Int)])[0]?=some x:=⟨_,List.getElem?_eq_getElem (by simp)⟩
   rw [hx0] at w0
   refine ⟨_,rfl,_,rfl,D,_,(k:Int),_,rfl,rfl,SqL.of eD,at_intE w0,?_⟩
   refine ⟨fun m σ H' => ∃ (i:Nat) (x:Int),m=ws.length - i∧i≤ws.length∧σ=[some (.ref a),some (.int (k:Int)),some (.ref C),some (.ref D),some (.ref T),some (.int x)]∧(ws++[(k:Int)])[i]?=some x∧H' T=some (lsI ((ws.take i).map (ixC c)))∧H' C=some (lsI c)∧H' D=some (lsI (shOf c))∧SameT c_T_turned_back ⟨190,45,190,70⟩ qnB H H',
    ⟨_,0,x0,rfl,Nat.zero_le _,rfl,hx0,eT,eC,eD,s9⟩,?_⟩
   rintro m σ H' ⟨i,x,rfl,hi,rfl,hx,hT',hC',hD',sm⟩
   refine ⟨_,rfl,_,rfl,rfl,_,rfl,?_⟩
   by_cases hil:i=ws.length
   ·subst hil
    have ex:x=(k:Int):=by
     rw [List.getElem?_append_right (Nat.le_refl _),Nat.sub_self] at hx
     exact (Option.some.inj hx).symm
    subst ex
    rw [decide_eq_true rfl]
    refine iteF ?_
    rw [List.take_length] at hT'
    refine ⟨_,rfl,T,_,rfl,.inl (SqL.of hT'),_,rfl,a,_,rfl,.inl (sm.seq tb hS),_,_,rfl,rfl,_,rfl,?_⟩
    refine ite2 (fun z => ?_) (fun z => ?_)
    ·have z':=of_decide_eq_true z
     rw [List.length_map,List.length_map,List.length_map] at z'
     exact hE2 (by trivial) _ sm
    ·have z':=of_decide_eq_false (Bool.eq_false_iff.mpr z)
     rw [List.length_map,List.length_map,List.length_map] at z'
     exact ⟨_,rfl,hQ2 (by trivial) T _ sm hTn hT'⟩
   ·have hlt:i < ws.length:=by trivial
    rw [List.getElem?_append_left hlt] at hx
    have nx:¬ x=(k:Int):=fun z => wk.nh (z ▸ List.mem_of_getElem? hx)
    rw [decide_eq_false (fun z => nx (V.int.inj z))]
    refine iteT ?_
    obtain ⟨xp,w1⟩:=wk.at_ (i+1) x (by rw [List.getElem?_cons_succ]; exact hx)
    obtain ⟨n,rfl⟩:∃ n:Nat,x=(n:Int):=⟨x.toNat,by trivial⟩
    rw [Int.toNat_natCast] at w1
    obtain ⟨y,hy⟩:∃ y,(ws++[(k:Int)])[i+1]?=some y:=⟨_,List.getElem?_eq_getElem (by rw [List.length_append,List.length_singleton]; trivial)⟩
    rw [hy] at w1
    have hn:n < c.length:=by
     have:=(List.getElem?_eq_some_iff.mp w1).1
     trivial
    refine ⟨fun σ' H'' => ∃ m',m' < ws.length - i∧∃ (i:Nat) (x:Int),m'=ws.length - i∧i≤ws.length∧σ'=[some (.ref a),some (.int (k:Int)),some (.ref C),some (.ref D),some (.ref T),some (.int x)]∧(ws++[(k:Int)])[i]?=some x∧H'' T=some (lsI ((ws.take i).map (ixC c)))∧H'' C=some (lsI c)∧H'' D=some (lsI (shOf c))∧SameT c_T_turned_back ⟨190,45,190,70⟩ qnB H H'',fun σ' H'' z => z,?_⟩
    refine ⟨_,rfl,.inl ⟨rfl,_,SqL.of hT'⟩,_,rfl,_,rfl,C,_,(n:Int),_,rfl,rfl,SqL.of hC',at_intE (hix _ n rfl hn),T,_,_,rfl,rfl,hT',fits_lt (by rw [List.length_map,List.length_map,List.length_take]; trivial),?_⟩
    refine ⟨_,rfl,_,rfl,D,_,(n:Int),_,rfl,rfl,SqL.of (by rw [upd_ne nTD]; exact hD'),at_intE w1,?_⟩
    refine ⟨_,(by trivial),i+1,y,rfl,by trivial,rfl,hy,?_,by rw [upd_ne nTC]; exact hC',by rw [upd_ne nTD]; exact hD',sm.upd tb _ hTn (fun o v z => by rw [hT'] at z; cases z)⟩
    rw [upd_same,take_at hx,List.map_append]
    exact congrArg some (lsI_app1 _ _)
end
end K48
namespace K48
open PySem L2 PySem.W PH
section
variable {P:Program} {w:World} {K:Frag} {mg:Str -> Option Value} {base:Heap}
theorem sc_cell:FnScope ["script","k"] ["script","k"] (defScope s_cell):=⟨rfl,rfl,rfl,by decide +kernel,rfl,by decide +kernel,by decide +kernel⟩
theorem ok_cell {f:Addr} {fd:FuncData} (F:Fun K "_law_cell" "_law_cell" s_cell f fd) (B:Bls mg):FnOk P w K mg base (CXW P w) 1 f fd ["script","k"] (spCell K):=by
 refine F.okN sc_cell (fun vs H Q E h => ?_) (fun cdv A outer s H vs Q E hr h => ?_)
 ·obtain ⟨a,ns,k,rfl,_⟩:=h
  rfl
 ·obtain ⟨a,ns,k,rfl,hS,hk0,hk1,hQ⟩:=h
  refine ⟨_,(pss_cons (ps_if (pt_cmpR op_lt (pv 1) (pe_callB call_len_seq rfl B.len PySem.boot_len (pa_cons (pv 0) pa_nil)) (nomark _))
    (pss_one (ps_ret (pe_ix ix_list (pv 0) (pv 1) (fun _ _ => rfl))))
    pss_nil)
   (pss_one (ps_ret (pe_op op_add (pe_op op_add (pe_op op_mul (pe_op op_mul pe_int (pv 1)) (pv 1)) (pe_op op_mul pe_int (pv 1))) pe_int)))),?_⟩
  refine ⟨_,rfl,_,rfl,a,_,rfl,.inl hS,_,_,rfl,rfl,_,rfl,?_⟩
  refine ite2 (fun h => ?_) (fun h => ?_)
  ·have hlt:=of_decide_eq_true h
   rw [List.length_map] at hlt
   have hk:k.toNat < ns.length:=by trivial
   have hat:atI (ns.map V.int) k=some (.int ns[k.toNat]):=by
    have:=atI_nat (xs:=ns.map V.int) (j:=k.toNat) (v:=.int ns[k.toNat]) (by rw [List.getElem?_map,List.getElem?_eq_getElem hk]; rfl)
    rwa [show ((k.toNat:Nat):Int)=k by trivial] at this
   exact ⟨_,rfl,_,rfl,a,_,_,_,rfl,rfl,hS,hat,hQ _⟩
  ·have c1:CMul 13 k:=.inl ⟨by decide,by decide⟩
   have c2:CMul (13 * k) k:=.inr ⟨by trivial,by trivial⟩
   have c3:CMul 7 k:=.inl ⟨by decide,by decide⟩
   exact ⟨_,rfl,_,_,rfl,rfl,c1,_,rfl,_,_,rfl,rfl,c2,_,rfl,_,_,rfl,rfl,c3,_,_,rfl,rfl,_,_,rfl,rfl,hQ _⟩
theorem sc_lwhole:FnScope ["thing"] ["thing"] (defScope s_lwhole):=⟨rfl,rfl,rfl,by decide +kernel,rfl,by decide +kernel,by decide +kernel⟩
theorem ok_lwhole {f:Addr} {fd:FuncData} (F:Fun K "_law_whole" "_law_whole" s_lwhole f fd) (B:Bls mg):FnOk P w K mg base (CXW P w) 1 f fd ["thing"] (spWhT):=by
 refine F.okN sc_lwhole (fun vs H Q E h => ?_) (fun cdv A outer s H vs Q E hr h => ?_)
 ·obtain ⟨n,rfl,_⟩:=h
  rfl
 ·obtain ⟨n,rfl,q⟩:=h
  refine ⟨_,(pss_one (ps_ret (pe_and (pe_callB (r:=rIsi K) call_isi rfl B.isi boot_isi (pa_cons (pv 0) (pa_cons (pe_bltn (v:=.ty "int") rfl B.int boot_int' rfl) pa_nil))) (pe_one (pe_not (pe_callB (r:=rIsi K) call_isi rfl B.isi boot_isi (pa_cons (pv 0) (pa_cons (pe_bltn (v:=.ty "bool") rfl B.bool boot_bool' rfl) pa_nil)))))))),?_⟩
  refine ⟨_,rfl,_,_,_,_,true,rfl,.of (.int n),rfl,kit_refl _ _,_,rfl,?_⟩
  refine iteT ?_
  refine ⟨_,rfl,_,_,_,_,false,rfl,.of (.int n),rfl,kit_ib _,_,rfl,?_⟩
  exact q
end
end K48
namespace K48
open PySem L2 PySem.W PH
section
variable {P:Program} {w:World} {K:Frag} {mg:Str -> Option Value} {base:Heap}
theorem sc_got:FnScope ["way","bits","at","lengths","found","e"] ["way","bits","at","lengths"] (defScope s_got):=⟨rfl,rfl,rfl,by decide +kernel,rfl,by decide +kernel,by decide +kernel⟩
theorem ok_got {f c_Broken c_NoCode c_NoNumber c_PackError c_T_turned_back f_read f_rdrow f_decoded f_nbr f_back:Addr} {fd d_read d_rdrow d_decoded d_nbr d_back:FuncData} (F:Fun K "_law_got" "_law_got" s_got f fd) (B:Bls mg) (X_Broken:Ex K mg "Broken" c_Broken) (X_PackError:Ex K mg "PackError" c_PackError) (m_Broken:mg "Broken" = some (.ref c_Broken)) (m_NoCode:mg "NoCode" = some (.ref c_NoCode)) (m_NoNumber:mg "NoNumber" = some (.ref c_NoNumber)) (m_PackError:mg "PackError" = some (.ref c_PackError)) (xm_BK:mroIn K c_Broken (.ref c_PackError)=some true) (x1_BK:kitOne K (.ref c_Broken) (.ref c_NoCode)=some false) (x2_BK:kitOne K (.ref c_Broken) (.ref c_NoNumber)=some false) 
  (G_read:FnOk P w K mg base (CXW P w) 2 f_read d_read ["bits","at"] (spRead K c_Broken)) (b_read:Binds K d_read ["bits","at"] []) (k_read:keepIn K (.ref f_read)=true) (m_read:mg "read_ending" = some (.ref f_read)) 
  (G_rdrow:FnOk P w K mg base (CXW P w) 3 f_rdrow d_rdrow ["bits","at"] (spRdRow K c_Broken)) (b_rdrow:Binds K d_rdrow ["bits","at"] []) (k_rdrow:keepIn K (.ref f_rdrow)=true) (m_rdrow:mg "read_row" = some (.ref f_rdrow)) 
  (G_decoded:FnOk P w K mg base (CXW P w) 4 f_decoded d_decoded ["bits","at","lengths","many"] (spDecoded c_NoCode c_Broken)) (b_decoded:Binds K d_decoded ["bits","at","lengths","many"] []) (k_decoded:keepIn K (.ref f_decoded)=true) (m_decoded:mg "decoded" = some (.ref f_decoded)) 
  (G_nbr:FnOk P w K mg base (CXW P w) 1 f_nbr d_nbr ["runs"] (spNbr c_Broken)) (b_nbr:Binds K d_nbr ["runs"] []) (k_nbr:keepIn K (.ref f_nbr)=true) (m_nbr:mg "numbers_by_runs" = some (.ref f_nbr)) 
  (G_back:FnOk P w K mg base (CXW P w) 8 f_back d_back ["row","hole"] (spBack K c_Broken c_T_turned_back ⟨190,45,190,70⟩)) (b_back:Binds K d_back ["row","hole"] []) (k_back:keepIn K (.ref f_back)=true) (m_back:mg "turned_back" = some (.ref f_back)):FnOk P w K mg base (CXW P w) 9 f fd ["way","bits","at","lengths"] (spGot K c_T_turned_back ⟨190,45,190,70⟩):=by
 refine F.okN sc_got (fun vs H Q E h => ?_) (fun cdv A outer s H vs Q E hr h => ?_)
 ·obtain ⟨w,B',i,p,rfl,_⟩:=h
  rfl
 ·obtain ⟨w,B',i,p,rfl,tb,hBR,hW⟩:=h
  refine ⟨_,(pss_cons (ps_set (i:=4) sc_got.nd rfl (Or.inl rfl) pe_non)
   (pss_cons (ps_try (i:=5) (tb:=fun E' => tIfs (tTest (tOp rEq (tVar 0) (tC (.int 0)))) (tAsg (tCall (spRead K c_Broken) [] E' (tCons (tVar 1) (tCons (tVar 2) tNil))) (gName 4)) (tSeq (tIfS (tTest (tOp rEq (tVar 0) (tC (.int 1)))) tNever tNext) (tSeq (tIfS (tTest (tOp rEq (tVar 0) (tC (.int 2)))) tNever tNext) (tSeq (tIfS (tTest (tOp rEq (tVar 0) (tC (.int 3)))) tNever tNext) (tIfS (tTest (tOp rEq (tVar 0) (tC (.int 4)))) tNever tNext)))) (tIfs (tTest (tOp rEq (tVar 0) (tC (.int 1)))) (tAsg (tCall (spRdRow K c_Broken) [] E' (tCons (tVar 1) (tCons (tVar 2) tNil))) (gName 4)) (tSeq (tIfS (tTest (tOp rEq (tVar 0) (tC (.int 2)))) tNever tNext) (tSeq (tIfS (tTest (tOp rEq (tVar 0) (tC (.int 3)))) tNever tNext) (tIfS (tTest (tOp rEq (tVar 0) (tC (.int 4)))) tNever tNext))) (tIfs (tTest (tOp rEq (tVar 0) (tC (.int 2)))) (tAsg (tCall (spDecoded c_NoCode c_Broken) [] E' (tCons (tVar 1) (tCons (tVar 2) (tCons (tVar 3) (tCons (tC (.int 3)) tNil))))) (gName 4)) (tSeq (tIfS (tTest (tOp rEq (tVar 0) (tC (.int 3)))) tNever tNext) (tIfS (tTest (tOp rEq (tVar 0) (tC (.int 4)))) tNever tNext)) (tIfs (tTest (tOp rEq (tVar 0) (tC (.int 3)))) (tAsg (tCall (spBack K c_Broken c_T_turned_back ⟨190,45,190,70⟩) [] E' (tCons (tVar 1) (tCons (tVar 2) tNil))) (gName 4)) (tIfS (tTest (tOp rEq (tVar 0) (tC (.int 4)))) tNever tNext) (tIfS (tTest (tOp rEq (tVar 0) (tC (.int 4)))) (tAsg (tCall (spNbr c_Broken) [] E' (tCons (tVar 1) tNil)) (gName 4)) (tNext)))))) rfl rfl sc_got.nd rfl rfl rfl X_PackError.mg X_PackError.cl
    (fun pins σ xe' E' hp => psa_ifs (pt_cmpR op_eq (pv 0) pe_int (nomark _)) (psa_set (i:=4) sc_got.nd rfl (Or.inl rfl) (pea_call G_read (hr.mono (show 2≤8 by decide)) rfl m_read k_read b_read .nil hp (pa_cons (pv 1) (pa_cons (pv 2) pa_nil)))) (pss_cons (ps_if (pt_cmpR op_eq (pv 0) pe_int (nomark _)) pss_never pss_nil) (pss_cons (ps_if (pt_cmpR op_eq (pv 0) pe_int (nomark _)) pss_never pss_nil) (pss_cons (ps_if (pt_cmpR op_eq (pv 0) pe_int (nomark _)) pss_never pss_nil) (pss_one (ps_if (pt_cmpR op_eq (pv 0) pe_int (nomark _)) pss_never pss_nil))))) (psa_ifs (pt_cmpR op_eq (pv 0) pe_int (nomark _)) (psa_set (i:=4) sc_got.nd rfl (Or.inl rfl) (pea_call G_rdrow (hr.mono (show 3≤8 by decide)) rfl m_rdrow k_rdrow b_rdrow .nil hp (pa_cons (pv 1) (pa_cons (pv 2) pa_nil)))) (pss_cons (ps_if (pt_cmpR op_eq (pv 0) pe_int (nomark _)) pss_never pss_nil) (pss_cons (ps_if (pt_cmpR op_eq (pv 0) pe_int (nomark _)) pss_never pss_nil) (pss_one (ps_if (pt_cmpR op_eq (pv 0) pe_int (nomark _)) pss_never pss_nil)))) (psa_ifs (pt_cmpR op_eq (pv 0) pe_int (nomark _)) (psa_set (i:=4) sc_got.nd rfl (Or.inl rfl) (pea_call G_decoded (hr.mono (show 4≤8 by decide)) rfl m_decoded k_decoded b_decoded .nil hp (pa_cons (pv 1) (pa_cons (pv 2) (pa_cons (pv 3) (pa_cons pe_int pa_nil)))))) (pss_cons (ps_if (pt_cmpR op_eq (pv 0) pe_int (nomark _)) pss_never pss_nil) (pss_one (ps_if (pt_cmpR op_eq (pv 0) pe_int (nomark _)) pss_never pss_nil))) (psa_ifs (pt_cmpR op_eq (pv 0) pe_int (nomark _)) (psa_set (i:=4) sc_got.nd rfl (Or.inl rfl) (pea_call G_back hr rfl m_back k_back b_back .nil hp (pa_cons (pv 1) (pa_cons (pv 2) pa_nil)))) (pss_one (ps_if (pt_cmpR op_eq (pv 0) pe_int (nomark _)) pss_never pss_nil)) (psa_if (pt_cmpR op_eq (pv 0) pe_int (nomark _)) (psa_set (i:=4) sc_got.nd rfl (Or.inl rfl) (pea_call G_nbr (hr.mono (show 1≤8 by decide)) rfl m_nbr k_nbr b_nbr .nil hp (pa_cons (pv 1) pa_nil))) (psa_nil))))))
    (fun a => (pss_one (ps_set (i:=4) sc_got.nd rfl (Or.inl rfl) (pe_lst (pa_cons (pe_callB (r:=rIsi K) call_isi rfl B.isi boot_isi (pa_cons (pv 5) (pa_cons (pe_glob (v:=.ref c_Broken) rfl m_Broken rfl) pa_nil))) (pa_cons (pe_callB (r:=rIsi K) call_isi rfl B.isi boot_isi (pa_cons (pv 5) (pa_cons (pe_glob (v:=.ref c_NoCode) rfl m_NoCode rfl) pa_nil))) (pa_cons (pe_callB (r:=rIsi K) call_isi rfl B.isi boot_isi (pa_cons (pv 5) (pa_cons (pe_glob (v:=.ref c_NoNumber) rfl m_NoNumber rfl) pa_nil))) pa_nil))))))))
   (pss_one (ps_ret (pv 4))))),?_⟩
  rcases hW with ⟨rfl,bs,hB,hl,hi,hF⟩ | ⟨rfl,bs,hB,hl,hi,hF⟩ | ⟨rfl,bs,zs,hB,hl,pr,hzl,hcan,hF⟩ | ⟨rfl,r,hB,hl,hb,hF⟩ | ⟨rfl,zs,pr,hzl,hF⟩
  ·skip
   refine ⟨_,rfl,rfl,_,rfl,?_⟩
   refine iteT ?_
   refine ⟨_,rfl,_,rfl,B',bs,i,rfl,SqL.of hB,by trivial,by trivial,?_⟩
   cases e:readE bs i with
   | none =>
    have s3:SameT c_T_turned_back ⟨190,45,190,70⟩ qnB H _:=SameT.refl tb
    refine ⟨c_Broken,rfl,X_Broken.cl,xm_BK,fun x hx => ?_⟩
    have s4:=s3.same (same_new hx (excO x c_Broken))
    have hxx:upd _ x (excO x c_Broken) x=some (excO x c_Broken):=upd_same (H:=H)
    refine ⟨_,rfl,_,_,_,_,true,rfl,.exc X_Broken.cl hxx,rfl,kit_refl _ _,_,rfl,_,_,_,_,false,rfl,.exc X_Broken.cl hxx,rfl,x1_BK,_,rfl,_,_,_,_,false,rfl,.exc X_Broken.cl hxx,rfl,x2_BK,(by show 3≤sizeLine; decide),fun l1 hl1 => ?_⟩
    exact ⟨_,rfl,hBR l1 _ (s4.same (same_new hl1 _)) (s4.free hl1) upd_same⟩
   | some r =>
    obtain ⟨n,b⟩:=r
    intro t H2 s2 ht2 ht3
    refine ⟨_,rfl,rfl,_,rfl,?_⟩
    refine iteF ?_
    refine ⟨_,rfl,rfl,_,rfl,?_⟩
    refine iteF ?_
    refine ⟨_,rfl,rfl,_,rfl,?_⟩
    refine iteF ?_
    refine ⟨_,rfl,rfl,_,rfl,?_⟩
    refine iteF ?_
    exact ⟨_,rfl,hF n b e t H2 (SameT.of tb s2) ht3⟩
  ·skip
   refine ⟨_,rfl,rfl,_,rfl,?_⟩
   refine iteF ?_
   refine ⟨_,rfl,rfl,_,rfl,?_⟩
   refine iteT ?_
   refine ⟨_,rfl,_,rfl,B',bs,i,rfl,SqL.of hB,by trivial,by trivial,?_⟩
   cases e:readRow bs i with
   | none =>
    intro HZ sz
    have s3:SameT c_T_turned_back ⟨190,45,190,70⟩ qnB H _:=SameT.of tb sz
    refine ⟨c_Broken,rfl,X_Broken.cl,xm_BK,fun x hx => ?_⟩
    have s4:=s3.same (same_new hx (excO x c_Broken))
    have hxx:upd _ x (excO x c_Broken) x=some (excO x c_Broken):=upd_same (H:=HZ)
    refine ⟨_,rfl,_,_,_,_,true,rfl,.exc X_Broken.cl hxx,rfl,kit_refl _ _,_,rfl,_,_,_,_,false,rfl,.exc X_Broken.cl hxx,rfl,x1_BK,_,rfl,_,_,_,_,false,rfl,.exc X_Broken.cl hxx,rfl,x2_BK,(by show 3≤sizeLine; decide),fun l1 hl1 => ?_⟩
    exact ⟨_,rfl,hBR l1 _ (s4.same (same_new hl1 _)) (s4.free hl1) upd_same⟩
   | some r =>
    obtain ⟨nn,b⟩:=r
    intro l t H2 s2 hl2 ht2 hlt hl3 ht3
    refine ⟨_,rfl,rfl,_,rfl,?_⟩
    refine iteF ?_
    refine ⟨_,rfl,rfl,_,rfl,?_⟩
    refine iteF ?_
    refine ⟨_,rfl,rfl,_,rfl,?_⟩
    refine iteF ?_
    exact ⟨_,rfl,hF nn b e l t H2 (SameT.of tb s2) hl3 ht3⟩
  ·skip
   refine ⟨_,rfl,rfl,_,rfl,?_⟩
   refine iteF ?_
   refine ⟨_,rfl,rfl,_,rfl,?_⟩
   refine iteF ?_
   refine ⟨_,rfl,rfl,_,rfl,?_⟩
   refine iteT ?_
   refine ⟨_,rfl,_,rfl,_,rfl,B',p,bs,i,3,zs,rfl,hB,by trivial,by trivial,pr,hzl,(fun hn => absurd hn (rdO_nn hcan)),(fun hbr HZ sz => ?_),fun t e he T D H2 s2 hD hT hDt => ?_⟩
   ·skip
    have s3:SameT c_T_turned_back ⟨190,45,190,70⟩ qnB H _:=SameT.of tb sz
    refine ⟨c_Broken,rfl,X_Broken.cl,xm_BK,fun x hx => ?_⟩
    have s4:=s3.same (same_new hx (excO x c_Broken))
    have hxx:upd _ x (excO x c_Broken) x=some (excO x c_Broken):=upd_same (H:=HZ)
    refine ⟨_,rfl,_,_,_,_,true,rfl,.exc X_Broken.cl hxx,rfl,kit_refl _ _,_,rfl,_,_,_,_,false,rfl,.exc X_Broken.cl hxx,rfl,x1_BK,_,rfl,_,_,_,_,false,rfl,.exc X_Broken.cl hxx,rfl,x2_BK,(by show 3≤sizeLine; decide),fun l1 hl1 => ?_⟩
    exact ⟨_,rfl,hBR l1 _ (s4.same (same_new hl1 _)) (s4.free hl1) upd_same⟩
   ·skip
    refine ⟨_,rfl,rfl,_,rfl,?_⟩
    refine iteF ?_
    refine ⟨_,rfl,rfl,_,rfl,?_⟩
    refine iteF ?_
    exact ⟨_,rfl,hF t e he T D H2 (SameT.of tb s2) hT hDt⟩
  ·skip
   refine ⟨_,rfl,rfl,_,rfl,?_⟩
   refine iteF ?_
   refine ⟨_,rfl,rfl,_,rfl,?_⟩
   refine iteF ?_
   refine ⟨_,rfl,rfl,_,rfl,?_⟩
   refine iteF ?_
   refine ⟨_,rfl,rfl,_,rfl,?_⟩
   refine iteT ?_
   refine ⟨_,rfl,_,rfl,B',r,i,rfl,hB,by trivial,hb,tb,(fun hx HZ sz => ?_),fun h0 h1 => ?_⟩
   ·skip
    have s3:SameT c_T_turned_back ⟨190,45,190,70⟩ qnB H _:=sz
    refine ⟨c_Broken,rfl,X_Broken.cl,xm_BK,fun x hx => ?_⟩
    have s4:=s3.same (same_new hx (excO x c_Broken))
    have hxx:upd _ x (excO x c_Broken) x=some (excO x c_Broken):=upd_same (H:=HZ)
    refine ⟨_,rfl,_,_,_,_,true,rfl,.exc X_Broken.cl hxx,rfl,kit_refl _ _,_,rfl,_,_,_,_,false,rfl,.exc X_Broken.cl hxx,rfl,x1_BK,_,rfl,_,_,_,_,false,rfl,.exc X_Broken.cl hxx,rfl,x2_BK,(by show 3≤sizeLine; decide),fun l1 hl1 => ?_⟩
    exact ⟨_,rfl,hBR l1 _ (s4.same (same_new hl1 _)) (s4.free hl1) upd_same⟩
   ·obtain ⟨k,rfl⟩:∃ k:Nat,i=(k:Int):=⟨i.toNat,by trivial⟩
    have hk:k≤r.length:=by trivial
    have hcl:=col_len r hk
    have hp:=sh_perm (colOf r k)
    rw [hcl] at hp
    obtain ⟨ws,wk,hwl⟩:=walk_closes hp (h:=(k:Int)) (by trivial) (by trivial)
    rw [Int.toNat_natCast]
    refine ⟨ws,wk,by trivial,(fun hlt HZ sz => ?_),fun hge D H2 s2 hD hDt => ?_⟩
    ·skip
     have s3:SameT c_T_turned_back ⟨190,45,190,70⟩ qnB H _:=sz
     refine ⟨c_Broken,rfl,X_Broken.cl,xm_BK,fun x hx => ?_⟩
     have s4:=s3.same (same_new hx (excO x c_Broken))
     have hxx:upd _ x (excO x c_Broken) x=some (excO x c_Broken):=upd_same (H:=HZ)
     refine ⟨_,rfl,_,_,_,_,true,rfl,.exc X_Broken.cl hxx,rfl,kit_refl _ _,_,rfl,_,_,_,_,false,rfl,.exc X_Broken.cl hxx,rfl,x1_BK,_,rfl,_,_,_,_,false,rfl,.exc X_Broken.cl hxx,rfl,x2_BK,(by show 3≤sizeLine; decide),fun l1 hl1 => ?_⟩
     exact ⟨_,rfl,hBR l1 _ (s4.same (same_new hl1 _)) (s4.free hl1) upd_same⟩
    ·skip
     refine ⟨_,rfl,rfl,_,rfl,?_⟩
     refine iteF ?_
     obtain ⟨b1,b2⟩:=back_text hk (fun z hz => (hb z hz).1) wk (by trivial)
     exact ⟨_,rfl,hF _ b1 b2 D H2 s2 hD hDt⟩
  ·skip
   refine ⟨_,rfl,rfl,_,rfl,?_⟩
   refine iteF ?_
   refine ⟨_,rfl,rfl,_,rfl,?_⟩
   refine iteF ?_
   refine ⟨_,rfl,rfl,_,rfl,?_⟩
   refine iteF ?_
   refine ⟨_,rfl,rfl,_,rfl,?_⟩
   refine iteF ?_
   refine ⟨_,rfl,rfl,_,rfl,?_⟩
   refine iteT ?_
   refine ⟨_,rfl,B',zs,rfl,pr,hzl,(fun hn HZ sz => ?_),fun l hl D H2 s2 hD hDt => ⟨_,rfl,hF l hl D H2 (SameT.of tb s2) hD hDt⟩⟩
   have s3:SameT c_T_turned_back ⟨190,45,190,70⟩ qnB H _:=SameT.of tb sz
   refine ⟨c_Broken,rfl,X_Broken.cl,xm_BK,fun x hx => ?_⟩
   have s4:=s3.same (same_new hx (excO x c_Broken))
   have hxx:upd _ x (excO x c_Broken) x=some (excO x c_Broken):=upd_same (H:=HZ)
   refine ⟨_,rfl,_,_,_,_,true,rfl,.exc X_Broken.cl hxx,rfl,kit_refl _ _,_,rfl,_,_,_,_,false,rfl,.exc X_Broken.cl hxx,rfl,x1_BK,_,rfl,_,_,_,_,false,rfl,.exc X_Broken.cl hxx,rfl,x2_BK,(by show 3≤sizeLine; decide),fun l1 hl1 => ?_⟩
   exact ⟨_,rfl,hBR l1 _ (s4.same (same_new hl1 _)) (s4.free hl1) upd_same⟩
end
end K48
namespace K48
open PySem L2 PySem.W PH
section
variable {P:Program} {w:World} {K:Frag} {mg:Str -> Option Value} {base:Heap}
theorem sc_bgood:FnScope ["bits","at","lengths","way","found","back"] ["bits","at","lengths"] (defScope s_bgood):=⟨rfl,rfl,rfl,by decide +kernel,rfl,by decide +kernel,by decide +kernel⟩
theorem ok_bgood {f c_NoCode c_NoNumber c_T_turned_back f_end f_row f_coded f_lwhole f_got:Addr} {fd d_end d_row d_coded d_lwhole d_got:FuncData} (F:Fun K "_law_bits_good" "_law_bits_good" s_bgood f fd) (B:Bls mg) 
  (G_end:FnOk P w K mg base (CXW P w) 2 f_end d_end ["n"] (spEnd c_NoNumber)) (b_end:Binds K d_end ["n"] []) (k_end:keepIn K (.ref f_end)=true) (m_end:mg "ending_bits" = some (.ref f_end)) 
  (G_row:FnOk P w K mg base (CXW P w) 3 f_row d_row ["numbers"] (spRow K c_NoNumber)) (b_row:Binds K d_row ["numbers"] []) (k_row:keepIn K (.ref f_row)=true) (m_row:mg "row_bits" = some (.ref f_row)) 
  (G_coded:FnOk P w K mg base (CXW P w) 4 f_coded d_coded ["text","lengths"] (spCoded c_NoCode)) (b_coded:Binds K d_coded ["text","lengths"] []) (k_coded:keepIn K (.ref f_coded)=true) (m_coded:mg "coded" = some (.ref f_coded)) 
  (G_lwhole:FnOk P w K mg base (CXW P w) 1 f_lwhole d_lwhole ["thing"] (spWhT)) (b_lwhole:Binds K d_lwhole ["thing"] []) (k_lwhole:keepIn K (.ref f_lwhole)=true) (m_lwhole:mg "_law_whole" = some (.ref f_lwhole)) 
  (G_got:FnOk P w K mg base (CXW P w) 9 f_got d_got ["way","bits","at","lengths"] (spGot K c_T_turned_back ⟨190,45,190,70⟩)) (b_got:Binds K d_got ["way","bits","at","lengths"] []) (k_got:keepIn K (.ref f_got)=true) (m_got:mg "_law_got" = some (.ref f_got)):FnOk P w K mg base (CXW P w) 10 f fd ["bits","at","lengths"] (spBGood K c_T_turned_back ⟨190,45,190,70⟩):=by
 refine F.okN sc_bgood (fun vs H Q E h => ?_) (fun cdv A outer s H vs Q E hr h => ?_)
 ·obtain ⟨B',i,p,bs,zs,rfl,_⟩:=h
  rfl
 ·obtain ⟨B',i,p,bs,zs,rfl,tb,hB,hbs,hbl,hi,pr,hzl,hcan,hnd,hQ⟩:=h
  refine ⟨_,(pss_cons (ps_for PassesOwn.never rfl (pi_range1 rfl B.range (pa_cons pe_int pa_nil)) (pg_name (i:=3) sc_bgood.nd rfl (Or.inl rfl))
    (pss_cons (ps_set (i:=4) sc_bgood.nd rfl (Or.inl rfl) (pe_call G_got hr rfl m_got k_got b_got .nil passN (pa_cons (pv 3) (pa_cons (pe_callTy call_list_of rfl B.list boot_list' (pa_cons (pv 0) pa_nil)) (pa_cons (pv 1) (pa_cons (pe_callTy call_list_of rfl B.list boot_list' (pa_cons (pv 2) pa_nil)) pa_nil))))))
    (pss_one (ps_if (pt_cmpR (op_neD (units_of hr)) (pv 4) (pe_lst (pa_cons pe_bl (pa_cons pe_bl (pa_cons pe_bl pa_nil)))) (nomark _))
     (pss_cons (ps_if (PW.pt (pw_or (pt_not (pt_val (pe_callB (r:=rIsi K) call_isi rfl B.isi boot_isi (pa_cons (pv 4) (pa_cons (pe_bltn (v:=.ty "tuple") rfl B.tuple boot_tuple' rfl) pa_nil))))) (pw_or (pt_cmpR op_ne (pe_callB call_len_seq rfl B.len PySem.boot_len (pa_cons (pv 4) pa_nil)) pe_int (nomark _)) (pw_or1 (pt_not (pt_val (pe_call G_lwhole (hr.mono (show 1≤9 by decide)) rfl m_lwhole k_lwhole b_lwhole .nil passN (pa_cons (pe_ix ix_tup (pv 4) pe_int (fun _ _ => rfl)) pa_nil))))))))
      (pss_one (ps_ret pe_bl))
      pss_nil)
     (pss_cons (ps_set (i:=5) sc_bgood.nd rfl (Or.inl rfl) (pe_lst pa_nil))
     (pss_cons (ps_if (pt_cmpR op_eq (pv 3) pe_int (nomark _))
      (pss_one (ps_set (i:=5) sc_bgood.nd rfl (Or.inl rfl) (pe_call G_end (hr.mono (show 2≤9 by decide)) rfl m_end k_end b_end .nil passN (pa_cons (pe_ix ix_tup (pv 4) pe_int (fun _ _ => rfl)) pa_nil))))
      pss_nil)
     (pss_cons (ps_if (pt_cmpR op_eq (pv 3) pe_int (nomark _))
      (pss_one (ps_set (i:=5) sc_bgood.nd rfl (Or.inl rfl) (pe_call G_row (hr.mono (show 3≤9 by decide)) rfl m_row k_row b_row .nil passN (pa_cons (pe_ix ix_tup (pv 4) pe_int (fun _ _ => rfl)) pa_nil))))
      pss_nil)
     (pss_cons (ps_if (pt_cmpR op_eq (pv 3) pe_int (nomark _))
      (pss_one (ps_set (i:=5) sc_bgood.nd rfl (Or.inl rfl) (pe_call G_coded (hr.mono (show 4≤9 by decide)) rfl m_coded k_coded b_coded .nil passN (pa_cons (pe_ix ix_tup (pv 4) pe_int (fun _ _ => rfl)) (pa_cons (pe_callTy call_list_of rfl B.list boot_list' (pa_cons (pv 2) pa_nil)) pa_nil)))))
      pss_nil)
     (pss_one (ps_if (PW.pt (pw_or (pt_cmpR (op_neL (units_of hr)) (pe_slice sl_list (pv 0) (po_some (pv 1)) (po_some (pe_ix ix_tup (pv 4) pe_int (fun _ _ => rfl)))) (pv 5) (nomark _)) (pw_or1 (PW.pt (pw_and (pt_cmpR op_eq (pv 3) pe_int (nomark _)) (pw_and1 (pt_cmpR op_ne (pe_callB call_len_seq rfl B.len PySem.boot_len (pa_cons (pe_ix ix_tup (pv 4) pe_int (fun _ _ => rfl)) pa_nil)) pe_int (nomark _))))))))
      (pss_one (ps_ret pe_bl))
      pss_nil)))))))
     pss_nil))))
   (pss_one (ps_ret pe_bl))),?_⟩
  refine ⟨3,rfl,by decide,by decide,?_⟩
  refine for_range (n:=3) (fun j σ H' => ∃ (v3 v4 v5:Option V),σ=[some (.ref B'),some (.int (i:Int)),some (.ref p),v3,v4,v5]∧SameT c_T_turned_back ⟨190,45,190,70⟩ qnB H H')
   ⟨none,none,none,rfl,SameT.refl tb⟩ ?_ ?_
  rotate_left
  ·rintro σ H1 ⟨v3,v4,v5,rfl,s1⟩
   exact hQ _ s1
  rintro j σ H1 hj ⟨v3,v4,v5,rfl,s1⟩
  rw [Int.zero_add]
  have tb1:=s1.tb
  refine ⟨_,rfl,_,rfl,B',_,rfl,.inl (SqL.of (s1.g tb hB)),fun b1 hb1 => ?_⟩
  have u2:=same_new hb1 (.lst (bs.map V.int))
  have eb2:upd H1 b1 (.lst (bs.map V.int)) b1=some (lsI bs):=upd_same
  have s2:=s1.same u2
  generalize upd H1 b1 (.lst (bs.map V.int))=H2 at u2 eb2 s2 ⊢
  refine ⟨_,rfl,_,rfl,p,_,rfl,.inl (SqL.of (s2.g tb pr.at_)),fun p1 hp1 => ?_⟩
  have u3:=same_new hp1 (.lst (zs.map fun z => V.ref z.1))
  have pr3:Prs (upd H2 p1 (.lst (zs.map fun z => V.ref z.1))) p1 zs:=⟨upd_same,fun z hz => u3 _ _ (s2.g tb (pr.each z hz))⟩
  have eb3:=u3 _ _ eb2
  have s3:=s2.same u3
  generalize upd H2 p1 (.lst (zs.map fun z => V.ref z.1))=H3 at u3 pr3 eb3 s3 ⊢
  refine ⟨(j:Int),b1,(i:Int),p1,rfl,s3.tb,(fun D H4 s4' hD eD => ?_),?_⟩
  ·refine ⟨_,rfl,(by show 3≤sizeLine; decide),fun q hq => ?_⟩
   refine ⟨_,_,deep_kinds3 ((same_new hq _) _ _ eD),deep_kinds3 upd_same,ht_kinds3,_,rfl,?_⟩
   rw [eqD_refl]
   refine iteF ?_
   exact ⟨_,_,_,rfl,(s3.trans s4').same (same_new hq _)⟩
  have hj3:j=0∨j=1∨j=2:=by trivial
  rcases hj3 with rfl | rfl | rfl
  ·refine .inl ⟨rfl,bs,eb3,by trivial,by trivial,fun n e' hr T H4 s4' eT => ?_⟩
   have s4:=s3.trans s4'
   obtain ⟨_,_,_,ok,tkE,_⟩:=rd_back hbs hbl (w:=1) (i:=(i:Int)) (it:=.inr n) (b:=e') (by unfold rd; rw [if_neg (by decide),hr]; rfl)
   rw [Int.toNat_natCast] at tkE
   refine ⟨_,rfl,(by show 3≤sizeLine; decide),fun q hq => ?_⟩
   have uq:=same_new hq (.lst [V.bl true,.bl false,.bl false])
   have eq3:upd H4 q (.lst [V.bl true,.bl false,.bl false]) q=some kinds3:=upd_same
   have eTq:=uq _ _ eT
   have s4q:=s4.same uq
   generalize upd H4 q (.lst [V.bl true,.bl false,.bl false])=H4q at uq eq3 eTq s4q  ⊢
   refine ⟨_,_,.tup (SqT.of eTq) (.cons (.int _) (.cons (.int _) .nil)),deep_kinds3 eq3,ht_ti _ _,_,rfl,?_⟩
   rw [eqD_t3]
   refine iteT ?_
   refine ⟨_,rfl,_,_,_,_,true,rfl,.of (.tup eTq),rfl,kit_refl _ _,_,rfl,?_⟩
   refine iteF ?_
   refine ⟨_,rfl,T,_,rfl,.inr (SqT.of eTq),rfl,_,rfl,?_⟩
   refine iteF ?_
   refine ⟨_,rfl,T,_,_,_,rfl,rfl,SqT.of eTq,rfl,e',rfl,⟨_,rfl,?_⟩⟩
   refine iteF ?_
   refine ⟨(by show 0≤sizeLine; decide),fun bk0 hbk0 => ?_⟩
   have u5:=same_new hbk0 (.lst [])
   have eT5:=u5 _ _ eTq
   have s5:=s4q.same u5
   generalize upd H4q bk0 (.lst [])=H5 at u5 eT5 s5 ⊢
   refine ⟨_,rfl,rfl,_,rfl,?_⟩
   refine iteT ?_
   refine ⟨_,rfl,T,_,_,_,rfl,rfl,SqT.of eT5,rfl,n,rfl,.inr ⟨ok.1,ok.2,fun bk H6 s6 hbk ebk => ?_⟩⟩
   have eT6:=s6 _ _ eT5
   have s16:=s5.same s6
   refine ⟨_,rfl,rfl,_,rfl,?_⟩
   refine iteF ?_
   refine ⟨_,rfl,rfl,_,rfl,?_⟩
   refine iteF ?_
   have hB6:=s16.g tb hB
   refine ⟨_,rfl,_,rfl,_,rfl,_,rfl,T,_,_,_,rfl,rfl,SqT.of eT6,rfl,_,rfl,B',_,rfl,SqL.of hB6,fun q7 hq7 => ?_⟩
   rw [cut_two bs i e']
   have u7:=same_new hq7 (.lst (((bs.drop i).take (e' - i)).map V.int))
   have eq7:upd H6 q7 (.lst (((bs.drop i).take (e' - i)).map V.int)) q7=some (lsI ((bs.drop i).take (e' - i))):=upd_same
   have ebk7:=u7 _ _ ebk
   have s17:=s16.same u7
   generalize upd H6 q7 (.lst (((bs.drop i).take (e' - i)).map V.int))=H7 at u7 eq7 ebk7 s17  ⊢
   refine ⟨_,rfl,q7,bk,_,_,rfl,rfl,SqL.of eq7,SqL.of ebk7,_,rfl,?_⟩
   rw [decide_eq_true (show (bs.drop i).take (e' - i)=endb n from tkE)]
   refine iteF ?_
   refine ⟨_,rfl,rfl,_,rfl,?_⟩
   refine iteF ?_
   refine iteF ?_
   exact ⟨_,_,_,rfl,s17⟩
  ·refine .inr (.inl ⟨rfl,bs,eb3,by trivial,by trivial,fun nn e' hr l T H4 s4' el eT => ?_⟩)
   have s4:=s3.trans s4'
   obtain ⟨_,_,_,ok,tkE,_⟩:=rd_back hbs hbl (w:=0) (i:=(i:Int)) (it:=.inl nn) (b:=e') (by unfold rd; rw [if_pos rfl,hr]; rfl)
   rw [Int.toNat_natCast] at tkE
   refine ⟨_,rfl,(by show 3≤sizeLine; decide),fun q hq => ?_⟩
   have uq:=same_new hq (.lst [V.bl true,.bl false,.bl false])
   have eq3:upd H4 q (.lst [V.bl true,.bl false,.bl false]) q=some kinds3:=upd_same
   have eTq:=uq _ _ eT
   have elq:=uq _ _ el
   have s4q:=s4.same uq
   generalize upd H4 q (.lst [V.bl true,.bl false,.bl false])=H4q at uq eq3 eTq s4q elq ⊢
   refine ⟨_,_,.tup (SqT.of eTq) (.cons (.lst (SqL.of elq) (Deeps.ints _)) (.cons (.int _) .nil)),deep_kinds3 eq3,ht_pair _ _,_,rfl,?_⟩
   rw [eqD_t3]
   refine iteT ?_
   refine ⟨_,rfl,_,_,_,_,true,rfl,.of (.tup eTq),rfl,kit_refl _ _,_,rfl,?_⟩
   refine iteF ?_
   refine ⟨_,rfl,T,_,rfl,.inr (SqT.of eTq),rfl,_,rfl,?_⟩
   refine iteF ?_
   refine ⟨_,rfl,T,_,_,_,rfl,rfl,SqT.of eTq,rfl,e',rfl,⟨_,rfl,?_⟩⟩
   refine iteF ?_
   refine ⟨(by show 0≤sizeLine; decide),fun bk0 hbk0 => ?_⟩
   have u5:=same_new hbk0 (.lst [])
   have eT5:=u5 _ _ eTq
   have s5:=s4q.same u5
   generalize upd H4q bk0 (.lst [])=H5 at u5 eT5 s5 ⊢
   refine ⟨_,rfl,rfl,_,rfl,?_⟩
   refine iteF ?_
   refine ⟨_,rfl,rfl,_,rfl,?_⟩
   refine iteT ?_
   refine ⟨_,rfl,T,_,_,_,rfl,rfl,SqT.of eT5,rfl,l,nn,rfl,SqL.of (u5 _ _ elq),ok.2.1,(fun n hn _ => ok.2.2 n hn),(fun ⟨n,hn,hlt⟩ => absurd (ok.1 n hn) (by trivial)),fun _ bk H6 s6 hbk ebk => ?_⟩
   have eT6:=s6 _ _ eT5
   have s16:=s5.same s6
   refine ⟨_,rfl,rfl,_,rfl,?_⟩
   refine iteF ?_
   have hB6:=s16.g tb hB
   refine ⟨_,rfl,_,rfl,_,rfl,_,rfl,T,_,_,_,rfl,rfl,SqT.of eT6,rfl,_,rfl,B',_,rfl,SqL.of hB6,fun q7 hq7 => ?_⟩
   rw [cut_two bs i e']
   have u7:=same_new hq7 (.lst (((bs.drop i).take (e' - i)).map V.int))
   have eq7:upd H6 q7 (.lst (((bs.drop i).take (e' - i)).map V.int)) q7=some (lsI ((bs.drop i).take (e' - i))):=upd_same
   have ebk7:=u7 _ _ ebk
   have s17:=s16.same u7
   generalize upd H6 q7 (.lst (((bs.drop i).take (e' - i)).map V.int))=H7 at u7 eq7 ebk7 s17  ⊢
   refine ⟨_,rfl,q7,bk,_,_,rfl,rfl,SqL.of eq7,SqL.of ebk7,_,rfl,?_⟩
   rw [decide_eq_true (show (bs.drop i).take (e' - i)=rowb nn from tkE)]
   refine iteF ?_
   refine ⟨_,rfl,rfl,_,rfl,?_⟩
   refine iteF ?_
   refine iteF ?_
   exact ⟨_,_,_,rfl,s17⟩
  ·refine .inr (.inr (.inl ⟨rfl,bs,zs,eb3,by trivial,pr3,hzl,hcan,fun nn e' hr T l H4 s4' eT el => ?_⟩))
   have s4:=s3.trans s4'
   obtain ⟨_,_,_,h3,htk⟩:=rdO_back hcan hnd hr
   rw [Int.toNat_natCast] at htk
   refine ⟨_,rfl,(by show 3≤sizeLine; decide),fun q hq => ?_⟩
   have uq:=same_new hq (.lst [V.bl true,.bl false,.bl false])
   have eq3:upd H4 q (.lst [V.bl true,.bl false,.bl false]) q=some kinds3:=upd_same
   have eTq:=uq _ _ eT
   have elq:=uq _ _ el
   have s4q:=s4.same uq
   generalize upd H4 q (.lst [V.bl true,.bl false,.bl false])=H4q at uq eq3 eTq s4q elq ⊢
   refine ⟨_,_,.tup (SqT.of eTq) (.cons (.lst (SqL.of elq) (Deeps.ints _)) (.cons (.int _) .nil)),deep_kinds3 eq3,ht_pair _ _,_,rfl,?_⟩
   rw [eqD_t3]
   refine iteT ?_
   refine ⟨_,rfl,_,_,_,_,true,rfl,.of (.tup eTq),rfl,kit_refl _ _,_,rfl,?_⟩
   refine iteF ?_
   refine ⟨_,rfl,T,_,rfl,.inr (SqT.of eTq),rfl,_,rfl,?_⟩
   refine iteF ?_
   refine ⟨_,rfl,T,_,_,_,rfl,rfl,SqT.of eTq,rfl,e',rfl,⟨_,rfl,?_⟩⟩
   refine iteF ?_
   refine ⟨(by show 0≤sizeLine; decide),fun bk0 hbk0 => ?_⟩
   have u5:=same_new hbk0 (.lst [])
   have eT5:=u5 _ _ eTq
   have s5:=s4q.same u5
   generalize upd H4q bk0 (.lst [])=H5 at u5 eT5 s5 ⊢
   refine ⟨_,rfl,rfl,_,rfl,?_⟩
   refine iteF ?_
   refine ⟨_,rfl,rfl,_,rfl,?_⟩
   refine iteF ?_
   refine ⟨_,rfl,rfl,_,rfl,?_⟩
   refine iteT ?_
   have pr5:Prs H5 p zs:=⟨s5.g tb pr.at_,fun z hz => s5.g tb (pr.each z hz)⟩
   refine ⟨_,rfl,T,_,_,_,rfl,rfl,SqT.of eT5,rfl,_,rfl,p,_,rfl,.inl (SqL.of pr5.at_),fun p2 hp2 => ?_⟩
   have u52:=same_new hp2 (.lst (zs.map fun z => V.ref z.1))
   have pr52:Prs (upd H5 p2 (.lst (zs.map fun z => V.ref z.1))) p2 zs:=⟨upd_same,fun z hz => u52 _ _ (pr5.each z hz)⟩
   have el52:=u52 _ _ (u5 _ _ elq)
   have eT52:=u52 _ _ eT5
   have s52:=s5.same u52
   clear u5 eT5 s5 pr5
   generalize upd H5 p2 (.lst (zs.map fun z => V.ref z.1))=H52 at u52 pr52 el52 eT52 s52 ⊢
   refine ⟨l,p2,nn,zs,rfl,el52,by trivial,pr52,hzl,(fun hn => by rw [htk] at hn; cases hn),fun bits hbits bk H6 s6 hbk ebk => ?_⟩
   have hbb:bits=(bs.drop i).take (e' - i):=by rw [htk] at hbits; exact (Option.some.inj hbits).symm
   subst hbb
   have el6:=s6 _ _ el52
   have eT6:=s6 _ _ eT52
   have s16:=s52.same s6
   have hB6:=s16.g tb hB
   refine ⟨_,rfl,_,rfl,_,rfl,_,rfl,T,_,_,_,rfl,rfl,SqT.of eT6,rfl,_,rfl,B',_,rfl,SqL.of hB6,fun q7 hq7 => ?_⟩
   rw [cut_two bs i e']
   have u7:=same_new hq7 (.lst (((bs.drop i).take (e' - i)).map V.int))
   have eq7:upd H6 q7 (.lst (((bs.drop i).take (e' - i)).map V.int)) q7=some (lsI ((bs.drop i).take (e' - i))):=upd_same
   have ebk7:=u7 _ _ ebk
   have s17:=s16.same u7
   have el7:=u7 _ _ el6
   have eT7:=u7 _ _ eT6
   generalize upd H6 q7 (.lst (((bs.drop i).take (e' - i)).map V.int))=H7 at u7 eq7 ebk7 s17 el7 eT7 ⊢
   refine ⟨_,rfl,q7,bk,_,_,rfl,rfl,SqL.of eq7,SqL.of ebk7,_,rfl,?_⟩
   rw [decide_eq_true (Eq.refl _)]
   refine iteF ?_
   refine ⟨_,rfl,rfl,_,rfl,?_⟩
   refine iteT ?_
   refine ⟨_,rfl,T,_,_,_,rfl,rfl,SqT.of eT7,rfl,l,_,rfl,.inl (SqL.of el7),rfl,_,rfl,?_⟩
   rw [decide_eq_true (show V.int (((nn.map V.int).length:Nat):Int)=V.int 3 by rw [List.length_map,h3]; rfl)]
   refine iteF ?_
   exact ⟨_,_,_,rfl,s17⟩
end
end K48
namespace K48
open PySem L2 PySem.W PH
section
variable {P:Program} {w:World} {K:Frag} {mg:Str -> Option Value} {base:Heap}
theorem sc_llens:FnScope ["script","many","sizes","shift"] ["script"] (defScope s_llens):=⟨rfl,rfl,rfl,by decide +kernel,rfl,by decide +kernel,by decide +kernel⟩
theorem ok_llens {f f_cell:Addr} {fd d_cell:FuncData} (F:Fun K "_law_lengths" "_law_lengths" s_llens f fd) (B:Bls mg) 
  (G_cell:FnOk P w K mg base (CXW P w) 1 f_cell d_cell ["script","k"] (spCell K)) (b_cell:Binds K d_cell ["script","k"] []) (k_cell:keepIn K (.ref f_cell)=true) (m_cell:mg "_law_cell" = some (.ref f_cell)):FnOk P w K mg base (CXW P w) 2 f fd ["script"] (spLens48 K):=by
 refine F.okN sc_llens (fun vs H Q E h => ?_) (fun cdv A outer s H vs Q E hr h => ?_)
 ·obtain ⟨a,ns,rfl,_⟩:=h
  rfl
 ·obtain ⟨a,ns,rfl,hS,hQ⟩:=h
  refine ⟨_,(pss_cons (ps_set (i:=1) sc_llens.nd rfl (Or.inl rfl) (pe_op op_add pe_int (pe_op op_mod (pe_call G_cell hr rfl m_cell k_cell b_cell .nil passN (pa_cons (pv 0) (pa_cons pe_int pa_nil))) pe_int)))
   (pss_cons (ps_set (i:=2) sc_llens.nd rfl (Or.inr rfl) (pe_op op_cat (pe_comp (N:=["k"]) (js:=[none]) (g:=(gName 0)) (tc:=tTrue) (te:=(tOp (rI0 fun i j => .int (i+j)) (tVar 0) (tC (.int 1)))) rfl (comp_scope (osc:=defScope s_llens) (XN:=["script","many","sizes","shift"]) rfl rfl rfl (by decide +kernel)) (pi_range1 rfl B.range (pa_cons (pe_op op_sub (pv 1) pe_int) pa_nil)) (fun _ _ _ _ => pg_name (i:=0) (show (["k"]:List Str).Nodup by decide +kernel) rfl (Or.inl rfl)) (fun _ _ _ _ => pif_nil) (fun _ _ _ _ => (pe_op op_add (pv 0) pe_int))) (pe_lst (pa_cons (pe_op op_sub (pv 1) pe_int) pa_nil))))
   (pss_cons (ps_set (i:=3) sc_llens.nd rfl (Or.inl rfl) (pe_op op_mod (pe_call G_cell hr rfl m_cell k_cell b_cell .nil passN (pa_cons (pv 0) (pa_cons pe_int pa_nil))) (pv 1)))
   (pss_cons (ps_set (i:=2) sc_llens.nd rfl (Or.inr rfl) (pe_op op_cat (pe_slice sl_list (pv 2) (po_some (pv 3)) po_none) (pe_slice sl_list (pv 2) po_none (po_some (pv 3)))))
   (pss_one (ps_ret (pe_comp (N:=["k","script","sizes"]) (js:=[none,some 0,some 2]) (g:=(gName 0)) (tc:=tTrue) (te:=(tTup (tCons (tOp (rI0 fun i j => .int (i+j)) (tOp (rI CMul fun i j => .int (i * j)) (tC (.int 10)) (tVar 0)) (tOp (rI (fun _ j => 0 < j) fun i j => .int (i % j)) (tCall (spCell K) [] E0 (tCons (tVar 1) (tCons (tC (.int 2)) tNil))) (tC (.int 9)))) (tCons (tOp (rIxL K) (tVar 2) (tVar 0)) tNil)))) rfl (comp_scope (osc:=defScope s_llens) (XN:=["script","many","sizes","shift"]) rfl rfl rfl (by decide +kernel)) (pi_range1 rfl B.range (pa_cons (pv 1) pa_nil)) (fun _ _ _ _ => pg_name (i:=0) (show (["k","script","sizes"]:List Str).Nodup by decide +kernel) rfl (Or.inl rfl)) (fun _ _ _ _ => pif_nil) (fun _ _ _ _ => (pe_tup (pa_cons (pe_op op_add (pe_op op_mul pe_int (pv 0)) (pe_op op_mod (pe_call G_cell hr rfl m_cell k_cell b_cell .nil passN (pa_cons (pv 1) (pa_cons pe_int pa_nil))) pe_int)) (pa_cons (pe_ix ix_list (pv 2) (pv 0) (fun _ _ => rfl)) pa_nil))))))))))),?_⟩
  refine ⟨_,rfl,a,ns,0,rfl,hS,by decide,by decide,fun z0 => ?_⟩
  refine ⟨_,_,rfl,rfl,(by show (0:Int) < 6; decide),_,_,rfl,rfl,?_⟩
  obtain ⟨m,hm,m2,m8⟩:∃ m:Nat,2+z0 % 6=(m:Int)∧2≤m∧m < 8:=⟨(2+z0 % 6).toNat,by trivial,by trivial,by trivial⟩
  refine gName_eq (v':=V.int (m:Int)) (by rw [← hm]) ?_
  refine ⟨_,rfl,_,_,rfl,rfl,((m - 1:Nat):Int),(by show [V.int ((m:Int) - 1)]=[V.int ((m - 1:Nat):Int)]; congr 2; trivial),by trivial,by trivial,fun D hD => ?_⟩
  rw [Int.toNat_natCast]
  refine comp_rngQ (fun j σ' H' => ∃ (x:Option V),σ'=[x]∧H' D=some (lsI ((List.range j).map fun k:Nat => (k:Int)+1))∧Same H H')
   ⟨none,rfl,upd_same,same_new hD _⟩ ?_ ?_
  ·rintro j σ' H' hj ⟨x,rfl,hD',sm⟩
   rw [Int.zero_add]
   refine nameT ?_
   refine ⟨_,rfl,_,_,rfl,rfl,D,_,_,rfl,rfl,hD',fits_lt (by rw [List.length_map,List.length_map,List.length_range]; trivial),?_⟩
   refine CW.next hj ⟨_,rfl,?_,same_upd sm _ hD⟩
   rw [upd_same,List.range_succ,List.map_append]
   exact congrArg some (lsI_app1 _ _)
  rintro σ' H1 ⟨x,rfl,hD1,s1⟩
  refine ⟨_,rfl,_,_,rfl,rfl,(by show 1≤sizeLine; decide),fun q hq => ?_⟩
  have u2:=same_new hq (.lst [V.int ((m:Int) - 1)])
  have e2:upd H1 q (.lst [V.int ((m:Int) - 1)]) q=some (lsI [(m:Int) - 1]):=upd_same
  have s2:=s1.trans u2
  have hD2:=u2 _ _ hD1
  generalize upd H1 q (.lst [V.int ((m:Int) - 1)])=H2 at u2 e2 s2 hD2 ⊢
  refine ⟨D,q,_,_,rfl,rfl,hD2,e2,fits (by rw [List.length_map,List.length_map,List.length_map,List.length_range,List.length_singleton]; trivial),fun S0 hS0 => ?_⟩
  have u3:=same_new hS0 (.lst (((List.range (m - 1)).map fun k:Nat => (k:Int)+1).map V.int++[(m:Int) - 1].map V.int))
  have e3:upd H2 S0 (.lst (((List.range (m - 1)).map fun k:Nat => (k:Int)+1).map V.int++[(m:Int) - 1].map V.int)) S0=some (lsI (((List.range (m - 1)).map fun k:Nat => (k:Int)+1)++[(m:Int) - 1])):=by rw [upd_same,← List.map_append]; rfl
  have s3:=s2.trans u3
  generalize upd H2 S0 (.lst (((List.range (m - 1)).map fun k:Nat => (k:Int)+1).map V.int++[(m:Int) - 1].map V.int))=H3 at u3 e3 s3 ⊢
  obtain ⟨L,hL⟩:∃ L,L=((List.range (m - 1)).map fun k:Nat => (k:Int)+1)++[(m:Int) - 1]:=⟨_,rfl⟩
  have hLl:L.length=m:=by rw [hL,List.length_append,List.length_map,List.length_range,List.length_singleton]; trivial
  rw [← hL] at e3
  refine ⟨_,rfl,a,ns,1,rfl,s3.seq hS,by decide,by decide,fun z1 => ?_⟩
  have hm0:(0:Int) < (m:Int):=by trivial
  refine ⟨_,rfl,_,_,rfl,rfl,hm0,?_⟩
  obtain ⟨sh,hsh,shl⟩:∃ sh:Nat,z1 % (m:Int)=(sh:Int)∧sh < m:=by
   have h1:=Int.emod_nonneg z1 (show (m:Int)≠0 by trivial)
   have h2:=Int.emod_lt_of_pos z1 hm0
   exact ⟨(z1 % (m:Int)).toNat,by trivial,by trivial⟩
  refine gName_eq (v':=V.int (sh:Int)) (by rw [← hsh]) ?_
  refine ⟨_,rfl,_,rfl,_,rfl,S0,_,rfl,SqL.of e3,fun q4 hq4 => ?_⟩
  rw [show cutV (L.map V.int) (some (sh:Int)) none=(L.drop sh).map V.int from cut_from L sh]
  have u4:=same_new hq4 (.lst ((L.drop sh).map V.int))
  have e4:upd H3 q4 (.lst ((L.drop sh).map V.int)) q4=some (lsI (L.drop sh)):=upd_same
  have s4:=s3.trans u4
  have e34:=u4 _ _ e3
  generalize upd H3 q4 (.lst ((L.drop sh).map V.int))=H4 at u4 e4 s4 e34 ⊢
  refine ⟨_,rfl,_,rfl,_,rfl,S0,_,rfl,SqL.of e34,fun q5 hq5 => ?_⟩
  rw [cut_to (α:=Int) L sh]
  have u5:=same_new hq5 (.lst ((L.take sh).map V.int))
  have e5:upd H4 q5 (.lst ((L.take sh).map V.int)) q5=some (lsI (L.take sh)):=upd_same
  have s5:=s4.trans u5
  have e45:=u5 _ _ e4
  generalize upd H4 q5 (.lst ((L.take sh).map V.int))=H5 at u5 e5 s5 e45 ⊢
  refine ⟨q4,q5,_,_,rfl,rfl,e45,e5,fits (by rw [List.length_map,List.length_map,List.length_drop,List.length_take]; trivial),fun S1 hS1 => ?_⟩
  have u6:=same_new hS1 (.lst ((L.drop sh).map V.int++(L.take sh).map V.int))
  have e6:upd H5 S1 (.lst ((L.drop sh).map V.int++(L.take sh).map V.int)) S1=some (lsI (szL m sh)):=by
   rw [upd_same,← List.map_append,hL]; rfl
  have s6:=s5.trans u6
  generalize upd H5 S1 (.lst ((L.drop sh).map V.int++(L.take sh).map V.int))=H6 at u6 e6 s6 ⊢
  have hzl:(szL m sh).length=m:=by
   have q:=szL_ok m m8 m2 sh shl
   rw [Bool.and_eq_true] at q
   exact of_decide_eq_true q.2
  refine ⟨_,rfl,(m:Int),rfl,by trivial,by trivial,fun P0 hP0 => ?_⟩
  rw [Int.toNat_natCast]
  refine comp_rngQ (fun j σ' H' => ∃ (x:Option V) (zs:List (Addr×Int×Int)),σ'=[x,some (.ref a),some (.ref S1)]∧Prs H' P0 zs∧zs.length=j∧(zs.map (·.2)).map (·.2)=(szL m sh).take j∧(∀ (k:Nat) c,(zs.map (·.2))[k]?=some c -> 10 * (k:Int)≤c.1∧c.1≤10 * (k:Int)+8)∧Same H6 H')
   ⟨none,[],rfl,⟨upd_same,(fun _ z => by cases z)⟩,rfl,by rw [List.take_zero]; rfl,(fun _ _ z => by cases z),same_new hP0 _⟩ ?_ ?_
  ·rintro j σ' H' hj ⟨x,zs,rfl,pr,hl,hz,hc,sm⟩
   rw [Int.zero_add]
   obtain ⟨y,hy⟩:∃ y,(szL m sh)[j]?=some y:=⟨_,List.getElem?_eq_getElem (by trivial)⟩
   refine nameT ?_
   refine ⟨_,rfl,_,_,rfl,rfl,.inl ⟨by decide,by decide⟩,_,rfl,a,ns,2,rfl,sm.seq (s6.seq hS),by decide,by decide,fun z2 => ?_⟩
   refine ⟨_,_,rfl,rfl,(by show (0:Int) < 9; decide),_,_,rfl,rfl,_,rfl,_,rfl,S1,_,(j:Int),_,rfl,rfl,SqL.of (sm _ _ e6),at_intE hy,(by show 2≤sizeLine; decide),fun T hT => ?_⟩
   have ut:=same_new hT (.tup [.int (10 * (j:Int)+z2 % 9),.int y])
   refine ⟨P0,_,_,rfl,rfl,ut _ _ pr.at_,fits_lt (by rw [List.length_map]; trivial),?_⟩
   refine CW.next hj ⟨_,zs++[(T,10 * (j:Int)+z2 % 9,y)],rfl,(pr.same ut).app upd_same,by rw [List.length_append,List.length_singleton,hl],?_,?_,same_upd (sm.trans ut) _ hP0⟩
   ·rw [List.map_append,List.map_append,hz,take_at hy]; rfl
   ·intro k c hk
    rw [List.map_append] at hk
    by_cases q:k < (zs.map (·.2)).length
    ·rw [List.getElem?_append_left q] at hk
     exact hc k c hk
    ·rw [List.getElem?_append_right (by trivial)] at hk
     have hk':k=j:=by
      have:=(List.getElem?_eq_some_iff.mp hk).1
      rw [List.length_map,hl] at this q
      simp at this
      trivial
     subst hk'
     rw [List.length_map,hl,Nat.sub_self] at hk
     have:c=(10 * (k:Int)+z2 % 9,y):=(Option.some.inj hk).symm
     rw [this]
     show 10 * (k:Int)≤10 * (k:Int)+z2 % 9∧10 * (k:Int)+z2 % 9≤10 * (k:Int)+8
     trivial
  rintro σ' H7 ⟨x,zs,rfl,pr,hl,hz,hc,sm⟩
  rw [List.take_of_length_le (by trivial)] at hz
  obtain ⟨c1,c2⟩:=lens_can m8 m2 shl hz hc
  exact hQ P0 zs _ (s6.trans sm) (s6.free hP0) pr (by trivial) c1 c2
end
end K48
namespace K48
open PySem L2 PySem.W PH
section
variable {P:Program} {w:World} {K:Frag} {mg:Str -> Option Value} {base:Heap}
theorem sc_rgood:FnScope ["script","row","hole","found","fronts","runs"] ["script"] (defScope s_rgood):=⟨rfl,rfl,rfl,by decide +kernel,rfl,by decide +kernel,by decide +kernel⟩
theorem ok_rgood {f c_Broken c_T_endings_of c_T_turned_back f_tbf f_fronts f_runs f_turned f_cell f_got:Addr} {fd d_tbf d_fronts d_runs d_turned d_cell d_got:FuncData} (F:Fun K "_law_rows_good" "_law_rows_good" s_rgood f fd) (B:Bls mg) (ne_endings_of_turned_back:c_T_endings_of≠c_T_turned_back) 
  (G_tbf:FnOk P w K mg base (CXW P w) 2 f_tbf d_tbf ["fronts"] (spTbf K c_Broken)) (b_tbf:Binds K d_tbf ["fronts"] []) (k_tbf:keepIn K (.ref f_tbf)=true) (m_tbf:mg "text_by_fronts" = some (.ref f_tbf)) 
  (G_fronts:FnOk P w K mg base (CXW P w) 2 f_fronts d_fronts ["text"] (spFronts K)) (b_fronts:Binds K d_fronts ["text"] []) (k_fronts:keepIn K (.ref f_fronts)=true) (m_fronts:mg "fronts_of" = some (.ref f_fronts)) 
  (G_runs:FnOk P w K mg base (CXW P w) 1 f_runs d_runs ["numbers"] (spRuns K)) (b_runs:Binds K d_runs ["numbers"] []) (k_runs:keepIn K (.ref f_runs)=true) (m_runs:mg "runs_of" = some (.ref f_runs)) 
  (G_turned:FnOk P w K mg base (CXW P w) 5 f_turned d_turned ["text"] (spTurned K c_T_endings_of ⟨174,44,174,64⟩)) (b_turned:Binds K d_turned ["text"] []) (k_turned:keepIn K (.ref f_turned)=true) (m_turned:mg "turned_text" = some (.ref f_turned)) 
  (G_cell:FnOk P w K mg base (CXW P w) 1 f_cell d_cell ["script","k"] (spCell K)) (b_cell:Binds K d_cell ["script","k"] []) (k_cell:keepIn K (.ref f_cell)=true) (m_cell:mg "_law_cell" = some (.ref f_cell)) 
  (G_got:FnOk P w K mg base (CXW P w) 9 f_got d_got ["way","bits","at","lengths"] (spGot K c_T_turned_back ⟨190,45,190,70⟩)) (b_got:Binds K d_got ["way","bits","at","lengths"] []) (k_got:keepIn K (.ref f_got)=true) (m_got:mg "_law_got" = some (.ref f_got)):FnOk P w K mg base (CXW P w) 10 f fd ["script"] (spRGood K c_T_turned_back ⟨190,45,190,70⟩ c_T_endings_of ⟨174,44,174,64⟩):=by
 refine F.okN sc_rgood (fun vs H Q E h => ?_) (fun cdv A outer s H vs Q E hr h => ?_)
 ·obtain ⟨a,ns,rfl,_⟩:=h
  rfl
 ·obtain ⟨a,ns,rfl,hS,h63,tb,te,hQ⟩:=h
  refine ⟨_,(pss_cons (ps_setC (iy:=1) (N:=["cell"]) (js:=[none]) (g:=(gName 0)) (tc:=tTrue) (te:=(tOp (rI0 fun i j => .int (i+j)) (tC (.int 97)) (tOp (rI (fun _ j => 0 < j) fun i j => .int (i % j)) (tVar 0) (tC (.int 3))))) sc_rgood.nd rfl rfl rfl (comp_scope (osc:=defScope s_rgood) (XN:=["script","row","hole","found","fronts","runs"]) rfl rfl rfl (by decide +kernel)) (pi_list (pe_slice sl_list (pv 0) (po_some pe_int) (po_some pe_int))) (fun _ _ _ _ => pg_name (i:=0) (show (["cell"]:List Str).Nodup by decide +kernel) rfl (Or.inl rfl)) (fun _ _ _ _ => pif_nil) (fun _ _ _ _ => (pe_op op_add pe_int (pe_op op_mod (pv 0) pe_int))))
   (pss_cons (ps_set (i:=2) sc_rgood.nd rfl (Or.inl rfl) (pe_op op_mod (pe_call G_cell (hr.mono (show 1≤9 by decide)) rfl m_cell k_cell b_cell .nil passN (pa_cons (pv 0) (pa_cons pe_int pa_nil))) (pe_op op_add (pe_callB call_len_seq rfl B.len PySem.boot_len (pa_cons (pv 1) pa_nil)) pe_int)))
   (pss_cons (ps_set (i:=3) sc_rgood.nd rfl (Or.inl rfl) (pe_call G_got hr rfl m_got k_got b_got .nil passN (pa_cons pe_int (pa_cons (pe_callTy call_list_of rfl B.list boot_list' (pa_cons (pv 1) pa_nil)) (pa_cons (pv 2) (pa_cons (pe_lst pa_nil) pa_nil))))))
   (pss_cons (ps_if (PW.pt (pw_and (pt_cmpR (op_neD (units_of hr)) (pv 3) (pe_lst (pa_cons pe_bl (pa_cons pe_bl (pa_cons pe_bl pa_nil)))) (nomark _)) (pw_and1 (pt_cmpR (op_neD (units_of hr)) (pe_call G_turned (hr.mono (show 5≤9 by decide)) rfl m_turned k_turned b_turned .nil passN (pa_cons (pe_callTy call_list_of rfl B.list boot_list' (pa_cons (pv 3) pa_nil)) pa_nil)) (pe_tup (pa_cons (pv 1) (pa_cons (pv 2) pa_nil))) (nomark _)))))
    (pss_one (ps_ret pe_bl))
    pss_nil)
   (pss_cons (ps_setC (iy:=4) (N:=["cell"]) (js:=[none]) (g:=(gName 0)) (tc:=tTrue) (te:=(tOp (rI (fun _ j => 0 < j) fun i j => .int (i % j)) (tVar 0) (tC (.int 256)))) sc_rgood.nd rfl rfl rfl (comp_scope (osc:=defScope s_rgood) (XN:=["script","row","hole","found","fronts","runs"]) rfl rfl rfl (by decide +kernel)) (pi_list (pv 0)) (fun _ _ _ _ => pg_name (i:=0) (show (["cell"]:List Str).Nodup by decide +kernel) rfl (Or.inl rfl)) (fun _ _ _ _ => pif_nil) (fun _ _ _ _ => (pe_op op_mod (pv 0) pe_int)))
   (pss_cons (ps_if (pt_cmpR (op_neL (units_of hr)) (pe_call G_fronts (hr.mono (show 2≤9 by decide)) rfl m_fronts k_fronts b_fronts .nil passN (pa_cons (pe_call G_tbf (hr.mono (show 2≤9 by decide)) rfl m_tbf k_tbf b_tbf .nil passN (pa_cons (pe_callTy call_list_of rfl B.list boot_list' (pa_cons (pv 4) pa_nil)) pa_nil)) pa_nil)) (pv 4) (nomark _))
    (pss_one (ps_ret pe_bl))
    pss_nil)
   (pss_cons (ps_setC (iy:=5) (N:=["cell"]) (js:=[none]) (g:=(gName 0)) (tc:=tTrue) (te:=(tTup (tCons (tOp (rI (fun _ j => 0 < j) fun i j => .int (i % j)) (tVar 0) (tC (.int 3))) (tCons (tOp (rI (fun _ j => 0 < j) fun i j => .int (i % j)) (tOp (rI CDiv fun i j => .int (i / j)) (tVar 0) (tC (.int 3))) (tC (.int 4))) tNil)))) sc_rgood.nd rfl rfl rfl (comp_scope (osc:=defScope s_rgood) (XN:=["script","row","hole","found","fronts","runs"]) rfl rfl rfl (by decide +kernel)) (pi_list (pv 0)) (fun _ _ _ _ => pg_name (i:=0) (show (["cell"]:List Str).Nodup by decide +kernel) rfl (Or.inl rfl)) (fun _ _ _ _ => pif_nil) (fun _ _ _ _ => (pe_tup (pa_cons (pe_op op_mod (pv 0) pe_int) (pa_cons (pe_op op_mod (pe_op op_fdiv (pv 0) pe_int) pe_int) pa_nil)))))
   (pss_cons (ps_if (pt_cmpR op_eq (pe_op op_mod (pe_call G_cell (hr.mono (show 1≤9 by decide)) rfl m_cell k_cell b_cell .nil passN (pa_cons (pv 0) (pa_cons pe_int pa_nil))) pe_int) pe_int (nomark _))
    (pss_one (ps_setC (iy:=5) (N:=["cell"]) (js:=[none]) (g:=(gName 0)) (tc:=tTrue) (te:=(tTup (tCons (tOp (rI (fun _ j => 0 < j) fun i j => .int (i % j)) (tVar 0) (tC (.int 19))) (tCons (tOp (rI0 fun i j => .int (i+j)) (tC (.int 1)) (tOp (rI (fun _ j => 0 < j) fun i j => .int (i % j)) (tOp (rI CDiv fun i j => .int (i / j)) (tVar 0) (tC (.int 19))) (tC (.int 4)))) tNil)))) sc_rgood.nd rfl rfl rfl (comp_scope (osc:=defScope s_rgood) (XN:=["script","row","hole","found","fronts","runs"]) rfl rfl rfl (by decide +kernel)) (pi_list (pe_slice sl_list (pv 0) po_none (po_some pe_int))) (fun _ _ _ _ => pg_name (i:=0) (show (["cell"]:List Str).Nodup by decide +kernel) rfl (Or.inl rfl)) (fun _ _ _ _ => pif_nil) (fun _ _ _ _ => (pe_tup (pa_cons (pe_op op_mod (pv 0) pe_int) (pa_cons (pe_op op_add pe_int (pe_op op_mod (pe_op op_fdiv (pv 0) pe_int) pe_int)) pa_nil))))))
    pss_nil)
   (pss_cons (ps_set (i:=3) sc_rgood.nd rfl (Or.inl rfl) (pe_call G_got hr rfl m_got k_got b_got .nil passN (pa_cons pe_int (pa_cons (pe_callTy call_list_of rfl B.list boot_list' (pa_cons (pv 5) pa_nil)) (pa_cons pe_int (pa_cons (pe_lst pa_nil) pa_nil))))))
   (pss_one (ps_ret (pe_or (pe_cmpR (op_eqD (units_of hr)) (pv 3) (pe_lst (pa_cons pe_bl (pa_cons pe_bl (pa_cons pe_bl pa_nil)))) (nomark _)) (pe_one (pe_cmpR (op_eqD (units_of hr)) (pe_call G_runs (hr.mono (show 1≤9 by decide)) rfl m_runs k_runs b_runs .nil passN (pa_cons (pe_callTy call_list_of rfl B.list boot_list' (pa_cons (pv 3) pa_nil)) pa_nil)) (pv 5) (nomark _))))))))))))))),?_⟩
  refine ⟨_,rfl,_,rfl,_,rfl,a,_,rfl,hS,fun q1 hq1 => ?_⟩
  obtain ⟨rs,hcut,hrl⟩:=cut_any48 ns (some 2) (some 40)
  rw [hcut]
  have u1:=same_new hq1 (.lst (rs.map V.int))
  have e1:upd H q1 (.lst (rs.map V.int)) q1=some (lsI rs):=upd_same
  generalize upd H q1 (.lst (rs.map V.int))=H1 at u1 e1 ⊢
  refine ⟨q1,rfl,⟨_,SqL.of e1⟩,fun R hR => ?_⟩
  refine comp_lstQ (K:=K) (a:=q1) (xs:=rs.map V.int) (fun i σ' H' => ∃ (x:Option V),σ'=[x]∧H' R=some (lsI ((rs.take i).map fun c => 97+c % 3))∧Same H1 H')
   ⟨none,rfl,upd_same,same_new hR _⟩ (fun i σ' H' _ ⟨_,_,_,e⟩ => SqL.of (e _ _ e1)) ?_ ?_
  ·rintro i v σ' H' hi ⟨x,rfl,hDj,sm⟩
   obtain ⟨y,rfl,hy⟩:=int_at hi
   have hil:i < rs.length:=(List.getElem?_eq_some_iff.mp hy).1
   refine nameT ?_
   refine ⟨_,rfl,_,_,rfl,rfl,(by show (0:Int) < 3; decide),_,_,rfl,rfl,R,_,_,rfl,rfl,hDj,fits_lt (by rw [List.length_map,List.length_map,List.length_take]; trivial),?_⟩
   refine CW.next (by rw [List.length_map]; exact hil) ⟨_,rfl,?_,same_upd sm _ hR⟩
   rw [upd_same,take_at hy,List.map_append]
   exact congrArg some (lsI_app1 _ _)
  rintro σ' H2 ⟨x,rfl,hR2,s2⟩
  rw [List.length_map,List.take_length] at hR2
  obtain ⟨row,hrow⟩:∃ row,row=rs.map fun c => 97+c % 3:=⟨_,rfl⟩
  have hrb:∀ z∈row,0≤z∧z≤255:=fun z hz => by
   rw [hrow] at hz
   obtain ⟨c,_,rfl⟩:=List.mem_map.mp hz
   trivial
  have hrwl:row.length≤63:=by rw [hrow,List.length_map]; trivial
  rw [← hrow] at hR2
  have s02:=u1.trans s2
  refine ⟨_,rfl,a,ns,1,rfl,s02.seq hS,by decide,by decide,fun z1 => ?_⟩
  refine ⟨_,rfl,R,_,rfl,.inl (SqL.of hR2),_,_,rfl,rfl,_,_,rfl,rfl,(by show (0:Int) < (((row.map V.int).length:Nat):Int)+2; trivial),?_⟩
  obtain ⟨ho,hho⟩:∃ ho:Int,z1 % ((((row.map V.int).length:Nat):Int)+2)=ho:=⟨_,rfl⟩
  refine gName_eq (v':=V.int ho) (by rw [← hho]) ?_
  dsimp only
  refine sqMid (fun σ' H' => ∃ F:Addr,σ'=[some (.ref a),some (.ref R),some (.int ho),some (.ref F),none,none]∧(H' F=some kinds3∨∃ t,H' F=some (lsI t)∧rowT t=row∧holeT t=ho)∧SameT c_T_turned_back ⟨190,45,190,70⟩ qnB H2 H') ?_ ?_
  rotate_left
  ·intro N hN
   refine ⟨_,rfl,R,_,rfl,.inl (SqL.of hR2),fun r1 hr1 => ?_⟩
   have u3:=same_new hr1 (.lst (row.map V.int))
   have e3:upd H2 r1 (.lst (row.map V.int)) r1=some (lsI row):=upd_same
   generalize upd H2 r1 (.lst (row.map V.int))=H3 at u3 e3 ⊢
   refine ⟨_,rfl,(by show 0≤sizeLine; decide),fun l0 hl0 => ?_⟩
   have u4:=same_new hl0 (.lst [])
   have e4:=u4 _ _ e3
   have u24:=u3.trans u4
   generalize upd H3 l0 (.lst [])=H4 at u4 e4 u24 ⊢
   have tb2:=tb.same s02
   have tb4:=tb2.same u24
   have s24:SameT c_T_turned_back ⟨190,45,190,70⟩ qnB H2 H4:=SameT.of tb2 u24
   refine ⟨3,r1,ho,l0,rfl,tb4,(fun D H5 s5 hD eD => hN _ _ ⟨D,rfl,.inl eD,s24.trans s5⟩),.inr (.inr (.inr (.inl ⟨rfl,row,SqL.of e4,by trivial,hrb,fun t h1 h2 D H5 s5 hD eD => hN _ _ ⟨D,rfl,.inr ⟨t,eD,h1,h2⟩,s24.trans s5⟩⟩)))⟩
  rintro σ' H5 ⟨F,rfl,hF,s25⟩
  have tb2:=tb.same s02
  have te2:=te.same s02
  have hR5:=s25.g tb2 hR2
  have hS5:=s25.seq tb2 (s02.seq hS)
  have tb5:=s25.tb
  have te5:=tb_on s25 tb2 te2 ne_endings_of_turned_back.symm
  clear s25 s02 s2 u1 e1 hR2 tb2 te2 hS
  refine sqMid (fun σ' H' => σ'=[some (.ref a),some (.ref R),some (.int ho),some (.ref F),none,none]∧SqL K H' a (ns.map V.int)∧TB c_T_turned_back ⟨190,45,190,70⟩ qnB H') ?_ ?_
  rotate_left
  ·intro N hN
   refine ⟨_,rfl,(by show 3≤sizeLine; decide),fun q6 hq6 => ?_⟩
   have u6:=same_new hq6 (.lst [V.bl true,.bl false,.bl false])
   have e6:upd H5 q6 (.lst [V.bl true,.bl false,.bl false]) q6=some kinds3:=upd_same
   have hF6:upd H5 q6 (.lst [V.bl true,.bl false,.bl false]) F=some kinds3∨∃ t,upd H5 q6 (.lst [V.bl true,.bl false,.bl false]) F=some (lsI t)∧rowT t=row∧holeT t=ho:=by
    rcases hF with h | ⟨t,h,h'⟩
    ·exact .inl (u6 _ _ h)
    ·exact .inr ⟨t,u6 _ _ h,h'⟩
   have hR6:=u6 _ _ hR5
   have hS6:=u6.seq hS5
   have tb6:=tb5.same u6
   have te6:=te5.same u6
   generalize upd H5 q6 (.lst [V.bl true,.bl false,.bl false])=H6 at u6 e6 hF6 hR6 hS6 tb6 te6 ⊢
   rcases hF6 with h | ⟨t,h,h1,h2⟩
   ·refine ⟨_,_,deep_kinds3 h,deep_kinds3 e6,ht_kinds3,_,rfl,?_⟩
    rw [eqD_refl]
    refine iteF ?_
    refine iteF ?_
    exact hN _ _ ⟨rfl,hS6,tb6⟩
   ·refine ⟨_,_,.lst (SqL.of h) (Deeps.ints t),deep_kinds3 e6,(by unfold ht; rw [hts_ints]; decide),_,rfl,?_⟩
    cases hb:eqD (.lst (t.map DV.int)) kinds3D with
    | true =>
     refine iteF ?_
     refine iteF ?_
     exact hN _ _ ⟨rfl,hS6,tb6⟩
    | false =>
     refine iteT ?_
     refine ⟨_,rfl,F,_,rfl,.inl (SqL.of h),fun f1 hf1 => ?_⟩
     have u7:=same_new hf1 (.lst (t.map V.int))
     have e7:upd H6 f1 (.lst (t.map V.int)) f1=some (lsI t):=upd_same
     have te7:=te6.same u7
     have tb7:=tb6.same u7
     have hR7:=u7 _ _ hR6
     have hS7:=u7.seq hS6
     generalize upd H6 f1 (.lst (t.map V.int))=H7 at u7 e7 te7 tb7 hR7 hS7 ⊢
     have htl:=row_len t
     rw [h1] at htl
     refine ⟨f1,t,rfl,SqL.of e7,by trivial,te7,fun T D H8 s8 hT hD nTD eT eD => ?_⟩
     refine ⟨_,rfl,_,rfl,(by show 2≤sizeLine; decide),fun T3 hT3 => ?_⟩
     have u9:=same_new hT3 (.tup [V.ref R,V.int ho])
     have e9:upd H8 T3 (.tup [V.ref R,V.int ho]) T3=some (.tup [V.ref R,V.int ho]):=upd_same
     have eT9:=u9 _ _ eT
     have eD9:=u9 _ _ eD
     have s9:=s8.same u9
     generalize upd H8 T3 (.tup [V.ref R,V.int ho])=H9 at u9 e9 eT9 eD9 s9 ⊢
     refine ⟨_,_,.tup (SqT.of eT9) (.cons (.lst (SqL.of eD9) (Deeps.ints _)) (.cons (.int _) .nil)),.tup (SqT.of e9) (.cons (.lst (SqL.of (s9.g te7 hR7)) (Deeps.ints _)) (.cons (.int _) .nil)),ht_pair _ _,_,rfl,?_⟩
     rw [eqD_tp,decide_eq_true ⟨h1,h2⟩]
     refine iteF ?_
     exact hN _ _ ⟨rfl,s9.seq te7 hS7,tb_on s9 te7 tb7 ne_endings_of_turned_back⟩
  clear hF hR5 hS5 tb5 te5
  rintro σ' HA ⟨rfl,hSA,tbA⟩
  refine ⟨_,rfl,a,rfl,⟨_,hSA⟩,fun FR hFR => ?_⟩
  refine comp_lstQ (K:=K) (a:=a) (xs:=ns.map V.int) (fun i σ' H' => ∃ (x:Option V),σ'=[x]∧H' FR=some (lsI ((ns.take i).map fun c => c % 256))∧Same HA H')
   ⟨none,rfl,upd_same,same_new hFR _⟩ (fun i σ' H' _ ⟨_,_,_,e⟩ => e.seq hSA) ?_ ?_
  ·rintro i v σ' H' hi ⟨x,rfl,hDj,sm⟩
   obtain ⟨y,rfl,hy⟩:=int_at hi
   have hil:i < ns.length:=(List.getElem?_eq_some_iff.mp hy).1
   refine nameT ?_
   refine ⟨_,rfl,_,_,rfl,rfl,(by show (0:Int) < 256; decide),FR,_,_,rfl,rfl,hDj,fits_lt (by rw [List.length_map,List.length_map,List.length_take]; trivial),?_⟩
   refine CW.next (by rw [List.length_map]; exact hil) ⟨_,rfl,?_,same_upd sm _ hFR⟩
   rw [upd_same,take_at hy,List.map_append]
   exact congrArg some (lsI_app1 _ _)
  rintro σ' HB ⟨x,rfl,hFB,sB⟩
  rw [List.length_map,List.take_length] at hFB
  obtain ⟨ps,hps⟩:∃ ps,ps=ns.map fun c => c % 256:=⟨_,rfl⟩
  have hpb:∀ z∈ps,0≤z∧z≤255:=fun z hz => by
   rw [hps] at hz
   obtain ⟨c,_,rfl⟩:=List.mem_map.mp hz
   trivial
  have hpl:ps.length≤63:=by rw [hps,List.length_map]; trivial
  rw [← hps] at hFB
  refine ⟨_,rfl,FR,_,rfl,.inl (SqL.of hFB),fun f2 hf2 => ?_⟩
  have uC:=same_new hf2 (.lst (ps.map V.int))
  have eC:upd HB f2 (.lst (ps.map V.int)) f2=some (lsI ps):=upd_same
  have sC:=sB.trans uC
  have hFC:=uC _ _ hFB
  generalize upd HB f2 (.lst (ps.map V.int))=HC at uC eC sC hFC ⊢
  refine ⟨f2,ps,rfl,SqL.of eC,by trivial,(fun ⟨p,hp,h⟩ => by have:=hpb p hp; trivial),fun _ D ts HD hD eD htb hfr sD => ?_⟩
  have htl:ts.length=ps.length:=by
   have:=(st_ok ts).2.2.2
   rw [hfr] at this
   exact this.symm
  refine ⟨D,ts,rfl,SqL.of eD,htb,by trivial,fun F2 HE hF2 eF2 sE => ?_⟩
  have sCE:=sD.trans sE
  refine ⟨_,rfl,F2,FR,_,_,rfl,rfl,SqL.of eF2,SqL.of (sCE _ _ hFC),_,rfl,?_⟩
  rw [decide_eq_true hfr]
  refine iteF ?_
  have sE':=sC.trans sCE
  have hSE:=sE'.seq hSA
  have tbE:=tbA.same sE'
  clear sE' sCE sE sD sC uC eC hFC sB hFB
  unfold tNext
  dsimp only
  refine ⟨_,rfl,a,rfl,⟨_,hSE⟩,fun RU hRU => ?_⟩
  refine comp_lstQ (K:=K) (a:=a) (xs:=ns.map V.int) (fun i σ' H' => ∃ (x:Option V) (zs:List (Addr×Int×Int)),σ'=[x]∧Prs H' RU zs∧zs.length=i∧Same HE H')
   ⟨none,[],rfl,⟨upd_same,(fun _ z => by cases z)⟩,rfl,same_new hRU _⟩ (fun i σ' H' _ ⟨_,_,_,_,_,e⟩ => e.seq hSE) ?_ ?_
  ·rintro i v σ' H' hi ⟨x,zs,rfl,pr,hzi,sm⟩
   obtain ⟨y,rfl,hy⟩:=int_at hi
   have hil:i < ns.length:=(List.getElem?_eq_some_iff.mp hy).1
   refine nameT ?_
   refine ⟨_,rfl,_,_,rfl,rfl,(by show (0:Int) < 3; decide),_,rfl,_,_,rfl,rfl,⟨by decide,by decide⟩,_,_,rfl,rfl,(by show (0:Int) < 4; decide),(by show 2≤sizeLine; decide),fun tq htq => ?_⟩
   have ut:=same_new htq (.tup [.int (y % 3),.int (y / 3 % 4)])
   refine ⟨RU,_,_,rfl,rfl,ut _ _ pr.at_,fits_lt (by rw [List.length_map]; trivial),?_⟩
   exact CW.next (by rw [List.length_map]; exact hil) ⟨_,zs++[(tq,y % 3,y / 3 % 4)],rfl,(pr.same ut).app upd_same,by rw [List.length_append,List.length_singleton,hzi],same_upd (sm.trans ut) _ hRU⟩
  rintro σ' HF ⟨x,zs0,rfl,pr0,hz0,sF⟩
  rw [List.length_map] at hz0
  dsimp only
  refine sqMid (fun σ' H' => ∃ (p:Addr) (zs:List (Addr×Int×Int)),σ'=[some (.ref a),some (.ref R),some (.int ho),some (.ref F),some (.ref FR),some (.ref p)]∧Prs H' p zs∧zs.length≤63∧Same HE H') ?_ ?_
  rotate_left
  ·intro N hN
   refine ⟨_,rfl,a,ns,0,rfl,sF.seq hSE,by decide,by decide,fun z0 => ?_⟩
   refine ⟨_,_,rfl,rfl,(by show (0:Int) < 2; decide),rfl,_,rfl,?_⟩
   refine ite2 (fun _ => ?_) (fun _ => hN _ _ ⟨RU,zs0,rfl,pr0,by trivial,sF⟩)
   refine ⟨_,rfl,_,rfl,a,_,rfl,sF.seq hSE,fun q7 hq7 => ?_⟩
   obtain ⟨ms,hcut,hml⟩:=cut_any48 ns none (some 6)
   rw [hcut]
   have u7:=same_new hq7 (.lst (ms.map V.int))
   have e7:upd HF q7 (.lst (ms.map V.int)) q7=some (lsI ms):=upd_same
   have s7:=sF.trans u7
   generalize upd HF q7 (.lst (ms.map V.int))=HG at u7 e7 s7 ⊢
   refine ⟨q7,rfl,⟨_,SqL.of e7⟩,fun R2 hR2 => ?_⟩
   refine comp_lstQ (K:=K) (a:=q7) (xs:=ms.map V.int) (fun i σ' H' => ∃ (x:Option V) (zs:List (Addr×Int×Int)),σ'=[x]∧Prs H' R2 zs∧zs.length=i∧Same HG H')
    ⟨none,[],rfl,⟨upd_same,(fun _ z => by cases z)⟩,rfl,same_new hR2 _⟩ (fun i σ' H' _ ⟨_,_,_,_,_,e⟩ => SqL.of (e _ _ e7)) ?_ ?_
   ·rintro i v σ' H' hi ⟨x,zs,rfl,pr,hzi,sm⟩
    obtain ⟨y,rfl,hy⟩:=int_at hi
    have hil:i < ms.length:=(List.getElem?_eq_some_iff.mp hy).1
    refine nameT ?_
    refine ⟨_,rfl,_,_,rfl,rfl,(by show (0:Int) < 19; decide),_,rfl,_,_,rfl,rfl,⟨by decide,by decide⟩,_,_,rfl,rfl,(by show (0:Int) < 4; decide),_,_,rfl,rfl,(by show 2≤sizeLine; decide),fun tq htq => ?_⟩
    have ut:=same_new htq (.tup [.int (y % 19),.int (1+y / 19 % 4)])
    refine ⟨R2,_,_,rfl,rfl,ut _ _ pr.at_,fits_lt (by rw [List.length_map]; trivial),?_⟩
    exact CW.next (by rw [List.length_map]; exact hil) ⟨_,zs++[(tq,y % 19,1+y / 19 % 4)],rfl,(pr.same ut).app upd_same,by rw [List.length_append,List.length_singleton,hzi],same_upd (sm.trans ut) _ hR2⟩
   rintro σ' HI ⟨x,zs,rfl,prI,hzi,sI⟩
   rw [List.length_map] at hzi
   exact hN _ _ ⟨R2,zs,rfl,prI,by trivial,s7.trans sI⟩
  clear pr0 hz0 sF
  rintro σ' HF ⟨p,zs,rfl,pr,hzl,sF⟩
  have tbF:=tbE.same sF
  refine ⟨_,rfl,p,_,rfl,.inl (SqL.of pr.at_),fun p1 hp1 => ?_⟩
  have u3:=same_new hp1 (.lst (zs.map fun z => V.ref z.1))
  have pr3:Prs (upd HF p1 (.lst (zs.map fun z => V.ref z.1))) p1 zs:=⟨upd_same,fun z hz => u3 _ _ (pr.each z hz)⟩
  have prp3:=pr.same u3
  have tb3:=tbF.same u3
  generalize upd HF p1 (.lst (zs.map fun z => V.ref z.1))=H3 at u3 pr3 prp3 tb3 ⊢
  refine ⟨(by show 0≤sizeLine; decide),fun l0 hl0 => ?_⟩
  have u4:=same_new hl0 (.lst [])
  have pr4:=pr3.same u4
  have prp4:=prp3.same u4
  have tb4:=tb3.same u4
  generalize upd H3 l0 (.lst [])=H4 at u4 pr4 prp4 tb4 ⊢
  refine ⟨4,p1,0,l0,rfl,tb4,(fun D H5 s5 hD eD => ?_),.inr (.inr (.inr (.inr ⟨rfl,zs,pr4,by trivial,fun l hl D H5 s5 hD eD => ?_⟩)))⟩
  ·refine ⟨_,rfl,(by show 3≤sizeLine; decide),fun q6 hq6 => ?_⟩
   refine ⟨_,_,deep_kinds3 ((same_new hq6 _) _ _ eD),deep_kinds3 upd_same,ht_kinds3,_,rfl,?_⟩
   rw [eqD_refl]
   exact iteT (hQ _)
  ·refine ⟨_,rfl,(by show 3≤sizeLine; decide),fun q6 hq6 => ?_⟩
   have u6:=same_new hq6 (.lst [V.bl true,.bl false,.bl false])
   have e6:upd H5 q6 (.lst [V.bl true,.bl false,.bl false]) q6=some kinds3:=upd_same
   have eD6:=u6 _ _ eD
   have pr6:Prs (upd H5 q6 (.lst [V.bl true,.bl false,.bl false])) p zs:=⟨u6 _ _ (s5.g tb4 prp4.at_),fun z hz => u6 _ _ (s5.g tb4 (prp4.each z hz))⟩
   generalize upd H5 q6 (.lst [V.bl true,.bl false,.bl false])=H6 at u6 e6 eD6 pr6 ⊢
   refine ⟨_,_,.lst (SqL.of eD6) (Deeps.ints l),deep_kinds3 e6,(by unfold ht; rw [hts_ints]; decide),_,rfl,?_⟩
   cases hb:eqD (.lst (l.map DV.int)) kinds3D with
   | true => exact iteT (hQ _)
   | false =>
    refine iteF ?_
    refine ⟨_,rfl,D,_,rfl,.inl (SqL.of eD6),fun f1 hf1 => ?_⟩
    have u7:=same_new hf1 (.lst (l.map V.int))
    have e7:upd H6 f1 (.lst (l.map V.int)) f1=some (lsI l):=upd_same
    have pr7:=pr6.same u7
    generalize upd H6 f1 (.lst (l.map V.int))=H7 at u7 e7 pr7 ⊢
    have hll:=nbr_len hl
    refine ⟨f1,l,rfl,SqL.of e7,by trivial,fun D8 zs8 H8 s8 hD8 pr8 hz8 => ?_⟩
    refine ⟨_,rfl,_,_,pr8.deep,(pr7.same s8).deep,ht_prD _,?_⟩
    rw [hz8,nbr_back hl,eqD_refl]
    exact hQ _
end
end K48
namespace K48
open PySem L2 PySem.W PH
section
variable {P:Program} {w:World} {K:Frag} {mg:Str -> Option Value} {base:Heap}
theorem sc_law:FnScope ["script","bits","lengths","at"] ["script"] (defScope s_law):=⟨rfl,rfl,rfl,by decide +kernel,rfl,by decide +kernel,by decide +kernel⟩
theorem ok_law {f c_T_endings_of c_T_turned_back f_bgood f_llens f_rgood:Addr} {fd d_bgood d_llens d_rgood:FuncData} (F:Fun K "law" "law" s_law f fd) (B:Bls mg) (hm_endings_of:c_T_endings_of∈ts) (hm_turned_back:c_T_turned_back∈ts) (ne_endings_of_turned_back:c_T_endings_of≠c_T_turned_back) 
  (G_bgood:FnOk P w K mg base (CXW P w) 10 f_bgood d_bgood ["bits","at","lengths"] (spBGood K c_T_turned_back ⟨190,45,190,70⟩)) (b_bgood:Binds K d_bgood ["bits","at","lengths"] []) (k_bgood:keepIn K (.ref f_bgood)=true) (m_bgood:mg "_law_bits_good" = some (.ref f_bgood)) 
  (G_llens:FnOk P w K mg base (CXW P w) 2 f_llens d_llens ["script"] (spLens48 K)) (b_llens:Binds K d_llens ["script"] []) (k_llens:keepIn K (.ref f_llens)=true) (m_llens:mg "_law_lengths" = some (.ref f_llens)) 
  (G_rgood:FnOk P w K mg base (CXW P w) 10 f_rgood d_rgood ["script"] (spRGood K c_T_turned_back ⟨190,45,190,70⟩ c_T_endings_of ⟨174,44,174,64⟩)) (b_rgood:Binds K d_rgood ["script"] []) (k_rgood:keepIn K (.ref f_rgood)=true) (m_rgood:mg "_law_rows_good" = some (.ref f_rgood)):FnOk P w K mg base (CXW P w) 11 f fd ["script"] (spLawT K ts):=by
 refine F.okN sc_law (fun vs H Q E h => ?_) (fun cdv A outer s H vs Q E hr h => ?_)
 ·obtain ⟨a,ns,rfl,_⟩:=h
  rfl
 ·obtain ⟨a,ns,rfl,hS,h63,hts,q⟩:=h
  refine ⟨_,(pss_cons (ps_set (i:=0) sc_law.nd rfl (Or.inl rfl) (pe_slice sl_list (pv 0) po_none (po_some pe_int)))
   (pss_cons (ps_set (i:=1) sc_law.nd rfl (Or.inl rfl) (pe_op op_rep (pe_comp (N:=["cell"]) (js:=[none]) (g:=(gName 0)) (tc:=tTrue) (te:=(tOp (rI (fun _ j => 0 < j) fun i j => .int (i % j)) (tVar 0) (tC (.int 2)))) rfl (comp_scope (osc:=defScope s_law) (XN:=["script","bits","lengths","at"]) rfl rfl rfl (by decide +kernel)) (pi_list (pv 0)) (fun _ _ _ _ => pg_name (i:=0) (show (["cell"]:List Str).Nodup by decide +kernel) rfl (Or.inl rfl)) (fun _ _ _ _ => pif_nil) (fun _ _ _ _ => (pe_op op_mod (pv 0) pe_int))) pe_int))
   (pss_cons (ps_set (i:=2) sc_law.nd rfl (Or.inl rfl) (pe_call G_llens (hr.mono (show 2≤10 by decide)) rfl m_llens k_llens b_llens .nil passN (pa_cons (pv 0) pa_nil)))
   (pss_cons (ps_for PassesOwn.never rfl (pi_range1 rfl B.range (pa_cons (pe_callB (call_min2 rfl) rfl B.min boot_min' (pa_cons pe_int (pa_cons (pe_op op_add (pe_callB call_len_seq rfl B.len PySem.boot_len (pa_cons (pv 1) pa_nil)) pe_int) pa_nil))) pa_nil)) (pg_name (i:=3) sc_law.nd rfl (Or.inl rfl))
    (pss_one (ps_if (pt_not (pt_val (pe_call G_bgood hr rfl m_bgood k_bgood b_bgood .nil passN (pa_cons (pv 1) (pa_cons (pv 3) (pa_cons (pv 2) pa_nil))))))
     (pss_one (ps_ret pe_bl))
     pss_nil)))
   (pss_one (ps_ret (pe_call G_rgood hr rfl m_rgood k_rgood b_rgood .nil passN (pa_cons (pv 0) pa_nil)))))))),?_⟩
  have tb0:TB c_T_turned_back ⟨190,45,190,70⟩ qnB H:=.inl (hts _ hm_turned_back)
  have te0:TB c_T_endings_of ⟨174,44,174,64⟩ qnE H:=.inl (hts _ hm_endings_of)
  refine ⟨_,rfl,_,rfl,a,_,rfl,hS,fun a1 ha1 => ?_⟩
  rw [show cutV (ns.map V.int) none (some 63)=(ns.take 63).map V.int from cut_to (α:=Int) ns 63]
  have u1:=same_new ha1 (.lst ((ns.take 63).map V.int))
  have e1:upd H a1 (.lst ((ns.take 63).map V.int)) a1=some (lsI (ns.take 63)):=upd_same
  have hml:(ns.take 63).length≤63:=by rw [List.length_take]; trivial
  generalize upd H a1 (.lst ((ns.take 63).map V.int))=H1 at u1 e1 ⊢
  generalize ns.take 63=ms at e1 hml
  refine ⟨_,rfl,a1,rfl,⟨_,SqL.of e1⟩,fun D hD => ?_⟩
  refine comp_lstQ (K:=K) (a:=a1) (xs:=ms.map V.int) (fun i σ' H' => ∃ (x:Option V),σ'=[x]∧H' D=some (lsI ((ms.take i).map fun c => c % 2))∧Same H1 H')
   ⟨none,rfl,upd_same,same_new hD _⟩ (fun i σ' H' _ ⟨_,_,_,e⟩ => SqL.of (e _ _ e1)) ?_ ?_
  ·rintro i v σ' H' hi ⟨x,rfl,hD',sm⟩
   obtain ⟨y,rfl,hy⟩:=int_at hi
   have hil:i < ms.length:=(List.getElem?_eq_some_iff.mp hy).1
   refine nameT ?_
   refine ⟨_,rfl,_,_,rfl,rfl,(by show (0:Int) < 2; decide),D,_,_,rfl,rfl,hD',fits_lt (by rw [List.length_map,List.length_map,List.length_take]; trivial),?_⟩
   refine CW.next (by rw [List.length_map]; exact hil) ⟨_,rfl,?_,same_upd sm _ hD⟩
   rw [upd_same,take_at hy,List.map_append]
   exact congrArg some (lsI_app1 _ _)
  rintro σ' H2 ⟨x,rfl,hD2,s2⟩
  rw [List.length_map,List.take_length] at hD2
  refine ⟨D,2,_,rfl,rfl,hD2,by decide,by decide,(by rw [List.length_map,List.length_map]; show ms.length * 2≤16777216; trivial),fun B0 hB0 => ?_⟩
  obtain ⟨bs,hbs⟩:∃ bs,bs=ms.map (fun c => c % 2)++ms.map (fun c => c % 2):=⟨_,rfl⟩
  have hrep:(List.replicate (2:Int).toNat ((ms.map fun c => c % 2).map V.int)).flatten=bs.map V.int:=by
   rw [hbs,List.map_append]
   show (List.replicate 2 _).flatten=_
   simp [List.replicate]
  have hbb:isBits bs:=by
   intro b hb
   rw [hbs] at hb
   have:b∈ms.map fun c => c % 2:=by
    rcases List.mem_append.mp hb with h | h <;> exact h
   obtain ⟨c,_,rfl⟩:=List.mem_map.mp this
   trivial
  have hbl:bs.length≤126:=by rw [hbs,List.length_append,List.length_map]; trivial
  rw [hrep]
  have u3:=same_new hB0 (.lst (bs.map V.int))
  have e3:upd H2 B0 (.lst (bs.map V.int)) B0=some (lsI bs):=upd_same
  have e13:=u3 _ _ (s2 _ _ e1)
  have s3:=(u1.trans s2).trans u3
  generalize upd H2 B0 (.lst (bs.map V.int))=H3 at u3 e3 e13 s3 ⊢
  refine ⟨_,rfl,a1,ms,rfl,SqL.of e13,fun p zs H4 s4 hp pr hzl hcan hnd => ?_⟩
  have e4:=s4 _ _ e3
  have e14:=s4 _ _ e13
  have s04:=s3.trans s4
  have tb4:=tb0.same s04
  have te4:=te0.same s04
  obtain ⟨m,hm,hm0,hm5⟩:∃ m:Nat,(if (((bs.map V.int).length:Nat):Int)+1 < 5 then (((bs.map V.int).length:Nat):Int)+1 else (5:Int))=(m:Int)∧m≤5∧m≤bs.length+1:=by
   rw [List.length_map]
   by_cases c:(bs.length:Int)+1 < 5
   ·exact ⟨bs.length+1,by rw [if_pos c]; rfl,by trivial,by trivial⟩
   ·exact ⟨5,by rw [if_neg c]; rfl,by trivial,by trivial⟩
  refine ⟨_,rfl,B0,_,rfl,.inl (SqL.of e4),_,_,rfl,rfl,_,_,rfl,(m:Int),(by rw [← hm]),by trivial,by trivial,?_⟩
  rw [Int.toNat_natCast]
  refine for_range (n:=m) (fun j σ H' => ∃ (v3:Option V),σ=[some (.ref a1),some (.ref B0),some (.ref p),v3]∧SameT c_T_turned_back ⟨190,45,190,70⟩ qnB H4 H')
   ⟨none,rfl,SameT.refl tb4⟩ ?_ ?_
  ·rintro j σ H5 hj ⟨v3,rfl,s5⟩
   rw [Int.zero_add]
   refine ⟨_,rfl,_,rfl,_,rfl,B0,j,p,bs,zs,rfl,s5.tb,s5.g tb4 e4,hbb,by trivial,by trivial,⟨s5.g tb4 pr.at_,fun z hz => s5.g tb4 (pr.each z hz)⟩,hzl,hcan,hnd,fun H6 s6 => ⟨_,rfl,?_⟩⟩
   refine iteF ?_
   exact ⟨_,rfl,s5.trans s6⟩
  ·rintro σ H5 ⟨v3,rfl,s5⟩
   exact ⟨_,rfl,a1,ms,rfl,SqL.of (s5.g tb4 e14),hml,s5.tb,tb_on s5 tb4 te4 ne_endings_of_turned_back.symm,fun H6 => q _⟩
end
end K48
namespace K48
open PySem L2 PySem.W PH
theorem len_1 {α:Type}:∀ {us:List α},us.length=1 -> ∃ x0,us=[x0]
 | [x0],_ => ⟨x0,rfl⟩
theorem len_2 {α:Type}:∀ {us:List α},us.length=2 -> ∃ x0 x1,us=[x0,x1]
 | [x0,x1],_ => ⟨x0,x1,rfl⟩
theorem len_3 {α:Type}:∀ {us:List α},us.length=3 -> ∃ x0 x1 x2,us=[x0,x1,x2]
 | [x0,x1,x2],_ => ⟨x0,x1,x2,rfl⟩
theorem len_4 {α:Type}:∀ {us:List α},us.length=4 -> ∃ x0 x1 x2 x3,us=[x0,x1,x2,x3]
 | [x0,x1,x2,x3],_ => ⟨x0,x1,x2,x3,rfl⟩
section
theorem all_mk {l:OpenLaw} {w:World} {K:Frag} {h:Heap} {mg:Str -> Option Value} {fa f1 f2 f3 f4 f5 f6 f7 f8 f9 f10 f11 f12 f13 f14 f15 f16 f17 f18 f19 f20 f21 f22 f23 f24 f25 f26 f27 f28 f29 f30 f31 f32 f33 f34 c_PackError c_Broken c_NoCode c_NoNumber:Addr} (X:K.In h) (G:h.Ns mainGlobals mg) (hfa:mg "law" = some (.ref fa))
  {od1 an1 od2 an2 od3 an3 od4 an4 od5 an5 od6 an6 od7 an7 od8 an8 od9 an9 od10 an10 od11 an11 od12 an12 od13 an13 od14 an14 od15 an15 od16 an16 od17 an17 od18 an18 od19 an19 od20 an20 od21 an21 od22 an22 od23 an23 od24 an24 od25 an25 od26 an26 od27 an27 od28 an28 od29 an29 od30 an30 od31 an31 od32 an32 od33 an33 od34 an34:Option Addr} {sl1 sl2 sl3 sl4 sl5 sl6 sl7 sl8 sl9 sl10 sl11 sl12 sl13 sl14 sl15 sl16 sl17 sl18 sl19 sl20 sl21 sl22 sl23 sl24 sl25 sl26 sl27 sl28 sl29 sl30 sl31 sl32 sl33 sl34:Array (Option Value)} {oc1 kV1 dc1 pm1 cd1 ct1 oc2 kV2 dc2 pm2 cd2 ct2 oc3 kV3 dc3 pm3 cd3 ct3 oc4 kV4 dc4 pm4 cd4 ct4 oc5 kV5 dc5 pm5 cd5 ct5 oc6 kV6 dc6 pm6 cd6 ct6 oc7 kV7 dc7 pm7 cd7 ct7 oc8 kV8 dc8 pm8 cd8 ct8 oc9 kV9 dc9 pm9 cd9 ct9 oc10 kV10 dc10 pm10 cd10 ct10 oc11 kV11 dc11 pm11 cd11 ct11 oc12 kV12 dc12 pm12 cd12 ct12 oc13 kV13 dc13 pm13 cd13 ct13 oc14 kV14 dc14 pm14 cd14 ct14 oc15 kV15 dc15 pm15 cd15 ct15 oc16 kV16 dc16 pm16 cd16 ct16 oc17 kV17 dc17 pm17 cd17 ct17 oc18 kV18 dc18 pm18 cd18 ct18 oc19 kV19 dc19 pm19 cd19 ct19 oc20 kV20 dc20 pm20 cd20 ct20 oc21 kV21 dc21 pm21 cd21 ct21 oc22 kV22 dc22 pm22 cd22 ct22 oc23 kV23 dc23 pm23 cd23 ct23 oc24 kV24 dc24 pm24 cd24 ct24 oc25 kV25 dc25 pm25 cd25 ct25 oc26 kV26 dc26 pm26 cd26 ct26 oc27 kV27 dc27 pm27 cd27 ct27 oc28 kV28 dc28 pm28 cd28 ct28 oc29 kV29 dc29 pm29 cd29 ct29 oc30 kV30 dc30 pm30 cd30 ct30 oc31 kV31 dc31 pm31 cd31 ct31 oc32 kV32 dc32 pm32 cd32 ct32 oc33 kV33 dc33 pm33 cd33 ct33 oc34 kV34 dc34 pm34 cd34 ct34:Value}
  {tk_LAST_SIGN tk_LONGEST_WORD tk_MOST_NUMBERS:Tok}
  {ts:List Addr} {ca_endings_of c_T_endings_of ca_turned_back c_T_turned_back:Addr}
  (a1:nsIn K mainGlobals "low_bits" = some (some (.ref f1))) (l1:K.lookup f1=some ⟨oc1,od1,.func (fnOf "low_bits" "low_bits" (defArgs s_low) (defBody s_low) (defScope s_low) .none kV1 dc1 pm1 an1 cd1 ct1),sl1⟩) (cc1:codeIn K cd1 "low_bits" = true) (k1:keepIn K (.ref f1)=true)
  (a2:nsIn K mainGlobals "number_of" = some (some (.ref f2))) (l2:K.lookup f2=some ⟨oc2,od2,.func (fnOf "number_of" "number_of" (defArgs s_num) (defBody s_num) (defScope s_num) .none kV2 dc2 pm2 an2 cd2 ct2),sl2⟩) (cc2:codeIn K cd2 "number_of" = true) (k2:keepIn K (.ref f2)=true)
  (a3:nsIn K mainGlobals "ending_bits" = some (some (.ref f3))) (l3:K.lookup f3=some ⟨oc3,od3,.func (fnOf "ending_bits" "ending_bits" (defArgs s_end) (defBody s_end) (defScope s_end) .none kV3 dc3 pm3 an3 cd3 ct3),sl3⟩) (cc3:codeIn K cd3 "ending_bits" = true) (k3:keepIn K (.ref f3)=true)
  (a4:nsIn K mainGlobals "first_one" = some (some (.ref f4))) (l4:K.lookup f4=some ⟨oc4,od4,.func (fnOf "first_one" "first_one" (defArgs s_first) (defBody s_first) (defScope s_first) .none kV4 dc4 pm4 an4 cd4 ct4),sl4⟩) (cc4:codeIn K cd4 "first_one" = true) (k4:keepIn K (.ref f4)=true)
  (a5:nsIn K mainGlobals "read_ending" = some (some (.ref f5))) (l5:K.lookup f5=some ⟨oc5,od5,.func (fnOf "read_ending" "read_ending" (defArgs s_read) (defBody s_read) (defScope s_read) .none kV5 dc5 pm5 an5 cd5 ct5),sl5⟩) (cc5:codeIn K cd5 "read_ending" = true) (k5:keepIn K (.ref f5)=true)
  (a6:nsIn K mainGlobals "row_bits" = some (some (.ref f6))) (l6:K.lookup f6=some ⟨oc6,od6,.func (fnOf "row_bits" "row_bits" (defArgs s_row) (defBody s_row) (defScope s_row) .none kV6 dc6 pm6 an6 cd6 ct6),sl6⟩) (cc6:codeIn K cd6 "row_bits" = true) (k6:keepIn K (.ref f6)=true)
  (a7:nsIn K mainGlobals "read_row" = some (some (.ref f7))) (l7:K.lookup f7=some ⟨oc7,od7,.func (fnOf "read_row" "read_row" (defArgs s_rdrow) (defBody s_rdrow) (defScope s_rdrow) .none kV7 dc7 pm7 an7 cd7 ct7),sl7⟩) (cc7:codeIn K cd7 "read_row" = true) (k7:keepIn K (.ref f7)=true)
  (a8:nsIn K mainGlobals "is_whole" = some (some (.ref f8))) (l8:K.lookup f8=some ⟨oc8,od8,.func (fnOf "is_whole" "is_whole" (defArgs s_whole) (defBody s_whole) (defScope s_whole) .none kV8 dc8 pm8 an8 cd8 ct8),sl8⟩) (cc8:codeIn K cd8 "is_whole" = true) (k8:keepIn K (.ref f8)=true)
  (a9:nsIn K mainGlobals "is_sign" = some (some (.ref f9))) (l9:K.lookup f9=some ⟨oc9,od9,.func (fnOf "is_sign" "is_sign" (defArgs s_sign) (defBody s_sign) (defScope s_sign) .none kV9 dc9 pm9 an9 cd9 ct9),sl9⟩) (cc9:codeIn K cd9 "is_sign" = true) (k9:keepIn K (.ref f9)=true)
  (a10:nsIn K mainGlobals "are_signs" = some (some (.ref f10))) (l10:K.lookup f10=some ⟨oc10,od10,.func (fnOf "are_signs" "are_signs" (defArgs s_signs) (defBody s_signs) (defScope s_signs) .none kV10 dc10 pm10 an10 cd10 ct10),sl10⟩) (cc10:codeIn K cd10 "are_signs" = true) (k10:keepIn K (.ref f10)=true)
  (a11:nsIn K mainGlobals "may_be_turned" = some (some (.ref f11))) (l11:K.lookup f11=some ⟨oc11,od11,.func (fnOf "may_be_turned" "may_be_turned" (defArgs s_may) (defBody s_may) (defScope s_may) .none kV11 dc11 pm11 an11 cd11 ct11),sl11⟩) (cc11:codeIn K cd11 "may_be_turned" = true) (k11:keepIn K (.ref f11)=true)
  (a12:nsIn K mainGlobals "signs_rise" = some (some (.ref f12))) (l12:K.lookup f12=some ⟨oc12,od12,.func (fnOf "signs_rise" "signs_rise" (defArgs s_rise) (defBody s_rise) (defScope s_rise) .none kV12 dc12 pm12 an12 cd12 ct12),sl12⟩) (cc12:codeIn K cd12 "signs_rise" = true) (k12:keepIn K (.ref f12)=true)
  (a13:nsIn K mainGlobals "have_room" = some (some (.ref f13))) (l13:K.lookup f13=some ⟨oc13,od13,.func (fnOf "have_room" "have_room" (defArgs s_room) (defBody s_room) (defScope s_room) .none kV13 dc13 pm13 an13 cd13 ct13),sl13⟩) (cc13:codeIn K cd13 "have_room" = true) (k13:keepIn K (.ref f13)=true)
  (a14:nsIn K mainGlobals "can_be_words" = some (some (.ref f14))) (l14:K.lookup f14=some ⟨oc14,od14,.func (fnOf "can_be_words" "can_be_words" (defArgs s_can) (defBody s_can) (defScope s_can) .none kV14 dc14 pm14 an14 cd14 ct14),sl14⟩) (cc14:codeIn K cd14 "can_be_words" = true) (k14:keepIn K (.ref f14)=true)
  (a15:nsIn K mainGlobals "next_word" = some (some (.ref f15))) (l15:K.lookup f15=some ⟨oc15,od15,.func (fnOf "next_word" "next_word" (defArgs s_next) (defBody s_next) (defScope s_next) .none kV15 dc15 pm15 an15 cd15 ct15),sl15⟩) (cc15:codeIn K cd15 "next_word" = true) (k15:keepIn K (.ref f15)=true)
  (a16:nsIn K mainGlobals "words_by" = some (some (.ref f16))) (l16:K.lookup f16=some ⟨oc16,od16,.func (fnOf "words_by" "words_by" (defArgs s_words) (defBody s_words) (defScope s_words) .none kV16 dc16 pm16 an16 cd16 ct16),sl16⟩) (cc16:codeIn K cd16 "words_by" = true) (k16:keepIn K (.ref f16)=true)
  (a17:nsIn K mainGlobals "coded" = some (some (.ref f17))) (l17:K.lookup f17=some ⟨oc17,od17,.func (fnOf "coded" "coded" (defArgs s_coded) (defBody s_coded) (defScope s_coded) .none kV17 dc17 pm17 an17 cd17 ct17),sl17⟩) (cc17:codeIn K cd17 "coded" = true) (k17:keepIn K (.ref f17)=true)
  (a18:nsIn K mainGlobals "read_word" = some (some (.ref f18))) (l18:K.lookup f18=some ⟨oc18,od18,.func (fnOf "read_word" "read_word" (defArgs s_readw) (defBody s_readw) (defScope s_readw) .none kV18 dc18 pm18 an18 cd18 ct18),sl18⟩) (cc18:codeIn K cd18 "read_word" = true) (k18:keepIn K (.ref f18)=true)
  (a19:nsIn K mainGlobals "decoded" = some (some (.ref f19))) (l19:K.lookup f19=some ⟨oc19,od19,.func (fnOf "decoded" "decoded" (defArgs s_decoded) (defBody s_decoded) (defScope s_decoded) .none kV19 dc19 pm19 an19 cd19 ct19),sl19⟩) (cc19:codeIn K cd19 "decoded" = true) (k19:keepIn K (.ref f19)=true)
  (a20:nsIn K mainGlobals "put_first" = some (some (.ref f20))) (l20:K.lookup f20=some ⟨oc20,od20,.func (fnOf "put_first" "put_first" (defArgs s_put) (defBody s_put) (defScope s_put) .none kV20 dc20 pm20 an20 cd20 ct20),sl20⟩) (cc20:codeIn K cd20 "put_first" = true) (k20:keepIn K (.ref f20)=true)
  (a21:nsIn K mainGlobals "text_by_fronts" = some (some (.ref f21))) (l21:K.lookup f21=some ⟨oc21,od21,.func (fnOf "text_by_fronts" "text_by_fronts" (defArgs s_tbf) (defBody s_tbf) (defScope s_tbf) .none kV21 dc21 pm21 an21 cd21 ct21),sl21⟩) (cc21:codeIn K cd21 "text_by_fronts" = true) (k21:keepIn K (.ref f21)=true)
  (a22:nsIn K mainGlobals "fronts_of" = some (some (.ref f22))) (l22:K.lookup f22=some ⟨oc22,od22,.func (fnOf "fronts_of" "fronts_of" (defArgs s_fronts) (defBody s_fronts) (defScope s_fronts) .none kV22 dc22 pm22 an22 cd22 ct22),sl22⟩) (cc22:codeIn K cd22 "fronts_of" = true) (k22:keepIn K (.ref f22)=true)
  (a23:nsIn K mainGlobals "runs_of" = some (some (.ref f23))) (l23:K.lookup f23=some ⟨oc23,od23,.func (fnOf "runs_of" "runs_of" (defArgs s_runs) (defBody s_runs) (defScope s_runs) .none kV23 dc23 pm23 an23 cd23 ct23),sl23⟩) (cc23:codeIn K cd23 "runs_of" = true) (k23:keepIn K (.ref f23)=true)
  (a24:nsIn K mainGlobals "numbers_by_runs" = some (some (.ref f24))) (l24:K.lookup f24=some ⟨oc24,od24,.func (fnOf "numbers_by_runs" "numbers_by_runs" (defArgs s_nbr) (defBody s_nbr) (defScope s_nbr) .none kV24 dc24 pm24 an24 cd24 ct24),sl24⟩) (cc24:codeIn K cd24 "numbers_by_runs" = true) (k24:keepIn K (.ref f24)=true)
  (a25:nsIn K mainGlobals "endings_of" = some (some (.ref f25))) (l25:K.lookup f25=some ⟨oc25,od25,.func (fnOf "endings_of" "endings_of" (defArgs s_ends) (defBody s_ends) (defScope s_ends) .none kV25 dc25 pm25 an25 cd25 ct25),sl25⟩) (cc25:codeIn K cd25 "endings_of" = true) (k25:keepIn K (.ref f25)=true)
  (a26:nsIn K mainGlobals "turned_text" = some (some (.ref f26))) (l26:K.lookup f26=some ⟨oc26,od26,.func (fnOf "turned_text" "turned_text" (defArgs s_turned) (defBody s_turned) (defScope s_turned) .none kV26 dc26 pm26 an26 cd26 ct26),sl26⟩) (cc26:codeIn K cd26 "turned_text" = true) (k26:keepIn K (.ref f26)=true)
  (a27:nsIn K mainGlobals "turned_back" = some (some (.ref f27))) (l27:K.lookup f27=some ⟨oc27,od27,.func (fnOf "turned_back" "turned_back" (defArgs s_back) (defBody s_back) (defScope s_back) .none kV27 dc27 pm27 an27 cd27 ct27),sl27⟩) (cc27:codeIn K cd27 "turned_back" = true) (k27:keepIn K (.ref f27)=true)
  (a28:nsIn K mainGlobals "_law_cell" = some (some (.ref f28))) (l28:K.lookup f28=some ⟨oc28,od28,.func (fnOf "_law_cell" "_law_cell" (defArgs s_cell) (defBody s_cell) (defScope s_cell) .none kV28 dc28 pm28 an28 cd28 ct28),sl28⟩) (cc28:codeIn K cd28 "_law_cell" = true) (k28:keepIn K (.ref f28)=true)
  (a29:nsIn K mainGlobals "_law_whole" = some (some (.ref f29))) (l29:K.lookup f29=some ⟨oc29,od29,.func (fnOf "_law_whole" "_law_whole" (defArgs s_lwhole) (defBody s_lwhole) (defScope s_lwhole) .none kV29 dc29 pm29 an29 cd29 ct29),sl29⟩) (cc29:codeIn K cd29 "_law_whole" = true) (k29:keepIn K (.ref f29)=true)
  (a30:nsIn K mainGlobals "_law_got" = some (some (.ref f30))) (l30:K.lookup f30=some ⟨oc30,od30,.func (fnOf "_law_got" "_law_got" (defArgs s_got) (defBody s_got) (defScope s_got) .none kV30 dc30 pm30 an30 cd30 ct30),sl30⟩) (cc30:codeIn K cd30 "_law_got" = true) (k30:keepIn K (.ref f30)=true)
  (a31:nsIn K mainGlobals "_law_bits_good" = some (some (.ref f31))) (l31:K.lookup f31=some ⟨oc31,od31,.func (fnOf "_law_bits_good" "_law_bits_good" (defArgs s_bgood) (defBody s_bgood) (defScope s_bgood) .none kV31 dc31 pm31 an31 cd31 ct31),sl31⟩) (cc31:codeIn K cd31 "_law_bits_good" = true) (k31:keepIn K (.ref f31)=true)
  (a32:nsIn K mainGlobals "_law_lengths" = some (some (.ref f32))) (l32:K.lookup f32=some ⟨oc32,od32,.func (fnOf "_law_lengths" "_law_lengths" (defArgs s_llens) (defBody s_llens) (defScope s_llens) .none kV32 dc32 pm32 an32 cd32 ct32),sl32⟩) (cc32:codeIn K cd32 "_law_lengths" = true) (k32:keepIn K (.ref f32)=true)
  (a33:nsIn K mainGlobals "_law_rows_good" = some (some (.ref f33))) (l33:K.lookup f33=some ⟨oc33,od33,.func (fnOf "_law_rows_good" "_law_rows_good" (defArgs s_rgood) (defBody s_rgood) (defScope s_rgood) .none kV33 dc33 pm33 an33 cd33 ct33),sl33⟩) (cc33:codeIn K cd33 "_law_rows_good" = true) (k33:keepIn K (.ref f33)=true)
  (a34:nsIn K mainGlobals "law" = some (some (.ref f34))) (l34:K.lookup f34=some ⟨oc34,od34,.func (fnOf "law" "law" (defArgs s_law) (defBody s_law) (defScope s_law) .none kV34 dc34 pm34 an34 cd34 ct34),sl34⟩) (cc34:codeIn K cd34 "law" = true) (k34:keepIn K (.ref f34)=true)
  (lc_endings_of:cd25=.ref ca_endings_of) (lx_endings_of:c_T_endings_of∈ts∧codeHdIn K ca_endings_of c_T_endings_of=true)
  (lc_turned_back:cd27=.ref ca_turned_back) (lx_turned_back:c_T_turned_back∈ts∧codeHdIn K ca_turned_back c_T_turned_back=true)
  (ne_endings_of_turned_back:c_T_endings_of≠c_T_turned_back)
  (z_isinstance:nsIn K mainGlobals "isinstance" = some none)
  (z_list:nsIn K mainGlobals "list" = some none)
  (z_int:nsIn K mainGlobals "int" = some none)
  (z_bool:nsIn K mainGlobals "bool" = some none)
  (z_len:nsIn K mainGlobals "len" = some none)
  (z_range:nsIn K mainGlobals "range" = some none)
  (z_max:nsIn K mainGlobals "max" = some none)
  (z_ValueError:nsIn K mainGlobals "ValueError" = some none)
  (z_tuple:nsIn K mainGlobals "tuple" = some none)
  (z_min:nsIn K mainGlobals "min" = some none)
  (z_sorted:nsIn K mainGlobals "sorted" = some none)
  (z_all:nsIn K mainGlobals "all" = some none)
  (z_dict:nsIn K mainGlobals "dict" = some none)
  (z_enumerate:nsIn K mainGlobals "enumerate" = some none)
  (e_PackError:nsIn K mainGlobals "PackError" = some (some (.ref c_PackError)))
  (x0_PackError:excIn K c_PackError bmV "ValueError.__new__" = true) (x1_PackError:findIn K (.ref c_PackError) "__getattribute__" = some (some (.builtin "BaseException.__getattribute__"))) (x2_PackError:findIn K (.ref c_PackError) "__getattr__" = some none) (x3_PackError:findIn K (.ref c_PackError) "__class__" = some (some (.builtin "object.__class__"))) (x4_PackError:mroIn K c_PackError (.type "object")=some true) (x5_PackError:mroIn K c_PackError (.type "BaseException")=some true) (x6_PackError:typeIn K (.ref c_PackError)=some (.type "type"))
  (e_Broken:nsIn K mainGlobals "Broken" = some (some (.ref c_Broken)))
  (x0_Broken:excIn K c_Broken bmV "ValueError.__new__" = true) (x1_Broken:findIn K (.ref c_Broken) "__getattribute__" = some (some (.builtin "BaseException.__getattribute__"))) (x2_Broken:findIn K (.ref c_Broken) "__getattr__" = some none) (x3_Broken:findIn K (.ref c_Broken) "__class__" = some (some (.builtin "object.__class__"))) (x4_Broken:mroIn K c_Broken (.type "object")=some true) (x5_Broken:mroIn K c_Broken (.type "BaseException")=some true) (x6_Broken:typeIn K (.ref c_Broken)=some (.type "type"))
  (e_NoCode:nsIn K mainGlobals "NoCode" = some (some (.ref c_NoCode)))
  (x0_NoCode:excIn K c_NoCode bmV "ValueError.__new__" = true) (x1_NoCode:findIn K (.ref c_NoCode) "__getattribute__" = some (some (.builtin "BaseException.__getattribute__"))) (x2_NoCode:findIn K (.ref c_NoCode) "__getattr__" = some none) (x3_NoCode:findIn K (.ref c_NoCode) "__class__" = some (some (.builtin "object.__class__"))) (x4_NoCode:mroIn K c_NoCode (.type "object")=some true) (x5_NoCode:mroIn K c_NoCode (.type "BaseException")=some true) (x6_NoCode:typeIn K (.ref c_NoCode)=some (.type "type"))
  (e_NoNumber:nsIn K mainGlobals "NoNumber" = some (some (.ref c_NoNumber)))
  (x0_NoNumber:excIn K c_NoNumber bmV "ValueError.__new__" = true) (x1_NoNumber:findIn K (.ref c_NoNumber) "__getattribute__" = some (some (.builtin "BaseException.__getattribute__"))) (x2_NoNumber:findIn K (.ref c_NoNumber) "__getattr__" = some none) (x3_NoNumber:findIn K (.ref c_NoNumber) "__class__" = some (some (.builtin "object.__class__"))) (x4_NoNumber:mroIn K c_NoNumber (.type "object")=some true) (x5_NoNumber:mroIn K c_NoNumber (.type "BaseException")=some true) (x6_NoNumber:typeIn K (.ref c_NoNumber)=some (.type "type"))
  (xm_BK:mroIn K c_Broken (.ref c_PackError)=some true)
  (x1_BK:kitOne K (.ref c_Broken) (.ref c_NoCode)=some false)
  (x2_BK:kitOne K (.ref c_Broken) (.ref c_NoNumber)=some false)
  (g_LAST_SIGN:nsIn K mainGlobals "LAST_SIGN" = some (some (.int 255 tk_LAST_SIGN)))
  (g_LONGEST_WORD:nsIn K mainGlobals "LONGEST_WORD" = some (some (.int 256 tk_LONGEST_WORD)))
  (g_MOST_NUMBERS:nsIn K mainGlobals "MOST_NUMBERS" = some (some (.int 400 tk_MOST_NUMBERS)))
  : ∃ fd:FuncData,(∀ (s:Shared) (v:Value),BindsTo s fd ⟨[v],[]⟩ [("script",v)])∧∀ base:Heap,K.In base -> base.Ns mainGlobals mg -> BM mg base -> FnOk l.prog w K mg base (CXW l.prog w) 11 fa fd ["script"] (spLawT K ts):=by
 have e:=hfa.symm.trans (mg_of X G a34)
 cases e
 have F1:=fun_mk (st:=s_low) l1 cc1 k1
 have b1:=F1.binds (ps:=["n","k"]) fun _ _ _ _ _ _ us hl => by obtain ⟨x0,x1,rfl⟩:=len_2 hl; rfl
 have m1:=mg_of X G a1
 have F2:=fun_mk (st:=s_num) l2 cc2 k2
 have b2:=F2.binds (ps:=["bits"]) fun _ _ _ _ _ _ us hl => by obtain ⟨x0,rfl⟩:=len_1 hl; rfl
 have m2:=mg_of X G a2
 have F3:=fun_mk (st:=s_end) l3 cc3 k3
 have b3:=F3.binds (ps:=["n"]) fun _ _ _ _ _ _ us hl => by obtain ⟨x0,rfl⟩:=len_1 hl; rfl
 have m3:=mg_of X G a3
 have F4:=fun_mk (st:=s_first) l4 cc4 k4
 have b4:=F4.binds (ps:=["bits","at"]) fun _ _ _ _ _ _ us hl => by obtain ⟨x0,x1,rfl⟩:=len_2 hl; rfl
 have m4:=mg_of X G a4
 have F5:=fun_mk (st:=s_read) l5 cc5 k5
 have b5:=F5.binds (ps:=["bits","at"]) fun _ _ _ _ _ _ us hl => by obtain ⟨x0,x1,rfl⟩:=len_2 hl; rfl
 have m5:=mg_of X G a5
 have F6:=fun_mk (st:=s_row) l6 cc6 k6
 have b6:=F6.binds (ps:=["numbers"]) fun _ _ _ _ _ _ us hl => by obtain ⟨x0,rfl⟩:=len_1 hl; rfl
 have m6:=mg_of X G a6
 have F7:=fun_mk (st:=s_rdrow) l7 cc7 k7
 have b7:=F7.binds (ps:=["bits","at"]) fun _ _ _ _ _ _ us hl => by obtain ⟨x0,x1,rfl⟩:=len_2 hl; rfl
 have m7:=mg_of X G a7
 have F8:=fun_mk (st:=s_whole) l8 cc8 k8
 have b8:=F8.binds (ps:=["thing"]) fun _ _ _ _ _ _ us hl => by obtain ⟨x0,rfl⟩:=len_1 hl; rfl
 have m8:=mg_of X G a8
 have F9:=fun_mk (st:=s_sign) l9 cc9 k9
 have b9:=F9.binds (ps:=["thing"]) fun _ _ _ _ _ _ us hl => by obtain ⟨x0,rfl⟩:=len_1 hl; rfl
 have m9:=mg_of X G a9
 have F10:=fun_mk (st:=s_signs) l10 cc10 k10
 have b10:=F10.binds (ps:=["things"]) fun _ _ _ _ _ _ us hl => by obtain ⟨x0,rfl⟩:=len_1 hl; rfl
 have m10:=mg_of X G a10
 have F11:=fun_mk (st:=s_may) l11 cc11 k11
 have b11:=F11.binds (ps:=["row","hole"]) fun _ _ _ _ _ _ us hl => by obtain ⟨x0,x1,rfl⟩:=len_2 hl; rfl
 have m11:=mg_of X G a11
 have F12:=fun_mk (st:=s_rise) l12 cc12 k12
 have b12:=F12.binds (ps:=["pairs"]) fun _ _ _ _ _ _ us hl => by obtain ⟨x0,rfl⟩:=len_1 hl; rfl
 have m12:=mg_of X G a12
 have F13:=fun_mk (st:=s_room) l13 cc13 k13
 have b13:=F13.binds (ps:=["lengths"]) fun _ _ _ _ _ _ us hl => by obtain ⟨x0,rfl⟩:=len_1 hl; rfl
 have m13:=mg_of X G a13
 have F14:=fun_mk (st:=s_can) l14 cc14 k14
 have b14:=F14.binds (ps:=["lengths"]) fun _ _ _ _ _ _ us hl => by obtain ⟨x0,rfl⟩:=len_1 hl; rfl
 have m14:=mg_of X G a14
 have F15:=fun_mk (st:=s_next) l15 cc15 k15
 have b15:=F15.binds (ps:=["word","length"]) fun _ _ _ _ _ _ us hl => by obtain ⟨x0,x1,rfl⟩:=len_2 hl; rfl
 have m15:=mg_of X G a15
 have F16:=fun_mk (st:=s_words) l16 cc16 k16
 have b16:=F16.binds (ps:=["lengths"]) fun _ _ _ _ _ _ us hl => by obtain ⟨x0,rfl⟩:=len_1 hl; rfl
 have m16:=mg_of X G a16
 have F17:=fun_mk (st:=s_coded) l17 cc17 k17
 have b17:=F17.binds (ps:=["text","lengths"]) fun _ _ _ _ _ _ us hl => by obtain ⟨x0,x1,rfl⟩:=len_2 hl; rfl
 have m17:=mg_of X G a17
 have F18:=fun_mk (st:=s_readw) l18 cc18 k18
 have b18:=F18.binds (ps:=["bits","at","words"]) fun _ _ _ _ _ _ us hl => by obtain ⟨x0,x1,x2,rfl⟩:=len_3 hl; rfl
 have m18:=mg_of X G a18
 have F19:=fun_mk (st:=s_decoded) l19 cc19 k19
 have b19:=F19.binds (ps:=["bits","at","lengths","many"]) fun _ _ _ _ _ _ us hl => by obtain ⟨x0,x1,x2,x3,rfl⟩:=len_4 hl; rfl
 have m19:=mg_of X G a19
 have F20:=fun_mk (st:=s_put) l20 cc20 k20
 have b20:=F20.binds (ps:=["signs","place"]) fun _ _ _ _ _ _ us hl => by obtain ⟨x0,x1,rfl⟩:=len_2 hl; rfl
 have m20:=mg_of X G a20
 have F21:=fun_mk (st:=s_tbf) l21 cc21 k21
 have b21:=F21.binds (ps:=["fronts"]) fun _ _ _ _ _ _ us hl => by obtain ⟨x0,rfl⟩:=len_1 hl; rfl
 have m21:=mg_of X G a21
 have F22:=fun_mk (st:=s_fronts) l22 cc22 k22
 have b22:=F22.binds (ps:=["text"]) fun _ _ _ _ _ _ us hl => by obtain ⟨x0,rfl⟩:=len_1 hl; rfl
 have m22:=mg_of X G a22
 have F23:=fun_mk (st:=s_runs) l23 cc23 k23
 have b23:=F23.binds (ps:=["numbers"]) fun _ _ _ _ _ _ us hl => by obtain ⟨x0,rfl⟩:=len_1 hl; rfl
 have m23:=mg_of X G a23
 have F24:=fun_mk (st:=s_nbr) l24 cc24 k24
 have b24:=F24.binds (ps:=["runs"]) fun _ _ _ _ _ _ us hl => by obtain ⟨x0,rfl⟩:=len_1 hl; rfl
 have m24:=mg_of X G a24
 have F25:=fun_mk (st:=s_ends) l25 cc25 k25
 have b25:=F25.binds (ps:=["text"]) fun _ _ _ _ _ _ us hl => by obtain ⟨x0,rfl⟩:=len_1 hl; rfl
 have m25:=mg_of X G a25
 have F26:=fun_mk (st:=s_turned) l26 cc26 k26
 have b26:=F26.binds (ps:=["text"]) fun _ _ _ _ _ _ us hl => by obtain ⟨x0,rfl⟩:=len_1 hl; rfl
 have m26:=mg_of X G a26
 have F27:=fun_mk (st:=s_back) l27 cc27 k27
 have b27:=F27.binds (ps:=["row","hole"]) fun _ _ _ _ _ _ us hl => by obtain ⟨x0,x1,rfl⟩:=len_2 hl; rfl
 have m27:=mg_of X G a27
 have F28:=fun_mk (st:=s_cell) l28 cc28 k28
 have b28:=F28.binds (ps:=["script","k"]) fun _ _ _ _ _ _ us hl => by obtain ⟨x0,x1,rfl⟩:=len_2 hl; rfl
 have m28:=mg_of X G a28
 have F29:=fun_mk (st:=s_lwhole) l29 cc29 k29
 have b29:=F29.binds (ps:=["thing"]) fun _ _ _ _ _ _ us hl => by obtain ⟨x0,rfl⟩:=len_1 hl; rfl
 have m29:=mg_of X G a29
 have F30:=fun_mk (st:=s_got) l30 cc30 k30
 have b30:=F30.binds (ps:=["way","bits","at","lengths"]) fun _ _ _ _ _ _ us hl => by obtain ⟨x0,x1,x2,x3,rfl⟩:=len_4 hl; rfl
 have m30:=mg_of X G a30
 have F31:=fun_mk (st:=s_bgood) l31 cc31 k31
 have b31:=F31.binds (ps:=["bits","at","lengths"]) fun _ _ _ _ _ _ us hl => by obtain ⟨x0,x1,x2,rfl⟩:=len_3 hl; rfl
 have m31:=mg_of X G a31
 have F32:=fun_mk (st:=s_llens) l32 cc32 k32
 have b32:=F32.binds (ps:=["script"]) fun _ _ _ _ _ _ us hl => by obtain ⟨x0,rfl⟩:=len_1 hl; rfl
 have m32:=mg_of X G a32
 have F33:=fun_mk (st:=s_rgood) l33 cc33 k33
 have b33:=F33.binds (ps:=["script"]) fun _ _ _ _ _ _ us hl => by obtain ⟨x0,rfl⟩:=len_1 hl; rfl
 have m33:=mg_of X G a33
 have F34:=fun_mk (st:=s_law) l34 cc34 k34
 have n_isinstance:=mg_none_of X G z_isinstance
 have n_list:=mg_none_of X G z_list
 have n_int:=mg_none_of X G z_int
 have n_bool:=mg_none_of X G z_bool
 have n_len:=mg_none_of X G z_len
 have n_range:=mg_none_of X G z_range
 have n_max:=mg_none_of X G z_max
 have n_ValueError:=mg_none_of X G z_ValueError
 have n_tuple:=mg_none_of X G z_tuple
 have n_min:=mg_none_of X G z_min
 have n_sorted:=mg_none_of X G z_sorted
 have n_all:=mg_none_of X G z_all
 have n_dict:=mg_none_of X G z_dict
 have n_enumerate:=mg_none_of X G z_enumerate
 have m_PackError:=mg_of X G e_PackError
 have X_PackError:Ex K mg "PackError" c_PackError:=⟨m_PackError,x0_PackError,⟨x1_PackError,x2_PackError,x3_PackError,x4_PackError,x5_PackError,x6_PackError⟩⟩
 have m_Broken:=mg_of X G e_Broken
 have X_Broken:Ex K mg "Broken" c_Broken:=⟨m_Broken,x0_Broken,⟨x1_Broken,x2_Broken,x3_Broken,x4_Broken,x5_Broken,x6_Broken⟩⟩
 have m_NoCode:=mg_of X G e_NoCode
 have X_NoCode:Ex K mg "NoCode" c_NoCode:=⟨m_NoCode,x0_NoCode,⟨x1_NoCode,x2_NoCode,x3_NoCode,x4_NoCode,x5_NoCode,x6_NoCode⟩⟩
 have m_NoNumber:=mg_of X G e_NoNumber
 have X_NoNumber:Ex K mg "NoNumber" c_NoNumber:=⟨m_NoNumber,x0_NoNumber,⟨x1_NoNumber,x2_NoNumber,x3_NoNumber,x4_NoNumber,x5_NoNumber,x6_NoNumber⟩⟩
 refine ⟨fnOf "law" "law" (defArgs s_law) (defBody s_law) (defScope s_law) .none kV34 dc34 pm34 an34 cd34 ct34,fun s v => .of_eq rfl,fun base kb _ hbm => ?_⟩
 have hc_endings_of:(fnOf "endings_of" "endings_of" (defArgs s_ends) (defBody s_ends) (defScope s_ends) .none kV25 dc25 pm25 an25 cd25 ct25).code=.ref ca_endings_of:=lc_endings_of
 have CH_endings_of:=codeHd_of_K kb lx_endings_of.2
 have hm_endings_of:=lx_endings_of.1
 have hc_turned_back:(fnOf "turned_back" "turned_back" (defArgs s_back) (defBody s_back) (defScope s_back) .none kV27 dc27 pm27 an27 cd27 ct27).code=.ref ca_turned_back:=lc_turned_back
 have CH_turned_back:=codeHd_of_K kb lx_turned_back.2
 have hm_turned_back:=lx_turned_back.1
 have m_MN:MN mg:=⟨_,mg_of X G g_MOST_NUMBERS,⟨_,rfl⟩⟩
 have m_LW:LW mg:=⟨_,mg_of X G g_LONGEST_WORD,⟨_,rfl⟩⟩
 have m_LS:LS mg:=⟨_,mg_of X G g_LAST_SIGN,⟨_,rfl⟩⟩
 have B:Bls mg:=⟨n_isinstance,n_list,n_int,n_bool,n_len,n_range,n_max,n_ValueError,n_tuple,n_min,n_sorted,n_all,n_dict⟩
 have G_low:=ok_low (P:=l.prog) (w:=w) (mg:=mg) (base:=base) F1 X_NoNumber n_len
 have G_num:=ok_num (P:=l.prog) (w:=w) (mg:=mg) (base:=base) F2 
 have G_end:=ok_end (P:=l.prog) (w:=w) (mg:=mg) (base:=base) F3 X_NoNumber G_low b1 k1 m1
 have G_first:=ok_first (P:=l.prog) (w:=w) (mg:=mg) (base:=base) F4 X_Broken B.bl
 have G_read:=ok_read (P:=l.prog) (w:=w) (mg:=mg) (base:=base) F5 X_Broken B.bl G_first b4 k4 m4 G_num b2 k2 m2
 have G_row:=ok_row (P:=l.prog) (w:=w) (mg:=mg) (base:=base) F6 B G_end b3 k3 m3
 have G_rdrow:=ok_rdrow (P:=l.prog) (w:=w) (mg:=mg) (base:=base) F7 B G_read b5 k5 m5
 have G_whole:=ok_whole (P:=l.prog) (w:=w) (mg:=mg) (base:=base) F8 B
 have G_sign:=ok_sign (P:=l.prog) (w:=w) (mg:=mg) (base:=base) F9 B m_LS G_whole b8 k8 m8
 have G_signs:=ok_signs (P:=l.prog) (w:=w) (mg:=mg) (base:=base) F10 B G_sign b9 k9 m9
 have G_may:=ok_may (P:=l.prog) (w:=w) (mg:=mg) (base:=base) F11 B G_signs b10 k10 m10
 have G_rise:=ok_rise (P:=l.prog) (w:=w) (mg:=mg) (base:=base) F12 B m_LS
 have G_room:=ok_room (P:=l.prog) (w:=w) (mg:=mg) (base:=base) F13 B m_LW
 have G_can:=ok_can (P:=l.prog) (w:=w) (mg:=mg) (base:=base) F14 B m_LW G_rise b12 k12 m12 G_room b13 k13 m13
 have G_next:=ok_next (P:=l.prog) (w:=w) (mg:=mg) (base:=base) F15 B G_low b1 k1 m1 G_num b2 k2 m2
 have G_words:=ok_words (P:=l.prog) (w:=w) (mg:=mg) (base:=base) F16 B X_NoCode m_NoCode G_can b14 k14 m14 G_next b15 k15 m15
 have G_coded:=ok_coded (P:=l.prog) (w:=w) (mg:=mg) (base:=base) F17 B X_NoCode m_NoCode G_words b16 k16 m16
 have G_readw:=ok_readw (P:=l.prog) (w:=w) (mg:=mg) (base:=base) F18 B X_Broken m_Broken
 have G_decoded:=ok_decoded (P:=l.prog) (w:=w) (mg:=mg) (base:=base) F19 B X_Broken m_Broken G_words b16 k16 m16 G_readw b18 k18 m18
 have G_put:=ok_put (P:=l.prog) (w:=w) (mg:=mg) (base:=base) F20 B
 have G_tbf:=ok_tbf (P:=l.prog) (w:=w) (mg:=mg) (base:=base) F21 B X_Broken m_Broken m_LS G_put b20 k20 m20
 have G_fronts:=ok_fronts (P:=l.prog) (w:=w) (mg:=mg) (base:=base) F22 B m_LS G_put b20 k20 m20
 have G_runs:=ok_runs (P:=l.prog) (w:=w) (mg:=mg) (base:=base) F23 B
 have G_nbr:=ok_nbr (P:=l.prog) (w:=w) (mg:=mg) (base:=base) F24 B X_Broken m_Broken m_MN
 have G_ends:=ok_ends (P:=l.prog) (w:=w) (mg:=mg) (base:=base) F25 B hc_endings_of CH_endings_of hbm
 have G_turned:=ok_turned (P:=l.prog) (w:=w) (mg:=mg) (base:=base) F26 B n_enumerate G_ends b25 k25 m25
 have G_back:=ok_back (P:=l.prog) (w:=w) (mg:=mg) (base:=base) F27 B hc_turned_back CH_turned_back hbm X_Broken m_Broken G_may b11 k11 m11
 have G_cell:=ok_cell (P:=l.prog) (w:=w) (mg:=mg) (base:=base) F28 B
 have G_lwhole:=ok_lwhole (P:=l.prog) (w:=w) (mg:=mg) (base:=base) F29 B
 have G_got:=ok_got (P:=l.prog) (w:=w) (mg:=mg) (base:=base) F30 B X_Broken X_PackError m_Broken m_NoCode m_NoNumber m_PackError xm_BK x1_BK x2_BK G_read b5 k5 m5 G_rdrow b7 k7 m7 G_decoded b19 k19 m19 G_nbr b24 k24 m24 G_back b27 k27 m27
 have G_bgood:=ok_bgood (P:=l.prog) (w:=w) (mg:=mg) (base:=base) F31 B G_end b3 k3 m3 G_row b6 k6 m6 G_coded b17 k17 m17 G_lwhole b29 k29 m29 G_got b30 k30 m30
 have G_llens:=ok_llens (P:=l.prog) (w:=w) (mg:=mg) (base:=base) F32 B G_cell b28 k28 m28
 have G_rgood:=ok_rgood (P:=l.prog) (w:=w) (mg:=mg) (base:=base) F33 B ne_endings_of_turned_back G_tbf b21 k21 m21 G_fronts b22 k22 m22 G_runs b23 k23 m23 G_turned b26 k26 m26 G_cell b28 k28 m28 G_got b30 k30 m30
 exact ok_law (P:=l.prog) (w:=w) (mg:=mg) (base:=base) F34 B hm_endings_of hm_turned_back ne_endings_of_turned_back G_bgood b31 k31 m31 G_llens b32 k32 m32 G_rgood b33 k33 m33
theorem walk {l:OpenLaw} {q:Program} {loose:List Str} {XP:(Str -> Option Value) -> Heap -> Prop} {YP:World -> Heap -> Prop} {d:DefRec} {K:Params -> Frag} {ts:List Addr} (hn:l.most=some 63) (hdf:d.params.defaults=[])
  (hY:∀ (w:World) (h:Heap),YP w h -> (K w.params).In h) (hT:∀ (w:World) (h:Heap),YP w h -> ∀ P∈ts,h.get? P=some (PySem.W.tabObj #[])) (hK:∀ w:World,tabsK (K w.params) ts=true)
  (F:∀ (w:World) (mg:Str -> Option Value) (fa:Addr) (h:Heap),(K w.params).In h -> h.Ns mainGlobals mg -> mg d.name=some (.ref fa) →
   ∃ fd:FuncData,(∀ (s:Shared) (u:Value),BindsTo s fd ⟨[u],[]⟩ [("script",u)])∧∀ base:Heap,(K w.params).In base -> base.Ns mainGlobals mg -> BM mg base -> FnOk l.prog w (K w.params) mg base (CXW l.prog w) 11 fa fd ["script"] (spLawT (K w.params) ts)) :
  PySem.W.WalkO q loose XP YP l.row.toRowW d [] (fun f vs => PySem.call f vs) :=
 L2.walk_ofT (ts:=ts) (n:=63) (k:=11) (x:="script") (CX:=fun w => CXW l.prog w) (sp:=fun w => spLawT (K w.params) ts) hn (by decide) hdf ⟨rfl,by decide,by decide⟩ hY hT hK F (fun _ _ a ns hl hS hT => ⟨a,ns,rfl,hS,hl,hT,fun _ => rfl⟩) fun _ _ _ _ _ z => by
  obtain ⟨_,_,_,_,_,_,_,_,_,_,_,_,_,hE⟩:=z
  exact hE
end
end K48
theorem PySem.W.Fast.tw682812456966897572:True:=trivial
theorem PySem.W.Fast.tw16942597792472873371:True:=trivial
theorem PySem.W.Fast.tw7078991091649876936:True:=trivial
theorem PySem.W.Fast.tw14397349480062506422:True:=trivial
theorem PySem.W.Fast.tw14367386296274564558:True:=trivial
theorem PySem.W.Fast.tw10694324948351905970:True:=trivial
theorem PySem.W.Fast.tw17557509341862821125:True:=trivial
theorem PySem.W.Fast.tw12220006017564318048:True:=trivial
theorem PySem.W.Fast.tw13509066189313454035:True:=trivial
theorem PySem.W.Fast.tw15640517370670523905:True:=trivial
theorem PySem.W.Fast.tw12916910959933416673:True:=trivial
theorem PySem.W.Fast.tw16248004152714211344:True:=trivial
theorem PySem.W.Fast.tw508878245792933856:True:=trivial
theorem PySem.W.Fast.tw5841800842158873242:True:=trivial
theorem PySem.W.Fast.tw13361006648670826404:True:=trivial
theorem PySem.W.Fast.tw11511768700640282994:True:=trivial
theorem PySem.W.Fast.tw8819621812682460092:True:=trivial
theorem PySem.W.Fast.tw4187213605363594359:True:=trivial
theorem PySem.W.Fast.tw8914354181721925757:True:=trivial
theorem PySem.W.Fast.tw2231762230077231872:True:=trivial
theorem PySem.W.Fast.tw533730331935511480:True:=trivial
theorem PySem.W.Fast.tw17567815381334164711:True:=trivial
theorem PySem.W.Fast.tw10666405266855273131:True:=trivial
theorem PySem.W.Fast.tw9799962980463290527:True:=trivial
theorem PySem.W.Fast.tw5092287713111385180:True:=trivial
theorem PySem.W.Fast.tw4136112625256307223:True:=trivial
theorem PySem.W.Fast.tw2620295616416357655:True:=trivial
theorem PySem.W.Fast.tw12658294058044894461:True:=trivial
theorem PySem.W.Fast.tw6350840945935594187:True:=trivial
theorem PySem.W.Fast.tw4993259630781347926:True:=trivial
open PySem PySem.W PyProof.Rows
set_option maxRecDepth 100000 in
set_option maxHeartbeats 0 in
theorem PySem.Challenge.cw_packhall_k48_whole_any_bits_and_rows_holds : PySem.Challenge.rw_packhall_k48_whole_any_bits_and_rows.Holds := by
  w_on; o_law; k_head; (case hw => w_witness2)
  k_fill
  refine K48.walk (l := PySem.Challenge.rw_packhall_k48_whole_any_bits_and_rows) rfl rfl (fun w h Y => PySem.W.km_in_of Y) (fun w h Y => PySem.W.km_tabs_of Y) (fun w => by kernel_rfl) ?F
  case F =>
    intro w mg fa h KX G hmg
    refine' K48.all_mk KX G hmg ?a1 ?l1 ?cc1 ?k1 ?a2 ?l2 ?cc2 ?k2 ?a3 ?l3 ?cc3 ?k3 ?a4 ?l4 ?cc4 ?k4 ?a5 ?l5 ?cc5 ?k5 ?a6 ?l6 ?cc6 ?k6 ?a7 ?l7 ?cc7 ?k7 ?a8 ?l8 ?cc8 ?k8 ?a9 ?l9 ?cc9 ?k9 ?a10 ?l10 ?cc10 ?k10 ?a11 ?l11 ?cc11 ?k11 ?a12 ?l12 ?cc12 ?k12 ?a13 ?l13 ?cc13 ?k13 ?a14 ?l14 ?cc14 ?k14 ?a15 ?l15 ?cc15 ?k15 ?a16 ?l16 ?cc16 ?k16 ?a17 ?l17 ?cc17 ?k17 ?a18 ?l18 ?cc18 ?k18 ?a19 ?l19 ?cc19 ?k19 ?a20 ?l20 ?cc20 ?k20 ?a21 ?l21 ?cc21 ?k21 ?a22 ?l22 ?cc22 ?k22 ?a23 ?l23 ?cc23 ?k23 ?a24 ?l24 ?cc24 ?k24 ?a25 ?l25 ?cc25 ?k25 ?a26 ?l26 ?cc26 ?k26 ?a27 ?l27 ?cc27 ?k27 ?a28 ?l28 ?cc28 ?k28 ?a29 ?l29 ?cc29 ?k29 ?a30 ?l30 ?cc30 ?k30 ?a31 ?l31 ?cc31 ?k31 ?a32 ?l32 ?cc32 ?k32 ?a33 ?l33 ?cc33 ?k33 ?a34 ?l34 ?cc34 ?k34 ?lc_endings_of ?lx_endings_of ?lc_turned_back ?lx_turned_back ?ne_endings_of_turned_back ?z_isinstance ?z_list ?z_int ?z_bool ?z_len ?z_range ?z_max ?z_ValueError ?z_tuple ?z_min ?z_sorted ?z_all ?z_dict ?z_enumerate ?e_PackError ?x0_PackError ?x1_PackError ?x2_PackError ?x3_PackError ?x4_PackError ?x5_PackError ?x6_PackError ?e_Broken ?x0_Broken ?x1_Broken ?x2_Broken ?x3_Broken ?x4_Broken ?x5_Broken ?x6_Broken ?e_NoCode ?x0_NoCode ?x1_NoCode ?x2_NoCode ?x3_NoCode ?x4_NoCode ?x5_NoCode ?x6_NoCode ?e_NoNumber ?x0_NoNumber ?x1_NoNumber ?x2_NoNumber ?x3_NoNumber ?x4_NoNumber ?x5_NoNumber ?x6_NoNumber ?xm_BK ?x1_BK ?x2_BK ?g_LAST_SIGN ?g_LONGEST_WORD ?g_MOST_NUMBERS
    (case a1 => k_is)
    (case l1 => k_is)
    (case cc1 => k_is)
    (case k1 => k_is)
    (case a2 => k_is)
    (case l2 => k_is)
    (case cc2 => k_is)
    (case k2 => k_is)
    (case a3 => k_is)
    (case l3 => k_is)
    (case cc3 => k_is)
    (case k3 => k_is)
    (case a4 => k_is)
    (case l4 => k_is)
    (case cc4 => k_is)
    (case k4 => k_is)
    (case a5 => k_is)
    (case l5 => k_is)
    (case cc5 => k_is)
    (case k5 => k_is)
    (case a6 => k_is)
    (case l6 => k_is)
    (case cc6 => k_is)
    (case k6 => k_is)
    (case a7 => k_is)
    (case l7 => k_is)
    (case cc7 => k_is)
    (case k7 => k_is)
    (case a8 => k_is)
    (case l8 => k_is)
    (case cc8 => k_is)
    (case k8 => k_is)
    (case a9 => k_is)
    (case l9 => k_is)
    (case cc9 => k_is)
    (case k9 => k_is)
    (case a10 => k_is)
    (case l10 => k_is)
    (case cc10 => k_is)
    (case k10 => k_is)
    (case a11 => k_is)
    (case l11 => k_is)
    (case cc11 => k_is)
    (case k11 => k_is)
    (case a12 => k_is)
    (case l12 => k_is)
    (case cc12 => k_is)
    (case k12 => k_is)
    (case a13 => k_is)
    (case l13 => k_is)
    (case cc13 => k_is)
    (case k13 => k_is)
    (case a14 => k_is)
    (case l14 => k_is)
    (case cc14 => k_is)
    (case k14 => k_is)
    (case a15 => k_is)
    (case l15 => k_is)
    (case cc15 => k_is)
    (case k15 => k_is)
    (case a16 => k_is)
    (case l16 => k_is)
    (case cc16 => k_is)
    (case k16 => k_is)
    (case a17 => k_is)
    (case l17 => k_is)
    (case cc17 => k_is)
    (case k17 => k_is)
    (case a18 => k_is)
    (case l18 => k_is)
    (case cc18 => k_is)
    (case k18 => k_is)
    (case a19 => k_is)
    (case l19 => k_is)
    (case cc19 => k_is)
    (case k19 => k_is)
    (case a20 => k_is)
    (case l20 => k_is)
    (case cc20 => k_is)
    (case k20 => k_is)
    (case a21 => k_is)
    (case l21 => k_is)
    (case cc21 => k_is)
    (case k21 => k_is)
    (case a22 => k_is)
    (case l22 => k_is)
    (case cc22 => k_is)
    (case k22 => k_is)
    (case a23 => k_is)
    (case l23 => k_is)
    (case cc23 => k_is)
    (case k23 => k_is)
    (case a24 => k_is)
    (case l24 => k_is)
    (case cc24 => k_is)
    (case k24 => k_is)
    (case a25 => k_is)
    (case l25 => k_is)
    (case cc25 => k_is)
    (case k25 => k_is)
    (case a26 => k_is)
    (case l26 => k_is)
    (case cc26 => k_is)
    (case k26 => k_is)
    (case a27 => k_is)
    (case l27 => k_is)
    (case cc27 => k_is)
    (case k27 => k_is)
    (case a28 => k_is)
    (case l28 => k_is)
    (case cc28 => k_is)
    (case k28 => k_is)
    (case a29 => k_is)
    (case l29 => k_is)
    (case cc29 => k_is)
    (case k29 => k_is)
    (case a30 => k_is)
    (case l30 => k_is)
    (case cc30 => k_is)
    (case k30 => k_is)
    (case a31 => k_is)
    (case l31 => k_is)
    (case cc31 => k_is)
    (case k31 => k_is)
    (case a32 => k_is)
    (case l32 => k_is)
    (case cc32 => k_is)
    (case k32 => k_is)
    (case a33 => k_is)
    (case l33 => k_is)
    (case cc33 => k_is)
    (case k33 => k_is)
    (case a34 => k_is)
    (case l34 => k_is)
    (case cc34 => k_is)
    (case k34 => k_is)
    (case lc_endings_of => exact rfl)
    (case lx_endings_of => exact ⟨List.Mem.head _,by kernel_rfl⟩)
    (case lc_turned_back => exact rfl)
    (case lx_turned_back => exact ⟨.tail _ (.head _),by kernel_rfl⟩)
    (case ne_endings_of_turned_back => exact Nat.ne_of_beq_eq_false rfl)
    (case z_isinstance => k_is)
    (case z_list => k_is)
    (case z_int => k_is)
    (case z_bool => k_is)
    (case z_len => k_is)
    (case z_range => k_is)
    (case z_max => k_is)
    (case z_ValueError => k_is)
    (case z_tuple => k_is)
    (case z_min => k_is)
    (case z_sorted => k_is)
    (case z_all => k_is)
    (case z_dict => k_is)
    (case z_enumerate => k_is)
    (case e_PackError => k_is)
    (case x0_PackError => k_exc)
    (case x1_PackError => k_is)
    (case x2_PackError => k_is)
    (case x3_PackError => k_is)
    (case x4_PackError => k_is)
    (case x5_PackError => k_is)
    (case x6_PackError => k_is)
    (case e_Broken => k_is)
    (case x0_Broken => k_exc)
    (case x1_Broken => k_is)
    (case x2_Broken => k_is)
    (case x3_Broken => k_is)
    (case x4_Broken => k_is)
    (case x5_Broken => k_is)
    (case x6_Broken => k_is)
    (case e_NoCode => k_is)
    (case x0_NoCode => k_exc)
    (case x1_NoCode => k_is)
    (case x2_NoCode => k_is)
    (case x3_NoCode => k_is)
    (case x4_NoCode => k_is)
    (case x5_NoCode => k_is)
    (case x6_NoCode => k_is)
    (case e_NoNumber => k_is)
    (case x0_NoNumber => k_exc)
    (case x1_NoNumber => k_is)
    (case x2_NoNumber => k_is)
    (case x3_NoNumber => k_is)
    (case x4_NoNumber => k_is)
    (case x5_NoNumber => k_is)
    (case x6_NoNumber => k_is)
    (case xm_BK => k_is)
    (case x1_BK => kit_is)
    (case x2_BK => kit_is)
    (case g_LAST_SIGN => k_is)
    (case g_LONGEST_WORD => k_is)
    (case g_MOST_NUMBERS => k_is)

