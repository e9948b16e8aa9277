import PyProof.Rows.All
import Wide.All
import OpenK.AllK
import Wide.FinOn
import PyProof.EqAt
import PyProof.EqKinds
import PyProof.TupleCall
import PySem.Challenge.RW_fordbook_k34_the_sum_of_waits
set_option Elab.async false
set_option linter.all false
set_option maxRecDepth 100000
namespace L2
open PySem PySem.Spec PyProof.Rows
abbrev Key := Sum Int Str
def keyIs : Key → Value → Bool
 | .inl k,v => Value.isInt k v
 | .inr x,v => Value.isStrOf x v
def keyH (w : World) : Key → Int
 | .inl k => hashInt k
 | .inr x => hashStr w x
theorem keyIs_shape : ∀ {k : Key} {v : Value},keyIs k v = true → (∃ i t,k = Sum.inl i ∧ v = Value.int i t) ∨ (∃ x t,k = Sum.inr x ∧ v = Value.str x t)
 | .inl i,v,h => by
  obtain ⟨t,e⟩ := Value.isInt_shape (k := i) (v := v) h
  exact .inl ⟨i,t,rfl,e⟩
 | .inr x,v,h => by
  obtain ⟨t,e⟩ := Value.isStrOf_shape (x := x) (v := v) h
  exact .inr ⟨x,t,rfl,e⟩
theorem key_ll (a b : Int) : decide ((Sum.inl a : Key) = Sum.inl b) = (a == b) := by
 by_cases e : a = b
 ·subst e; simp
 ·have h : ¬ (Sum.inl a : Key) = Sum.inl b := fun q => e (Sum.inl.inj q)
  rw [decide_eq_false h]
  exact (beq_eq_false_iff_ne.mpr e).symm
theorem key_rr (a b : Str) : decide ((Sum.inr a : Key) = Sum.inr b) = decide (a = b) := by
 by_cases e : a = b
 ·subst e; simp
 ·have h : ¬ (Sum.inr a : Key) = Sum.inr b := fun q => e (Sum.inr.inj q)
  rw [decide_eq_false h,decide_eq_false e]
theorem key_lr (a : Int) (b : Str) : decide ((Sum.inl a : Key) = Sum.inr b) = false := decide_eq_false (fun q => nomatch q)
theorem key_rl (a : Str) (b : Int) : decide ((Sum.inr a : Key) = Sum.inl b) = false := decide_eq_false (fun q => nomatch q)
def mixKind (prog : Program) (w : World) : PySem.KeyKind prog w Key where
 is := keyIs
 hash := keyH w
 inj := fun v a b ha hb => by
  rcases keyIs_shape ha with ⟨i,t,rfl,rfl⟩ | ⟨x,t,rfl,rfl⟩
  ·rcases keyIs_shape hb with ⟨j,u,rfl,e⟩ | ⟨y,u,rfl,e⟩
   ·injection e with e1 _; rw [e1]
   ·exact nomatch e
  ·rcases keyIs_shape hb with ⟨j,u,rfl,e⟩ | ⟨y,u,rfl,e⟩
   ·exact nomatch e
   ·injection e with e1 _; rw [e1]
 byValue := fun k v h => by
  rcases keyIs_shape h with ⟨i,t,rfl,rfl⟩ | ⟨x,t,rfl,rfl⟩ <;> rfl
 pyHash := fun hv h => by
  rcases keyIs_shape hv with ⟨i,t,rfl,rfl⟩ | ⟨x,t,rfl,rfl⟩
  ·exact wpAny_pyHash_int h
  ·exact wpAny_pyHash_str h
 eqBool := fun hu hv h => by
  rcases keyIs_shape hu with ⟨i,t,rfl,rfl⟩ | ⟨x,t,rfl,rfl⟩
  ·rcases keyIs_shape hv with ⟨j,u,rfl,rfl⟩ | ⟨y,u,rfl,rfl⟩
   ·rw [key_ll] at h; exact wpAny_eqBool_int h
   ·rw [key_lr] at h; exact SeqAt.EqAt.int_str i t y u _ _ _ _ h
  ·rcases keyIs_shape hv with ⟨j,u,rfl,rfl⟩ | ⟨y,u,rfl,rfl⟩
   ·rw [key_rl] at h; exact SeqAt.EqAt.str_int x t j u _ _ _ _ h
   ·rw [key_rr] at h; exact wpAny_eqBool_str h
 «strs» := fun k x t v h => by
  rcases keyIs_shape h with ⟨i,u,rfl,e⟩ | ⟨y,u,rfl,e⟩
  ·exact nomatch e
  ·injection e with e1 _
   subst e1
   cases v <;> rfl
end L2
namespace L2
open PySem PySem.Spec PyProof.Rows
inductive V where
 | non | bl (b : Bool) | int (i : Int) | str (x : Str) | byt (b : Array UInt8) | flt (b : UInt64) | ref (a : Addr) | ty (n : String)
 deriving DecidableEq
def RelV : V → Value → Prop
 | .non,u => u = Value.none
 | .bl b,u => u = Value.bool b
 | .int i,u => ∃ t,u = Value.int i t
 | .str x,u => ∃ t,u = Value.str x t
 | .byt b,u => ∃ t,u = Value.bytes b t
 | .flt b,u => ∃ t,u = Value.float b t
 | .ref a,u => u = Value.ref a
 | .ty n,u => u = Value.type n
abbrev Vals : List V → List Value → Prop := Paired RelV
theorem Vals.length {xs : List V} {us : List Value} (r : Vals xs us) : xs.length = us.length := Paired.length r
theorem Vals.get : ∀ {xs : List V} {us : List Value} {i : Nat} {x : V},Vals xs us → xs[i]? = some x → ∃ u,us[i]? = some u ∧ RelV x u
 | _,_,_,_,.nil,e => by simp at e
 | _,_,0,_,.cons r _,e => by simp at e; subst e; exact ⟨_,rfl,r⟩
 | _,_,i + 1,x,.cons _ t,e => by
  obtain ⟨u,h1,h2⟩ := Vals.get (i := i) (x := x) t (by simpa using e)
  exact ⟨u,by simpa using h1,h2⟩
theorem Vals.set {x : V} {u : Value} (r : RelV x u) : ∀ {xs : List V} {us : List Value} (i : Nat),Vals xs us → Vals (xs.set i x) (us.set i u)
 | _,_,_,.nil => .nil
 | _,_,0,.cons _ t => .cons r t
 | _,_,i + 1,.cons q t => .cons q (Vals.set r i t)
theorem Vals.append : ∀ {xs ys : List V} {us ws : List Value},Vals xs us → Vals ys ws → Vals (xs ++ ys) (us ++ ws)
 | _,_,_,_,.nil,s => s
 | _,_,_,_,.cons r t,s => .cons r (Vals.append t s)
theorem Vals.take : ∀ {xs : List V} {us : List Value} (n : Nat),Vals xs us → Vals (xs.take n) (us.take n)
 | _,_,0,_ => .nil
 | _,_,_ + 1,.nil => .nil
 | _,_,n + 1,.cons r t => .cons r (Vals.take n t)
theorem Vals.drop : ∀ {xs : List V} {us : List Value} (n : Nat),Vals xs us → Vals (xs.drop n) (us.drop n)
 | _,_,0,r => r
 | _,_,_ + 1,.nil => .nil
 | _,_,n + 1,.cons _ t => Vals.drop n t
def RelO : Option V → Option Value → Prop
 | some v,some u => RelV v u
 | none,none => True
 | _,_ => False
def KV {κ : Type} : List (κ × V) → List (κ × Value) → Prop := Paired fun (p : κ × V) (q : κ × Value) => p.1 = q.1 ∧ RelV p.2 q.2
def kV : Key → V
 | .inl i => .int i
 | .inr x => .str x
inductive HO where
  | lst (xs : List V)
  | tup (xs : List V)
  | dK (kvs : List (Key × V)) | dT (kvs : List (List Key × V))
  | set (S : Int → Bool) (n : Nat)
  | ins (C dx : Addr) (fs : List (Str × V))
  | own (x : Addr)
  | xd (fs : List (Str × V))
  | met (f x : Addr)
  | rng (lo hi : Int)
  | frz (o : Obj) (u : HO)
  | tbl (ps : Array Value)
  | ext (φ : Heap → Prop)
abbrev Hp := Addr → Option HO
def upd (H : Hp) (a : Addr) (o : HO) : Hp := fun b => if b = a then some o else H b
theorem upd_same {H : Hp} {a : Addr} {o : HO} : upd H a o a = some o := by unfold upd; rw [if_pos rfl]
theorem upd_ne {H : Hp} {a b : Addr} {o : HO} (h : b ≠ a) : upd H a o b = H b := by unfold upd; rw [if_neg h]
theorem ne_of_none {H : Hp} {a b : Addr} {o : HO} (h : H a = some o) (h' : H b = none) : a ≠ b := by
 intro e; subst e; rw [h] at h'; cases h'
section
variable (P : Program) (w : World)
def ObjOk (H : Hp) (h : Heap) (a : Addr) : HO → Prop
 | .lst xs => xs.length ≤ sizeLine ∧ ∃ (its : List Value) (n : Nat),Vals xs its ∧ h.get? a = some { cls := .type "list",data := .seq its.toArray n }
 | .tup xs => xs.length ≤ sizeLine ∧ ∃ its : List Value,Vals xs its ∧ IsTup h a its.toArray
 | .dK kvs => kvs.length ≤ sizeLine ∧ (a == sysModules) = false ∧ ∃ vs,KV kvs vs ∧ h.DictOf (mixKind P w) a vs
 | .dT kvs => kvs.length ≤ sizeLine ∧ (a == sysModules) = false ∧ ∃ xs : List (List Key × Addr × Value),
   Paired (fun (p : List Key × V) (q : List Key × Addr × Value) => p.1 = q.1 ∧ H q.2.1 = some (.tup (p.1.map kV)) ∧ RelV p.2 q.2.2) kvs xs ∧
   ∃ o es ep,h.get? a = some o ∧ o.ExactDict ∧ o.data = .dict es ep ∧ es.toList = xs.map (entryOfKey (tupleKind (mixKind P w))) ∧ (xs.map (·.1)).Nodup
 | .set S n => h.SetOf (intKind P w) a S n
 | .ins C dx fs => H dx = some (.own a) ∧ fs.length ≤ 1000 ∧ dx ≠ a ∧ h.get? a = some (PySem.W.instObj C dx) ∧
   ∃ mA,h.Ns1 dx mA ∧ (∀ f,RelO (fs.lookup f) (mA f)) ∧ PySem.Within mA (fs.map (·.1))
 | .own _ => ∃ o,h.get? a = some o
 | .xd fs => ∃ mA,h.Ns1 a mA ∧ ∀ f,RelO (fs.lookup f) (mA f)
 | .rng lo hi => ∃ t u v,h.get? a = some { cls := .type "range",data := .fields #[.int lo t,.int hi u,.int 1 v] }
 | .frz o u => h.get? a = some o ∧ ObjOk H h a u
 | .tbl ps => h.get? a = some { cls := .none,data := .fields ps }
 | .met f x => h.get? a = some (PySem.W.methodObj (.ref f) (.ref x))
 | .ext φ => φ h ∧ (∃ o,h.get? a = some o) ∧ ∀ h1 h2 : Heap,φ h1 → (∀ o,h1.get? a = some o → h2.get? a = some o) → φ h2
def HOk (H : Hp) (h : Heap) : Prop := ∀ a o,H a = some o → ObjOk P w H h a o
end
section
variable {P : Program} {w : World} {H H' : Hp} {h h' : Heap} {a : Addr} {o : HO}
theorem ObjOk.lt (x : ObjOk P w H h a o) : a < h.objs.size := by
 cases o with
 | lst xs => obtain ⟨_,_,_,_,e⟩ := x; exact Heap.lt_size e
 | tup xs => obtain ⟨_,_,_,p⟩ := x; exact p.lt
 | dK kvs => obtain ⟨_,_,_,_,o,_,_,e,_⟩ := x; exact Heap.lt_size e
 | dT kvs => obtain ⟨_,_,_,_,o,_,_,e,_⟩ := x; exact Heap.lt_size e
 | set S n => obtain ⟨o,_,_,_,e,_⟩ := x; exact Heap.lt_size e
 | ins C dx fs => obtain ⟨_,_,_,e,_⟩ := x; exact Heap.lt_size e
 | own y => obtain ⟨_,e⟩ := x; exact Heap.lt_size e
 | xd fs => obtain ⟨_,⟨_,_,_,e,_⟩,_⟩ := x; exact Heap.lt_size e
 | rng lo hi => obtain ⟨_,_,_,e⟩ := x; exact Heap.lt_size e
 | frz ob u => obtain ⟨e,_⟩ := x; exact Heap.lt_size e
 | tbl ps => exact Heap.lt_size (show h.get? a = some _ from x)
 | met f y => exact Heap.lt_size (show h.get? a = some _ from x)
 | ext φ => obtain ⟨_,⟨_,e⟩,_⟩ := x; exact Heap.lt_size e
theorem Paired.mapP {α β : Type} {F G : α → β → Prop} : ∀ {l₁ : List α} {l₂ : List β},Paired F l₁ l₂ → (∀ a b,F a b → G a b) → Paired G l₁ l₂
 | _,_,.nil,_ => .nil
 | _,_,.cons r t,f => .cons (f _ _ r) (Paired.mapP t f)
theorem ObjOk.stay (x : ObjOk P w H h a o) (k : ∀ b u,(b = a ∨ H b = some (.own a)) → h.get? b = some u → h'.get? b = some u)
  (ho : ∀ b,H b = some (.own a) → H' b = some (.own a)) (ht : ∀ b xs,H b = some (.tup xs) → H' b = some (.tup xs)) : ObjOk P w H' h' a o := by
 induction o with
 | lst xs => obtain ⟨z,its,n,r,e⟩ := x; exact ⟨z,its,n,r,k _ _ (.inl rfl) e⟩
 | tup xs => obtain ⟨z,its,r,ob,e,c⟩ := x; exact ⟨z,its,r,ob,k _ _ (.inl rfl) e,c⟩
 | dK kvs => obtain ⟨z,y,vs,r,ob,es,ep,e,c⟩ := x; exact ⟨z,y,vs,r,ob,es,ep,k _ _ (.inl rfl) e,c⟩
 | dT kvs =>
  obtain ⟨z,y,xs,r,ob,es,ep,e,c⟩ := x
  exact ⟨z,y,xs,Paired.mapP r fun p q z => ⟨z.1,ht _ _ z.2.1,z.2.2⟩,ob,es,ep,k _ _ (.inl rfl) e,c⟩
 | set S n => obtain ⟨ob,es,ep,t,e,c⟩ := x; exact ⟨ob,es,ep,t,k _ _ (.inl rfl) e,c⟩
 | ins C dx fs =>
  obtain ⟨d,z,ne,e,mA,⟨od,es,ep,e2,c⟩,r⟩ := x
  exact ⟨ho _ d,z,ne,k _ _ (.inl rfl) e,mA,⟨od,es,ep,k _ _ (.inr d) e2,c⟩,r⟩
 | own y => obtain ⟨ob,e⟩ := x; exact ⟨ob,k _ _ (.inl rfl) e⟩
 | xd fs => obtain ⟨mA,⟨od,es,ep,e,c⟩,r⟩ := x; exact ⟨mA,⟨od,es,ep,k _ _ (.inl rfl) e,c⟩,r⟩
 | rng lo hi => obtain ⟨t,u,v,e⟩ := x; exact ⟨t,u,v,k _ _ (.inl rfl) e⟩
 | frz ob u ih => obtain ⟨e,q⟩ := x; exact ⟨k _ _ (.inl rfl) e,ih q⟩
 | tbl ps =>
  have e : h.get? a = some { cls := .none,data := .fields ps } := x
  show h'.get? a = some { cls := .none,data := .fields ps }
  exact k a _ (.inl rfl) e
 | met f y =>
  have e : h.get? a = some (PySem.W.methodObj (.ref f) (.ref y)) := x
  show h'.get? a = some (PySem.W.methodObj (.ref f) (.ref y))
  exact k a _ (.inl rfl) e
 | ext φ => obtain ⟨p,⟨o,e⟩,st⟩ := x; exact ⟨st _ _ p fun o q => k _ _ (.inl rfl) q,⟨o,k _ _ (.inl rfl) e⟩,st⟩
theorem HOk.lt (x : HOk P w H h) (e : H a = some o) : a < h.objs.size := (x a o e).lt
theorem HOk.fresh (x : HOk P w H h) (e : h.objs.size ≤ a) : H a = none := by
 cases q : H a with
 | none => rfl
 | some u => exact absurd (Nat.lt_of_lt_of_le (x.lt q) e) (Nat.lt_irrefl _)
theorem HOk.kept (x : HOk P w H h) (k : ∀ b u,h.get? b = some u → h'.get? b = some u) : HOk P w H h' := fun a o e =>
 (x a o e).stay (fun b u _ q => k b u q) (fun _ q => q) fun _ _ q => q
theorem HOk.laid (x : HOk P w H h) (k : ∀ b u,h.get? b = some u → h'.get? b = some u) (hp : h.objs.size ≤ a) (new : ObjOk P w (upd H a o) h' a o) : HOk P w (upd H a o) h' := fun b u e => by
 have hn := x.fresh hp
 by_cases hb : b = a
 ·subst hb; rw [upd_same] at e; cases e; exact new
 ·rw [upd_ne hb] at e
  exact (x b u e).stay (fun c v _ q => k c v q) (fun c q => by rw [upd_ne (ne_of_none q hn)]; exact q) fun c xs q => by rw [upd_ne (ne_of_none q hn)]; exact q
end
def Rd (H : Hp) (a : Addr) (u : HO) : Prop := H a = some u ∨ ∃ o,H a = some (.frz o u)
theorem Rd.of {H : Hp} {a : Addr} {u : HO} (h : H a = some u) : Rd H a u := .inl h
theorem Rd.ok {P : Program} {w : World} {H : Hp} {h : Heap} {a : Addr} {u : HO} (r : Rd H a u) (x : HOk P w H h) : ObjOk P w H h a u := by
 rcases r with r | ⟨o,r⟩
 ·exact x a u r
 ·obtain ⟨_,q⟩ := x a _ r
  exact q
def Mut : Option HO → Prop
 | some (.lst _) => True
 | some (.dK _) => True
 | some (.dT _) => True
 | some (.set _ _) => True
 | some (.ins _ _ _) => True
 | some (.ext _) => True
 | _ => False
section
variable {P : Program} {w : World} {H : Hp} {h h' : Heap} {x e : Addr} {o' : HO}
theorem HOk.write (ok : HOk P w H h) (mu : Mut (H x)) (he : e = x ∨ H e = some (.own x)) (k : ∀ b u,b ≠ e → h.get? b = some u → h'.get? b = some u) (heo : ∃ u,h'.get? e = some u)
  (new : ObjOk P w (upd H x o') h' x o') : HOk P w (upd H x o') h' := fun b u q => by
 have nown : ∀ c y,H c = some (.own y) → c ≠ x := fun c y r z => by subst z; rw [r] at mu; exact mu
 have ntup : ∀ c xs,H c = some (.tup xs) → c ≠ x := fun c xs r z => by subst z; rw [r] at mu; exact mu
 by_cases hb : b = x
 ·subst hb; rw [upd_same] at q; cases q; exact new
 ·rw [upd_ne hb] at q
  by_cases hbe : b = e
  ·have q' : H b = some (.own x) := by
    rcases he with z | z
    ·exact absurd (hbe.trans z) hb
    ·rw [hbe]; exact z
   rw [q] at q'; cases q'
   obtain ⟨v,hv⟩ := heo
   exact ⟨v,by rw [hbe]; exact hv⟩
  ·refine (ok b u q).stay (fun c v hc r => k c v ?_ r) (fun c r => by rw [upd_ne (nown c b r)]; exact r) fun c xs r => by rw [upd_ne (ntup c xs r)]; exact r
   rcases hc with rfl | hc
   ·exact hbe
   ·rintro rfl
    rcases he with z | z
    ·exact nown c b hc z
    ·rw [hc] at z; cases z; exact hb rfl
end
structure Un (fs ex : List Addr) (H H' : Hp) (h h' : Heap) : Prop where
 keep : ∀ b o,h.get? b = some o → H b = none → b ∉ fs → b ∉ ex → h'.get? b = some o
 slot : ∀ b o,h.get? b = some o → H b = none → b ∈ fs → b ∉ ex → ∃ sl,h'.get? b = some { o with slots := sl }
 free : ∀ b o,h.get? b = some o → H b = none → b ∉ ex → H' b = none
 there : ∀ b o,h.get? b = some o → b ∉ ex → ∃ o',h'.get? b = some o'
 tups : ∀ b xs,H b = some (.tup xs) → H' b = some (.tup xs)
 frzs : ∀ b o u,H b = some (.frz o u) → H' b = some (.frz o u)
 tbls : ∀ b ps,H b = some (.tbl ps) → ∃ more,H' b = some (.tbl (ps ++ more))
section
variable {fs fs' ex ex' : List Addr} {H H1 H2 : Hp} {h h1 h2 h' : Heap} {a x e : Addr} {o : HO}
theorem Un.any (u : Un fs ex H H1 h h1) {b : Addr} {ob : Obj} (q : h.get? b = some ob) (n : H b = none) (hx : b ∉ ex) : ∃ sl,h1.get? b = some { ob with slots := sl } := by
 by_cases hb : b ∈ fs
 ·exact u.slot b ob q n hb hx
 ·exact ⟨ob.slots,u.keep b ob q n hb hx⟩
theorem Un.trans (a : Un fs ex H H1 h h1) (b : Un fs ex H1 H2 h1 h2) : Un fs ex H H2 h h2 where
 keep := fun c ob q n hc hx => b.keep c ob (a.keep c ob q n hc hx) (a.free c ob q n hx) hc hx
 slot := fun c ob q n hc hx => by
  obtain ⟨sl,e1⟩ := a.slot c ob q n hc hx
  obtain ⟨sl',e2⟩ := b.slot c _ e1 (a.free c ob q n hx) hc hx
  exact ⟨sl',e2⟩
 free := fun c ob q n hx => by
  obtain ⟨o',e1⟩ := a.there c ob q hx
  exact b.free c o' e1 (a.free c ob q n hx) hx
 there := fun c ob q hx => by
  obtain ⟨o',e1⟩ := a.there c ob q hx
  exact b.there c o' e1 hx
 tups := fun c xs q => b.tups c xs (a.tups c xs q)
 frzs := fun c ob xs q => b.frzs c ob xs (a.frzs c ob xs q)
 tbls := fun c ps q => by
  obtain ⟨m1,e1⟩ := a.tbls c ps q
  obtain ⟨m2,e2⟩ := b.tbls c _ e1
  exact ⟨m1 ++ m2,by rw [e2,Array.append_assoc]⟩
theorem Un.kept (k : ∀ b u,h.get? b = some u → h'.get? b = some u) : Un fs ex H H h h' :=
 ⟨fun b ob q _ _ _ => k b ob q,fun b ob q _ _ _ => ⟨ob.slots,k b ob q⟩,fun _ _ _ n _ => n,fun b ob q _ => ⟨ob,k b ob q⟩,fun _ _ q => q,fun _ _ _ q => q,fun _ ps q => ⟨#[],by rw [q]; simp⟩⟩
theorem Un.refl : Un fs ex H H h h := Un.kept fun _ _ q => q
theorem Un.laid (k : ∀ b u,h.get? b = some u → h'.get? b = some u) (hp : h.objs.size ≤ a) (hn : H a = none) : Un fs ex H (upd H a o) h h' where
 keep := fun b u q _ _ _ => k b u q
 slot := fun b u q _ _ _ => ⟨u.slots,k b u q⟩
 free := fun b u q n _ => by rw [upd_ne (Nat.ne_of_lt (Nat.lt_of_lt_of_le (Heap.lt_size q) hp))]; exact n
 there := fun b u q _ => ⟨u,k b u q⟩
 tups := fun b xs q => by rw [upd_ne (ne_of_none q hn)]; exact q
 frzs := fun b u xs q => by rw [upd_ne (ne_of_none q hn)]; exact q
 tbls := fun b ps q => ⟨#[],by rw [upd_ne (ne_of_none q hn),q]; simp⟩
theorem Un.write (mu : Mut (H x)) (he : e = x ∨ H e = some (.own x)) (k : ∀ b u,b ≠ e → h.get? b = some u → h'.get? b = some u) (heo : ∃ u,h'.get? e = some u) : Un fs ex H (upd H x o) h h' := by
 have hx : ∀ b,H b = none → b ≠ x := fun b n z => by subst z; rw [n] at mu; exact mu
 have hb : ∀ b,H b = none → b ≠ e := fun b n z => by
  subst z
  rcases he with r | r
  ·exact hx b n r
  ·rw [n] at r; cases r
 have hm : ∀ b u,H b = some u → ¬ Mut (some u) → b ≠ x := fun b u q nm z => by subst z; rw [q] at mu; exact nm mu
 refine ⟨fun b u q n _ _ => k b u (hb b n) q,fun b u q n _ _ => ⟨u.slots,k b u (hb b n) q⟩,fun b u q n _ => by rw [upd_ne (hx b n)]; exact n,fun b u q _ => ?_,
  fun b xs q => by rw [upd_ne (hm b _ q fun z => z)]; exact q,fun b u xs q => by rw [upd_ne (hm b _ q fun z => z)]; exact q,fun b ps q => ⟨#[],by rw [upd_ne (hm b _ q fun z => z),q]; simp⟩⟩
 by_cases hbe : b = e
 ·subst hbe; exact heo
 ·exact ⟨u,k b u hbe q⟩
theorem Un.mono (u : Un fs ex H H1 h h1) (hs : ∀ b ∈ fs,b ∈ fs') (hx : ∀ b ∈ ex,b ∈ ex') : Un fs' ex' H H1 h h1 :=
 ⟨fun b ob q n hb he => u.keep b ob q n (fun z => hb (hs b z)) fun z => he (hx b z),fun _ _ q n _ he => u.any q n fun z => he (hx _ z),fun b ob q n he => u.free b ob q n fun z => he (hx b z),fun b ob q he => u.there b ob q fun z => he (hx b z),u.tups,u.frzs,u.tbls⟩
end
def trk (h : Heap) (H : Hp) : List Addr := (List.range h.objs.size).filter fun a => (H a).isSome
def hidT (h : Heap) (H : Hp) : Heap := PySem.W.hideAll h (trk h H)
theorem hidT_size (h : Heap) (H : Hp) : (hidT h H).objs.size = h.objs.size := PySem.W.hideAll_size _ _
theorem hidT_get {h : Heap} {H : Hp} {b : Addr} {o : Obj} (e : h.get? b = some o) (n : H b = none) : (hidT h H).get? b = some o :=
 PySem.W.hideAll_get _ e fun hm => by
  have q : (H b).isSome = true := (List.mem_filter.mp hm).2
  rw [n] at q; simp at q
theorem of_hidT {h : Heap} {H : Hp} {b : Addr} {o : Obj} (e : (hidT h H).get? b = some o) : h.get? b = some o ∧ H b = none := by
 have e' : h.get? b = some o := PySem.W.of_hideAll (trk h H) e
 refine ⟨e',?_⟩
 cases q : H b with
 | none => rfl
 | some x =>
  have hm : b ∈ trk h H := List.mem_filter.mpr ⟨List.mem_range.mpr (Heap.lt_size e'),by simp [q]⟩
  have z : (hidT h H).get? b = none := PySem.W.hideAll_none (trk h H) hm
  rw [z] at e; cases e
def allNews (g h : Heap) (L : Addr) : List (Addr × Obj) := (List.range h.objs.size).filterMap fun a => if a = L ∨ (g.get? a).isSome = true then none else (h.get? a).map fun o => (a,o)
def rest (g h : Heap) (L d : Addr) : List (Addr × Obj) := (allNews g h L).filter fun p => decide (p.1 ≠ d)
end L2
namespace L2
open PySem PySem.Spec PyProof.Rows
structure Mod (K : PySem.W.Frag) (mg : Str → Option Value) (base : Heap) : Prop where
 kin : K.In base
 glob : base.Ns mainGlobals mg
 blt : ∃ mb,base.Ns builtinsNs mb ∧ ∀ x : Str,x ≠ "__name__" → mb x = bootBuiltins x
 nolimit : base.NoLimit
structure Cx where
 prog : Program
 w : World
 K : PySem.W.Frag
 mg : Str → Option Value
 base : Heap
 A : Around
 N : List Str
 s₀ : Shared
 H₀ : Hp
 env : Env
 outer : List Env
 stack : List Env
 ex : List Addr
 fn : Str → Bool
 calm : Bool
 pn : List (Addr × Obj)
 xe : Value → Shared → Prop
def frs (l : List Env) : List Addr := l.filterMap (·.frame)
abbrev Cx.fs (X : Cx) : List Addr := frs X.outer
def Vis (sc : Scope) (x : Str) : Prop := sc.names.lookup x = some .local ∨ sc.names.lookup x = some .cell ∨ sc.names.lookup x = some .free
def Loc (sc : Scope) (x : Str) : Prop := sc.names.lookup x = some .local ∨ sc.names.lookup x = some .cell
def Look (env : Env) (h : Heap) (m : Str → Option Value) (x : Str) (u : Value) : Prop :=
 (env.kindOf x = some .local ∧ m x = some u) ∨ ((env.kindOf x = some .cell ∨ env.kindOf x = some .free) ∧ ∃ c,env.cells.lookup x = some c ∧ h.IsCell c (some u))
structure Cx.Ok (X : Cx) : Prop where
 mod : Mod X.K X.mg X.base
 kind : X.env.scope.kind = .function
 glob : X.env.globals = mainGlobals
 blt : X.env.builtins = builtinsNs
 above : X.s₀.heap.objs.size ≤ X.env.locals
 inj : ∀ x y c,X.env.cells.lookup x = some c → X.env.cells.lookup y = some c → x = y
 has : ∀ x,(X.env.kindOf x = some .cell ∨ X.env.kindOf x = some .free) → ∃ c,X.env.cells.lookup x = some c
 cab : ∀ x c,X.fn x = true → X.env.cells.lookup x = some c → X.s₀.heap.objs.size ≤ c
 hd : X.calm = true → X.A.handled = none
 frames : X.A.frames = some X.stack
 stk : X.stack = X.outer ∨ (X.stack = X.env :: X.outer ∧ X.env.frame = some X.env.locals)
 exf : ∀ b ∈ X.ex,b ≠ X.env.locals ∧ ∀ x c,X.env.cells.lookup x = some c → c ≠ b
 bs : ∀ b o,X.base.get? b = some o → X.s₀.heap.get? b = some o ∧ X.H₀ b = none
 bsz : X.base.objs.size ≤ X.s₀.heap.objs.size
 noex : ∀ b o,X.base.get? b = some o → b ∉ X.ex
 exfs : ∀ b ∈ X.ex,b ∉ X.fs
 funs : X.s₀.heap.FunFrames X.base X.outer
 frf : ∀ b ∈ X.fs,X.H₀ b = none
structure Inv (X : Cx) (pins : List (Addr × Obj)) (σ : List (Option V)) (H : Hp) (s : Shared) : Prop where
 ok : X.Ok
 os : s.os = X.s₀.os
 bare : AllBare s.gens
 base : Un X.fs X.ex X.H₀ H X.s₀.heap s.heap
 loc : ∃ m,s.heap.Ns X.env.locals m ∧ ∀ (i : Nat) (x : Str) (v : V),X.N[i]? = some x → σ[i]? = some (some v) → Vis X.env.scope x → ∃ u,RelV v u ∧ Look X.env s.heap m x u
 cell : ∀ x c,X.env.cells.lookup x = some c → ∃ v,s.heap.IsCell c v
 free : H X.env.locals = none
 freeC : ∀ x c,X.env.cells.lookup x = some c → H c = none
 pin : ∀ p ∈ X.pn ++ pins,s.heap.get? p.1 = some p.2 ∧ H p.1 = none ∧ p.1 ≠ X.env.locals ∧ p.1 ∉ X.fs ∧ ∀ v,p.2.data ≠ .cell v
 hok : HOk X.prog X.w H s.heap
 len : σ.length = X.N.length
section
variable {X : Cx} {pins : List (Addr × Obj)} {σ : List (Option V)} {H H' : Hp} {s : Shared} {h' : Heap}
theorem Cx.Ok.nofr (ok : X.Ok) {b : Addr} {o : Obj} (e : X.base.get? b = some o) : b ∉ X.fs := fun hb => by
 have := (ok.funs.mem hb).1
 rw [e] at this; cases this
theorem Inv.bs (I : Inv X pins σ H s) : ∀ b o,X.base.get? b = some o → s.heap.get? b = some o ∧ H b = none := fun b o e =>
 ⟨I.base.keep b o (I.ok.bs b o e).1 (I.ok.bs b o e).2 (I.ok.nofr e) (I.ok.noex b o e),I.base.free b o (I.ok.bs b o e).1 (I.ok.bs b o e).2 (I.ok.noex b o e)⟩
theorem Inv.bk (I : Inv X pins σ H s) : ∀ b o,X.base.get? b = some o → s.heap.get? b = some o := fun b o e => (I.bs b o e).1
theorem Inv.mod (I : Inv X pins σ H s) : Mod X.K X.mg X.base := I.ok.mod
theorem Inv.kIn (I : Inv X pins σ H s) : X.K.In s.heap := I.ok.mod.kin.keeps I.bk
theorem Inv.nolimit (I : Inv X pins σ H s) : s.heap.NoLimit := I.ok.mod.nolimit.keeps I.bk
theorem Inv.fr (I : Inv X pins σ H s) : ∃ m,Fr X.base X.env.locals s.heap m :=
 let ⟨m,hn,_⟩ := I.loc
 ⟨m,hn,I.bk,Nat.le_trans I.ok.bsz I.ok.above⟩
theorem Inv.lt (I : Inv X pins σ H s) : X.env.locals < s.heap.objs.size := let ⟨_,hn,_⟩ := I.loc; hn.lt
theorem Inv.sz (I : Inv X pins σ H s) : X.s₀.heap.objs.size ≤ s.heap.objs.size := Nat.le_trans I.ok.above (Nat.le_of_lt I.lt)
theorem Inv.nofs (I : Inv X pins σ H s) {a : Addr} (h : s.heap.objs.size ≤ a) : a ∉ X.fs := fun hb => by
 obtain ⟨_,o,ho,_⟩ := I.ok.funs.mem hb
 exact absurd (Nat.lt_of_lt_of_le (Heap.lt_size ho) (Nat.le_trans I.sz h)) (Nat.lt_irrefl _)
theorem Inv.cne (I : Inv X pins σ H s) : ∀ x c,X.env.cells.lookup x = some c → c ≠ X.env.locals := fun x c e z => by
 obtain ⟨v,o,ho,hd⟩ := I.cell x c e
 obtain ⟨m,⟨o',es,ep,ho',hd',_⟩,_⟩ := I.loc
 rw [z,ho'] at ho; cases ho; rw [hd'] at hd; cases hd
theorem Inv.funs (I : Inv X pins σ H s) : s.heap.FunFrames X.base X.outer := by
 have all : ∀ (l : List Env),(∀ b ∈ frs l,b ∈ X.fs) → X.s₀.heap.FunFrames X.base l → s.heap.FunFrames X.base l := by
  intro l
  induction l with
  | nil => intro _ _; trivial
  | cons env r ih =>
   intro hs hl
   obtain ⟨hk,⟨L,o,hf,hn,ho,hd⟩,hr⟩ := hl
   have hL : L ∈ X.fs := hs L (by unfold frs; rw [List.filterMap_cons,hf]; exact List.mem_cons_self)
   obtain ⟨sl,e⟩ := I.base.slot L o ho (I.ok.frf L hL) hL fun z => I.ok.exfs L z hL
   exact ⟨hk,⟨L,_,hf,hn,e,hd⟩,ih (fun b hb => hs b (by unfold frs; rw [List.filterMap_cons,hf]; exact List.mem_cons_of_mem _ hb)) hr⟩
 exact all X.outer (fun _ hb => hb) I.ok.funs
theorem Inv.stack (I : Inv X pins σ H s) : s.heap.FunFrames X.base X.stack := by
 rcases I.ok.stk with e | ⟨e,hf⟩
 ·rw [e]; exact I.funs
 ·rw [e]
  obtain ⟨m,hn,_⟩ := I.loc
  refine .cons (by rw [I.ok.kind]; decide) hf hn ?_ I.funs
  exact Heap.get?_none_of_le (Nat.le_trans I.ok.bsz I.ok.above)
theorem Inv.stkSub (I : Inv X pins σ H s) : ∀ b ∈ frs X.stack,b ∈ X.env.locals :: X.fs := fun b hb => by
 rcases I.ok.stk with e | ⟨e,hf⟩
 ·rw [e] at hb; exact List.mem_cons_of_mem _ hb
 ·rw [e] at hb
  unfold frs at hb
  rw [List.filterMap_cons,hf] at hb
  exact hb
theorem Inv.stkFree (I : Inv X pins σ H s) : ∀ b ∈ frs X.stack,H b = none := fun b hb => by
 rcases List.mem_cons.mp (I.stkSub b hb) with e | hb
 ·rw [e]; exact I.free
 ·obtain ⟨_,o,ho,_⟩ := I.ok.funs.mem hb
  exact I.base.free b o ho (I.ok.frf b hb) fun z => I.ok.exfs b z hb
theorem Inv.step {g' : Array GenState} {t' : Nat} {d' : Drawn} {ch : List Addr} (I : Inv X pins σ H s)
  (hch : ∀ b ∈ ch,(b ∈ X.ex ∨ X.s₀.heap.objs.size ≤ b) ∧ b ≠ X.env.locals ∧ (∀ x c,X.env.cells.lookup x = some c → c ≠ b) ∧ ∀ p ∈ X.pn ++ pins,p.1 ≠ b)
  (keep : ∀ b o,b ≠ X.env.locals → b ∉ X.fs → b ∉ ch → s.heap.get? b = some o → H b = none → h'.get? b = some o)
  (slot : ∀ b o,b ≠ X.env.locals → b ∈ X.fs → b ∉ ch → s.heap.get? b = some o → H b = none → ∃ sl,h'.get? b = some { o with slots := sl }) (free : ∀ b o,b ∉ ch → s.heap.get? b = some o → H b = none → H' b = none)
  (there : ∀ b o,b ∉ ch → s.heap.get? b = some o → ∃ o',h'.get? b = some o')
  (tups : ∀ b xs,H b = some (.tup xs) → H' b = some (.tup xs)) (frzs : ∀ b o u,H b = some (.frz o u) → H' b = some (.frz o u)) (tbls : ∀ b ps,H b = some (.tbl ps) → ∃ more,H' b = some (.tbl (ps ++ more)))
  (ns : ∀ m,s.heap.Ns X.env.locals m → h'.Ns X.env.locals m) (hok : HOk X.prog X.w H' h') (hg : AllBare g') :
  Inv X pins σ H' { s with heap := h',gens := g',drawn := d',toks := t' } := by
 have neL : ∀ b o,X.s₀.heap.get? b = some o → b ≠ X.env.locals := fun b o e => Nat.ne_of_lt (Nat.lt_of_lt_of_le (Heap.lt_size e) I.ok.above)
 have neC : ∀ b o,X.s₀.heap.get? b = some o → b ∉ X.ex → b ∉ ch := fun b o e hx hb => by
  rcases (hch b hb).1 with z | z
  ·exact hx z
  ·exact absurd (Nat.lt_of_lt_of_le (Heap.lt_size e) z) (Nat.lt_irrefl _)
 have cellK : ∀ x c,X.env.cells.lookup x = some c → ∀ v,s.heap.IsCell c v → h'.IsCell c v := fun x c e v ⟨o,ho,hd⟩ => by
  have nch : c ∉ ch := fun z => (hch c z).2.2.1 x c e rfl
  by_cases hc : c ∈ X.fs
  ·obtain ⟨sl,q⟩ := slot c o (I.cne x c e) hc nch ho (I.freeC x c e)
   exact ⟨_,q,hd⟩
  ·exact ⟨o,keep c o (I.cne x c e) hc nch ho (I.freeC x c e),hd⟩
 refine ⟨I.ok,I.os,hg,⟨fun b o e n hb hx => ?_,fun b o e n hb hx => ?_,fun b o e n hx => ?_,fun b o e hx => ?_,fun b xs e => tups b xs (I.base.tups b xs e),fun b o xs e => frzs b o xs (I.base.frzs b o xs e),fun b ps e => ?_⟩,?_,fun x c e => ?_,?_,fun x c e => ?_,fun p hp => ?_,hok,I.len⟩
 ·exact keep b o (neL b o e) hb (neC b o e hx) (I.base.keep b o e n hb hx) (I.base.free b o e n hx)
 ·obtain ⟨sl,e1⟩ := I.base.slot b o e n hb hx
  obtain ⟨sl',e2⟩ := slot b _ (neL b o e) hb (neC b o e hx) e1 (I.base.free b o e n hx)
  exact ⟨sl',e2⟩
 ·obtain ⟨o',e1⟩ := I.base.there b o e hx
  exact free b o' (neC b o e hx) e1 (I.base.free b o e n hx)
 ·obtain ⟨o',e1⟩ := I.base.there b o e hx
  exact there b o' (neC b o e hx) e1
 ·obtain ⟨m1,e1⟩ := I.base.tbls b ps e
  obtain ⟨m2,e2⟩ := tbls b _ e1
  exact ⟨m1 ++ m2,by rw [e2,Array.append_assoc]⟩
 ·obtain ⟨m,hn,hl⟩ := I.loc
  refine ⟨m,ns m hn,fun i x v e1 e2 e3 => ?_⟩
  obtain ⟨u,r,l⟩ := hl i x v e1 e2 e3
  refine ⟨u,r,?_⟩
  rcases l with l | ⟨k,c,e,z⟩
  ·exact .inl l
  ·exact .inr ⟨k,c,e,cellK x c e _ z⟩
 ·obtain ⟨v,z⟩ := I.cell x c e
  exact ⟨v,cellK x c e v z⟩
 ·obtain ⟨m,⟨o,_,_,ho,_⟩,_⟩ := I.loc
  exact free _ o (fun z => (hch _ z).2.1 rfl) ho I.free
 ·obtain ⟨v,o,ho,hd⟩ := I.cell x c e
  exact free c o (fun z => (hch c z).2.2.1 x c e rfl) ho (I.freeC x c e)
 ·obtain ⟨e,n,ne,nf,d⟩ := I.pin p hp
  have nch : p.1 ∉ ch := fun z => (hch p.1 z).2.2.2 p hp rfl
  exact ⟨keep p.1 p.2 ne nf nch e n,free p.1 p.2 nch e n,ne,nf,d⟩
theorem Inv.un {t' : Nat} (I : Inv X pins σ H s) (u : Un X.fs [] H H' s.heap h') (hok : HOk X.prog X.w H' h') : Inv X pins σ H' { s with heap := h',toks := t' } := by
 obtain ⟨m,⟨o,es,ep,ho,r⟩,_⟩ := id I.loc
 obtain ⟨sl,hL⟩ := u.any ho I.free (by simp)
 exact I.step (g' := s.gens) (d' := s.drawn) (ch := []) (fun _ z => nomatch z) (fun b o _ hb _ e n => u.keep b o e n hb (by simp)) (fun b o _ hb _ e n => u.slot b o e n hb (by simp)) (fun b o _ e n => u.free b o e n (by simp)) (fun b o _ e => u.there b o e (by simp)) u.tups u.frzs u.tbls (fun m' hm => by
  obtain ⟨o',es',ep',ho',r'⟩ := hm
  rw [ho] at ho'; cases ho'
  exact ⟨_,es',ep',hL,r'⟩) hok I.bare
theorem Inv.call {g' : Array GenState} {t' : Nat} {d' : Drawn} {ch : List Addr} (I : Inv X pins σ H s) (u : Un (frs X.stack) ch H H' s.heap h') (hok : HOk X.prog X.w H' h') (hg : AllBare g')
  (hch : ∀ b ∈ ch,(b ∈ X.ex ∨ X.s₀.heap.objs.size ≤ b) ∧ b ≠ X.env.locals ∧ (∀ x c,X.env.cells.lookup x = some c → c ≠ b) ∧ ∀ p ∈ X.pn ++ pins,p.1 ≠ b) :
  Inv X pins σ H' { s with heap := h',gens := g',drawn := d',toks := t' } := by
 obtain ⟨m,⟨o,es,ep,ho,r⟩,_⟩ := id I.loc
 obtain ⟨sl,hL⟩ := u.any ho I.free fun z => (hch _ z).2.1 rfl
 exact I.step (ch := ch) hch (fun b o hL hb hc e n => u.keep b o e n (fun z => (List.mem_cons.mp (I.stkSub b z)).elim hL hb) hc) (fun b o _ _ hc e n => u.any e n hc) (fun b o hc e n => u.free b o e n hc) (fun b o hc e => u.there b o e hc) u.tups u.frzs u.tbls (fun m' hm => by
  obtain ⟨o',es',ep',ho',r'⟩ := hm
  rw [ho] at ho'; cases ho'
  exact ⟨_,es',ep',hL,r'⟩) hok hg
theorem Inv.turned {t' : Nat} {it : Addr} (I : Inv X pins σ H s) (k : ∀ b o,b ≠ it → s.heap.get? b = some o → h'.get? b = some o) (hn : H it = none) (hL : it ≠ X.env.locals)
  (h1 : it ∈ X.ex ∨ X.s₀.heap.objs.size ≤ it) (h2 : ∀ x c,X.env.cells.lookup x = some c → c ≠ it) (h3 : ∀ p ∈ X.pn ++ pins,p.1 ≠ it) : Inv X pins σ H { s with heap := h',toks := t' } := by
 have nit : ∀ b u,H b = some u → b ≠ it := fun b u e z => by rw [z,hn] at e; cases e
 refine I.step (g' := s.gens) (d' := s.drawn) (ch := [it]) (fun b hb => ?_) (fun b o _ _ hc e _ => k b o (fun z => hc (by simp [z])) e) (fun b o _ _ hc e _ => ⟨o.slots,k b o (fun z => hc (by simp [z])) e⟩) (fun _ _ _ _ n => n)
  (fun b o hc e => ⟨o,k b o (fun z => hc (by simp [z])) e⟩) (fun _ _ e => e) (fun _ _ _ e => e) (fun b ps e => ⟨#[],by rw [e]; simp⟩) (fun m hm => ?_) (fun b u e => ?_) I.bare
 ·have e : b = it := by simpa using hb
  subst e
  exact ⟨h1,hL,h2,h3⟩
 ·obtain ⟨o,es,ep,ho,r⟩ := hm
  exact ⟨o,es,ep,k _ o (Ne.symm hL) ho,r⟩
 ·refine (I.hok b u e).stay (fun c v hc q => k c v ?_ q) (fun _ q => q) fun _ _ q => q
  rcases hc with z | z
  ·rw [z]; exact nit b u e
  ·exact nit c _ z
theorem Inv.tok (I : Inv X pins σ H s) (t : Nat) : Inv X pins σ H { s with toks := t } := I.un (h' := s.heap) (t' := t) Un.refl I.hok
theorem Inv.kept {t' : Nat} (I : Inv X pins σ H s) (k : ∀ b u,s.heap.get? b = some u → h'.get? b = some u) : Inv X pins σ H { s with heap := h',toks := t' } := I.un (Un.kept k) (I.hok.kept k)
theorem Inv.laid {a : Addr} {o : HO} {t' : Nat} (I : Inv X pins σ H s) (k : ∀ b u,s.heap.get? b = some u → h'.get? b = some u) (hp : s.heap.objs.size ≤ a) (new : ObjOk X.prog X.w (upd H a o) h' a o) :
  Inv X pins σ (upd H a o) { s with heap := h',toks := t' } := I.un (Un.laid k hp (I.hok.fresh hp)) (I.hok.laid k hp new)
theorem Inv.write {x e : Addr} {o : HO} {t' : Nat} (I : Inv X pins σ H s) (mu : Mut (H x)) (he : e = x ∨ H e = some (.own x)) (k : ∀ b u,b ≠ e → s.heap.get? b = some u → h'.get? b = some u) (heo : ∃ u,h'.get? e = some u)
  (new : ObjOk X.prog X.w (upd H x o) h' x o) : Inv X pins σ (upd H x o) { s with heap := h',toks := t' } := I.un (Un.write mu he k heo) (I.hok.write mu he k heo new)
theorem Inv.weak {σ' : List (Option V)} (I : Inv X pins σ H s) (hl : σ'.length = σ.length) (w : ∀ (i : Nat) v,σ'[i]? = some (some v) → σ[i]? = some (some v)) : Inv X pins σ' H s :=
 ⟨I.ok,I.os,I.bare,I.base,let ⟨m,hn,hl'⟩ := I.loc; ⟨m,hn,fun i x v e1 e2 e3 => hl' i x v e1 (w i v e2) e3⟩,I.cell,I.free,I.freeC,I.pin,I.hok,hl.trans I.len⟩
theorem Inv.pins_of {pins' : List (Addr × Obj)} (I : Inv X pins σ H s) (h : ∀ p ∈ pins',s.heap.get? p.1 = some p.2 ∧ H p.1 = none ∧ p.1 ≠ X.env.locals ∧ p.1 ∉ X.fs ∧ ∀ v,p.2.data ≠ .cell v) : Inv X pins' σ H s :=
 ⟨I.ok,I.os,I.bare,I.base,I.loc,I.cell,I.free,I.freeC,fun p hp => (List.mem_append.mp hp).elim (fun z => I.pin p (List.mem_append_left _ z)) (h p),I.hok,I.len⟩
theorem nodup_ix {N : List Str} (hN : N.Nodup) {i j : Nat} {x : Str} (a : N[i]? = some x) (b : N[j]? = some x) : i = j := by
 obtain ⟨h1,e1⟩ := List.getElem?_eq_some_iff.mp a
 obtain ⟨h2,e2⟩ := List.getElem?_eq_some_iff.mp b
 exact (List.getElem_inj hN).mp (e1.trans e2.symm)
theorem store_ok2 {M : Model} {A : Around} {E : Value → Shared → Prop} {i : Nat} {x : Str} {v : V} {u : Value} {Q : Unit → Shared → Prop} (I : Inv X pins σ H s) (hN : X.N.Nodup) (hi : X.N[i]? = some x) (hx : Loc X.env.scope x) (r : RelV v u)
  (h : ∀ s',Inv X pins (σ.set i (some v)) H s' → (∃ a,Heap.SameBut a s.heap s'.heap ∧ (a = X.env.locals ∨ X.env.cells.lookup x = some a)) → Q () s') (hf : X.fn x = true ∨ X.env.scope.names.lookup x = some .local := by first | exact .inl rfl | exact .inr rfl | assumption) : wpAny M A (storeName X.env x u) Q E s := by
 obtain ⟨m,hn,hl⟩ := id I.loc
 have hcls : (X.env.scope.kind == .class || (X.env.scope.kind == .module && X.env.locals != X.env.globals)) = false := by rw [I.ok.kind]; rfl
 have hiσ : i < σ.length := by rw [I.len]; exact (List.getElem?_eq_some_iff.mp hi).1
 have cne := I.cne
 have tracked : ∀ {a : Addr} {h' : Heap},(∃ o,s.heap.get? a = some o ∧ H a = none) → Heap.SameBut a s.heap h' → HOk X.prog X.w H h' := fun {a h'} ha hs b ob e => by
  obtain ⟨_,_,hfree⟩ := ha
  refine (I.hok b ob e).stay (fun c w' hc q => (hs.2 c ?_).trans q) (fun _ q => q) fun _ _ q => q
  rintro rfl
  rcases hc with rfl | hc
  ·rw [hfree] at e; cases e
  ·rw [hfree] at hc; cases hc
 rcases hx with hk | hk
 ·refine wpAny_storeName_local hk hn (fun h' hn' hs => ?_) hcls
  obtain ⟨oL,_,_,hoL,_⟩ := id hn
  refine h _ ⟨I.ok,I.os,I.bare,⟨fun b o e n hb hx => ?_,fun b o e n hb hx => ?_,I.base.free,fun b o e hx => ?_,I.base.tups,I.base.frzs,I.base.tbls⟩,⟨_,hn',fun j y v' e1 e2 e3 => ?_⟩,fun y c e => ?_,I.free,I.freeC,fun p hp => ?_,tracked ⟨oL,hoL,I.free⟩ hs,by simpa using I.len⟩ ⟨_,hs,.inl rfl⟩
  ·exact (hs.2 b (Nat.ne_of_lt (Nat.lt_of_lt_of_le (Heap.lt_size e) I.ok.above))).trans (I.base.keep b o e n hb hx)
  ·obtain ⟨sl,e1⟩ := I.base.slot b o e n hb hx
   exact ⟨sl,(hs.2 b (Nat.ne_of_lt (Nat.lt_of_lt_of_le (Heap.lt_size e) I.ok.above))).trans e1⟩
  ·obtain ⟨o',e1⟩ := I.base.there b o e hx
   exact ⟨o',(hs.2 b (Nat.ne_of_lt (Nat.lt_of_lt_of_le (Heap.lt_size e) I.ok.above))).trans e1⟩
  ·by_cases hj : j = i
   ·subst hj
    rw [hi] at e1; cases e1
    rw [List.getElem?_set_self hiσ] at e2
    cases e2
    exact ⟨u,r,.inl ⟨hk,by simp⟩⟩
   ·rw [List.getElem?_set_ne (Ne.symm hj)] at e2
    obtain ⟨u',r',q⟩ := hl j y v' e1 e2 e3
    refine ⟨u',r',?_⟩
    rcases q with ⟨k,e⟩ | ⟨k,c,e,z⟩
    ·refine .inl ⟨k,?_⟩
     have : y ≠ x := fun e => hj (nodup_ix hN e1 (e ▸ hi))
     simp [this,e]
    ·exact .inr ⟨k,c,e,z.sameBut hs (cne y c e)⟩
  ·obtain ⟨w',z⟩ := I.cell y c e
   exact ⟨w',z.sameBut hs (cne y c e)⟩
  ·obtain ⟨e,n,ne,nf,d⟩ := I.pin p hp
   exact ⟨(hs.2 p.1 ne).trans e,n,ne,nf,d⟩
 ·have hfn : X.fn x = true := by
   rcases hf with z | z
   ·exact z
   ·rw [z] at hk; cases hk
  obtain ⟨c,hc⟩ := I.ok.has x (.inl hk)
  obtain ⟨w',z⟩ := I.cell x c hc
  refine wpAny_storeName_cell I.ok.kind hk hc z (fun h' hc' hs => ?_)
  obtain ⟨oc,hoc,hocd⟩ := id z
  refine h { s with heap := h' } ⟨I.ok,I.os,I.bare,⟨fun b o e n hb hx => ?_,fun b o e n hb hx => ?_,I.base.free,fun b o e hx => ?_,I.base.tups,I.base.frzs,I.base.tbls⟩,⟨m,hn.sameBut hs (Ne.symm (cne x c hc)),fun j y v' e1 e2 e3 => ?_⟩,fun y c' e => ?_,I.free,I.freeC,fun p hp => ?_,tracked ⟨oc,hoc,I.freeC x c hc⟩ hs,by simpa using I.len⟩ ⟨c,hs,.inr hc⟩
  ·exact (hs.2 b (Nat.ne_of_lt (Nat.lt_of_lt_of_le (Heap.lt_size e) (I.ok.cab x c hfn hc)))).trans (I.base.keep b o e n hb hx)
  ·obtain ⟨sl,e1⟩ := I.base.slot b o e n hb hx
   exact ⟨sl,(hs.2 b (Nat.ne_of_lt (Nat.lt_of_lt_of_le (Heap.lt_size e) (I.ok.cab x c hfn hc)))).trans e1⟩
  ·obtain ⟨o',e1⟩ := I.base.there b o e hx
   exact ⟨o',(hs.2 b (Nat.ne_of_lt (Nat.lt_of_lt_of_le (Heap.lt_size e) (I.ok.cab x c hfn hc)))).trans e1⟩
  ·by_cases hj : j = i
   ·subst hj
    rw [hi] at e1; cases e1
    rw [List.getElem?_set_self hiσ] at e2
    cases e2
    exact ⟨u,r,.inr ⟨.inl hk,c,hc,hc'⟩⟩
   ·rw [List.getElem?_set_ne (Ne.symm hj)] at e2
    obtain ⟨u',r',q⟩ := hl j y v' e1 e2 e3
    refine ⟨u',r',?_⟩
    rcases q with q | ⟨k,c',e,z'⟩
    ·exact .inl q
    ·refine .inr ⟨k,c',e,z'.sameBut hs ?_⟩
     rintro rfl
     exact hj (nodup_ix hN e1 (I.ok.inj _ _ _ e hc ▸ hi))
  ·by_cases hcc : c' = c
   ·subst hcc; exact ⟨_,hc'⟩
   ·obtain ⟨w2,z2⟩ := I.cell y c' e
    exact ⟨w2,z2.sameBut hs hcc⟩
  ·obtain ⟨e,n,ne,nf,d⟩ := I.pin p hp
   refine ⟨(hs.2 p.1 ?_).trans e,n,ne,nf,d⟩
   intro q
   rw [q,hoc] at e
   have q' : oc = p.2 := Option.some.inj e
   exact d w' (by rw [← q']; exact hocd)
theorem store_ok {M : Model} {A : Around} {E : Value → Shared → Prop} {i : Nat} {x : Str} {v : V} {u : Value} {Q : Unit → Shared → Prop} (I : Inv X pins σ H s) (hN : X.N.Nodup) (hi : X.N[i]? = some x) (hx : Loc X.env.scope x) (r : RelV v u)
  (h : ∀ s',Inv X pins (σ.set i (some v)) H s' → Q () s') (hf : X.fn x = true ∨ X.env.scope.names.lookup x = some .local := by first | exact .inl rfl | exact .inr rfl | assumption) : wpAny M A (storeName X.env x u) Q E s :=
 store_ok2 I hN hi hx r (fun s' I' _ => h s' I') hf
end
abbrev XK := Value → Option Addr → Hp → Prop
abbrev St := List (Option V)
abbrev VK := V → Hp → Prop
abbrev TE := St → Hp → VK → Prop
abbrev TT := St → Hp → (Bool → Hp → Prop) → Prop
abbrev TA := St → Hp → (List V → Hp → Prop) → Prop
structure Ends where
 nx : St → Hp → Prop
 rt : VK
 bk : St → Hp → Prop := fun _ _ => False
 ct : St → Hp → Prop := fun _ _ => False
abbrev TS := Ends → St → Hp → Prop
def EP (X : Cx) (pins : List (Addr × Obj)) (σ : St) (Q : VK) (u : Value) (s' : Shared) : Prop := ∃ v H',Inv X pins σ H' s' ∧ RelV v u ∧ Q v H'
def TP (X : Cx) (pins : List (Addr × Obj)) (σ : St) (Q : Bool → Hp → Prop) (b : Bool) (s' : Shared) : Prop := ∃ H',Inv X pins σ H' s' ∧ Q b H'
def AP (X : Cx) (pins : List (Addr × Obj)) (σ : St) (Q : List V → Hp → Prop) (us : List Value) (s' : Shared) : Prop := ∃ vs H',Inv X pins σ H' s' ∧ Vals vs us ∧ Q vs H'
def SP (X : Cx) (pins : List (Addr × Obj)) (D : Ends) (f : Flow) (s' : Shared) : Prop :=
 match f with
 | .next => ∃ σ' H',Inv X pins σ' H' s' ∧ D.nx σ' H'
 | .brk => ∃ σ' H',Inv X pins σ' H' s' ∧ D.bk σ' H'
 | .cont => ∃ σ' H',Inv X pins σ' H' s' ∧ D.ct σ' H'
 | .ret u => ∃ v σ' H',Inv X pins σ' H' s' ∧ RelV v u ∧ D.rt v H'
def PE (X : Cx) (e : Expr) (t : TE) : Prop :=
 ∀ (pins : List (Addr × Obj)) (s : Shared) (σ : St) (H : Hp) (Q : VK),Inv X pins σ H s → t σ H Q → wpAny (model X.prog X.w) X.A (eval e X.env) (EP X pins σ Q) X.xe s
def PT (X : Cx) (e : Expr) (t : TT) : Prop :=
 ∀ (pins : List (Addr × Obj)) (s : Shared) (σ : St) (H : Hp) (Q : Bool → Hp → Prop),Inv X pins σ H s → t σ H Q → wpAny (model X.prog X.w) X.A (isTrue e X.env (eval e X.env)) (TP X pins σ Q) X.xe s
def PW (X : Cx) (e : Expr) (t : TT) : Prop :=
 ∀ (whole : Sem Value) (pins : List (Addr × Obj)) (s : Shared) (σ : St) (H : Hp) (Q : Bool → Hp → Prop),Inv X pins σ H s → t σ H Q → wpAny (model X.prog X.w) X.A (isTrue e X.env whole) (TP X pins σ Q) X.xe s
theorem PW.pt {X : Cx} {e : Expr} {t : TT} (h : PW X e t) : PT X e t := h _
def PA (X : Cx) (es : List Expr) (t : TA) : Prop :=
 ∀ (pos : Pos) (pins : List (Addr × Obj)) (s : Shared) (σ : St) (H : Hp) (Q : List V → Hp → Prop),Inv X pins σ H s → t σ H Q → wpAny (model X.prog X.w) X.A (spliced (backTo pos (starEach es X.env))) (AP X pins σ Q) X.xe s
def PS (X : Cx) (st : Stmt) (t : TS) : Prop :=
 ∀ (pins : List (Addr × Obj)) (s : Shared) (σ : St) (H : Hp) (D : Ends),Inv X pins σ H s → t D σ H → wpAny (model X.prog X.w) X.A (exec st X.env) (SP X pins D) X.xe s
def PSs (X : Cx) (st : List Stmt) (t : TS) : Prop :=
 ∀ (pins : List (Addr × Obj)) (s : Shared) (σ : St) (H : Hp) (D : Ends),Inv X pins σ H s → t D σ H → wpAny (model X.prog X.w) X.A (execs st X.env) (SP X pins D) X.xe s
theorem thn {α : Type} {t : Sem α} {Q Q' : α → Shared → Prop} {M : Model} {A : Around} {E : Value → Shared → Prop} {s : Shared} (h : wpAny M A t Q E s) (hQ : ∀ a s,Q a s → Q' a s) : wpAny M A t Q' E s := wpAny_mono h hQ fun _ _ x => x
end L2
namespace L2
open PySem PySem.Spec PyProof.Rows
section
variable {X : Cx}
def tVar (i : Nat) : TE := fun σ H Q => ∃ v,σ[i]? = some (some v) ∧ Q v H
def tC (v : V) : TE := fun _ H Q => Q v H
theorem pe_var {i : Nat} {x : Str} {pos : Pos} (hN : X.N[i]? = some x) (hv : Vis X.env.scope x) (hd : (x == ("__debug__" : Str)) = false := by decide) (hcd : (x == ("__classdict__" : Str)) = false := by decide) : PE X (.Name x pos) (tVar i) := by
 intro pins s σ H Q I h
 obtain ⟨v,e,h⟩ := h
 obtain ⟨m,hn,hl⟩ := I.loc
 obtain ⟨u,r,l⟩ := hl i x v hN e hv
 have fin : EP X pins σ Q u s := ⟨v,H,I,r,h⟩
 rcases l with ⟨hk,hm⟩ | ⟨hk,c,hc,hcell⟩
 ·exact wpAny_Name (wpAny_loadName_local I.ok.kind hk hn hm fin) hd
 ·rcases hk with hk | hk
  ·exact wpAny_Name (wpAny_loadName_cell I.ok.kind hk hc hcell fin) hd
  ·exact wpAny_Name (wpAny_loadName_free I.ok.kind hk hc hcell fin hcd) hd
theorem pe_int {i j pos} : PE X (.Constant (.int i) j pos) (tC (.int i)) := fun _ _ _ H _ I h => wpAny_Constant_int ⟨.int i,H,I.tok _,⟨_,rfl⟩,h⟩
theorem pe_bl {b j pos} : PE X (.Constant (.bool b) j pos) (tC (.bl b)) := fun _ _ _ H _ I h => Constant_bool ⟨.bl b,H,I,rfl,h⟩
theorem pe_non {j pos} : PE X (.Constant .none j pos) (tC .non) := fun _ _ _ H _ I h => Constant_none ⟨.non,H,I,rfl,h⟩
def Gl (X : Cx) (x : Str) : Prop := X.env.kindOf x = some .globalImplicit
theorem ld_glob {E : Value → Shared → Prop} {pins : List (Addr × Obj)} {s : Shared} {σ : St} {H : Hp} {x : Str} {u : Value} {pos : Pos} {Q : Value → Shared → Prop} (I : Inv X pins σ H s) (hg : Gl X x) (hm : X.mg x = some u) (h : Q u s)
  (hd : (x == ("__debug__" : Str)) = false := by decide) : wpAny (model X.prog X.w) X.A (eval (.Name x pos) X.env) Q E s :=
 Calls.Name_function_global I.ok.kind hg (Calls.loadGlobal_global (by rw [I.ok.glob]; exact I.mod.glob.keeps I.bk) hm h) hd
theorem ld_blt {E : Value → Shared → Prop} {pins : List (Addr × Obj)} {s : Shared} {σ : St} {H : Hp} {x : Str} {u : Value} {pos : Pos} {Q : Value → Shared → Prop} (I : Inv X pins σ H s) (hg : Gl X x) (hm : X.mg x = none) (hv : bootBuiltins x = some u) (h : Q u s)
  (hn : x ≠ "__name__" := by decide) (hd : (x == ("__debug__" : Str)) = false := by decide) : wpAny (model X.prog X.w) X.A (eval (.Name x pos) X.env) Q E s := by
 obtain ⟨mb,h1,h2⟩ := I.mod.blt
 exact Calls.Name_function_global I.ok.kind hg (Calls.loadGlobal_builtin (by rw [I.ok.glob]; exact I.mod.glob.keeps I.bk) hm (by rw [I.ok.blt]; exact h1.keeps I.bk) ((h2 x hn).trans hv) h) hd
theorem pe_bltn {x : Str} {v : V} {u : Value} {pos : Pos} (hg : Gl X x) (hm : X.mg x = none) (hv : bootBuiltins x = some u) (r : RelV v u) (hn : x ≠ "__name__" := by decide) (hd : (x == ("__debug__" : Str)) = false := by decide) : PE X (.Name x pos) (tC v) :=
 fun _ _ _ H _ I h => ld_blt I hg hm hv ⟨v,H,I,r,h⟩ hn hd
variable {a b : Expr} {ta tb : TE} {pos : Pos}
def PC (X : Cx) (op : CmpOp) (a b : Expr) (t : TE) : Prop :=
 ∀ (pins : List (Addr × Obj)) (s : Shared) (σ : St) (H : Hp) (Q : VK),Inv X pins σ H s → t σ H Q →
  wpAny (model X.prog X.w) X.A (eval a X.env) (fun v s₁ => wpAny (model X.prog X.w) X.A (eval b X.env) (fun u s₂ => wpAny (model X.prog X.w) X.A (compareOp op v u) (EP X pins σ Q) X.xe s₂) X.xe s₁) X.xe s
theorem nobehind (b : Expr) {op : CmpOp} (h : op ≠ .In) (h2 : op ≠ .NotIn) : behindInMarks op b = false := by
 have e1 : (op == CmpOp.In) = false := by cases op <;> first | rfl | exact absurd rfl h
 have e2 : (op == CmpOp.NotIn) = false := by cases op <;> first | rfl | exact absurd rfl h2
 cases b <;> simp [behindInMarks,e1,e2]
def tIsN (ta : TE) : TE := fun σ H Q => ta σ H fun x H1 => Q (.bl (decide (x = .non))) H1
theorem RelV.none_iff {x : V} {v : Value} (r : RelV x v) : (v == Value.none) = decide (x = .non) := by
 cases x with
 | non => cases r; rfl
 | bl _ => cases r; rfl
 | int _ => obtain ⟨t,rfl⟩ := r; rfl
 | str _ => obtain ⟨t,rfl⟩ := r; rfl
 | byt _ => obtain ⟨t,rfl⟩ := r; rfl
 | flt _ => obtain ⟨t,rfl⟩ := r; rfl
 | ref _ => cases r; rfl
 | ty _ => cases r; rfl
theorem pc_isN {j pos'} (ha : PE X a ta) : PC X .Is a (.Constant .none j pos') (tIsN ta) := by
 intro pins s σ H Q I h
 refine thn (ha pins s σ H _ I h) fun v s1 ⟨x,H1,I1,r1,q1⟩ => ?_
 exact Constant_none (is_none_gen ⟨.bl _,H1,I1,by rw [r1.none_iff]; rfl,q1⟩)
def tB (t : TE) : TT := fun σ H Q => t σ H fun x H1 => ∃ c,x = .bl c ∧ Q c H1
theorem pe_cmp {op : CmpOp} {t : TE} (h : PC X op a b t) (h1 : behindInMarks op b = false := by first | exact nobehind _ (by decide) (by decide) | rfl) : PE X (.Compare a [op] [b] pos) t := fun pins s σ H Q I hw => wpAny_Compare1 (h pins s σ H Q I hw) h1
theorem pt_val {e : Expr} {t : TE} (h : PE X e t) (he : ∀ whole,isTrue e X.env whole = (do let v ← whole; standAt e.pos; holding [v] (truthy v)) := by intro _; rfl) : PT X e (tB t) := by
 intro pins s σ H Q I hw
 refine isTrue_plain (thn (h pins s σ H _ I hw) fun v s1 ⟨x,H1,I1,r1,q1⟩ => ?_) (he _)
 obtain ⟨d,rfl,q⟩ := q1
 cases r1
 exact wpAny_truthy_bool ⟨H1,I1,q⟩
variable {tA tB' : TT} {rest : List Expr}
def tAnd (t u : TT) : TT := fun σ H Q => t σ H fun c H1 => if c = true then u σ H1 Q else Q false H1
def tOr (t u : TT) : TT := fun σ H Q => t σ H fun c H1 => if c = true then Q true H1 else u σ H1 Q
def tNot (t : TT) : TT := fun σ H Q => t σ H fun c H1 => Q (!c) H1
theorem pw_and1 (ha : PT X a tA) : PW X (.BoolOp .And [a] pos) tA := by
 intro wh pins s σ H Q I h
 refine isTrue_and (thn (ha pins s σ H Q I h) fun c s1 e => ?_)
 cases c with
 | true => exact isTrue_and_nil e
 | false => exact e
theorem pw_or1 (ha : PT X a tA) : PW X (.BoolOp .Or [a] pos) tA := by
 intro wh pins s σ H Q I h
 refine isTrue_or (thn (ha pins s σ H Q I h) fun c s1 e => ?_)
 cases c with
 | false => exact isTrue_or_nil e
 | true => exact e
theorem pw_and (ha : PT X a tA) (hb : PW X (.BoolOp .And (b :: rest) pos) tB') : PW X (.BoolOp .And (a :: b :: rest) pos) (tAnd tA tB') := by
 intro wh pins s σ H Q I h
 refine isTrue_and (thn (ha pins s σ H _ I h) fun c s1 ⟨H1,I1,q1⟩ => ?_)
 cases c with
 | true => exact hb wh pins s1 σ H1 Q I1 q1
 | false => exact ⟨H1,I1,q1⟩
theorem pw_or (ha : PT X a tA) (hb : PW X (.BoolOp .Or (b :: rest) pos) tB') : PW X (.BoolOp .Or (a :: b :: rest) pos) (tOr tA tB') := by
 intro wh pins s σ H Q I h
 refine isTrue_or (thn (ha pins s σ H _ I h) fun c s1 ⟨H1,I1,q1⟩ => ?_)
 cases c with
 | true => exact ⟨H1,I1,q1⟩
 | false => exact hb wh pins s1 σ H1 Q I1 q1
theorem pt_not (ha : PT X a tA) : PT X (.UnaryOp .Not a pos) (tNot tA) := by
 intro pins s σ H Q I h
 exact isTrue_not (ha pins s σ H (fun c H1 => Q (!c) H1) I h)
def tAndV (ta tb : TE) : TE := fun σ H Q => ta σ H fun x H1 => ∃ c,x = .bl c ∧ if c = true then tb σ H1 Q else Q (.bl false) H1
def tNotV (ta : TE) : TE := fun σ H Q => ta σ H fun x H1 => ∃ c,x = .bl c ∧ Q (.bl (!c)) H1
theorem pe_one {op} {t : TE} (h : PE X a t) : PE X (.BoolOp op [a] pos) t := fun pins s σ H Q I hw => BoolOp_one (h pins s σ H Q I hw)
theorem pe_and (ha : PE X a ta) (hb : PE X (.BoolOp .And (b :: rest) pos) tb) : PE X (.BoolOp .And (a :: b :: rest) pos) (tAndV ta tb) := by
 intro pins s σ H Q I h
 refine BoolOp_and (thn (ha pins s σ H _ I h) fun v s1 ⟨x,H1,I1,r1,q1⟩ => ?_)
 obtain ⟨c,rfl,q1⟩ := q1
 cases r1
 refine wpAny_truthy_bool ?_
 cases c with
 | true => exact hb pins s1 σ H1 Q I1 q1
 | false => exact ⟨.bl false,H1,I1,rfl,q1⟩
theorem pe_not (ha : PE X a ta) : PE X (.UnaryOp .Not a pos) (tNotV ta) := by
 intro pins s σ H Q I h
 refine UnaryOp_ (thn (ha pins s σ H _ I h) fun v s1 ⟨x,H1,I1,r1,q1⟩ => ?_)
 obtain ⟨c,rfl,q1⟩ := q1
 cases r1
 exact not_of (wpAny_truthy_bool ⟨.bl (!c),H1,I1,rfl,q1⟩)
def tIf (t : TT) (ta tb : TE) : TE := fun σ H Q => t σ H fun c H1 => if c = true then ta σ H1 Q else tb σ H1 Q
theorem pe_ifExp {c : Expr} (hc : PT X c tA) (ha : PE X a ta) (hb : PE X b tb) : PE X (.IfExp c a b pos) (tIf tA ta tb) := by
 intro pins s σ H Q I h
 refine wpAny_IfExp (thn (hc pins s σ H _ I h) fun d s1 ⟨H1,I1,q1⟩ => ?_)
 cases d with
 | true => exact ha pins s1 σ H1 Q I1 q1
 | false => exact hb pins s1 σ H1 Q I1 q1
end
end L2
namespace L2
open PySem PySem.Spec PyProof.Rows
def SqL (K : PySem.W.Frag) (H : Hp) (a : Addr) (xs : List V) : Prop :=
 Rd H a (.lst xs) ∨
  ∃ (o : Obj) (its : Array Value) (n : Nat),K.lookup a = some o ∧ o.cls = .type "list" ∧ o.dict = none ∧ o.data = .seq its n ∧ its.size ≤ sizeLine ∧ Vals xs its.toList
def SqT (K : PySem.W.Frag) (H : Hp) (a : Addr) (xs : List V) : Prop :=
 Rd H a (.tup xs) ∨
  ∃ (o : Obj) (its : Array Value) (n : Nat),K.lookup a = some o ∧ o.cls = .type "tuple" ∧ o.data = .seq its n ∧ its.size ≤ sizeLine ∧ Vals xs its.toList
def absV : Value → Option V
 | .none => some .non
 | .bool b => some (.bl b)
 | .int i _ => some (.int i)
 | .str x _ => some (.str x)
 | .bytes b _ => some (.byt b)
 | .float b _ => some (.flt b)
 | .ref a => some (.ref a)
 | .type n => some (.ty n)
 | _ => none
theorem RelV.abs {x : V} {u : Value} (r : RelV x u) : absV u = some x := by
 cases x with
 | non => cases r; rfl
 | bl _ => cases r; rfl
 | int _ => obtain ⟨t,rfl⟩ := r; rfl
 | str _ => obtain ⟨t,rfl⟩ := r; rfl
 | byt _ => obtain ⟨t,rfl⟩ := r; rfl
 | flt _ => obtain ⟨t,rfl⟩ := r; rfl
 | ref _ => cases r; rfl
 | ty _ => cases r; rfl
theorem RelV.inj {x y : V} {u : Value} (r : RelV x u) (q : RelV y u) : x = y := Option.some.inj (r.abs.symm.trans q.abs)
theorem Vals.inj : ∀ {xs ys : List V} {us : List Value},Vals xs us → Vals ys us → xs = ys
 | _,_,_,.nil,.nil => rfl
 | _,_,_,.cons r t,.cons r' t' => by rw [r.inj r',Vals.inj t t']
section
variable {X : Cx} {pins : List (Addr × Obj)} {σ : St} {H : Hp} {s : Shared} {a : Addr} {xs ys : List V}
theorem SqL.of {K : PySem.W.Frag} (h : H a = some (.lst xs)) : SqL K H a xs := .inl (.inl h)
theorem SqT.of {K : PySem.W.Frag} (h : H a = some (.tup xs)) : SqT K H a xs := .inl (.inl h)
theorem Inv.list (I : Inv X pins σ H s) (h : SqL X.K H a xs) : ∃ its : List Value,Vals xs its ∧ PlainL s.heap a its.toArray ∧ xs.length ≤ sizeLine := by
 rcases h with h | ⟨o,its,n,hk,hc,hd,hs,hz,r⟩
 ·obtain ⟨z,its,n,r,e⟩ := h.ok I.hok
  exact ⟨its,r,⟨_,n,e,rfl,rfl,rfl⟩,z⟩
 ·refine ⟨its.toList,r,⟨o,n,I.kIn a o hk,hc,hd,by simpa using hs⟩,?_⟩
  have e := r.length
  simp only [Array.length_toList] at e
  omega
theorem Inv.tuple (I : Inv X pins σ H s) (h : SqT X.K H a xs) : ∃ its : List Value,Vals xs its ∧ IsTup s.heap a its.toArray ∧ xs.length ≤ sizeLine := by
 rcases h with h | ⟨o,its,n,hk,hc,hs,hz,r⟩
 ·obtain ⟨z,its,r,p⟩ := h.ok I.hok
  exact ⟨its,r,p,z⟩
 ·refine ⟨its.toList,r,⟨o,I.kIn a o hk,hc,n,by simpa using hs⟩,?_⟩
  have e := r.length
  simp only [Array.length_toList] at e
  omega
theorem Inv.list_inj (I : Inv X pins σ H s) (h : SqL X.K H a xs) (h' : SqL X.K H a ys) : xs = ys := by
 obtain ⟨its,r,⟨o,n,e,_,_,d⟩,_⟩ := I.list h
 obtain ⟨its',r',⟨o',n',e',_,_,d'⟩,_⟩ := I.list h'
 rw [e] at e'; cases e'
 rw [d] at d'
 injection d' with d1 _
 have : its = its' := by simpa using congrArg Array.toList d1
 subst this
 exact r.inj r'
theorem Inv.tuple_inj (I : Inv X pins σ H s) (h : SqT X.K H a xs) (h' : SqT X.K H a ys) : xs = ys := by
 obtain ⟨its,r,⟨o,e,_,n,d⟩,_⟩ := I.tuple h
 obtain ⟨its',r',⟨o',e',_,n',d'⟩,_⟩ := I.tuple h'
 rw [e] at e'; cases e'
 rw [d] at d'
 injection d' with d1 _
 have : its = its' := by simpa using congrArg Array.toList d1
 subst this
 exact r.inj r'
end
abbrev Cx.wish (X : Cx) (E : Value → Shared → Prop) : Cx := { X with xe := E }
abbrev Cx.nox (X : Cx) : Cx := X.wish fun _ _ => False
theorem Cx.Ok.wish {X : Cx} (ok : X.Ok) (E : Value → Shared → Prop) : (X.wish E).Ok :=
 ⟨ok.mod,ok.kind,ok.glob,ok.blt,ok.above,ok.inj,ok.has,ok.cab,ok.hd,ok.frames,ok.stk,ok.exf,ok.bs,ok.bsz,ok.noex,ok.exfs,ok.funs,ok.frf⟩
theorem Cx.Ok.unwish {X : Cx} {E : Value → Shared → Prop} (ok : (X.wish E).Ok) : X.Ok :=
 ⟨ok.mod,ok.kind,ok.glob,ok.blt,ok.above,ok.inj,ok.has,ok.cab,ok.hd,ok.frames,ok.stk,ok.exf,ok.bs,ok.bsz,ok.noex,ok.exfs,ok.funs,ok.frf⟩
section
variable {X : Cx} {pins : List (Addr × Obj)} {σ : St} {H : Hp} {s : Shared} {E : Value → Shared → Prop}
theorem Inv.wish (I : Inv X pins σ H s) (E : Value → Shared → Prop) : Inv (X.wish E) pins σ H s := ⟨I.ok.wish E,I.os,I.bare,I.base,I.loc,I.cell,I.free,I.freeC,I.pin,I.hok,I.len⟩
theorem Inv.unwish (I : Inv (X.wish E) pins σ H s) : Inv X pins σ H s := ⟨I.ok.unwish,I.os,I.bare,I.base,I.loc,I.cell,I.free,I.freeC,I.pin,I.hok,I.len⟩
theorem SP.unwish {D : Ends} {f : Flow} {s' : Shared} (h : SP (X.wish E) pins D f s') : SP X pins D f s' := by
 cases f with
 | next => obtain ⟨σ',H',I,q⟩ := h; exact ⟨σ',H',I.unwish,q⟩
 | brk => obtain ⟨σ',H',I,q⟩ := h; exact ⟨σ',H',I.unwish,q⟩
 | cont => obtain ⟨σ',H',I,q⟩ := h; exact ⟨σ',H',I.unwish,q⟩
 | ret u => obtain ⟨v,σ',H',I,r,q⟩ := h; exact ⟨v,σ',H',I.unwish,r,q⟩
theorem PE.nox {e : Expr} {t : TE} (h : PE X.nox e t) : PE X e t := fun pins s σ H Q I hw =>
 wpAny_mono (h pins s σ H Q (I.wish _) hw) (fun _ _ ⟨v,H',I',r,q⟩ => ⟨v,H',I'.unwish,r,q⟩) fun _ _ z => False.elim z
theorem PT.nox {e : Expr} {t : TT} (h : PT X.nox e t) : PT X e t := fun pins s σ H Q I hw =>
 wpAny_mono (h pins s σ H Q (I.wish _) hw) (fun _ _ ⟨H',I',q⟩ => ⟨H',I'.unwish,q⟩) fun _ _ z => False.elim z
theorem PSs.nox {st : List Stmt} {t : TS} (h : PSs X.nox st t) : PSs X st t := fun pins s σ H D I hw =>
 wpAny_mono (h pins s σ H D (I.wish _) hw) (fun _ _ q => q.unwish) fun _ _ z => False.elim z
end
section
variable {X : Cx} {st : Stmt} {rest : List Stmt} {t u : TS} {e : Expr} {te : TE} {pos : Pos}
def tNext : TS := fun D σ H => D.nx σ H
def tSeq (t u : TS) : TS := fun D σ H => t { D with nx := u D } σ H
theorem pss_nil : PSs X [] tNext := fun _ _ σ H _ I h => wpAny_execs_nil ⟨σ,H,I,h⟩
theorem pss_cons (h1 : PS X st t) (h2 : PSs X rest u) : PSs X (st :: rest) (tSeq t u) := by
 intro pins s σ H D I h
 refine wpAny_execs_cons (thn (h1 pins s σ H { D with nx := u D } I h) fun f s1 q => ?_)
 cases f with
 | next =>
  obtain ⟨σ',H',I',q⟩ := q
  exact h2 pins s1 σ' H' D I' q
 | ret v => exact q
 | brk => exact q
 | cont => exact q
theorem pss_one (h1 : PS X st t) : PSs X [st] t := by
 intro pins s σ H D I h
 refine wpAny_execs_cons (thn (h1 pins s σ H D I h) fun f s1 q => ?_)
 cases f with
 | next => exact wpAny_execs_nil q
 | ret v => exact q
 | brk => exact q
 | cont => exact q
theorem Inv.quiet {pins : List (Addr × Obj)} {σ : St} {H : Hp} {s : Shared} (I : Inv X pins σ H s) : interactive X.env = false := by simp [interactive,I.ok.kind]
def tDrop (te : TE) : TS := fun D σ H => te σ H fun _ H1 => D.nx σ H1
theorem ps_expr (he : PE X e te) (hs : swapsWith e none pos.line X.env = pure false := by rfl) : PS X (.Expr e pos) (tDrop te) := by
 intro pins s σ H D I h
 exact wpAny_Expr_any (thn (he pins s σ H _ I h) fun v s1 ⟨x,H1,I1,r1,q1⟩ => ⟨σ,H1,I1,q1⟩) I.quiet hs
def tRet (te : TE) : TS := fun D σ H => te σ H D.rt
theorem ps_ret (he : PE X e te) : PS X (.Return (some e) pos) (tRet te) := by
 intro pins s σ H D I h
 exact wpAny_Return_some (thn (he pins s σ H _ I h) fun v s1 ⟨x,H1,I1,r1,q1⟩ => ⟨x,σ,H1,I1,r1,q1⟩)
def tRetN : TS := fun D _ H => D.rt .non H
theorem ps_retN : PS X (.Return none pos) tRetN := fun _ _ σ H _ I h => wpAny_Return_none ⟨.non,σ,H,I,rfl,h⟩
def tIfS (c : TT) (t u : TS) : TS := fun D σ H => c σ H fun b H1 => if b = true then t D σ H1 else u D σ H1
theorem ps_if {c : Expr} {a b : List Stmt} {tc : TT} (hc : PT X c tc) (ha : PSs X a t) (hb : PSs X b u) : PS X (.If c a b pos) (tIfS tc t u) := by
 intro pins s σ H D I h
 refine wpAny_If (thn (hc pins s σ H _ I h) fun d s1 ⟨H1,I1,q1⟩ => ?_)
 cases d with
 | true => exact ha pins s1 σ H1 D I1 q1
 | false => exact hb pins s1 σ H1 D I1 q1
def tNever : TS := fun _ _ _ => False
theorem ps_never : PS X st tNever := fun _ _ _ _ _ _ h => h.elim
end
abbrev TG := V → St → Hp → (St → Hp → Prop) → Prop
abbrev TGs := List V → St → Hp → (St → Hp → Prop) → Prop
def PG (X : Cx) (target : Expr) (t : TG) : Prop :=
 ∀ (pins : List (Addr × Obj)) (s : Shared) (σ : St) (H : Hp) (v : V) (u : Value) (Q : St → Hp → Prop),Inv X pins σ H s → RelV v u → t v σ H Q →
  wpAny (model X.prog X.w) X.A (assign target X.env u) (fun _ s' => ∃ σ' H',Inv X pins σ' H' s' ∧ Q σ' H') X.xe s
def PGs (X : Cx) (ts : List Expr) (t : TGs) : Prop :=
 ∀ (pins : List (Addr × Obj)) (s : Shared) (σ : St) (H : Hp) (vs : List V) (us : List Value) (Q : St → Hp → Prop),Inv X pins σ H s → Vals vs us → t vs σ H Q →
  wpAny (model X.prog X.w) X.A (assignInOrder ((assignEach ts X.env).map (·.2)) us) (fun _ s' => ∃ σ' H',Inv X pins σ' H' s' ∧ Q σ' H') X.xe s
abbrev TSet := V → V → V → Hp → (Hp → Prop) → Prop
def PSet (X : Cx) (t : TSet) : Prop :=
 ∀ (pins : List (Addr × Obj)) (s : Shared) (σ : St) (H : Hp) (o i v : V) (ov iv u : Value) (Q : Hp → Prop),Inv X pins σ H s → RelV o ov → RelV i iv → RelV v u → t o i v H Q →
  wpAny (model X.prog X.w) X.A (setItem ov iv u) (fun _ s' => ∃ H',Inv X pins σ H' s' ∧ Q H') X.xe s
abbrev TIp := V → V → Hp → VK → Prop
def PIp (X : Cx) (op : Operator) (t : TIp) : Prop :=
 ∀ (pins : List (Addr × Obj)) (s : Shared) (σ : St) (H : Hp) (x y : V) (v u : Value) (Q : VK),Inv X pins σ H s → RelV x v → RelV y u → t x y H Q →
  wpAny (model X.prog X.w) X.A (inplaceOp op v u) (EP X pins σ Q) X.xe s
section
variable {X : Cx} {pos : Pos}
def gName (i : Nat) : TG := fun v σ H Q => Q (σ.set i (some v)) H
theorem pg_name {i : Nat} {x : Str} (hN : X.N.Nodup) (hi : X.N[i]? = some x) (hx : Loc X.env.scope x) (hf : X.fn x = true ∨ X.env.scope.names.lookup x = some .local := by first | exact .inl rfl | exact .inr rfl | assumption) : PG X (.Name x pos) (gName i) := by
 intro pins s σ H v u Q I r h
 exact wpAny_assign_Name (store_ok I hN hi hx r (fun s' I' => ⟨_,H,I',h⟩) hf)
def gNil : TGs := fun vs σ H Q => vs = [] ∧ Q σ H
def gCons (t : TG) (u : TGs) : TGs := fun vs σ H Q => ∃ v r,vs = v :: r ∧ t v σ H fun σ' H' => u r σ' H' Q
theorem pgs_nil : PGs X [] gNil := by
 intro pins s σ H vs us Q I r h
 obtain ⟨e,h⟩ := h
 subst e
 cases r
 exact assignInOrder_nil ⟨σ,H,I,h⟩
theorem pgs_cons {e : Expr} {es : List Expr} {t : TG} {u : TGs} (h1 : PG X e t) (h2 : PGs X es u)
  (hs : (assignEach (e :: es) X.env).map (·.2) = assign e X.env :: (assignEach es X.env).map (·.2) := by rfl) : PGs X (e :: es) (gCons t u) := by
 intro pins s σ H vs us Q I r h
 obtain ⟨v,vr,e1,h⟩ := h
 subst e1
 cases r with
 | cons r rr =>
  rw [hs]
  refine assignInOrder_cons (thn (h1 pins s σ H _ _ _ I r h) fun _ s1 ⟨σ1,H1,I1,q1⟩ => ?_)
  exact h2 pins s1 σ1 H1 _ _ Q I1 rr q1
def gTup (K : PySem.W.Frag) (n : Nat) (t : TGs) : TG := fun v σ H Q => ∃ a xs,v = .ref a ∧ SqT K H a xs ∧ xs.length = n ∧ t xs σ H Q
theorem pg_tup {es : List Expr} {k : Nat} {t : TGs} {n : Nat} (hc : X.calm = true) (h : PGs X es t)
  (hn : (assignEach es X.env).length = n := by rfl) (hst : (assignEach es X.env).findIdx? (·.1) = none := by rfl) : PG X (.Tuple es k pos) (gTup X.K n t) := by
 intro pins s σ H v u Q I r hw
 obtain ⟨a,xs,e1,hq,hl,hw⟩ := hw
 subst e1
 cases r
 obtain ⟨its,rv,ht,hz⟩ := I.tuple hq
 refine assign_Tuple_tuple (I.ok.hd hc) ht (by simp [hn,← hl,rv.length]) hst fun h' hx => ?_
 have I1 : Inv X pins σ H { s with heap := h' } := I.kept (t' := s.toks) fun b o e => hx b o (Nat.ne_of_lt (Heap.lt_size e)) e
 exact h pins _ σ H xs _ Q I1 (by simpa using rv) hw
def gSub (to ti : TE) (t : TSet) : TG := fun v σ H Q => to σ H fun o H1 => ti σ H1 fun i H2 => t o i v H2 fun H3 => Q σ H3
theorem pg_sub {o i : Expr} {to ti : TE} {t : TSet} (ho : PE X o to) (hi : PE X i ti) (hs : PSet X t)
  (ha : ∀ v,assign (.Subscript o i pos) X.env v = (do
   let ov ← holding [v] (eval o X.env)
   let iv ← holding [v,ov] (eval i X.env)
   standAt pos
   holding [v,ov,iv] (setItem ov iv v)
   release [v,ov,iv] []) := by intro _; rfl) : PG X (.Subscript o i pos) (gSub to ti t) := by
 intro pins s σ H v u Q I r h
 rw [ha]
 refine wpAny_bind (wpAny_holding (thn (ho pins s σ H _ I h) fun ov s1 ⟨x,H1,I1,r1,q1⟩ => ?_))
 refine wpAny_bind (wpAny_holding (thn (hi pins s1 σ H1 _ I1 q1) fun iv s2 ⟨y,H2,I2,r2,q2⟩ => ?_))
 refine wpAny_bind (wpAny_standAt (wpAny_bind (wpAny_holding (thn (hs pins s2 σ H2 x y v ov iv u _ I2 r1 r2 r q2) fun _ s3 ⟨H3,I3,q3⟩ => ?_))))
 exact wpAny_release ⟨σ,H3,I3,q3⟩
def tAsg (te : TE) (g : TG) : TS := fun D σ H => te σ H fun x H1 => g x σ H1 D.nx
theorem ps_asg {tg e : Expr} {te : TE} {g : TG} (he : PE X e te) (hg : PG X tg g) (hs : swapsWithSole [tg] e pos.line X.env = pure false := by rfl) (hw : swappedStores [tg] e X.env = pure none := by rfl)
  (h1 : (assignEach [tg] X.env).map (·.2) = [assign tg X.env] := by rfl) : PS X (.Assign [tg] e pos) (tAsg te g) := by
 intro pins s σ H D I h
 refine wpAny_Assign_stores (thn (he pins s σ H _ I h) fun v s1 ⟨x,H1,I1,r1,q1⟩ => ?_) hs hw
 rw [h1]
 exact thn (hg pins s1 σ H1 x v _ I1 r1 q1) fun _ s2 q => q
theorem ps_set {i : Nat} {x : Str} {e : Expr} {te : TE} {pos' : Pos} (hN : X.N.Nodup) (hi : X.N[i]? = some x) (hx : Loc X.env.scope x) (he : PE X e te) (hs : swapsWith e (some (.Name x pos')) pos.line X.env = pure false := by rfl) (hf : X.fn x = true ∨ X.env.scope.names.lookup x = some .local := by first | exact .inl rfl | exact .inr rfl | assumption) :
  PS X (.Assign [.Name x pos'] e pos) (tAsg te (gName i)) := by
 intro pins s σ H D I h
 refine wpAny_Assign_Name (thn (he pins s σ H _ I h) fun v s1 ⟨y,H1,I1,r1,q1⟩ => ?_) hs
 exact store_ok I1 hN hi hx r1 (fun s2 I2 => ⟨_,H1,I2,q1⟩) hf
def tAug (i : Nat) (te : TE) (ti : TIp) : TS := fun D σ H => ∃ x,σ[i]? = some (some x) ∧ te σ H fun y H1 => ti x y H1 fun z H2 => D.nx (σ.set i (some z)) H2
theorem ps_aug {i : Nat} {x : Str} {e : Expr} {te : TE} {op : Operator} {ti : TIp} {pos' : Pos} (hN : X.N.Nodup) (hi : X.N[i]? = some x) (hx : Loc X.env.scope x) (he : PE X e te) (ho : PIp X op ti) (hf : X.fn x = true ∨ X.env.scope.names.lookup x = some .local := by first | exact .inl rfl | exact .inr rfl | assumption) :
  PS X (.AugAssign (.Name x pos') op e pos) (tAug i te ti) := by
 intro pins s σ H D I h
 obtain ⟨v,e1,h⟩ := h
 obtain ⟨m,hn,hl⟩ := I.loc
 have vis : Vis X.env.scope x := by rcases hx with k | k; exact .inl k; exact .inr (.inl k)
 obtain ⟨u,r,l⟩ := hl i x v hi e1 vis
 refine wpAny_AugAssign_Name ?_
 have go : wpAny (model X.prog X.w) X.A (eval e X.env) (fun w s₂ => wpAny (model X.prog X.w) X.A (inplaceOp op u w) (fun r s₃ => wpAny (model X.prog X.w) X.A (storeName X.env x r) (fun _ => SP X pins D .next) X.xe s₃) X.xe s₂) X.xe s := by
  refine thn (he pins s σ H _ I h) fun w s1 ⟨y,H1,I1,r1,q1⟩ => ?_
  refine thn (ho pins s1 σ H1 v y u w _ I1 r r1 q1) fun z s2 ⟨zv,H2,I2,r2,q2⟩ => ?_
  exact store_ok I2 hN hi hx r2 (fun s3 I3 => ⟨_,H2,I3,q2⟩) hf
 rcases l with ⟨hk,hm⟩ | ⟨hk,c,hc,hcell⟩
 ·exact wpAny_loadName_local I.ok.kind hk hn hm go
 ·rcases hk with hk | hk
  ·exact wpAny_loadName_cell I.ok.kind hk hc hcell go
  ·rcases hx with k | k
   ·have : X.env.scope.names.lookup x = some .free := hk
    rw [k] at this; cases this
   ·have : X.env.scope.names.lookup x = some .free := hk
    rw [k] at this; cases this
def ipI (f : Int → Int → Int) : TIp := fun x y H Q => ∃ i j,x = .int i ∧ y = .int j ∧ Q (.int (f i j)) H
theorem ip_add : PIp X .Add (ipI fun i j => i + j) := by
 intro pins s σ H x y v u Q I r1 r2 h
 obtain ⟨i,j,e1,e2,q⟩ := h
 subst e1; subst e2
 obtain ⟨t,rfl⟩ := r1
 obtain ⟨t',rfl⟩ := r2
 exact iadd_int ⟨.int _,H,I.tok _,⟨_,rfl⟩,q⟩
end
section
variable {X : Cx} {pos : Pos}
def tWhile (c : TT) (tb : TS) : TS := fun D σ H => ∃ W : Nat → St → Hp → Prop,(∃ m,W m σ H) ∧ ∀ m σ H,W m σ H →
 c σ H fun b H1 => if b = true then ∃ N : St → Hp → Prop,(∀ σ' H',N σ' H' → ∃ m',m' < m ∧ W m' σ' H') ∧ tb { D with nx := N,ct := N,bk := D.nx } σ H1 else D.nx σ H1
theorem ps_while {c : Expr} {body : List Stmt} {tc : TT} {tb : TS} (hp : PassesOwn (model X.prog X.w) X.A X.env X.xe) (hc : PT X c tc) (hb : PSs X body tb) : PS X (.While c body [] pos) (tWhile tc tb) := by
 intro pins s σ H D I h
 obtain ⟨W,⟨m0,w0⟩,turn⟩ := h
 refine wpAny_While (codeAny_whileLoop (fun n s' => ∃ σ' H',Inv X pins σ' H' s' ∧ W n σ' H') ?_ m0 ⟨σ,H,I,w0⟩)
 rintro n s1 ⟨σ1,H1,I1,w1⟩
 refine wpAny_passesOwn hp (thn (hc pins s1 σ1 H1 _ I1 (turn n σ1 H1 w1)) fun b s2 ⟨H2,I2,q2⟩ => ?_)
 cases b with
 | true =>
  obtain ⟨N,hN,q2⟩ := q2
  rw [if_pos rfl]
  refine wpAny_passesOwn hp (thn (hb pins s2 σ1 H2 _ I2 q2) fun f s3 q3 => ?_)
  cases f with
  | next =>
   obtain ⟨σ3,H3,I3,n3⟩ := q3
   obtain ⟨m',hm,w3⟩ := hN σ3 H3 n3
   exact ⟨m',hm,σ3,H3,I3,w3⟩
  | cont =>
   obtain ⟨σ3,H3,I3,n3⟩ := q3
   obtain ⟨m',hm,w3⟩ := hN σ3 H3 n3
   exact ⟨m',hm,σ3,H3,I3,w3⟩
  | brk => exact q3
  | ret v => exact q3
 | false =>
  rw [if_neg Bool.false_ne_true]
  exact wpAny_execs_nil ⟨σ1,H2,I2,q2⟩
end
structure It where
 go : Nat → Hp → Prop
 yld : Nat → Hp → V → Hp → Prop
 stop : Nat → Hp → Prop
def FpOk (X : Cx) (pins : List (Addr × Obj)) (H : Hp) (b : Addr) : Prop :=
 H b = none ∧ b ≠ X.env.locals ∧ b ∉ X.fs ∧ (b ∈ X.ex ∨ X.s₀.heap.objs.size ≤ b) ∧ (∀ x c,X.env.cells.lookup x = some c → c ≠ b) ∧ ∀ p ∈ X.pn ++ pins,p.1 ≠ b
theorem Inv.fpOk {X : Cx} {pins : List (Addr × Obj)} {σ : St} {H H' : Hp} {s : Shared} {b : Addr} (I : Inv X pins σ H s) (hb : s.heap.objs.size ≤ b) (hn : H' b = none) : FpOk X pins H' b := by
 refine ⟨hn,Nat.ne_of_gt (Nat.lt_of_lt_of_le I.lt hb),I.nofs hb,.inr (Nat.le_trans I.sz hb),fun x c e z => ?_,fun p hp z => ?_⟩
 ·obtain ⟨v,q⟩ := I.cell x c e
  exact absurd (Nat.lt_of_lt_of_le q.lt (by rw [z]; exact hb)) (Nat.lt_irrefl _)
 ·exact absurd (Nat.lt_of_lt_of_le (Heap.lt_size (I.pin p hp).1) (by rw [z]; exact hb)) (Nat.lt_irrefl _)
structure Turn (P : Program) (w : World) (K : PySem.W.Frag) (tg : Expr) (J : It) (fp : List Addr) (it : Addr) (tn : Nat → Heap → Prop) : Prop where
 mem : it ∈ fp
 obj : ∀ i h,tn i h → ∀ b ∈ fp,∃ o,h.get? b = some o ∧ ∀ v,o.data ≠ .cell v
 keep : ∀ i h h',tn i h → (∀ b ∈ fp,∀ o,h.get? b = some o → h'.get? b = some o) → tn i h'
 item : ∀ (X : Cx),X.prog = P → X.w = w → X.K = K → X.calm = true → ∀ (i : Nat) (pins : List (Addr × Obj)) (s : Shared) (σ : St) (H : Hp) (E : Value → Shared → Prop),Inv X pins σ H s → (∀ b ∈ fp,FpOk X pins H b) → tn i s.heap → J.go i H →
  wpAny (model P w) X.A (pyNext (.ref it)) (fun r s1 => ∃ u,r = some u ∧
   wpAny (model P w) X.A (letOwnedTupleGo tg (.ref it) u) (fun _ s2 => ∃ x H',Inv X pins σ H' s2 ∧ RelV x u ∧ J.yld i H x H' ∧ tn (i + 1) s2.heap ∧ ∀ b ∈ fp,H' b = none) E s1) E s
 done : ∀ (X : Cx),X.prog = P → X.w = w → X.K = K → X.calm = true → ∀ (i : Nat) (pins : List (Addr × Obj)) (s : Shared) (σ : St) (H : Hp) (E : Value → Shared → Prop),Inv X pins σ H s → (∀ b ∈ fp,FpOk X pins H b) → tn i s.heap → J.stop i H →
  wpAny (model P w) X.A (pyNext (.ref it)) (fun r s1 => r = none ∧ Inv X pins σ H s1) E s
 self : ∀ (A : Around) (i : Nat) (s : Shared) (Q : Value → Shared → Prop) (E : Value → Shared → Prop),tn i s.heap → Q (.ref it) s → wpAny (model P w) A (pyIter (.ref it)) Q E s
abbrev TI := St → Hp → (It → Hp → Prop) → Prop
def PIE (X : Cx) (pins : List (Addr × Obj)) (σ : St) (tg : Expr) (R : It → Hp → Prop) (itv : Value) (s2 : Shared) : Prop :=
 ∃ (it : Addr) (fp : List Addr) (tn : Nat → Heap → Prop) (J : It) (H' : Hp),itv = .ref it ∧ Inv X pins σ H' s2 ∧ Turn X.prog X.w X.K tg J fp it tn ∧ tn 0 s2.heap ∧ (∀ b ∈ fp,FpOk X pins H' b) ∧ R J H'
def PI (X : Cx) (tg iter : Expr) (wi : TI) : Prop :=
 ∀ (pins : List (Addr × Obj)) (s : Shared) (σ : St) (H : Hp) (R : It → Hp → Prop),Inv X pins σ H s → wi σ H R →
  wpAny (model X.prog X.w) X.A (eval iter X.env) (fun v s1 => wpAny (model X.prog X.w) X.A (pyIter v) (PIE X pins σ tg R) X.xe s1) X.xe s
theorem go_of {M : Model} {A : Around} {E : Value → Shared → Prop} {s : Shared} {tg : Expr} {it : Addr} {u : Value} {o : Obj} {n : String} {vs : Array Value} {Q : Unit → Shared → Prop} (ho : s.heap.get? it = some o) (hc : o.cls = .type n) (hd : o.data = .fields vs)
  (hn : ["enumerate","zip","dict_itemiterator","dict_reverseitemiterator","odict_iterator","itertools.zip_longest","itertools.pairwise"].contains n = false) (hQ : Q () s) : wpAny M A (letOwnedTupleGo tg (.ref it) u) Q E s := by
 unfold letOwnedTupleGo
 cases tg <;> first
  | exact wpAny_pure hQ
  | (cases u <;> first
    | exact wpAny_pure hQ
    | (refine wpAny_bind (wpAny_load ho ?_)
       rw [hc,hd]
       show wpAny M A (if (["enumerate","zip","dict_itemiterator","dict_reverseitemiterator","odict_iterator","itertools.zip_longest","itertools.pairwise"].contains n && vs[0]? == some (rawInt _)) = true then _ else _) Q E s
       rw [if_neg (by intro h; rw [hn,Bool.false_and] at h; cases h)]
       exact wpAny_pure hQ))
def Itl (K : PySem.W.Frag) (a : Addr) : It :=
 ⟨fun i H => ∃ xs x,SqL K H a xs ∧ xs[i]? = some x,fun i H x H' => H' = H ∧ ∀ xs,SqL K H a xs → xs[i]? = some x,fun i H => ∃ xs,SqL K H a xs ∧ xs.length ≤ i⟩
def Itt (K : PySem.W.Frag) (a : Addr) : It :=
 ⟨fun i H => ∃ xs x,SqT K H a xs ∧ xs[i]? = some x,fun i H x H' => H' = H ∧ ∀ xs,SqT K H a xs → xs[i]? = some x,fun i H => ∃ xs,SqT K H a xs ∧ xs.length ≤ i⟩
def Itr (lo : Int) (n : Nat) : It := ⟨fun i _ => i < n,fun i H x H' => H' = H ∧ x = .int (lo + i),fun i _ => n ≤ i⟩
theorem turn_list {P : Program} {w : World} {K : PySem.W.Frag} {tg : Expr} (a it : Addr) : Turn P w K tg (Itl K a) [it] it (fun i h => h.IsListIter it a i) where
 mem := by simp
 obj := fun i h st b hb => by
  have e : b = it := by simpa using hb
  subst e
  obtain ⟨o,e,c,d⟩ := st
  exact ⟨o,e,fun v z => by rw [d] at z; cases z⟩
 keep := fun i h h' st k => st.at fun o e => k it (by simp) o e
 item := by
  intro X hP hw hK hc i pins s σ H E I hf st hg
  subst hP hw hK
  obtain ⟨xs,x,hq,hx⟩ := hg
  obtain ⟨its,rv,p,hz⟩ := I.list hq
  obtain ⟨u,hu,ru⟩ := rv.get hx
  obtain ⟨f0,f1,f2,f3,f4,f5⟩ := hf it (by simp)
  refine wpAny_pyNext_list_item st p.isList (x := u) (by simpa using hu) fun h' st' sb => ?_
  have I1 : Inv X pins σ H { s with heap := h' } := I.turned (t' := s.toks) (fun b o hb e => (sb.2 b hb).trans e) f0 f1 f3 f4 f5
  obtain ⟨o,e,c,d⟩ := id st'
  exact ⟨u,rfl,go_of (s := { s with heap := h' }) e c d (by decide) ⟨x,H,I1,ru,⟨rfl,fun ys hy => by rw [I.list_inj hy hq]; exact hx⟩,st',fun b hb => (hf b hb).1⟩⟩
 done := by
  intro X hP hw hK hc i pins s σ H E I hf st hg
  subst hP hw hK
  obtain ⟨xs,hq,hx⟩ := hg
  obtain ⟨its,rv,p,hz⟩ := I.list hq
  obtain ⟨f0,f1,f2,f3,f4,f5⟩ := hf it (by simp)
  have hl := rv.length
  exact wpAny_pyNext_list_end (I.ok.hd hc) st p.isList (by simp; omega) fun h' eb => ⟨rfl,I.turned (t' := s.toks) (fun b o hb e => eb b o hb e) f0 f1 f3 f4 f5⟩
 self := fun _ _ _ _ _ st h => wpAny_pyIter_listiter st h
theorem turn_tuple {P : Program} {w : World} {K : PySem.W.Frag} {tg : Expr} (a it : Addr) : Turn P w K tg (Itt K a) [it] it (fun i h => h.IsTupleIter it a i) where
 mem := by simp
 obj := fun i h st b hb => by
  have e : b = it := by simpa using hb
  subst e
  obtain ⟨o,e,c,d⟩ := st
  exact ⟨o,e,fun v z => by rw [d] at z; cases z⟩
 keep := fun i h h' st k => st.at fun o e => k it (by simp) o e
 item := by
  intro X hP hw hK hc i pins s σ H E I hf st hg
  subst hP hw hK
  obtain ⟨xs,x,hq,hx⟩ := hg
  obtain ⟨its,rv,p,hz⟩ := I.tuple hq
  obtain ⟨u,hu,ru⟩ := rv.get hx
  obtain ⟨f0,f1,f2,f3,f4,f5⟩ := hf it (by simp)
  refine wpAny_pyNext_tuple_item st (show s.heap.IsTuple a its.toArray from p) (x := u) (by simpa using hu) fun h' st' sb => ?_
  have I1 : Inv X pins σ H { s with heap := h' } := I.turned (t' := s.toks) (fun b o hb e => (sb.2 b hb).trans e) f0 f1 f3 f4 f5
  obtain ⟨o,e,c,d⟩ := id st'
  exact ⟨u,rfl,go_of (s := { s with heap := h' }) e c d (by decide) ⟨x,H,I1,ru,⟨rfl,fun ys hy => by rw [I.tuple_inj hy hq]; exact hx⟩,st',fun b hb => (hf b hb).1⟩⟩
 done := by
  intro X hP hw hK hc i pins s σ H E I hf st hg
  subst hP hw hK
  obtain ⟨xs,hq,hx⟩ := hg
  obtain ⟨its,rv,p,hz⟩ := I.tuple hq
  obtain ⟨f0,f1,f2,f3,f4,f5⟩ := hf it (by simp)
  have hl := rv.length
  exact wpAny_pyNext_tuple_end (I.ok.hd hc) st (show s.heap.IsTuple a its.toArray from p) (by simp; omega) fun h' eb => ⟨rfl,I.turned (t' := s.toks) (fun b o hb e => eb b o hb e) f0 f1 f3 f4 f5⟩
 self := fun _ _ _ _ _ st h => wpAny_pyIter_tupleiter st h
theorem turn_range {P : Program} {w : World} {K : PySem.W.Frag} {tg : Expr} (it : Addr) (lo : Int) (n : Nat) : Turn P w K tg (Itr lo n) [it] it (fun i h => IsRangeIter h it (lo + (i : Nat) * 1) ((n : Int) - (i : Nat)) 1) where
 mem := by simp
 obj := fun i h st b hb => by
  have e : b = it := by simpa using hb
  subst e
  exact ⟨_,st,fun v z => by
   have z' : Data.fields _ = Data.cell v := z
   cases z'⟩
 keep := fun i h h' st k => k it (by simp) _ st
 item := by
  intro X hP hw hK hc i pins s σ H E I hf st hg
  subst hP hw hK
  obtain ⟨f0,f1,f2,f3,f4,f5⟩ := hf it (by simp)
  have W := Walks.range (prog := X.prog) (w := X.w) (I.ok.hd hc) it lo 1 n
  refine W.item i s _ _ hg st fun v h' tk hv st' kk => ?_
  obtain ⟨t,rfl⟩ := hv
  have I1 : Inv X pins σ H { s with heap := h',toks := tk } := I.turned (fun b o hb e => kk b o (by simpa using hb) e) f0 f1 f3 f4 f5
  refine ⟨_,rfl,go_of (s := { s with heap := h',toks := tk }) (n := "range_iterator") st' rfl rfl (by decide) ⟨.int (lo + i),H,I1,⟨t,?_⟩,⟨rfl,rfl⟩,st',fun b hb => (hf b hb).1⟩⟩
  rw [Int.mul_one]
 done := by
  intro X hP hw hK hc i pins s σ H E I hf st hg
  subst hP hw hK
  obtain ⟨f0,f1,f2,f3,f4,f5⟩ := hf it (by simp)
  exact wpAny_pyNext_range_end (I.ok.hd hc) st (by have : n ≤ i := hg; omega) fun h' eb => ⟨rfl,I.turned (t' := s.toks) (fun b o hb e => eb b o hb e) f0 f1 f3 f4 f5⟩
 self := fun _ _ _ _ _ st h => wpAny_pyIter_rangeiter st h
end L2
namespace L2
open PySem PySem.Spec PyProof.Rows
section
variable {X : Cx} {tg : Expr}
def iList (K : PySem.W.Frag) (tl : TE) : TI := fun σ H R => tl σ H fun x H1 => ∃ a,x = .ref a ∧ (∃ xs,SqL K H1 a xs) ∧ R (Itl K a) H1
def iTup (K : PySem.W.Frag) (tl : TE) : TI := fun σ H R => tl σ H fun x H1 => ∃ a,x = .ref a ∧ (∃ xs,SqT K H1 a xs) ∧ R (Itt K a) H1
theorem pi_list {l : Expr} {tl : TE} (hl : PE X l tl) : PI X tg l (iList X.K tl) := by
 intro pins s σ H R I h
 refine thn (hl pins s σ H _ I h) fun v s1 ⟨x,H1,I1,r1,q1⟩ => ?_
 obtain ⟨a,e,⟨xs,hq⟩,q⟩ := q1
 subst e
 cases r1
 obtain ⟨its,rv,p,hz⟩ := I1.list hq
 refine wpAny_pyIter_list p.isList ?_
 refine ⟨s1.heap.objs.size,[s1.heap.objs.size],_,_,H1,rfl,I1.kept (t' := s1.toks) fun b o e => Heap.get?_push_of_some _ e,turn_list a _,⟨_,Heap.get?_push_size _ rfl,rfl,rfl⟩,fun b hb => ?_,q⟩
 have e : b = s1.heap.objs.size := by simpa using hb
 subst e
 exact I1.fpOk (Nat.le_refl _) (I1.hok.fresh (Nat.le_refl _))
theorem pi_tup {l : Expr} {tl : TE} (hl : PE X l tl) : PI X tg l (iTup X.K tl) := by
 intro pins s σ H R I h
 refine thn (hl pins s σ H _ I h) fun v s1 ⟨x,H1,I1,r1,q1⟩ => ?_
 obtain ⟨a,e,⟨xs,hq⟩,q⟩ := q1
 subst e
 cases r1
 obtain ⟨its,rv,p,hz⟩ := I1.tuple hq
 refine wpAny_pyIter_tuple (show s1.heap.IsTuple a its.toArray from p) ?_
 refine ⟨s1.heap.objs.size,[s1.heap.objs.size],_,_,H1,rfl,I1.kept (t' := s1.toks) fun b o e => Heap.get?_push_of_some _ e,turn_tuple a _,⟨_,Heap.get?_push_size _ rfl,rfl,rfl⟩,fun b hb => ?_,q⟩
 have e : b = s1.heap.objs.size := by simpa using hb
 subst e
 exact I1.fpOk (Nat.le_refl _) (I1.hok.fresh (Nat.le_refl _))
theorem range_it {pins : List (Addr × Obj)} {σ : St} {H : Hp} {s : Shared} {R : It → Hp → Prop} {E : Value → Shared → Prop} {lo hi : Int} {t u v : Tok} {tk : Nat} (I : Inv X pins σ H s) (h1 : -(2 ^ 62) ≤ lo) (h2 : lo < 2 ^ 62) (h3 : -(2 ^ 62) ≤ hi) (h4 : hi < 2 ^ 62)
  (q : R (Itr lo (hi - lo).toNat) H) : wpAny (model X.prog X.w) X.A (pyIter (.ref s.heap.objs.size)) (PIE X pins σ tg R) E { s with heap := s.heap.push { cls := .type "range",data := .fields #[.int lo t,.int hi u,.int 1 v] },toks := tk } := by
 refine wpAny_pyIter_range (IsRange.new ..) (small_one h1 h2 h3 h4) ?_
 have I1 : Inv X pins σ H { s with heap := s.heap.push { cls := .type "range",data := .fields #[.int lo t,.int hi u,.int 1 v] },toks := tk } := I.kept fun b o e => Heap.get?_push_of_some _ e
 refine ⟨(s.heap.push { cls := .type "range",data := .fields #[.int lo t,.int hi u,.int 1 v] }).objs.size,[(s.heap.push { cls := .type "range",data := .fields #[.int lo t,.int hi u,.int 1 v] }).objs.size],_,_,H,rfl,
  I1.kept (t' := tk) fun b o e => Heap.get?_push_of_some _ e,turn_range _ lo (hi - lo).toNat,?_,fun b hb => ?_,q⟩
 ·have e1 : lo + ((0 : Nat) : Int) * 1 = lo := by simp
  have e2 : (((hi - lo).toNat : Nat) : Int) - ((0 : Nat) : Int) = Builtin.Range.rangeSize lo hi 1 := by rw [rangeSize_one]; split <;> omega
  show IsRangeIter _ _ (lo + ((0 : Nat) : Int) * 1) ((((hi - lo).toNat : Nat) : Int) - ((0 : Nat) : Int)) 1
  rw [e1,e2]
  exact Heap.get?_push_size _ rfl
 ·have e : b = (s.heap.push { cls := .type "range",data := .fields #[.int lo t,.int hi u,.int 1 v] }).objs.size := by simpa using hb
  subst e
  exact I1.fpOk (Nat.le_refl _) (I1.hok.fresh (Nat.le_refl _))
def iRng2 (ta : TA) : TI := fun σ H R => ta σ H fun vs H1 => ∃ i j : Int,vs = [.int i,.int j] ∧ (-(2 ^ 62) ≤ i ∧ i < 2 ^ 62 ∧ -(2 ^ 62) ≤ j ∧ j < 2 ^ 62) ∧ R (Itr i (j - i).toNat) H1
theorem pi_range2 {a b : Expr} {ta : TA} {p pos : Pos} (hg : Gl X "range") (hm : X.mg "range" = none) (ha : PA X [a,b] ta) (hs : starEach [a,b] X.env = [(false,eval a X.env),(false,eval b X.env)] := by rfl) (hs2 : starEach [b] X.env = [(false,eval b X.env)] := by rfl) :
  PI X tg (.Call (.Name "range" p) [a,b] [] pos) (iRng2 ta) := by
 intro pins s σ H R I h
 refine Call_ (ld_blt I hg hm boot_range (PyProof.Rows.callWith_type1 (thn (ha pos pins s σ H _ I h) fun us s1 ⟨vs,H1,I1,r1,q1⟩ => ?_) (by rw [hs,hs2]) (by rw [hs2]; rfl)))
 obtain ⟨i,j,e,⟨q1,q2,q3,q4⟩,q⟩ := q1
 subst e
 cases r1 with
 | cons r rr =>
  cases rr with
  | cons r' rr =>
   cases rr
   obtain ⟨t,rfl⟩ := r
   obtain ⟨t',rfl⟩ := r'
   exact call_range_2 (range_it I1 q1 q2 q3 q4 q)
def tFor (wi : TI) (g : TG) (tb : TS) : TS := fun D σ H => wi σ H fun J H1 => ∃ W : Nat → Nat → St → Hp → Prop,(∃ m,W 0 m σ H1) ∧ ∀ i m σ H,W i m σ H →
 (J.stop i H ∧ D.nx σ H) ∨ (J.go i H ∧ ∃ N : St → Hp → Prop,(∀ σ' H',N σ' H' → ∃ m',m' < m ∧ W (i + 1) m' σ' H') ∧ ∀ x H',J.yld i H x H' → g x σ H' fun σ2 H2 => tb { D with nx := N,ct := N,bk := D.nx } σ2 H2)
def pinsAt (fp : List Addr) (h : Heap) : List (Addr × Obj) := fp.filterMap fun b => (h.get? b).map fun o => (b,o)
theorem mem_pinsAt {fp : List Addr} {h : Heap} {b : Addr} {o : Obj} (hb : b ∈ fp) (e : h.get? b = some o) : (b,o) ∈ pinsAt fp h := List.mem_filterMap.mpr ⟨b,hb,by rw [e]; rfl⟩
theorem of_pinsAt {fp : List Addr} {h : Heap} {p : Addr × Obj} (hp : p ∈ pinsAt fp h) : p.1 ∈ fp ∧ h.get? p.1 = some p.2 := by
 obtain ⟨b,hb,e⟩ := List.mem_filterMap.mp hp
 cases q : h.get? b with
 | none => rw [q] at e; cases e
 | some o =>
  rw [q] at e
  have e' : (b,o) = p := Option.some.inj e
  subst e'
  exact ⟨hb,q⟩
theorem Inv.pinned {pins : List (Addr × Obj)} {σ : St} {H : Hp} {s : Shared} {fp : List Addr} (I : Inv X pins σ H s) (hf : ∀ b ∈ fp,FpOk X pins H b) (ho : ∀ b ∈ fp,∃ o,s.heap.get? b = some o ∧ ∀ v,o.data ≠ .cell v) : Inv X (pins ++ pinsAt fp s.heap) σ H s :=
 I.pins_of fun p hp => (List.mem_append.mp hp).elim (fun z => I.pin p (List.mem_append_right _ z)) fun z => by
  obtain ⟨hb,e⟩ := of_pinsAt z
  obtain ⟨f0,f1,f2,_⟩ := hf p.1 hb
  obtain ⟨o,e',d⟩ := ho p.1 hb
  rw [e] at e'; cases e'
  exact ⟨e,f0,f1,f2,d⟩
theorem Inv.unpinned {pins pl : List (Addr × Obj)} {σ : St} {H : Hp} {s : Shared} (I : Inv X (pins ++ pl) σ H s) : Inv X pins σ H s := I.pins_of fun p hp => I.pin p (List.mem_append_right _ (List.mem_append_left _ hp))
theorem ps_for {iter : Expr} {body : List Stmt} {wi : TI} {g : TG} {tb : TS} {pos : Pos} (hp : PassesOwn (model X.prog X.w) X.A X.env X.xe) (hc : X.calm = true) (hi : PI X tg iter wi) (hg : PG X tg g) (hb : PSs X body tb)
  (hs : ∀ x,foldedSetIterable iter X.env x = pure x := by intro _; rfl) : PS X (.For tg iter body [] pos) (tFor wi g tb) := by
 intro pins s σ H D I h
 refine wpAny_For (thn (hi pins s σ H _ I h) fun v s1 h1 => thn h1 fun itv s2 h2 => ?_) hs
 obtain ⟨it,fp,tn,J,H2,e,I2,T,st2,f2,W,⟨m0,w0⟩,turn⟩ := h2
 subst e
 have stat : ∀ {H' : Hp},(∀ b ∈ fp,H' b = none) → ∀ b ∈ fp,FpOk X pins H' b := fun hn b hb => ⟨hn b hb,(f2 b hb).2⟩
 refine codeAny_forLoop_any (fun n s' => ∃ i σ' H',Inv X pins σ' H' s' ∧ tn i s'.heap ∧ (∀ b ∈ fp,H' b = none) ∧ W i n σ' H') ?_ m0 ⟨0,σ,H2,I2,st2,fun b hb => (f2 b hb).1,w0⟩
 rintro n s3 ⟨i,σ3,H3,I3,st3,fr3,w3⟩
 rcases turn i n σ3 H3 w3 with ⟨stop,qn⟩ | ⟨go,N,hN,step⟩
 ·refine wpAny_passesOwn hp (thn (T.done X rfl rfl rfl hc i pins s3 σ3 H3 X.xe I3 (stat fr3) st3 stop) fun r s4 ⟨hr,I4⟩ => ?_)
  subst hr
  exact wpAny_execs_nil ⟨σ3,H3,I4,qn⟩
 ·refine wpAny_passesOwn hp (thn (T.item X rfl rfl rfl hc i pins s3 σ3 H3 X.xe I3 (stat fr3) st3 go) fun r s4 ⟨u,hr,h4⟩ => ?_)
  subst hr
  refine wpAny_passesOwn hp (thn h4 fun _ s5 ⟨x,H5,I5,r5,y5,st5,fr5⟩ => ?_)
  have I5' := I5.pinned (stat fr5) (T.obj _ _ st5)
  refine wpAny_passesOwn hp (thn (hg _ s5 σ3 H5 x u _ I5' r5 (step x H5 y5)) fun _ s6 ⟨σ6,H6,I6,q6⟩ => ?_)
  refine wpAny_passesOwn hp (thn (hb _ s6 σ6 H6 _ I6 q6) fun f s7 q7 => ?_)
  have again : ∀ {σ7 : St} {H7 : Hp},Inv X (pins ++ pinsAt fp s5.heap) σ7 H7 s7 → N σ7 H7 → ∃ m,m < n ∧ ∃ i σ' H',Inv X pins σ' H' s7 ∧ tn i s7.heap ∧ (∀ b ∈ fp,H' b = none) ∧ W i m σ' H' := fun {σ7 H7} I7 n7 => by
   obtain ⟨m',hm,w7⟩ := hN σ7 H7 n7
   refine ⟨m',hm,i + 1,σ7,H7,I7.unpinned,T.keep _ _ _ st5 fun b hb o e => (I7.pin (b,o) (List.mem_append_right _ (List.mem_append_right _ (mem_pinsAt hb e)))).1,fun b hb => ?_,w7⟩
   obtain ⟨o,e,d⟩ := T.obj _ _ st5 b hb
   exact (I7.pin (b,o) (List.mem_append_right _ (List.mem_append_right _ (mem_pinsAt hb e)))).2.1
  cases f with
  | next => obtain ⟨σ7,H7,I7,n7⟩ := q7; exact again I7 n7
  | cont => obtain ⟨σ7,H7,I7,n7⟩ := q7; exact again I7 n7
  | brk => obtain ⟨σ7,H7,I7,q7⟩ := q7; exact ⟨σ7,H7,I7.unpinned,q7⟩
  | ret v => obtain ⟨x7,σ7,H7,I7,r7,q7⟩ := q7; exact ⟨x7,σ7,H7,I7.unpinned,r7,q7⟩
end
theorem for_list {K : PySem.W.Frag} {a : Addr} {xs : List V} {g : TG} {tb : TS} {D : Ends} {σ : St} {H : Hp} (Pv : Nat → St → Hp → Prop) (h0 : Pv 0 σ H) (hl : ∀ i σ H,i ≤ xs.length → Pv i σ H → SqL K H a xs)
  (hs : ∀ i x σ H,xs[i]? = some x → Pv i σ H → g x σ H fun σ2 H2 => tb { D with nx := Pv (i + 1),ct := Pv (i + 1),bk := D.nx } σ2 H2) (hd : ∀ σ H,Pv xs.length σ H → D.nx σ H) :
  ∃ W : Nat → Nat → St → Hp → Prop,(∃ m,W 0 m σ H) ∧ ∀ i m σ H,W i m σ H →
   ((Itl K a).stop i H ∧ D.nx σ H) ∨ ((Itl K a).go i H ∧ ∃ N : St → Hp → Prop,(∀ σ' H',N σ' H' → ∃ m',m' < m ∧ W (i + 1) m' σ' H') ∧ ∀ x H',(Itl K a).yld i H x H' → g x σ H' fun σ2 H2 => tb { D with nx := N,ct := N,bk := D.nx } σ2 H2) := by
 refine ⟨fun i m σ H => m = xs.length - i ∧ i ≤ xs.length ∧ Pv i σ H,⟨xs.length,by simp,Nat.zero_le _,h0⟩,?_⟩
 rintro i m σ H ⟨rfl,hi,p⟩
 have q := hl i σ H hi p
 by_cases hlt : i < xs.length
 ·refine .inr ⟨⟨xs,xs[i],q,by simp [hlt]⟩,Pv (i + 1),fun σ' H' p' => ⟨xs.length - (i + 1),by omega,rfl,hlt,p'⟩,fun x H' y => ?_⟩
  obtain ⟨e,y⟩ := y
  subst e
  exact hs i x σ _ (y xs q) p
 ·have e : i = xs.length := by omega
  subst e
  exact .inl ⟨⟨xs,q,Nat.le_refl _⟩,hd σ H p⟩
theorem for_range {lo : Int} {n : Nat} {g : TG} {tb : TS} {D : Ends} {σ : St} {H : Hp} (Pv : Nat → St → Hp → Prop) (h0 : Pv 0 σ H)
  (hs : ∀ i σ H,i < n → Pv i σ H → g (.int (lo + i)) σ H fun σ2 H2 => tb { D with nx := Pv (i + 1),ct := Pv (i + 1),bk := D.nx } σ2 H2) (hd : ∀ σ H,Pv n σ H → D.nx σ H) :
  ∃ W : Nat → Nat → St → Hp → Prop,(∃ m,W 0 m σ H) ∧ ∀ i m σ H,W i m σ H →
   ((Itr lo n).stop i H ∧ D.nx σ H) ∨ ((Itr lo n).go i H ∧ ∃ N : St → Hp → Prop,(∀ σ' H',N σ' H' → ∃ m',m' < m ∧ W (i + 1) m' σ' H') ∧ ∀ x H',(Itr lo n).yld i H x H' → g x σ H' fun σ2 H2 => tb { D with nx := N,ct := N,bk := D.nx } σ2 H2) := by
 refine ⟨fun i m σ H => m = n - i ∧ i ≤ n ∧ Pv i σ H,⟨n,by simp,Nat.zero_le _,h0⟩,?_⟩
 rintro i m σ H ⟨rfl,hi,p⟩
 by_cases hlt : i < n
 ·refine .inr ⟨hlt,Pv (i + 1),fun σ' H' p' => ⟨n - (i + 1),by omega,rfl,hlt,p'⟩,fun x H' y => ?_⟩
  obtain ⟨e,y⟩ := y
  subst e y
  exact hs i σ _ hlt p
 ·have e : i = n := by omega
  subst e
  exact .inl ⟨Nat.le_refl _,hd σ H p⟩
theorem while_by {c : TT} {tb : TS} {D : Ends} {σ : St} {H : Hp} (Pv : St → Hp → Prop) (μ : St → Hp → Nat) (h0 : Pv σ H)
  (hs : ∀ σ H,Pv σ H → c σ H fun b H1 => if b = true then tb { D with nx := fun σ' H' => Pv σ' H' ∧ μ σ' H' < μ σ H,ct := fun σ' H' => Pv σ' H' ∧ μ σ' H' < μ σ H,bk := D.nx } σ H1 else D.nx σ H1)
  (mono : ∀ σ H Q Q',(∀ b H1,Q b H1 → Q' b H1) → c σ H Q → c σ H Q') : tWhile c tb D σ H := by
 refine ⟨fun m σ H => m = μ σ H ∧ Pv σ H,⟨_,rfl,h0⟩,?_⟩
 rintro m σ H ⟨rfl,p⟩
 refine mono σ H _ _ (fun b H1 q => ?_) (hs σ H p)
 cases b with
 | true => exact ⟨_,fun σ' H' ⟨p',l⟩ => ⟨_,l,rfl,p'⟩,q⟩
 | false => exact q
end L2
namespace L2
open PySem PySem.Spec PyProof.Rows
abbrev R2 := V → V → Hp → VK → Prop
def OpR (X : Cx) (f : Value → Value → Sem Value) (r : R2) : Prop :=
 ∀ (pins : List (Addr × Obj)) (s : Shared) (σ : St) (H : Hp) (x y : V) (v u : Value) (Q : VK),Inv X pins σ H s → RelV x v → RelV y u → r x y H Q →
  wpAny (model X.prog X.w) X.A (f v u) (EP X pins σ Q) X.xe s
def UnR (X : Cx) (f : Value → Sem Value) (r : V → Hp → VK → Prop) : Prop :=
 ∀ (pins : List (Addr × Obj)) (s : Shared) (σ : St) (H : Hp) (x : V) (v : Value) (Q : VK),Inv X pins σ H s → RelV x v → r x H Q →
  wpAny (model X.prog X.w) X.A (f v) (EP X pins σ Q) X.xe s
def CallR (X : Cx) (f : Value) (r : List V → Hp → VK → Prop) : Prop :=
 ∀ (pins : List (Addr × Obj)) (s : Shared) (σ : St) (H : Hp) (xs : List V) (us : List Value) (Q : VK),Inv X pins σ H s → Vals xs us → r xs H Q →
  wpAny (model X.prog X.w) X.A (call f us) (EP X pins σ Q) X.xe s
def tOp (r : R2) (ta tb : TE) : TE := fun σ H Q => ta σ H fun x H1 => tb σ H1 fun y H2 => r x y H2 Q
def tUn (r : V → Hp → VK → Prop) (ta : TE) : TE := fun σ H Q => ta σ H fun x H1 => r x H1 Q
def rI (C : Int → Int → Prop) (g : Int → Int → V) : R2 := fun x y H Q => ∃ i j,x = .int i ∧ y = .int j ∧ C i j ∧ Q (g i j) H
def rI0 (g : Int → Int → V) : R2 := fun x y H Q => ∃ i j,x = .int i ∧ y = .int j ∧ Q (g i j) H
def rU (g : Int → V) : V → Hp → VK → Prop := fun x H Q => ∃ i,x = .int i ∧ Q (g i) H
section
variable {X : Cx} {a b c : Expr} {ta tb tc : TE} {pos : Pos}
theorem binT (ha : PE X a ta) (hb : PE X b tb) {pins : List (Addr × Obj)} {s : Shared} {σ : St} {H : Hp} {R : V → V → Hp → Prop} (I : Inv X pins σ H s)
  (h : ta σ H fun x H1 => tb σ H1 fun y H2 => R x y H2) {Q : Value → Shared → Prop} {f : Value → Value → Sem Value}
  (hf : ∀ v u s2 x y H2,Inv X pins σ H2 s2 → RelV x v → RelV y u → R x y H2 → wpAny (model X.prog X.w) X.A (f v u) Q X.xe s2) :
  wpAny (model X.prog X.w) X.A (eval a X.env) (fun v s₁ => wpAny (model X.prog X.w) X.A (eval b X.env) (fun u s₂ => wpAny (model X.prog X.w) X.A (f v u) Q X.xe s₂) X.xe s₁) X.xe s := by
 refine thn (ha pins s σ H _ I h) fun v s1 ⟨x,H1,I1,r1,q1⟩ => ?_
 refine thn (hb pins s1 σ H1 _ I1 q1) fun u s2 ⟨y,H2,I2,r2,q2⟩ => ?_
 exact hf v u s2 x y H2 I2 r1 r2 q2
theorem pe_op {op : Operator} {r : R2} (ho : OpR X (binaryOp op) r) (ha : PE X a ta) (hb : PE X b tb) : PE X (.BinOp a op b pos) (tOp r ta tb) := by
 intro pins s σ H Q I h
 exact wpAny_BinOp (binT ha hb I h fun v u s2 x y H2 I2 rx ry q => ho pins s2 σ H2 x y v u Q I2 rx ry q)
theorem pe_un {op : UnaryOp} {r : V → Hp → VK → Prop} (ho : UnR X (unaryOp op) r) (ha : PE X a ta) : PE X (.UnaryOp op a pos) (tUn r ta) := by
 intro pins s σ H Q I h
 exact UnaryOp_ (thn (ha pins s σ H _ I h) fun v s1 ⟨x,H1,I1,r1,q1⟩ => ho pins s1 σ H1 x v Q I1 r1 q1)
theorem opI {f : Value → Value → Sem Value} {C : Int → Int → Prop} {g : Int → Int → Int}
  (rule : ∀ (i j : Int) (t u : Tok) (s : Shared) (Q : Value → Shared → Prop) (E : Value → Shared → Prop),C i j → Q (.int (g i j) s.toks) { s with toks := s.toks + 1 } → wpAny (model X.prog X.w) X.A (f (.int i t) (.int j u)) Q E s) :
  OpR X f (rI C fun i j => .int (g i j)) := by
 intro pins s σ H x y v u Q I rx ry h
 obtain ⟨i,j,rfl,rfl,hc,q⟩ := h
 obtain ⟨t,rfl⟩ := rx
 obtain ⟨t',rfl⟩ := ry
 exact rule i j t t' s _ _ hc ⟨.int (g i j),H,I.tok _,⟨_,rfl⟩,q⟩
theorem opI0 {f : Value → Value → Sem Value} {g : Int → Int → Int}
  (rule : ∀ (i j : Int) (t u : Tok) (s : Shared) (Q : Value → Shared → Prop) (E : Value → Shared → Prop),Q (.int (g i j) s.toks) { s with toks := s.toks + 1 } → wpAny (model X.prog X.w) X.A (f (.int i t) (.int j u)) Q E s) :
  OpR X f (rI0 fun i j => .int (g i j)) := by
 intro pins s σ H x y v u Q I rx ry h
 obtain ⟨i,j,rfl,rfl,q⟩ := h
 obtain ⟨t,rfl⟩ := rx
 obtain ⟨t',rfl⟩ := ry
 exact rule i j t t' s _ _ ⟨.int (g i j),H,I.tok _,⟨_,rfl⟩,q⟩
theorem opB0 {f : Value → Value → Sem Value} {g : Int → Int → Bool}
  (rule : ∀ (i j : Int) (t u : Tok) (s : Shared) (Q : Value → Shared → Prop) (E : Value → Shared → Prop),Q (.bool (g i j)) s → wpAny (model X.prog X.w) X.A (f (.int i t) (.int j u)) Q E s) :
  OpR X f (rI0 fun i j => .bl (g i j)) := by
 intro pins s σ H x y v u Q I rx ry h
 obtain ⟨i,j,rfl,rfl,q⟩ := h
 obtain ⟨t,rfl⟩ := rx
 obtain ⟨t',rfl⟩ := ry
 exact rule i j t t' s _ _ ⟨.bl (g i j),H,I,rfl,q⟩
def CPow (i j : Int) : Prop := 0 ≤ j ∧ j ≤ 1000000 ∧ i.natAbs < 2 ^ 64
def CMul (i j : Int) : Prop := (-(2 ^ 64) < i ∧ i < 2 ^ 64) ∨ (-(2 ^ 64) < j ∧ j < 2 ^ 64)
theorem CMul.ok {i j : Int} (h : CMul i j) : IntMulOk i j := by
 rcases h with ⟨h1,h2⟩ | ⟨h1,h2⟩
 ·exact .of_left (intBits_le_64 h1 h2)
 ·exact .of_right (intBits_le_64 h1 h2)
theorem op_add : OpR X (binaryOp .Add) (rI0 fun i j => .int (i + j)) := opI0 fun _ _ _ _ _ _ _ q => add_int q
theorem op_sub : OpR X (binaryOp .Sub) (rI0 fun i j => .int (i - j)) := opI0 fun _ _ _ _ _ _ _ q => sub_int q
theorem op_mul : OpR X (binaryOp .Mult) (rI CMul fun i j => .int (i * j)) := opI fun _ _ _ _ _ _ _ hc q => mul_int q hc.ok
theorem op_mod : OpR X (binaryOp .Mod) (rI (fun _ j => 0 < j) fun i j => .int (i % j)) := opI fun i j _ _ _ _ _ hc q => by
 have h1 : (0 : Int) < j := hc
 exact mod_int' (by omega) (by rw [Int.fmod_eq_emod_of_nonneg i (by omega)]; exact q)
theorem op_pow : OpR X (binaryOp .Pow) (rI CPow fun i j => .int (i ^ j.toNat)) := opI fun _ _ _ _ _ _ _ hc q => pow_int_small hc.1 hc.2.1 hc.2.2 q
theorem unI {f : Value → Sem Value} {g : Int → Int}
  (rule : ∀ (i : Int) (t : Tok) (s : Shared) (Q : Value → Shared → Prop) (E : Value → Shared → Prop),Q (.int (g i) s.toks) { s with toks := s.toks + 1 } → wpAny (model X.prog X.w) X.A (f (.int i t)) Q E s) :
  UnR X f (rU fun i => .int (g i)) := by
 intro pins s σ H x v Q I rx h
 obtain ⟨i,rfl,q⟩ := h
 obtain ⟨t,rfl⟩ := rx
 exact rule i t s _ _ ⟨.int (g i),H,I.tok _,⟨_,rfl⟩,q⟩
theorem un_neg : UnR X (unaryOp .USub) (rU fun i => .int (-i)) := unI fun _ _ _ _ _ q => neg_int q
end
def scal : V → V → Bool
 | .non,.non => true | .non,.int _ => true | .int _,.non => true | .non,.bl _ => true | .bl _,.non => true | .non,.str _ => true | .str _,.non => true
 | .int _,.int _ => true | .bl _,.bl _ => true | .str _,.str _ => true | .byt _,.byt _ => true
 | .int _,.str _ => true | .str _,.int _ => true | .bl _,.str _ => true | .str _,.bl _ => true
 | _,_ => false
def rEq : R2 := fun x y H Q => scal x y = true ∧ Q (.bl (decide (x = y))) H
def rNe : R2 := fun x y H Q => scal x y = true ∧ Q (.bl (!decide (x = y))) H
theorem dec_int {i j : Int} : decide (V.int i = V.int j) = (i == j) := by
 rw [Bool.eq_iff_iff]
 simp
theorem dec_bl {i j : Bool} : decide (V.bl i = V.bl j) = (i == j) := by
 rw [Bool.eq_iff_iff]
 simp
theorem dec_str {i j : Str} : decide (V.str i = V.str j) = (i == j) := by
 rw [Bool.eq_iff_iff]
 simp
theorem dec_byt {i j : Array UInt8} : decide (V.byt i = V.byt j) = (i.toList == j.toList) := by
 rw [Bool.eq_iff_iff]
 cases i
 cases j
 simp
section
variable {X : Cx} {a b c : Expr} {ta tb tc : TE} {pos : Pos}
theorem fin_bl {pins : List (Addr × Obj)} {σ : St} {H : Hp} {s : Shared} {Q : VK} {k k' : Bool} (I : Inv X pins σ H s) (q : Q (.bl k) H) (e : k = k') : EP X pins σ Q (.bool k') s := by
 subst e
 exact ⟨.bl k,H,I,rfl,q⟩
theorem op_eq : OpR X (compareOp .Eq) rEq := by
 intro pins s σ H x y v u Q I rx ry h
 obtain ⟨hs,q⟩ := h
 cases x with
 | non =>
  cases rx
  cases y with
  | non => cases ry; exact PySem.EqNone.eq_none_none (fin_bl I q (by simp))
  | bl j => cases ry; exact PySem.EqNone.eq_none_bool (fin_bl I q (by simp))
  | int j => obtain ⟨t',rfl⟩ := ry; exact PySem.EqNone.eq_none_int (fin_bl I q (by simp))
  | str j => obtain ⟨t',rfl⟩ := ry; exact PySem.EqNone.eq_none_str (fin_bl I q (by simp))
  | _ => exact absurd (show false = true from hs) Bool.false_ne_true
 | bl i =>
  cases rx
  cases y with
  | non => cases ry; exact PySem.EqNone.eq_bool_none (fin_bl I q (by simp))
  | bl j => cases ry; exact eq_bool (fin_bl I q dec_bl)
  | str j => obtain ⟨t',rfl⟩ := ry; exact PySem.EqMixed.eq_bool_str (fin_bl I q (by simp))
  | _ => exact absurd (show false = true from hs) Bool.false_ne_true
 | int i =>
  obtain ⟨t,rfl⟩ := rx
  cases y with
  | non => cases ry; exact PySem.EqNone.eq_int_none (fin_bl I q (by simp))
  | int j => obtain ⟨t',rfl⟩ := ry; exact eq_int (fin_bl I q dec_int)
  | str j => obtain ⟨t',rfl⟩ := ry; exact PySem.EqMixed.eq_int_str (fin_bl I q (by simp))
  | _ => exact absurd (show false = true from hs) Bool.false_ne_true
 | str i =>
  obtain ⟨t,rfl⟩ := rx
  cases y with
  | non => cases ry; exact PySem.EqNone.eq_str_none (fin_bl I q (by simp))
  | bl j => cases ry; exact PySem.EqMixed.eq_str_bool (fin_bl I q (by simp))
  | int j => obtain ⟨t',rfl⟩ := ry; exact PySem.EqMixed.eq_str_int (fin_bl I q (by simp))
  | str j => obtain ⟨t',rfl⟩ := ry; exact eq_str (fin_bl I q dec_str)
  | _ => exact absurd (show false = true from hs) Bool.false_ne_true
 | byt i =>
  obtain ⟨t,rfl⟩ := rx
  cases y with
  | byt j => obtain ⟨t',rfl⟩ := ry; exact PySem.W.eq_bytes (fin_bl I q dec_byt)
  | _ => exact absurd (show false = true from hs) Bool.false_ne_true
 | _ => cases y <;> exact absurd (show false = true from hs) Bool.false_ne_true
theorem op_ne : OpR X (compareOp .NotEq) rNe := by
 intro pins s σ H x y v u Q I rx ry h
 obtain ⟨hs,q⟩ := h
 cases x with
 | non =>
  cases rx
  cases y with
  | non => cases ry; exact PySem.EqNone.ne_none_none (fin_bl I q (by simp))
  | bl j => cases ry; exact PySem.EqNone.ne_none_bool (fin_bl I q (by simp))
  | int j => obtain ⟨t',rfl⟩ := ry; exact PySem.EqNone.ne_none_int (fin_bl I q (by simp))
  | str j => obtain ⟨t',rfl⟩ := ry; exact PySem.EqNone.ne_none_str (fin_bl I q (by simp))
  | _ => exact absurd (show false = true from hs) Bool.false_ne_true
 | bl i =>
  cases rx
  cases y with
  | non => cases ry; exact PySem.EqNone.ne_bool_none (fin_bl I q (by simp))
  | bl j => cases ry; exact ne_bool (fin_bl I q (congrArg not dec_bl))
  | str j => obtain ⟨t',rfl⟩ := ry; exact PySem.EqMixed.ne_bool_str (fin_bl I q (by simp))
  | _ => exact absurd (show false = true from hs) Bool.false_ne_true
 | int i =>
  obtain ⟨t,rfl⟩ := rx
  cases y with
  | non => cases ry; exact PySem.EqNone.ne_int_none (fin_bl I q (by simp))
  | int j => obtain ⟨t',rfl⟩ := ry; exact ne_int (fin_bl I q (congrArg not dec_int))
  | str j => obtain ⟨t',rfl⟩ := ry; exact PySem.EqMixed.ne_int_str (fin_bl I q (by simp))
  | _ => exact absurd (show false = true from hs) Bool.false_ne_true
 | str i =>
  obtain ⟨t,rfl⟩ := rx
  cases y with
  | non => cases ry; exact PySem.EqNone.ne_str_none (fin_bl I q (by simp))
  | bl j => cases ry; exact PySem.EqMixed.ne_str_bool (fin_bl I q (by simp))
  | int j => obtain ⟨t',rfl⟩ := ry; exact PySem.EqMixed.ne_str_int (fin_bl I q (by simp))
  | str j => obtain ⟨t',rfl⟩ := ry; exact ne_str (fin_bl I q (congrArg not dec_str))
  | _ => exact absurd (show false = true from hs) Bool.false_ne_true
 | byt i =>
  obtain ⟨t,rfl⟩ := rx
  cases y with
  | byt j => obtain ⟨t',rfl⟩ := ry; exact PySem.W.ne_bytes (fin_bl I q (congrArg not dec_byt))
  | _ => exact absurd (show false = true from hs) Bool.false_ne_true
 | _ => cases y <;> exact absurd (show false = true from hs) Bool.false_ne_true
theorem op_lt : OpR X (compareOp .Lt) (rI0 fun i j => .bl (decide (i < j))) := opB0 fun _ _ _ _ _ _ _ q => lt_int q
theorem op_le : OpR X (compareOp .LtE) (rI0 fun i j => .bl (decide (i ≤ j))) := opB0 fun _ _ _ _ _ _ _ q => le_int q
theorem op_gt : OpR X (compareOp .Gt) (rI0 fun i j => .bl (decide (j < i))) := opB0 fun _ _ _ _ _ _ _ q => gt_int q
theorem op_ge : OpR X (compareOp .GtE) (rI0 fun i j => .bl (decide (j ≤ i))) := opB0 fun _ _ _ _ _ _ _ q => ge_int q
theorem OpR.or {f : Value → Value → Sem Value} {r r' : R2} (h : OpR X f r) (h' : OpR X f r') : OpR X f (fun x y H Q => r x y H Q ∨ r' x y H Q) := by
 intro pins s σ H x y v u Q I rx ry q
 rcases q with q | q
 ·exact h pins s σ H x y v u Q I rx ry q
 ·exact h' pins s σ H x y v u Q I rx ry q
theorem nomark (b : Expr) {op : CmpOp} (h : op ≠ .In := by decide) (h2 : op ≠ .NotIn := by decide) : behindInMarks op b = false := by
 have e1 : (op == CmpOp.In) = false := by cases op <;> first | rfl | exact absurd rfl h
 have e2 : (op == CmpOp.NotIn) = false := by cases op <;> first | rfl | exact absurd rfl h2
 cases b <;> simp [behindInMarks,e1,e2]
theorem pe_cmpR {op : CmpOp} {r : R2} (ho : OpR X (compareOp op) r) (ha : PE X a ta) (hb : PE X b tb) (hm : behindInMarks op b = false) : PE X (.Compare a [op] [b] pos) (tOp r ta tb) := by
 intro pins s σ H Q I h
 exact wpAny_Compare1 (binT ha hb I h fun v u s2 x y H2 I2 rx ry q => ho pins s2 σ H2 x y v u Q I2 rx ry q) hm
def tTest (t : TE) : TT := fun σ H Q => t σ H fun x H' => ∃ k,x = .bl k ∧ Q k H'
theorem pt_cmpR {op : CmpOp} {r : R2} (ho : OpR X (compareOp op) r) (ha : PE X a ta) (hb : PE X b tb) (hm : behindInMarks op b = false) : PT X (.Compare a [op] [b] pos) (tTest (tOp r ta tb)) := by
 intro pins s σ H Q I h
 refine wpAny_isTrue_Compare1 (thn (ha pins s σ H _ I h) fun v s1 ⟨x,H1,I1,r1,q1⟩ => thn (hb pins s1 σ H1 _ I1 q1) fun u s2 ⟨y,H2,I2,r2,q2⟩ =>
  thn (ho pins s2 σ H2 x y v u _ I2 r1 r2 q2) fun c s3 ⟨z,H3,I3,r3,k,e,q3⟩ => ?_) hm
 subst e
 cases r3
 exact wpAny_truthy_bool ⟨H3,I3,q3⟩
def tChain (r r' : R2) (ta tb tc : TE) : TE := fun σ H Q => ta σ H fun x H1 => tb σ H1 fun y H2 => r x y H2 fun z H3 => ∃ k,z = .bl k ∧
 (if k = true then tc σ H3 fun w' H4 => r' y w' H4 Q else Q (.bl false) H3)
theorem pt_chain {op op' : CmpOp} {r r' : R2} (ho : OpR X (compareOp op) r) (ho' : OpR X (compareOp op') r') (ha : PE X a ta) (hb : PE X b tb) (hc : PE X c tc)
  (hm : lastMarks [op,op'] [b,c] = false := by with_unfolding_all rfl) : PT X (.Compare a [op,op'] [b,c] pos) (tTest (tChain r r' ta tb tc)) := by
 intro pins s σ H Q I h
 refine isTrue_chain (thn (ha pins s σ H _ I h) fun v s1 ⟨x,H1,I1,r1,q1⟩ => test_link (thn (hb pins s1 σ H1 _ I1 q1) fun u s2 ⟨y,H2,I2,r2,q2⟩ =>
  thn (ho pins s2 σ H2 x y v u _ I2 r1 r2 q2) fun d s3 ⟨z,H3,I3,r3,k,e,q3⟩ => ?_)) hm
 subst e
 cases r3
 refine wpAny_truthy_bool ?_
 cases k with
 | false =>
  obtain ⟨k',e',q'⟩ := q3
  cases e'
  exact ite_ff ⟨H3,I3,q'⟩
 | true =>
  refine ite_tt (test_last (thn (hc pins s3 σ H3 _ I3 q3) fun w' s4 ⟨z',H4,I4,r4,q4⟩ => thn (ho' pins s4 σ H4 y z' u w' _ I4 r2 r4 q4) fun d' s5 ⟨z2,H5,I5,r5,k2,e2,q5⟩ => ?_))
  subst e2
  cases r5
  exact wpAny_truthy_bool ⟨H5,I5,q5⟩
theorem line63 : (sizeLine : Nat) < 2 ^ 63 := by rw [sizeLine_eq]; decide
theorem vals1 {x : V} {us : List Value} (r : Vals [x] us) : ∃ u,us = [u] ∧ RelV x u := by
 cases r with
 | cons r1 r2 => cases r2; exact ⟨_,rfl,r1⟩
theorem vals2 {x y : V} {us : List Value} (r : Vals [x,y] us) : ∃ u w',us = [u,w'] ∧ RelV x u ∧ RelV y w' := by
 cases r with
 | cons r1 r2 =>
  cases r2 with
  | cons r3 r4 => cases r4; exact ⟨_,_,rfl,r1,r3⟩
theorem call_max2 (hc : X.calm = true) : CallR X (.builtin "max") (fun xs H Q => ∃ i j,xs = [.int i,.int j] ∧ Q (.int (if j > i then j else i)) H) := by
 intro pins s σ H xs us Q I r h
 obtain ⟨i,j,rfl,q⟩ := h
 obtain ⟨u,w',rfl,⟨t,rfl⟩,⟨t',rfl⟩⟩ := vals2 r
 refine max_two_ints (I.ok.hd hc) fun h' tk k => ⟨_,H,I.kept k,?_,q⟩
 by_cases hj : j > i
 ·rw [if_pos hj,if_pos hj]; exact ⟨_,rfl⟩
 ·rw [if_neg hj,if_neg hj]; exact ⟨_,rfl⟩
theorem call_min2 (hc : X.calm = true) : CallR X (.builtin "min") (fun xs H Q => ∃ i j,xs = [.int i,.int j] ∧ Q (.int (if j < i then j else i)) H) := by
 intro pins s σ H xs us Q I r h
 obtain ⟨i,j,rfl,q⟩ := h
 obtain ⟨u,w',rfl,⟨t,rfl⟩,⟨t',rfl⟩⟩ := vals2 r
 refine min_two_ints (I.ok.hd hc) fun h' tk k => ⟨_,H,I.kept k,?_,q⟩
 by_cases hj : j < i
 ·rw [if_pos hj,if_pos hj]; exact ⟨_,rfl⟩
 ·rw [if_neg hj,if_neg hj]; exact ⟨_,rfl⟩
end
end L2
namespace L2
open PySem PySem.Spec PyProof.Rows
structure ObjM (h : Heap) (x dx C : Addr) (mA : Str → Option Value) : Prop where
 obj : h.get? x = some (PySem.W.instObj C dx)
 ns : h.Ns1 dx mA
 ne : dx ≠ x
theorem lookIn_ns {h : Heap} {dx : Addr} {mA : Str → Option Value} (n : h.Ns1 dx mA) : ∃ od,h.get? dx = some od ∧ ∀ name,PySem.W.lookIn name od = some (mA name) := by
 obtain ⟨o,es,ep,ho,hd,hk,_,hm⟩ := n
 refine ⟨o,ho,fun name => ?_⟩
 have e := hm name
 unfold nsFind findBy at e
 rw [← Array.find?_toList] at e
 unfold PySem.W.lookIn
 rw [hd]
 dsimp only
 split
 ·rename_i y q
  rw [q] at e
  exact congrArg some e
 ·rename_i q
  rw [q] at e
  have a : es.toList.any (·.refKey) = false := by
   rw [List.any_eq_false]
   intro y hy
   obtain ⟨z,t,hkey⟩ := hk y (Array.mem_toList_iff.mp hy)
   simp [DictEntry.refKey,hkey]
  have a' : ¬ es.toList.any (·.refKey) = true := by rw [a]; exact Bool.false_ne_true
  rw [if_neg a']
  exact congrArg some e
theorem ObjM.look {h : Heap} {x dx C : Addr} {mA : Str → Option Value} (I : ObjM h x dx C mA) : ∃ od,PySem.W.InstAt h x (PySem.W.instObj C dx) C (some od) ∧ ∀ name,PySem.W.lookIn name od = some (mA name) :=
 let ⟨od,ho,hl⟩ := lookIn_ns I.ns
 ⟨od,⟨I.obj,rfl,rfl,ho⟩,hl⟩
section
variable {prog : Program} {w : World} {A : Around} {E : Value → Shared → Prop} {s : Shared} {K : PySem.W.Frag} {x dx C f : Addr} {mA : Str → Option Value} {name : Str} {v : Value}
end
section
variable {P : Program} {w : World} {H H' : Hp} {h h' : Heap} {a C dx : Addr} {fs fs' : List (Str × V)}
theorem ins_get (hok : HOk P w H h) (e : H a = some (.ins C dx fs)) : ∃ mA,ObjM h a dx C mA ∧ (∀ f,RelO (fs.lookup f) (mA f)) ∧ PySem.Within mA (fs.map (·.1)) ∧ fs.length ≤ 1000 ∧ H dx = some (.own a) := by
 obtain ⟨d,z,ne,ob,mA,n,r,q⟩ := (show ObjOk P w H h a (.ins C dx fs) from hok a _ e)
 exact ⟨mA,⟨ob,n,ne⟩,r,q,z,d⟩
end
structure Cls (K : PySem.W.Frag) (C : Addr) : Prop where
 pg : PySem.W.plainGet K C Str.empty = true
 hd : PySem.W.hasDictIn K C = true
 po : PySem.W.plainOver K C = true
 sa : PySem.W.findIn K (.ref C) "__setattr__" = some (some (.builtin "object.__setattr__"))
theorem Cls.get {K : PySem.W.Frag} {C : Addr} (c : Cls K C) (f : Str) : PySem.W.plainGet K C f = true := c.pg
structure Con (K : PySem.W.Frag) (C : Addr) (f : Str) (v : V) (u : Value) : Prop where
 at_ : PySem.W.findIn K (.ref C) f = some (some u)
 rel : RelV v u
 get : PySem.W.specialIn K u "__get__" = some none
 cp : PySem.W.copiedNames.contains f = false
structure Meth (K : PySem.W.Frag) (C : Addr) (m : Str) (f : Addr) : Prop where
 at_ : PySem.W.findIn K (.ref C) m = some (some (.ref f))
 fn : PySem.W.isFn K (.ref f) = true
 kp : PySem.W.keepIn K (.ref f) = true
section
variable {X : Cx} {pins : List (Addr × Obj)} {σ : St} {H : Hp} {s : Shared} {a C dx : Addr} {fs : List (Str × V)} {f : Str} {v : V} {A : Around} {E : Value → Shared → Prop}
theorem Inv.made (I : Inv X pins σ H s) : Inv X pins σ (upd (upd H s.heap.objs.size (.own (s.heap.objs.size + 1))) (s.heap.objs.size + 1) (.ins C s.heap.objs.size []))
  { s with heap := (s.heap.push PySem.W.emptyDict).push (PySem.W.instObj C s.heap.objs.size) } := by
 have e1 : (s.heap.push PySem.W.emptyDict).get? s.heap.objs.size = some PySem.W.emptyDict := Heap.get?_push_size s.heap rfl
 have e2 : ((s.heap.push PySem.W.emptyDict).push (PySem.W.instObj C s.heap.objs.size)).get? (s.heap.objs.size + 1) = some (PySem.W.instObj C s.heap.objs.size) := by
  have := Heap.get?_push_size (s.heap.push PySem.W.emptyDict) (o := PySem.W.instObj C s.heap.objs.size) rfl
  rwa [Heap.size_push] at this
 have e3 : (s.heap.push PySem.W.emptyDict).Ns s.heap.objs.size (fun _ => none) := ⟨PySem.W.emptyDict,#[],_,e1,rfl,(fun e he => absurd he (by simp)),fun _ => rfl⟩
 have I1 := I.laid (a := s.heap.objs.size) (o := .own (s.heap.objs.size + 1)) (h' := s.heap.push PySem.W.emptyDict) (t' := s.toks) (fun b u q => Heap.get?_push_of_some _ q) (Nat.le_refl _) ⟨_,e1⟩
 refine I1.laid (a := s.heap.objs.size + 1) (o := .ins C s.heap.objs.size []) (t' := s.toks) (fun b u q => Heap.get?_push_of_some _ q) (Nat.le_of_eq (Heap.size_push _ _)) ?_
 have ne : s.heap.objs.size ≠ s.heap.objs.size + 1 := Nat.ne_of_lt (Nat.lt_succ_self _)
 refine ⟨by rw [upd_ne ne,upd_same],Nat.zero_le _,ne,e2,fun _ => none,(Heap.Ns1.of_empty e3).at fun o q => Heap.get?_push_of_some _ q,fun _ => True.intro,fun y hy => absurd rfl hy⟩
end
section
variable {X : Cx} {o e value : Expr} {f : Str} {pos pos' tpos : Pos} {ta tv : TE}
end
section
variable {X : Cx} {pins : List (Addr × Obj)} {σ : St} {H : Hp} {s : Shared} {A : Around} {E : Value → Shared → Prop} {Q : Value → Shared → Prop} {c : Value} {b : Bool}
inductive TyOf (K : PySem.W.Frag) (H : Hp) : V → Value → Prop where
 | non : TyOf K H .non (.type "NoneType")
 | bl (x : Bool) : TyOf K H (.bl x) (.type "bool")
 | int (i : Int) : TyOf K H (.int i) (.type "int")
 | str (x : Str) : TyOf K H (.str x) (.type "str")
 | flt (x : UInt64) : TyOf K H (.flt x) (.type "float")
 | lst {a : Addr} {xs : List V} (e : H a = some (.lst xs)) : TyOf K H (.ref a) (.type "list")
 | frz {a : Addr} {o : Obj} {xs : List V} (e : H a = some (.frz o (.lst xs))) : TyOf K H (.ref a) (.type "list")
 | tup {a : Addr} {xs : List V} (e : H a = some (.tup xs)) : TyOf K H (.ref a) (.type "tuple")
 | dK {a : Addr} {kvs : List (Key × V)} (e : H a = some (.dK kvs)) : TyOf K H (.ref a) (.type "dict")
 | dT {a : Addr} {kvs : List (List Key × V)} (e : H a = some (.dT kvs)) : TyOf K H (.ref a) (.type "dict")
 | ins {a C dx : Addr} {fs : List (Str × V)} (e : H a = some (.ins C dx fs)) (cl : Cls K C) (ha : PySem.W.findIn K (.ref C) "__class__" = some (some (.builtin "object.__class__")))
   (hn : PySem.W.specialIn K (.builtin "object.__class__") "__get__" = some (some (.builtin "getset_descriptor.__get__"))) (htk : PySem.W.takesIn K (.builtin "object.__class__") = some true)
   (hm : PySem.W.mroIn K C (.type "object") = some true) : TyOf K H (.ref a) (.ref C)
theorem isinst_ok {x : V} {u t : Value} (I : Inv X pins σ H s) (rx : RelV x u) (ty : TyOf X.K H x t) (e : PySem.W.kitOne X.K t c = some b) (h : ∀ tk,Q (.bool b) { s with toks := tk }) :
  wpAny (model X.prog X.w) A (call (.builtin "isinstance") [u,c]) Q E s := by
 cases ty with
 | non => cases (show u = Value.none from rx); exact PySem.W.kia_one PySem.W.kitx_none I.kIn True.intro e (fun z => nomatch z) h
 | bl y => cases (show u = Value.bool y from rx); exact PySem.W.kia_one PySem.W.kitx_bool I.kIn True.intro e (fun z => nomatch z) h
 | int i => obtain ⟨t,q⟩ := (show ∃ t,u = Value.int i t from rx); cases q; exact PySem.W.kia_one PySem.W.kitx_int I.kIn True.intro e (fun z => nomatch z) h
 | str y => obtain ⟨t,q⟩ := (show ∃ t,u = Value.str y t from rx); cases q; exact PySem.W.kia_one PySem.W.kitx_str I.kIn True.intro e (fun z => nomatch z) h
 | flt y => obtain ⟨t,q⟩ := (show ∃ t,u = Value.float y t from rx); cases q; exact PySem.W.kia_one PySem.W.kitx_float I.kIn True.intro e (fun z => nomatch z) h
 | @lst a xs ea =>
  cases (show u = Value.ref a from rx)
  obtain ⟨_,_,n,_,h1⟩ := (show ObjOk X.prog X.w H s.heap a (.lst xs) from I.hok a _ ea)
  exact PySem.W.kia_one PySem.W.kitx_list I.kIn ⟨_,h1,rfl⟩ e (fun z => nomatch z) h
 | @frz a ob xs ea =>
  cases (show u = Value.ref a from rx)
  obtain ⟨_,_,_,n,_,h1⟩ := (show ObjOk X.prog X.w H s.heap a (.frz ob (.lst xs)) from I.hok a _ ea)
  exact PySem.W.kia_one PySem.W.kitx_list I.kIn ⟨_,h1,rfl⟩ e (fun z => nomatch z) h
 | @tup a xs ea =>
  cases (show u = Value.ref a from rx)
  obtain ⟨_,_,_,p⟩ := (show ObjOk X.prog X.w H s.heap a (.tup xs) from I.hok a _ ea)
  obtain ⟨o,h1,h2,_⟩ := p
  exact PySem.W.kia_one PySem.W.kitx_tuple I.kIn ⟨o,h1,h2⟩ e (fun z => nomatch z) h
 | @dK a kvs ea =>
  cases (show u = Value.ref a from rx)
  obtain ⟨_,_,vs,_,p⟩ := (show ObjOk X.prog X.w H s.heap a (.dK kvs) from I.hok a _ ea)
  obtain ⟨o,es,ep,h1,h2,_⟩ := p
  exact PySem.W.kia_one PySem.W.kitx_dict I.kIn ⟨o,h1,h2.1⟩ e (fun z => nomatch z) h
 | @dT a kvs ea =>
  cases (show u = Value.ref a from rx)
  obtain ⟨_,_,xs,_,o,es,ep,h1,h2,_⟩ := (show ObjOk X.prog X.w H s.heap a (.dT kvs) from I.hok a _ ea)
  exact PySem.W.kia_one PySem.W.kitx_dict I.kIn ⟨o,h1,h2.1⟩ e (fun z => nomatch z) h
 | @ins a C dx fs ea cl ha hn htk hm =>
  cases (show u = Value.ref a from rx)
  obtain ⟨mA,O,_⟩ := ins_get I.hok ea
  obtain ⟨od,J,_⟩ := O.look
  exact PySem.W.kia_one (PySem.W.kitx_own (cl.get _) cl.hd ha hn htk hm) I.kIn J e (fun z => nomatch z) h
end
end L2
namespace L2
open PySem PySem.Spec PyProof.Rows
structure Room (k : Nat) (A : Around) : Prop where
 hd : A.handled = none
 dp : A.depth + 3 * k + 5 < recursionLimit
 un : A.units + 16 * k + 200 < cLine
theorem Room.mono {j k : Nat} {A : Around} (r : Room k A) (h : j ≤ k) : Room j A := ⟨r.hd,by have := r.dp; omega,by have := r.un; omega⟩
theorem Room.deeper {k : Nat} {A : Around} (r : Room (k + 1) A) (env : Env) : Room k (A.deeper env) :=
 ⟨r.hd,by have := r.dp; show A.depth + 1 + 3 * k + 5 < _; omega,by have := r.un; show A.units + 3 + 16 * k + 200 < _; omega⟩
theorem Room.in1 {k : Nat} {A : Around} (r : Room (k + 1) A) : Room k A.in1 :=
 ⟨r.hd,by have := r.dp; show A.depth + 3 * k + 5 < _; omega,by have := r.un; show A.units + 1 + 16 * k + 200 < _; omega⟩
theorem Room.depth {k : Nat} {A : Around} (r : Room k A) : A.depth < recursionLimit := by have := r.dp; omega
theorem Room.units {k : Nat} {A : Around} (r : Room k A) : A.units + 64 < cLine := by have := r.un; omega
def tNil : TA := fun _ H Q => Q [] H
def tCons (ta : TE) (tr : TA) : TA := fun σ H Q => ta σ H fun x H1 => tr σ H1 fun xs H2 => Q (x :: xs) H2
section
variable {X : Cx} {e : Expr} {es : List Expr} {te : TE} {t : TA} {pos : Pos}
theorem pa_nil : PA X [] tNil := fun _ _ _ _ H Q I h => Calls.spliced_nil ⟨[],H,I,.nil,h⟩
theorem pa_cons (ha : PE X e te) (hr : PA X es t) (hs : starEach (e :: es) X.env = (false,eval e X.env) :: starEach es X.env := by rfl) : PA X (e :: es) (tCons te t) := by
 intro pos pins s σ H Q I h
 rw [hs]
 show wpAny _ _ (spliced ((false,eval e X.env) :: backTo pos (starEach es X.env))) _ _ s
 refine Calls.spliced_cons (thn (ha pins s σ H _ I h) fun u s1 ⟨x,H1,I1,r1,q1⟩ => ?_)
 exact thn (hr pos pins s1 σ H1 _ I1 q1) fun us s2 ⟨xs,H2,I2,r2,q2⟩ => ⟨x :: xs,H2,I2,.cons r1 r2,q2⟩
def tTup (t : TA) : TE := fun σ H Q => t σ H fun xs H1 => xs.length ≤ sizeLine ∧ ∀ p,H1 p = none → Q (.ref p) (upd H1 p (.tup xs))
def tLst (t : TA) : TE := fun σ H Q => t σ H fun xs H1 => xs.length ≤ sizeLine ∧ ∀ p,H1 p = none → Q (.ref p) (upd H1 p (.lst xs))
theorem pe_tup {x1} (h : PA X es t) : PE X (.Tuple es x1 pos) (tTup t) := by
 intro pins s σ H Q I hq
 refine wpAny_Tuple_spliced (thn (h pos pins s σ H _ I hq) fun us s1 ⟨xs,H1,I1,r,z,q⟩ => ⟨by rw [← r.length]; exact z,?_⟩)
 have hf : H1 s1.heap.objs.size = none := I1.hok.fresh (Nat.le_refl _)
 refine ⟨.ref s1.heap.objs.size,upd H1 s1.heap.objs.size (.tup xs),I1.laid (t' := s1.toks) (fun b u e => Heap.get?_push_of_some _ e) (Nat.le_refl _) ?_,rfl,q _ hf⟩
 exact ⟨z,us,r,⟨_,Heap.get?_push_size _ rfl,rfl,_,rfl⟩⟩
theorem pe_lst (h : PA X es t) : PE X (.List es pos) (tLst t) := by
 intro pins s σ H Q I hq
 refine wpAny_List_spliced (thn (h pos pins s σ H _ I hq) fun us s1 ⟨xs,H1,I1,r,z,q⟩ => ⟨by rw [← r.length]; exact z,?_⟩)
 have hf : H1 s1.heap.objs.size = none := I1.hok.fresh (Nat.le_refl _)
 refine ⟨.ref s1.heap.objs.size,upd H1 s1.heap.objs.size (.lst xs),I1.laid (t' := s1.toks) (fun b u e => Heap.get?_push_of_some _ e) (Nat.le_refl _) ?_,rfl,q _ hf⟩
 exact ⟨z,us,0,r,Heap.get?_push_size _ rfl⟩
end
abbrev Sp := List V → Hp → VK → XK → Prop
abbrev CXT := List Env → Hp → Shared → XK → Value → Shared → Prop
structure Env0 (P : Program) (w : World) (K : PySem.W.Frag) (mg : Str → Option Value) (base : Heap) (A : Around) (outer : List Env) (s : Shared) (H : Hp) : Prop where
 frames : A.frames = some outer
 mod : Mod K mg base
 bs : ∀ b o,base.get? b = some o → s.heap.get? b = some o ∧ H b = none
 bsz : base.objs.size ≤ s.heap.objs.size
 funs : s.heap.FunFrames base outer
 frf : ∀ b ∈ frs outer,H b = none
 hok : HOk P w H s.heap
 bare : AllBare s.gens
def CE (outer : List Env) (P : Program) (w : World) (H : Hp) (s : Shared) (Q : VK) (u : Value) (s' : Shared) : Prop :=
 ∃ v H',s'.os = s.os ∧ AllBare s'.gens ∧ Un (frs outer) [] H H' s.heap s'.heap ∧ HOk P w H' s'.heap ∧ RelV v u ∧ Q v H'
def CR (CX : CXT) (outer : List Env) (P : Program) (w : World) (H : Hp) (s : Shared) (Q : VK) (E : XK) (r : Result) (s' : Shared) : Prop :=
 match r with
 | .ok (.ret u) => CE outer P w H s Q u s'
 | .ok _ => False
 | .error e => CX outer H s E e s'
structure FnOk (P : Program) (w : World) (K : PySem.W.Frag) (mg : Str → Option Value) (base : Heap) (CX : CXT) (k : Nat) (f : Addr) (fd : FuncData) (ps : List Str) (sp : Sp) : Prop where
 len : ∀ vs H Q E,sp vs H Q E → vs.length = ps.length
 run : ∀ (A : Around) (outer : List Env) (s : Shared) (H : Hp) (args : Args) (us : List Value) (vs : List V) (Q : VK) (E : XK),Room k A → Env0 P w K mg base A outer s H → BindsTo s fd args (ps.zip us) → Vals vs us → sp vs H Q E →
  codeAny (model P w) A (.call (.ref f) args) (CR CX outer P w H s Q E) s
theorem FnOk.mono {P : Program} {w : World} {K : PySem.W.Frag} {mg : Str → Option Value} {base : Heap} {CX : CXT} {j k : Nat} {f : Addr} {fd : FuncData} {ps : List Str} {sp : Sp} (F : FnOk P w K mg base CX j f fd ps sp) (h : j ≤ k) :
  FnOk P w K mg base CX k f fd ps sp := ⟨F.len,fun A outer s H args us vs Q E hr => F.run A outer s H args us vs Q E (hr.mono h)⟩
theorem FnOk.imp {P : Program} {w : World} {K : PySem.W.Frag} {mg : Str → Option Value} {base : Heap} {CX : CXT} {k : Nat} {f : Addr} {fd : FuncData} {ps : List Str} {sp sp' : Sp} (F : FnOk P w K mg base CX k f fd ps sp)
  (h : ∀ vs H Q E,sp' vs H Q E → sp vs H Q E) : FnOk P w K mg base CX k f fd ps sp' :=
 ⟨fun vs H Q E q => F.len vs H Q E (h _ _ _ _ q),fun A outer s H args us vs Q E hr he hb hv hs => F.run A outer s H args us vs Q E hr he hb hv (h _ _ _ _ hs)⟩
theorem Env0.in1 {P : Program} {w : World} {K : PySem.W.Frag} {mg : Str → Option Value} {base : Heap} {A : Around} {outer : List Env} {s : Shared} {H : Hp} (e : Env0 P w K mg base A outer s H) :
  Env0 P w K mg base A.in1 outer s H := ⟨e.frames,e.mod,e.bs,e.bsz,e.funs,e.frf,e.hok,e.bare⟩
section
variable {X : Cx} {pins : List (Addr × Obj)} {σ : St} {H : Hp} {s s' : Shared}
theorem Inv.env0 (I : Inv X pins σ H s) : Env0 X.prog X.w X.K X.mg X.base X.A X.stack s H :=
 ⟨I.ok.frames,I.ok.mod,I.bs,Nat.le_trans I.ok.bsz I.sz,I.stack,I.stkFree,I.hok,I.bare⟩
theorem Inv.after {Q : VK} {u : Value} (I : Inv X pins σ H s) (h : CE X.stack X.prog X.w H s Q u s') : EP X pins σ Q u s' := by
 obtain ⟨v,H',os,bare,un,hok,r,q⟩ := h
 obtain ⟨hh,g,d,t,os'⟩ := s'
 obtain rfl : os' = s.os := os
 exact ⟨v,H',I.call (h' := hh) (g' := g) (d' := d) (t' := t) (ch := []) un hok bare (fun b z => absurd z (by simp)),r,q⟩
end
def tCall (sp : Sp) (dvs : List V) (E : XK) (t : TA) : TE := fun σ H Q => t σ H fun vs H1 => sp (vs ++ dvs) H1 Q E
def Binds (K : PySem.W.Frag) (fd : FuncData) (ps : List Str) (ds : List Value) : Prop :=
 ∀ (s : Shared) (us : List Value),K.In s.heap → (us ++ ds).length = ps.length → BindsTo s fd ⟨us,[]⟩ (ps.zip (us ++ ds))
theorem Binds.all {K : PySem.W.Frag} {fd : FuncData} {ps : List Str} (h : ∀ us : List Value,us.length = ps.length → bindArgs fd ⟨us,[]⟩ = pure (ps.zip us)) : Binds K fd ps [] := fun s us _ hl => by
 rw [List.append_nil] at hl ⊢
 exact .of_eq (h us hl)
def Passes (CX : CXT) (X : Cx) (E : XK) : Prop := ∀ (pins : List (Addr × Obj)) (σ : St) (H : Hp) (s : Shared) (e : Value) (s' : Shared),Inv X pins σ H s → CX X.stack H s E e s' → X.xe e s'
section
variable {X : Cx} {CX : CXT} {k : Nat} {f C : Addr} {fd : FuncData} {ps : List Str} {sp : Sp} {dvs : List V} {ds : List Value} {E : XK} {x m : Str} {p pos apos : Pos} {e o : Expr} {es : List Expr} {ta : TE} {t : TA}
theorem run_fn {pins : List (Addr × Obj)} {σ : St} {H : Hp} {s : Shared} {Q : VK} {us : List Value} {vs : List V} (F : FnOk X.prog X.w X.K X.mg X.base CX k f fd ps sp) (hr : Room k X.A) (hb : Binds X.K fd ps ds) (hd : Vals dvs ds) (hx : Passes CX X E)
  (I : Inv X pins σ H s) (r : Vals vs us) (h : sp (vs ++ dvs) H Q E) : wpAny (model X.prog X.w) X.A (call (.ref f) us) (EP X pins σ Q) X.xe s := by
 have r2 : Vals (vs ++ dvs) (us ++ ds) := r.append hd
 have hl : (us ++ ds).length = ps.length := by rw [← r2.length]; exact F.len _ _ _ _ h
 refine wpAny_call (codeAny_mono (F.run X.A X.stack s H ⟨us,[]⟩ (us ++ ds) (vs ++ dvs) Q E hr I.env0 (hb s us I.kIn hl) r2 h) fun r s' hq => ?_)
 cases r with
 | error e => exact hx pins σ H s e s' I hq
 | ok fl =>
  cases fl with
  | ret u => exact I.after hq
  | next => exact False.elim hq
  | brk => exact False.elim hq
  | cont => exact False.elim hq
theorem pe_call (F : FnOk X.prog X.w X.K X.mg X.base CX k f fd ps sp) (hr : Room k X.A) (hg : Gl X x) (hm : X.mg x = some (.ref f)) (hk : PySem.W.keepIn X.K (.ref f) = true) (hb : Binds X.K fd ps ds) (hd : Vals dvs ds) (hx : Passes CX X E)
  (ha : PA X (e :: es) t) (hdb : (x == ("__debug__" : Str)) = false := by decide) (he : starEach (e :: es) X.env = (false,eval e X.env) :: starEach es X.env := by rfl) (hpl : (backTo pos (starEach es X.env)).any (·.1) = false := by rfl) :
  PE X (.Call (.Name x p) (e :: es) [] pos) (tCall sp dvs E t) := by
 intro pins s σ H Q I h
 refine wpAny_Call_Name_kw (ld_glob I hg hm ?_ hdb)
 refine PySem.W.callWith_K (h₀ := X.base) I.ok.mod.kin hk (thn (ha pos pins s σ H _ I h) fun us s1 ⟨vs,H1,I1,r,q⟩ => ⟨I1.kIn,?_⟩) he hpl
 exact run_fn F hr hb hd hx I1 r q
structure Mk (K : PySem.W.Frag) (C f : Addr) : Prop where
 makes : PySem.W.makesIn K C = true
 init : PySem.W.findIn K (.ref C) "__init__" = some (some (.ref f))
 fn : PySem.W.isFn K (.ref f) = true
 kp : PySem.W.keepIn K (.ref C) = true
end
section
variable {X : Cx} {CX : CXT} {k : Nat} {f C : Addr} {fd : FuncData} {ps ks : List Str} {sp : Sp} {E : XK} {x m : Str} {p pos apos kpos : Pos} {e o : Expr} {es : List Expr} {kws : List Keyword} {te ta : TE} {t tk : TA} {nm : Option Str}
structure KBinds (K : PySem.W.Frag) (fd : FuncData) (ps ks : List Str) (g : List Value → List Value → List Value) (gV : List V → List V → List V) : Prop where
 to : ∀ (s : Shared) (us ws : List Value),K.In s.heap → (g us ws).length = ps.length → BindsTo s fd ⟨us,ks.zip ws⟩ (ps.zip (g us ws))
 rel : ∀ {vs : List V} {us : List Value} {zs : List V} {ws : List Value},Vals vs us → Vals zs ws → Vals (gV vs zs) (g us ws)
variable {g : List Value → List Value → List Value} {gV : List V → List V → List V}
end
structure FnScope (N P : List Str) (sc : Scope) : Prop where
 kind : sc.kind = .function
 co : sc.isCoroutine = false
 gen : sc.isGenerator = false
 nd : N.Nodup
 pre : N.take P.length = P
 par : ∀ x ∈ P,sc.names.lookup x = some .local ∨ sc.names.lookup x = some .cell
 nofree : ∀ y ∈ sc.names,y.2 ≠ .free
theorem bindL_out {kindOf : Str → Option NameKind} {x : Str} : ∀ {binds : List (Str × Value)} {m : Str → Option Value},(∀ v,(x,v) ∉ binds) → bindL kindOf binds m x = m x
 | [],_,_ => rfl
 | (n,v) :: r,m,h => by
  unfold bindL
  rw [bindL_out fun w hw => h w (List.mem_cons_of_mem _ hw)]
  split
  ·have : x ≠ n := by rintro rfl; exact h v List.mem_cons_self
   simp [this]
  ·rfl
theorem bindC_out {kindOf : Str → Option NameKind} {x : Str} : ∀ {binds : List (Str × Value)} {m : Str → Option Value},(∀ v,(x,v) ∉ binds) → bindC kindOf binds m x = m x
 | [],_,_ => rfl
 | (n,v) :: r,m,h => by
  unfold bindC
  rw [bindC_out fun w hw => h w (List.mem_cons_of_mem _ hw)]
  split
  ·rfl
  ·have : x ≠ n := by rintro rfl; exact h v List.mem_cons_self
   simp [this]
theorem bindL_get {kindOf : Str → Option NameKind} {x : Str} {v : Value} : ∀ {P : List Str} {vs : List Value} {i : Nat} {m : Str → Option Value},P.Nodup → P[i]? = some x → vs[i]? = some v → kindOf x = some .local →
  bindL kindOf (P.zip vs) m x = some v
 | [],_,_,_,_,h,_,_ => by simp at h
 | _ :: _,[],_,_,_,_,h,_ => by simp at h
 | p :: P,w :: vs,0,m,nd,h1,h2,hk => by
  simp at h1 h2; subst h1; subst h2
  show bindL kindOf ((p,w) :: P.zip vs) m p = _
  unfold bindL
  rw [bindL_out fun v hv => (List.nodup_cons.mp nd).1 (List.of_mem_zip hv).1,if_pos hk]
  simp
 | p :: P,w :: vs,i + 1,m,nd,h1,h2,hk => by
  show bindL kindOf ((p,w) :: P.zip vs) m x = _
  unfold bindL
  exact bindL_get (i := i) (List.nodup_cons.mp nd).2 (by simpa using h1) (by simpa using h2) hk
theorem bindC_get {kindOf : Str → Option NameKind} {x : Str} {v : Value} : ∀ {P : List Str} {vs : List Value} {i : Nat} {m : Str → Option Value},P.Nodup → P[i]? = some x → vs[i]? = some v → kindOf x ≠ some .local →
  bindC kindOf (P.zip vs) m x = some v
 | [],_,_,_,_,h,_,_ => by simp at h
 | _ :: _,[],_,_,_,_,h,_ => by simp at h
 | p :: P,w :: vs,0,m,nd,h1,h2,hk => by
  simp at h1 h2; subst h1; subst h2
  show bindC kindOf ((p,w) :: P.zip vs) m p = _
  unfold bindC
  rw [bindC_out fun v hv => (List.nodup_cons.mp nd).1 (List.of_mem_zip hv).1,if_neg hk]
  simp
 | p :: P,w :: vs,i + 1,m,nd,h1,h2,hk => by
  show bindC kindOf ((p,w) :: P.zip vs) m x = _
  unfold bindC
  exact bindC_get (i := i) (List.nodup_cons.mp nd).2 (by simpa using h1) (by simpa using h2) hk
def start (N : List Str) (vs : List V) : St := vs.map some ++ List.replicate (N.length - vs.length) none
def cxOf (CX : CXT) (P : Program) (w : World) (K : PySem.W.Frag) (mg : Str → Option Value) (base : Heap) (N : List Str) (qual : Str) (scope : Scope) (f : Addr) (cd : Value) (A : Around) (outer : List Env) (s : Shared) (H : Hp) (E : XK) : Cx where
 prog := P
 w := w
 K := K
 mg := mg
 base := base
 A := A.deeper (envOfC qual scope s.heap.objs.size f cd)
 N := N
 s₀ := s
 H₀ := H
 env := envOfC qual scope s.heap.objs.size f cd
 outer := outer
 stack := envOfC qual scope s.heap.objs.size f cd :: outer
 ex := []
 calm := true
 fn := fun _ => true
 pn := []
 xe := fun e s' => wpAny (model P w) (A.deeper (envOfC qual scope s.heap.objs.size f cd)) (leaving (envOfC qual scope s.heap.objs.size f cd) e) (fun _ s'' => CX outer H s E e s'') (fun e' s'' => CX outer H s E e' s'') s'
theorem cell_has {sc : Scope} {n : Nat} {x : Str} (h : sc.names.lookup x = some .cell) : ∃ c,(cellsFrom n sc.names []).lookup x = some c := by
 have q := PySem.W.cellsFrom_some sc.names n [] (.inl h)
 exact Option.isSome_iff_exists.mp q
theorem inv_start {CX : CXT} {P : Program} {w : World} {K : PySem.W.Frag} {mg : Str → Option Value} {base : Heap} {N ps : List Str} {qual : Str} {scope : Scope} {f : Addr} {cd : Value} {A : Around} {outer : List Env} {s s1 : Shared} {H : Hp} {E : XK} {us : List Value} {vs : List V}
  (S : FnScope N ps scope) (hd : A.handled = none) (e0 : Env0 P w K mg base A outer s H) (hl : vs.length = ps.length) (r : Vals vs us)
  (x : InCallC s s.heap.objs.size (bindL (envOfC qual scope s.heap.objs.size f cd).kindOf (ps.zip us) fun _ => none) (cellsFrom (s.heap.objs.size + 1) scope.names []) (bindC (envOfC qual scope s.heap.objs.size f cd).kindOf (ps.zip us) fun _ => none) s1) :
  Inv (cxOf CX P w K mg base N qual scope f cd A outer s H E) [] (start N vs) H s1 := by
 have hpl : ps.length ≤ N.length := by have := congrArg List.length S.pre; rw [List.length_take] at this; omega
 obtain ⟨h1,tk,rfl,hk⟩ := x.done
 have noA : ∀ b : Addr,b ∉ (cxOf CX P w K mg base N qual scope f cd A outer s H E).ex := fun b z => absurd (show b ∈ ([] : List Addr) from z) (by simp)
 refine ⟨⟨e0.mod,S.kind,rfl,rfl,Nat.le_refl _,fun y z c h1 h2 => ?_,fun y hy => ?_,fun y c _ h => ?_,fun _ => hd,Around.frames_deeper e0.frames,.inr ⟨rfl,rfl⟩,fun b z => absurd z (noA b),e0.bs,e0.bsz,fun b _ _ => noA b,fun b z => absurd z (noA b),e0.funs,e0.frf⟩,
  rfl,e0.bare,Un.kept hk,⟨_,x.toInCall.ns,fun i y v h1 h2 h3 => ?_⟩,fun y c h => ⟨_,x.cell y c h⟩,e0.hok.fresh (Nat.le_refl _),fun y c h => ?_,fun p hp => absurd (show p ∈ ([] : List (Addr × Obj)) from hp) (by simp),e0.hok.kept hk,?_⟩
 ·exact name_of_addr x.apart (PySem.mem_of_lookup h1) (PySem.mem_of_lookup h2)
 ·have hy : scope.names.lookup y = some .cell ∨ scope.names.lookup y = some .free := hy
  rcases hy with hy | hy
  ·exact cell_has hy
  ·exact absurd rfl (S.nofree _ (PySem.mem_of_lookup hy))
 ·exact Nat.le_of_lt (x.above y c (PySem.mem_of_lookup h))
 ·have hi : i < vs.length := by
   unfold start at h2
   by_cases hi : i < vs.length
   ·exact hi
   ·rw [List.getElem?_append_right (by simpa using hi)] at h2
    rw [List.getElem?_replicate] at h2
    split at h2 <;> cases h2
  have ha : vs[i]? = some v := by
   unfold start at h2
   rw [List.getElem?_append_left (by simpa using hi),List.getElem?_map] at h2
   cases e : vs[i]? with
   | none => rw [e] at h2; cases h2
   | some a => rw [e] at h2; cases h2; rfl
  obtain ⟨u,hu,rv⟩ := r.get ha
  have hp : ps[i]? = some y := by
   rw [← S.pre,List.getElem?_take_of_lt (by omega)]; exact h1
  have ndP : ps.Nodup := by rw [← S.pre]; exact S.nd.sublist (List.take_sublist _ _)
  refine ⟨u,rv,?_⟩
  rcases S.par y (List.mem_of_getElem? hp) with k | k
  ·exact .inl ⟨k,bindL_get ndP hp hu k⟩
  ·obtain ⟨c,e⟩ := cell_has (n := s.heap.objs.size + 1) k
   refine .inr ⟨.inl k,c,e,?_⟩
   have q := x.cell y c e
   rw [bindC_get ndP hp hu (by show scope.names.lookup y ≠ _; rw [k]; decide)] at q
   exact q
 ·exact e0.hok.fresh (Nat.le_of_lt (x.above y c (PySem.mem_of_lookup h)))
 ·unfold start
  show _ = N.length
  rw [List.length_append,List.length_map,List.length_replicate]
  omega
theorem fn_of {CX : CXT} {P : Program} {w : World} {K : PySem.W.Frag} {mg : Str → Option Value} {base : Heap} {k : Nat} {f : Addr} {name qual : Str} {params : Arguments} {body : List Stmt} {scope : Scope} {dV kV doc pm cdv ct oc : Value} {an od : Option Addr}
  {osl : Array (Option Value)} {N ps : List Str} {sp : Sp} (lk : K.lookup f = some ⟨oc,od,.func (PySem.W.fnOf name qual params body scope dV kV doc pm an cdv ct),osl⟩) (hcd : PySem.W.codeIn K cdv qual = true) (S : FnScope N ps scope)
  (len : ∀ vs H Q E,sp vs H Q E → vs.length = ps.length)
  (hbody : ∀ (A : Around) (outer : List Env) (s : Shared) (H : Hp) (vs : List V) (Q : VK) (E : XK),Room k (A.deeper (envOfC qual scope s.heap.objs.size f cdv)) → sp vs H Q E →
   ∃ t,PSs (cxOf CX P w K mg base N qual scope f cdv A outer s H E) body t ∧ t { nx := fun _ H' => Q .non H',rt := Q } (start N vs) H) :
  FnOk P w K mg base CX (k + 1) f (PySem.W.fnOf name qual params body scope dV kV doc pm an cdv ct) ps sp := by
 refine ⟨len,fun A outer s H args us vs Q E hr e0 hb r hsp => ?_⟩
 have hl := len _ _ _ _ hsp
 have KX : K.In s.heap := e0.mod.kin.keeps fun b o e => (e0.bs b o e).1
 have lim : s.heap.NoLimit := e0.mod.nolimit.keeps fun b o e => (e0.bs b o e).1
 have hkind : ∀ y ∈ ps.zip us,scope.names.lookup y.1 = some .local ∨ (scope.names.lookup y.1 = some .cell ∧ ((cellsFrom (s.heap.objs.size + 1) scope.names []).lookup y.1).isSome = true) := fun ⟨n,v⟩ hy => by
  rcases S.par n (List.of_mem_zip hy).1 with q | q
  ·exact .inl q
  ·exact .inr ⟨q,PySem.W.cellsFrom_some _ _ _ (.inl q)⟩
 refine codeAny_call_function hr.depth (KX _ _ lk) rfl S.co S.gen rfl (PySem.W.codeRec_of KX hcd) (hb _ _ _ _ ?_)
 refine wpAny_newFunctionEnv_cells S.kind hkind fun env he s1 x => ?_
 subst he
 refine ⟨lim.keeps x.toInCall.keep,codeAny_func ?_⟩
 obtain ⟨t,ht,hq⟩ := hbody A outer s H vs Q E (hr.deeper _) hsp
 have I : Inv (cxOf CX P w K mg base N qual scope f cdv A outer s H E) [] (start N vs) H s1 := inv_start S hr.hd e0 hl r x
 refine wpAny_mono (ht [] s1 (start N vs) H _ I hq) (fun fl s' hs => ?_) fun e s' hs => hs
 have fin : ∀ {σ' : St} {H' : Hp} {v : V} {u : Value},Inv (cxOf CX P w K mg base N qual scope f cdv A outer s H E) [] σ' H' s' → RelV v u → Q v H' → CE outer P w H s Q u s' :=
  fun {σ' H' v u} J rv q => ⟨v,H',J.os,J.bare,J.base,J.hok,rv,q⟩
 cases fl with
 | ret u =>
  obtain ⟨v,σ',H',J,rv,q⟩ := hs
  exact fin J rv q
 | next =>
  obtain ⟨σ',H',J,q⟩ := hs
  exact fin (v := V.non) (u := Value.none) J rfl q
 | brk =>
  obtain ⟨_,_,_,q⟩ := hs
  exact False.elim q
 | cont =>
  obtain ⟨_,_,_,q⟩ := hs
  exact False.elim q
end L2
namespace L2
open PySem PySem.Spec PyProof.Rows
section
variable {X : Cx} {x : Str} {p pos : Pos} {e : Expr} {es : List Expr} {t : TA} {id T : String} {r : List V → Hp → VK → Prop}
def tCB (r : List V → Hp → VK → Prop) (t : TA) : TE := fun σ H Q => t σ H fun vs H1 => r vs H1 Q
theorem pe_callB (hc : CallR X (.builtin id) r) (hg : Gl X x) (hm : X.mg x = none) (hv : bootBuiltins x = some (.builtin id)) (ha : PA X (e :: es) t) (hn : x ≠ "__name__" := by decide) (hdb : (x == ("__debug__" : Str)) = false := by decide)
  (he : starEach (e :: es) X.env = (false,eval e X.env) :: starEach es X.env := by rfl) (hpl : (backTo pos (starEach es X.env)).any (·.1) = false := by rfl) : PE X (.Call (.Name x p) (e :: es) [] pos) (tCB r t) := by
 intro pins s σ H Q I h
 refine wpAny_Call_Name_kw (ld_blt I hg hm hv ?_ hn hdb)
 exact PyProof.Rows.callWith_builtin1 (thn (ha pos pins s σ H _ I h) fun us s1 ⟨vs,H1,I1,r1,q1⟩ => hc pins s1 σ H1 vs us Q I1 r1 q1) he hpl
theorem pe_callTy (hc : CallR X (.type T) r) (hg : Gl X x) (hm : X.mg x = none) (hv : bootBuiltins x = some (.type T)) (ha : PA X (e :: es) t) (hn : x ≠ "__name__" := by decide) (hdb : (x == ("__debug__" : Str)) = false := by decide)
  (he : starEach (e :: es) X.env = (false,eval e X.env) :: starEach es X.env := by rfl) (hpl : (backTo pos (starEach es X.env)).any (·.1) = false := by rfl) : PE X (.Call (.Name x p) (e :: es) [] pos) (tCB r t) := by
 intro pins s σ H Q I h
 refine wpAny_Call_Name_kw (ld_blt I hg hm hv ?_ hn hdb)
 exact PyProof.Rows.callWith_type1 (thn (ha pos pins s σ H _ I h) fun us s1 ⟨vs,H1,I1,r1,q1⟩ => hc pins s1 σ H1 vs us Q I1 r1 q1) he hpl
end
end L2
namespace HT
open PySem PyProof.Rows
section
open PySem.SeqAt
open PySem.AutoSeq1 (wpAny_loadPart')
open PySem.MeetsSeq PySem.MeetsSeq2 PySem.MeetsSeq3
end
section
variable {prog : Program} {w : World} {A : Around} {E : Value → Shared → Prop} {s : Shared}
def sIx (n d : Nat) : Option Int → Nat
 | none => d
 | some v => if v < 0 then (v + (n : Int)).toNat else min v.toNat n
end
end HT
namespace L2
open PySem PySem.Spec PyProof.Rows
abbrev TO := St → Hp → (Option Int → Hp → Prop) → Prop
def PO (X : Cx) (e : Option Expr) (t : TO) : Prop :=
 ∀ (pins : List (Addr × Obj)) (s : Shared) (σ : St) (H : Hp) (Q : Option Int → Hp → Prop),Inv X pins σ H s → t σ H Q →
  wpAny (model X.prog X.w) X.A (evalPart e X.env) (fun u s' => ∃ o H',Inv X pins σ H' s' ∧ IsPart u o ∧ Q o H') X.xe s
def tNoPart : TO := fun _ H Q => Q none H
def tPart (t : TE) : TO := fun σ H Q => t σ H fun x H1 => ∃ i,x = .int i ∧ Q (some i) H1
section
variable {X : Cx} {e : Expr} {te : TE} {lo hi : Option Expr} {tl th : TO} {pos p2 : Pos}
theorem po_none : PO X none tNoPart := by
 intro pins s σ H Q I h
 rw [evalPart_none]
 exact wpAny_pure ⟨none,H,I,.none,h⟩
theorem po_some (h : PE X e te) : PO X (some e) (tPart te) := by
 intro pins s σ H Q I hw
 rw [evalPart_some]
 refine thn (h pins s σ H _ I hw) fun u s1 ⟨x,H1,I1,r1,q1⟩ => ?_
 obtain ⟨i,rfl,q⟩ := q1
 obtain ⟨t,rfl⟩ := r1
 exact ⟨some i,H1,I1,.int i t,q⟩
def SlR (X : Cx) (r : V → Option Int → Option Int → Hp → VK → Prop) : Prop :=
 ∀ (pins : List (Addr × Obj)) (s : Shared) (σ : St) (H : Hp) (x : V) (v vl vu : Value) (lo hi : Option Int) (sl : Addr) (Q : VK),Inv X pins σ H s → RelV x v → s.heap.IsSliceOf sl vl vu .none → IsPart vl lo → IsPart vu hi → r x lo hi H Q →
  ∃ T id,typeLookup (.type T) "__getitem__" = pure (some (.builtin id)) ∧ s.TypeIs v T ∧ wpAny (model X.prog X.w) X.A (getItem v (.ref sl)) (EP X pins σ Q) X.xe s
theorem SlR.or {r r' : V → Option Int → Option Int → Hp → VK → Prop} (h : SlR X r) (h' : SlR X r') : SlR X (fun x lo hi H Q => r x lo hi H Q ∨ r' x lo hi H Q) := by
 intro pins s σ H x v vl vu lo hi sl Q I rx hs pl pu q
 rcases q with q | q
 ·exact h pins s σ H x v vl vu lo hi sl Q I rx hs pl pu q
 ·exact h' pins s σ H x v vl vu lo hi sl Q I rx hs pl pu q
def tSl (r : V → Option Int → Option Int → Hp → VK → Prop) (te : TE) (tl th : TO) : TE := fun σ H Q => te σ H fun x H1 => tl σ H1 fun l H2 => th σ H2 fun u H3 => r x l u H3 Q
theorem pe_slice {r : V → Option Int → Option Int → Hp → VK → Prop} (hr : SlR X r) (he : PE X e te) (hl : PO X lo tl) (hu : PO X hi th) : PE X (.Subscript e (.Slice lo hi none p2) pos) (tSl r te tl th) := by
 intro pins s σ H Q I h
 refine Subscript_ (thn (he pins s σ H _ I h) fun v s1 ⟨x,H1,I1,r1,q1⟩ => ?_)
 refine wpAny_Slice (thn (hl pins s1 σ H1 _ I1 q1) fun vl s2 ⟨l,H2,I2,pl,q2⟩ => thn (hu pins s2 σ H2 _ I2 q2) fun vu s3 ⟨u,H3,I3,pu,q3⟩ => ?_)
 rw [evalPart_none]
 refine wpAny_pure ?_
 have I4 : Inv X pins σ H3 { s3 with heap := s3.heap.push { cls := .type "slice",data := .fields #[vl,vu,.none] } } := I3.kept (t' := s3.toks) fun b ob q => Heap.get?_push_of_some _ q
 obtain ⟨T,id,hT,ht,hg⟩ := hr pins { s3 with heap := s3.heap.push { cls := .type "slice",data := .fields #[vl,vu,.none] } } σ H3 x v vl vu l u s3.heap.objs.size Q I4 r1 (Heap.IsSliceOf.new ..) pl pu q3
 show wpAny (model X.prog X.w) X.A (subscriptTail e (.Slice lo hi none p2) v (.ref s3.heap.objs.size)) (EP X pins σ Q) X.xe { s3 with heap := s3.heap.push { cls := .type "slice",data := .fields #[vl,vu,.none] } }
 exact tail_any (ops := [.ref s3.heap.objs.size,v]) ht hT hg (by with_unfolding_all rfl)
def cutV (xs : List V) (lo hi : Option Int) : List V := (xs.drop (HT.sIx xs.length 0 lo)).take (HT.sIx xs.length xs.length hi - HT.sIx xs.length 0 lo)
theorem cutV_length (xs : List V) (lo hi : Option Int) : (cutV xs lo hi).length ≤ xs.length := by
 unfold cutV
 rw [List.length_take,List.length_drop]
 omega
end
end L2
namespace L2
open PySem PySem.Spec PyProof.Rows
def ixN (n : Nat) (i : Int) : Option Nat := if 0 ≤ i then (if i < n then some i.toNat else none) else if -(n : Int) ≤ i then some (i + n).toNat else none
def atI {α : Type} (xs : List α) (i : Int) : Option α := (ixN xs.length i).bind fun j => xs[j]?
theorem ixN_seq {n : Nat} {i : Int} {j : Nat} (h : ixN n i = some j) : seqIndex? i n = some j ∧ j < n ∧ -(n : Int) ≤ i ∧ i < n := by
 unfold ixN at h
 by_cases h0 : 0 ≤ i
 ·rw [if_pos h0] at h
  by_cases h1 : i < n
  ·rw [if_pos h1] at h
   have e : i.toNat = j := Option.some.inj h
   exact ⟨by rw [seqIndex_of h0 h1,e],by omega,by omega,h1⟩
  ·rw [if_neg h1] at h; cases h
 ·rw [if_neg h0] at h
  by_cases h1 : -(n : Int) ≤ i
  ·rw [if_pos h1] at h
   have e : (i + n).toNat = j := Option.some.inj h
   exact ⟨by rw [seqIndex_neg (by omega) h1,e],by omega,h1,by omega⟩
  ·rw [if_neg h1] at h; cases h
theorem atI_get {α : Type} {xs : List α} {i : Int} {v : α} (h : atI xs i = some v) : ∃ j,seqIndex? i xs.length = some j ∧ xs[j]? = some v ∧ j < xs.length ∧ -(xs.length : Int) ≤ i ∧ i < xs.length := by
 unfold atI at h
 cases e : ixN xs.length i with
 | none => rw [e] at h; cases h
 | some j =>
  rw [e] at h
  obtain ⟨h1,h2,h3,h4⟩ := ixN_seq e
  exact ⟨j,h1,h,h2,h3,h4⟩
theorem atI_nat {α : Type} {xs : List α} {j : Nat} {v : α} (h : xs[j]? = some v) : atI xs (j : Int) = some v := by
 have hj : j < xs.length := (List.getElem?_eq_some_iff.mp h).1
 have e : ixN xs.length (j : Int) = some j := by
  unfold ixN
  rw [if_pos (by omega),if_pos (by omega)]; simp
 unfold atI; rw [e]; exact h
theorem atI_last {α : Type} (xs : List α) (v : α) : atI (xs ++ [v]) (-1) = some v := by
 have hl : (xs ++ [v]).length = xs.length + 1 := by simp
 have e : ixN (xs ++ [v]).length (-1) = some xs.length := by
  unfold ixN
  rw [hl,if_neg (by decide),if_pos (by omega)]
  congr 1
  omega
 unfold atI
 rw [e]
 show (xs ++ [v])[xs.length]? = some v
 simp
def PlainIx (b : Expr) : Prop := ∀ o i,subscripted b false o i = operate [o,i] (getItem o i)
def IxR (X : Cx) (r : R2) : Prop :=
 ∀ (value slice : Expr) (pins : List (Addr × Obj)) (s : Shared) (σ : St) (H : Hp) (x y : V) (v u : Value) (Q : VK),Inv X pins σ H s → RelV x v → RelV y u → r x y H Q →
  subscripted slice false v u = operate [v,u] (getItem v u) → wpAny (model X.prog X.w) X.A (subscriptTail value slice v u) (EP X pins σ Q) X.xe s
def MtR (X : Cx) (id : String) (r : V → List V → Hp → VK → Prop) : Prop :=
 ∀ (pins : List (Addr × Obj)) (s : Shared) (σ : St) (H : Hp) (x : V) (xs : List V) (v : Value) (us : List Value) (Q : VK),Inv X pins σ H s → RelV x v → Vals xs us → r x xs H Q →
  wpAny (model X.prog X.w) X.A (call (.builtin id) (v :: us)) (EP X pins σ Q) X.xe s
section
variable {X : Cx} {a b : Expr} {ta tb : TE} {pos : Pos}
theorem IxR.or {r r' : R2} (h : IxR X r) (h' : IxR X r') : IxR X (fun x y H Q => r x y H Q ∨ r' x y H Q) := by
 intro value slice pins s σ H x y v u Q I rx ry q hs
 rcases q with q | q
 ·exact h value slice pins s σ H x y v u Q I rx ry q hs
 ·exact h' value slice pins s σ H x y v u Q I rx ry q hs
theorem MtR.or {id : String} {r r' : V → List V → Hp → VK → Prop} (h : MtR X id r) (h' : MtR X id r') : MtR X id (fun x xs H Q => r x xs H Q ∨ r' x xs H Q) := by
 intro pins s σ H x xs v us Q I rx rs q
 rcases q with q | q
 ·exact h pins s σ H x xs v us Q I rx rs q
 ·exact h' pins s σ H x xs v us Q I rx rs q
theorem pe_ix {r : R2} (hr : IxR X r) (ha : PE X a ta) (hb : PE X b tb) (hs : PlainIx b) : PE X (.Subscript a b pos) (tOp r ta tb) := by
 intro pins s σ H Q I h
 exact Subscript_ (binT ha hb I h fun v u s2 x y H2 I2 rx ry q => hr a b pins s2 σ H2 x y v u Q I2 rx ry q (hs _ _))
def rIxL (K : PySem.W.Frag) : R2 := fun x y H Q => ∃ p xs i v,x = .ref p ∧ y = .int i ∧ SqL K H p xs ∧ atI xs i = some v ∧ Q v H
def rIxT (K : PySem.W.Frag) : R2 := fun x y H Q => ∃ p xs i v,x = .ref p ∧ y = .int i ∧ SqT K H p xs ∧ atI xs i = some v ∧ Q v H
theorem ix_list : IxR X (rIxL X.K) := by
 intro value slice pins s σ H x y v u Q I rx ry h hs
 obtain ⟨p,xs,i,z,rfl,rfl,hq,he,q⟩ := h
 cases rx
 obtain ⟨t,rfl⟩ := ry
 obtain ⟨its,r,pl,hz⟩ := I.list hq
 obtain ⟨j,h1,h2,h3,h4,h5⟩ := atI_get he
 obtain ⟨w,ew,rw'⟩ := r.get h2
 have hl := r.length
 have hn := line63
 have fin : EP X pins σ Q w s := ⟨z,H,I,rw',q⟩
 by_cases h0 : 0 ≤ i
 ·have hj : i.toNat = j := by
   rw [seqIndex_of h0 h5] at h1
   exact Option.some.inj h1
  exact item_listR pl.isList h0 (by omega) (by rw [hj]; simpa using ew) fin hs
 ·have hj : (i + (its.toArray.size : Int)).toNat = j := by
   rw [seqIndex_neg (by omega) h4] at h1
   rw [List.size_toArray,← hl]
   exact Option.some.inj h1
  exact subscriptTail_builtinR (x := w) pl.isList.typeIs slot_list_getitem.lookup
   (wpAny_getItem_list_neg (Q := fun r s' => r = w ∧ EP X pins σ Q r s') pl.isList (by omega) (by rw [List.size_toArray] <;> omega) (by omega) (by rw [hj]; simpa using ew) ⟨rfl,fin⟩) hs
theorem ix_tup : IxR X (rIxT X.K) := by
 intro value slice pins s σ H x y v u Q I rx ry h hs
 obtain ⟨p,xs,i,z,rfl,rfl,hq,he,q⟩ := h
 cases rx
 obtain ⟨t,rfl⟩ := ry
 obtain ⟨its,r,pl,hz⟩ := I.tuple hq
 obtain ⟨j,h1,h2,h3,h4,h5⟩ := atI_get he
 obtain ⟨w,ew,rw'⟩ := r.get h2
 have hl := r.length
 have hn := line63
 have fin : EP X pins σ Q w s := ⟨z,H,I,rw',q⟩
 exact subscriptTail_builtinR (x := w) pl.typeIs slot_tuple_getitem.lookup
  (getItem_tuple (j := j) (Q := fun r s' => r = w ∧ EP X pins σ Q r s') pl (by omega) (by omega) (by rw [List.size_toArray,← hl]; exact h1) (by simpa using ew) ⟨rfl,fin⟩) hs
theorem mapSeq_set (its : List Value) (n j : Nat) (u : Value) : Obj.mapSeq (·.setIfInBounds j u) { cls := .type "list",data := .seq its.toArray n } = { cls := .type "list",data := .seq (its.set j u).toArray n } := by
 simp [Obj.mapSeq]
theorem Inv.lst {pins : List (Addr × Obj)} {σ : St} {H : Hp} {s : Shared} {p : Addr} {xs : List V} (I : Inv X pins σ H s) (h : H p = some (.lst xs)) :
  ∃ (its : List Value) (n : Nat),Vals xs its ∧ s.heap.get? p = some { cls := .type "list",data := .seq its.toArray n } ∧ xs.length ≤ sizeLine := by
 obtain ⟨z,its,n,r,e⟩ := I.hok p _ h
 exact ⟨its,n,r,e,z⟩
theorem Inv.lstUpd {pins : List (Addr × Obj)} {σ : St} {H : Hp} {s : Shared} {p : Addr} {xs ys : List V} {its its' : List Value} {n n' : Nat} {f : Obj → Obj} (I : Inv X pins σ H s) (h : H p = some (.lst xs))
  (ho : s.heap.get? p = some { cls := .type "list",data := .seq its.toArray n }) (hf : f { cls := .type "list",data := .seq its.toArray n } = { cls := .type "list",data := .seq its'.toArray n' }) (r : Vals ys its') (hz : ys.length ≤ sizeLine) (t : Nat) :
  Inv X pins σ (upd H p (.lst ys)) { s with heap := s.heap.update p f,toks := t } := by
 have e : (s.heap.update p f).get? p = some { cls := .type "list",data := .seq its'.toArray n' } := by
  rw [Heap.get?_update_self f ho (by rw [hf] <;> rfl),hf]
 refine I.write (x := p) (e := p) (by rw [h]; trivial) (.inl rfl) (fun b u hb q => (Heap.get?_update_other _ _ (Ne.symm hb)).trans q) ⟨_,e⟩ ?_
 exact ⟨hz,its',n',r,e⟩
def rSetL : V → V → V → Hp → (Hp → Prop) → Prop := fun o i v H Q => ∃ p xs k j,o = .ref p ∧ i = .int k ∧ H p = some (.lst xs) ∧ ixN xs.length k = some j ∧ Q (upd H p (.lst (xs.set j v)))
theorem set_list : PSet X rSetL := by
 intro pins s σ H o i v ov iv u Q I ro ri rv h
 obtain ⟨p,xs,k,j,rfl,rfl,hp,hj,q⟩ := h
 cases ro
 obtain ⟨t,rfl⟩ := ri
 obtain ⟨its,n,r,ho,hz⟩ := I.lst hp
 obtain ⟨h1,h2,h3,h4⟩ := ixN_seq hj
 have hl := r.length
 have hn := line63
 have I' : Inv X pins σ (upd H p (.lst (xs.set j v))) { s with heap := s.heap.update p (Obj.mapSeq (·.setIfInBounds j u)) } :=
  I.lstUpd hp ho (mapSeq_set its n j u) (r.set rv j) (by rw [List.length_set]; exact hz) s.toks
 by_cases h0 : 0 ≤ k
 ·have hk : k.toNat = j := by
   rw [seqIndex_of h0 h4] at h1
   exact Option.some.inj h1
  exact PySem.W.ki_setAt ho h0 (by omega) (by rw [List.size_toArray,← hl]; exact h4) (by rw [hk]; exact ⟨_,I',q⟩)
 ·have hk : (k + (its.toArray.size : Int)).toNat = j := by
   rw [seqIndex_neg (by omega) h3] at h1
   rw [List.size_toArray,← hl]
   exact Option.some.inj h1
  exact PySem.W.ki_setBack ho (by omega) (by rw [List.size_toArray,← hl]; exact h3) (by omega) (by rw [hk]; exact ⟨_,I',q⟩)
theorem slice_bounds (lo hi : Option Int) (n : Nat) : (sliceBounds lo hi none n).1 = ((HT.sIx n 0 lo : Nat) : Int) ∧ (sliceBounds lo hi none n).2.1 = ((HT.sIx n n hi : Nat) : Int) ∧ (sliceBounds lo hi none n).2.2 = 1 := by
 refine ⟨?_,?_,rfl⟩
 ·cases lo with
  | none => simp [sliceBounds,HT.sIx]
  | some i =>
   simp only [sliceBounds,HT.sIx,Option.getD_none,show (1 : Int) > 0 by decide,if_true]
   by_cases h : i < 0
   ·simp only [h,if_true] <;> omega
   ·simp only [h,if_false] <;> omega
 ·cases hi with
  | none => simp [sliceBounds,HT.sIx]
  | some i =>
   simp only [sliceBounds,HT.sIx,Option.getD_none,show (1 : Int) > 0 by decide,if_true]
   by_cases h : i < 0
   ·simp only [h,if_true] <;> omega
   ·simp only [h,if_false] <;> omega
theorem slicePick_cut (its : List Value) (lo hi : Option Int) : slicePick its.toArray lo hi none = ((its.drop (HT.sIx its.length 0 lo)).take (HT.sIx its.length its.length hi - HT.sIx its.length 0 lo)).toArray := by
 obtain ⟨h1,h2,h3⟩ := slice_bounds lo hi its.toArray.size
 unfold slicePick
 rw [h1,h2,h3]
 simp only [sliceRange_one,pick_run,List.size_toArray] <;> rfl
def rSlL (K : PySem.W.Frag) : V → Option Int → Option Int → Hp → VK → Prop := fun x lo hi H Q => ∃ a xs,x = .ref a ∧ SqL K H a xs ∧ ∀ p,H p = none → Q (.ref p) (upd H p (.lst (cutV xs lo hi)))
theorem sl_list : SlR X (rSlL X.K) := by
 intro pins s σ H x v vl vu lo hi sl Q I rx hs pl pu h
 obtain ⟨a,xs,rfl,hx,q⟩ := h
 cases rx
 obtain ⟨its,r,ht,hz⟩ := I.list hx
 have hlen := r.length
 refine ⟨"list",_,slot_list_getitem.lookup,ht.isList.typeIs,?_⟩
 refine wpAny_getItem_list_slice ht.isList hs pl pu .none (by simp) ?_ (by rw [List.size_toArray] <;> omega)
 rw [slicePick_cut,← hlen]
 refine ⟨.ref s.heap.objs.size,_,I.laid (t' := s.toks) (o := .lst (cutV xs lo hi)) (fun b ob q => Heap.get?_push_of_some _ q) (Nat.le_refl _) ?_,rfl,q _ (I.hok.fresh (Nat.le_refl _))⟩
 exact ⟨Nat.le_trans (cutV_length xs lo hi) hz,_,0,(r.drop (HT.sIx xs.length 0 lo)).take (HT.sIx xs.length xs.length hi - HT.sIx xs.length 0 lo),Heap.get?_push_size _ rfl⟩
theorem call_len_seq : CallR X (.builtin "len") (fun xs H Q => ∃ p ys,xs = [.ref p] ∧ (SqL X.K H p ys ∨ SqT X.K H p ys) ∧ Q (.int ys.length) H) := by
 intro pins s σ H xs us Q I r h
 obtain ⟨p,ys,rfl,hq,q⟩ := h
 obtain ⟨u,rfl,rx⟩ := vals1 r
 cases rx
 have hn := line63
 rcases hq with hq | hq
 ·obtain ⟨its,r',pl,hz⟩ := I.list hq
  have hlen := r'.length
  exact Calls.call_len_list pl.isList (by simp only [List.size_toArray] <;> omega) ⟨.int ys.length,H,I.tok _,⟨s.toks + 1,by rw [List.size_toArray,hlen]⟩,q⟩
 ·obtain ⟨its,r',pl,hz⟩ := I.tuple hq
  have hlen := r'.length
  exact len_tuple pl (by simp only [List.size_toArray] <;> omega) ⟨.int ys.length,H,I.tok _,⟨s.toks + 1,by rw [List.size_toArray,hlen]⟩,q⟩
theorem CallR.or {f : Value} {r r' : List V → Hp → VK → Prop} (h : CallR X f r) (h' : CallR X f r') : CallR X f (fun xs H Q => r xs H Q ∨ r' xs H Q) := by
 intro pins s σ H xs us Q I rs q
 rcases q with q | q
 ·exact h pins s σ H xs us Q I rs q
 ·exact h' pins s σ H xs us Q I rs q
theorem call_list_of : CallR X (.type "list") (fun xs H Q => ∃ p ys,xs = [.ref p] ∧ (SqL X.K H p ys ∨ SqT X.K H p ys) ∧ ∀ l,H l = none → Q (.ref l) (upd H l (.lst ys))) := by
 intro pins s σ H xs us Q I r h
 obtain ⟨p,ys,rfl,hq,q⟩ := h
 obtain ⟨u,rfl,rx⟩ := vals1 r
 cases rx
 have fin : ∀ (its : List Value),Vals ys its → ys.length ≤ sizeLine → ∀ (h' : Heap) (c' : Nat),(∀ b o',s.heap.get? b = some o' → h'.get? b = some o') →
   h'.get? s.heap.objs.size = some { cls := .type "list",dict := none,data := .seq its.toArray c',slots := #[] } → EP X pins σ Q (.ref s.heap.objs.size) { s with heap := h' } := fun its r' hz h' c' kp e =>
  ⟨.ref s.heap.objs.size,_,I.laid (t' := s.toks) kp (Nat.le_refl _) (show ObjOk X.prog X.w _ h' _ (.lst ys) from ⟨hz,its,c',r',e⟩),rfl,q _ (I.hok.fresh (Nat.le_refl _))⟩
 rcases hq with hq | hq
 ·obtain ⟨its,r',pl,hz⟩ := I.list hq
  have hlen := r'.length
  obtain ⟨o,ho,hc,n,hd⟩ := pl.isList
  exact call_list_seq p (.inl rfl) ho hc hd (fun h' c' kp e => fin its r' hz h' c' kp e) (by simp only [List.size_toArray] <;> omega)
 ·obtain ⟨its,r',pl,hz⟩ := I.tuple hq
  have hlen := r'.length
  obtain ⟨o,ho,hc,n,hd⟩ := pl
  exact call_list_seq p (.inr rfl) ho hc hd (fun h' c' kp e => fin its r' hz h' c' kp e) (by simp only [List.size_toArray] <;> omega)
def tyV (K : PySem.W.Frag) (T : String) (x : V) (H : Hp) : Prop := match x with
 | .str _ => T = "str"
 | .int _ => T = "int"
 | .ref p => (T = "list" ∧ ∃ xs,SqL K H p xs) ∨ (T = "tuple" ∧ ∃ o,K.lookup p = some o ∧ o.cls = .type "tuple" ∧ o.dict = none) ∨
   (T = "dict" ∧ ((∃ kvs,H p = some (.dK kvs)) ∨ ∃ kvs,H p = some (.dT kvs))) ∨ (T = "set" ∧ ∃ S n,H p = some (.set S n))
 | _ => False
theorem tyV_is {pins : List (Addr × Obj)} {σ : St} {H : Hp} {s : Shared} {T : String} {x : V} {v : Value} (I : Inv X pins σ H s) (r : RelV x v) (ty : tyV X.K T x H) :
  s.TypeIs v T ∧ ∀ a,v = .ref a → ∃ ob,s.heap.get? a = some ob ∧ ob.dict = none := by
 cases x with
 | str z =>
  obtain ⟨t,rfl⟩ := r
  cases (show T = "str" from ty)
  exact ⟨typeIs_str s z t,fun _ e => nomatch e⟩
 | int i =>
  obtain ⟨t,rfl⟩ := r
  cases (show T = "int" from ty)
  exact ⟨typeIs_int s i t,fun _ e => nomatch e⟩
 | ref p =>
  cases r
  rcases ty with ⟨rfl,xs,hq⟩ | ⟨rfl,o,hk,hc,hd⟩ | ⟨rfl,hk⟩ | ⟨rfl,S,n,hk⟩
  ·obtain ⟨its,_,pl,_⟩ := I.list hq
   refine ⟨pl.isList.typeIs,fun a e => ?_⟩
   cases e
   obtain ⟨o,n,e,c,hd,_⟩ := pl
   exact ⟨o,e,hd⟩
  ·refine ⟨⟨o,I.kIn p o hk,hc⟩,fun a e => ?_⟩
   cases e
   exact ⟨o,I.kIn _ o hk,hd⟩
  ·have z : ∃ o,s.heap.get? p = some o ∧ o.ExactDict := by
    rcases hk with ⟨kvs,hk⟩ | ⟨kvs,hk⟩
    ·obtain ⟨_,_,_,_,o,_,_,e,ex,_⟩ := I.hok p _ hk
     exact ⟨o,e,ex⟩
    ·obtain ⟨_,_,_,_,o,_,_,e,ex,_⟩ := I.hok p _ hk
     exact ⟨o,e,ex⟩
   obtain ⟨o,e,ex⟩ := z
   refine ⟨⟨o,e,ex.1⟩,fun a e2 => ?_⟩
   cases e2
   exact ⟨o,e,ex.2.1⟩
  ·obtain ⟨o,_,_,_,e,ex,_⟩ := I.hok p _ hk
   refine ⟨⟨o,e,ex.1⟩,fun a e2 => ?_⟩
   cases e2
   exact ⟨o,e,ex.2.1⟩
 | _ => exact False.elim ty
def tBM (K : PySem.W.Frag) (T : String) (r : V → List V → Hp → VK → Prop) (to : TE) (t : TA) : TE := fun σ H Q => to σ H fun x H1 => tyV K T x H1 ∧ t σ H1 fun xs H2 => r x xs H2 Q
variable {o e : Expr} {es : List Expr} {to : TE} {t : TA} {name : Str} {apos cpos : Pos} {T id : String} {r : V → List V → Hp → VK → Prop}
theorem pe_bm (pa : PlainAttrs T) (slot : Slot T name id) (hty : typeOf (.builtin id) = pure (.type "method_descriptor")) (hm : MtR X id r) (ho : PE X o to) (ha : PA X (e :: es) t)
  (hbase : attributeBase o name X.env (eval o X.env) = eval o X.env := by rfl)
  (hfew : ((backTo cpos (starEach (e :: es) X.env)).all (fun x => !x.1) && (backToKw cpos (keywordEach [] X.env)).all (fun x => x.1.isSome)
   && decide ((e :: es).length + ([] : List Keyword).length + (if ([] : List Keyword).isEmpty then 0 else 1) < 30)) = true := by rfl)
  (hline : (apos.endLine == cpos.line) = true := by rfl) (hs : starEach (e :: es) X.env = (false,eval e X.env) :: starEach es X.env := by rfl) (hplain : (backTo cpos (starEach es X.env)).any (·.1) = false := by rfl) :
  PE X (.Call (.Attribute o name apos) (e :: es) [] cpos) (tBM X.K T r to t) := by
 intro pins s σ H Q I h
 refine wpAny_Call_method_late hbase hfew hline rfl (thn (ho pins s σ H _ I h) fun v s1 ⟨x,H1,I1,r1,ty,q1⟩ => ?_)
 obtain ⟨h1,h2⟩ := tyV_is I1 r1 ty
 refine ⟨T,id,pa,slot,hty,h1,h2,?_⟩
 have hA := ha cpos pins s1 σ H1 _ I1 q1
 rw [hs] at hA ⊢
 refine Calls.callWith_builtin (by show (false || (backTo cpos (starEach es X.env)).any (·.1)) = false; rw [hplain] <;> rfl) (Calls.evalArgs_plain ?_)
 exact thn hA fun us s2 ⟨vs,H2,I2,r2,q2⟩ => hm pins s2 σ H2 x vs v us Q I2 r1 r2 q2
end
end L2
namespace L2
open PySem PySem.Spec PyProof.Rows
def MtM (X : Cx) (id : String) (r : V → List V → Hp → VK → Prop) : Prop :=
 ∀ (pins : List (Addr × Obj)) (s : Shared) (σ : St) (H : Hp) (x : V) (xs : List V) (v : Value) (us : List Value) (Q : VK),Inv X pins σ H s → RelV x v → Vals xs us → r x xs H Q →
  wpAny (model X.prog X.w) X.A (call (.builtin id) (v :: us)) (EP X pins σ Q) X.xe s
theorem Vals.one : ∀ {x : V} {us : List Value},Vals [x] us → ∃ u,us = [u] ∧ RelV x u
 | _,_,.cons r .nil => ⟨_,rfl,r⟩
theorem Vals.two : ∀ {x y : V} {us : List Value},Vals [x,y] us → ∃ u v,us = [u,v] ∧ RelV x u ∧ RelV y v
 | _,_,_,.cons r (.cons q .nil) => ⟨_,_,rfl,r,q⟩
theorem Vals.zero : ∀ {us : List Value},Vals [] us → us = []
 | _,.nil => rfl
theorem Vals.dropLast {xs : List V} {us : List Value} (h : Vals xs us) : Vals xs.dropLast us.dropLast := by
 induction h with
 | nil => exact .nil
 | cons r t ih =>
  cases t with
  | nil => exact .nil
  | cons q t' => exact .cons r ih
theorem Vals.eraseIdx : ∀ {xs : List V} {us : List Value} (i : Nat),Vals xs us → Vals (xs.eraseIdx i) (us.eraseIdx i)
 | _,_,_,.nil => .nil
 | _,_,0,.cons _ t => t
 | _,_,i + 1,.cons r t => .cons r (Vals.eraseIdx i t)
theorem Vals.reverse {xs : List V} {us : List Value} (h : Vals xs us) : Vals xs.reverse us.reverse := by
 induction h with
 | nil => exact .nil
 | cons r t ih => rw [List.reverse_cons,List.reverse_cons]; exact Vals.append ih (.cons r .nil)
section
variable {X : Cx} {pins : List (Addr × Obj)} {σ : St} {H : Hp} {s : Shared} {l b : Addr} {xs ys zs : List V}
theorem Inv.lset {its its' : List Value} {n : Nat} {f : Array Value → Array Value} {t' : Nat} (I : Inv X pins σ H s) (hH : H l = some (.lst xs))
  (e : s.heap.get? l = some { cls := .type "list",data := .seq its.toArray n }) (hf : f its.toArray = its'.toArray) (hv : Vals ys its') (hz : ys.length ≤ sizeLine) :
  Inv X pins σ (upd H l (.lst ys)) { s with heap := s.heap.update l (Obj.mapSeq f),toks := t' } := by
 have q := PySem.IsL.update e f
 rw [hf] at q
 refine I.write (x := l) (e := l) (by rw [hH]; exact trivial) (.inl rfl) (fun b' u hb hu => (Heap.get?_update_other s.heap (Obj.mapSeq f) (Ne.symm hb)).trans hu) ⟨_,q⟩ ?_
 exact ⟨hz,its',_,hv,q⟩
theorem Inv.lnew {its : List Value} {t' : Nat} (I : Inv X pins σ H s) (hv : Vals ys its) (hz : ys.length ≤ sizeLine) :
  Inv X pins σ (upd H s.heap.objs.size (.lst ys)) { s with heap := s.heap.push { cls := .type "list",data := .seq its.toArray },toks := t' } :=
 I.laid (fun _ _ q => Heap.get?_push_of_some _ q) (Nat.le_refl _) ⟨hz,its,0,hv,Heap.get?_push_size _ rfl⟩
theorem Inv.fresh (I : Inv X pins σ H s) : H s.heap.objs.size = none := I.hok.fresh (Nat.le_refl _)
theorem Inv.lstM (I : Inv X pins σ H s) (hH : H l = some (.lst xs)) : xs.length ≤ sizeLine ∧ ∃ (its : List Value) (n : Nat),Vals xs its ∧ xs.length = its.length ∧ s.heap.get? l = some { cls := .type "list",data := .seq its.toArray n } := by
 obtain ⟨z,its,n,r,e⟩ := I.hok l _ hH
 exact ⟨z,its,n,r,r.length,e⟩
theorem notLongL {n : Nat} (h : n ≤ sizeLine) : Builtin.List.listTooLong n = false := by
 unfold Builtin.List.listTooLong
 exact decide_eq_false (by omega)
end
section
variable {X : Cx}
def rAppend : V → List V → Hp → VK → Prop := fun x vs H Q => ∃ l xs y,x = .ref l ∧ vs = [y] ∧ H l = some (.lst xs) ∧ xs.length < sizeLine ∧ Q .non (upd H l (.lst (xs ++ [y])))
theorem mt_append : MtM X "list.append" rAppend := by
 intro pins s σ H x vs v us Q I rx rv h
 obtain ⟨l,xs,y,rfl,rfl,hH,hz,q⟩ := h
 cases rx
 obtain ⟨u,rfl,ru⟩ := rv.one
 obtain ⟨z,its,n,r,hl,e⟩ := I.lstM hH
 refine call_meets F.slot_list_append ⟨_,e,rfl⟩ F.entry_list_append (F.args_list_append_2 _ _) (PySem.list_append l its.toArray n u (by rw [List.size_toArray]; omega)) ⟨e,?_⟩
 refine ⟨.non,_,I.lset (its' := its ++ [u]) hH e (by simp) (r.append (.cons ru .nil)) ?_,rfl,q⟩
 rw [List.length_append,List.length_singleton]
 omega
def rExtend : V → List V → Hp → VK → Prop := fun x vs H Q => ∃ l b xs zs,x = .ref l ∧ vs = [.ref b] ∧ H l = some (.lst xs) ∧ H b = some (.lst zs) ∧ xs.length + zs.length ≤ sizeLine ∧ Q .non (upd H l (.lst (xs ++ zs)))
theorem mt_extend : MtM X "list.extend" rExtend := by
 intro pins s σ H x vs v us Q I rx rv h
 obtain ⟨l,b,xs,zs,rfl,rfl,hH,hB,hz,q⟩ := h
 cases rx
 obtain ⟨u,rfl,ru⟩ := rv.one
 cases ru
 obtain ⟨z,its,n,r,hl,e⟩ := I.lstM hH
 obtain ⟨z2,its2,n2,r2,hl2,e2⟩ := I.lstM hB
 have hsz : its.toArray.size + its2.toArray.size ≤ sizeLine := by rw [List.size_toArray,List.size_toArray]; omega
 have hlong : ¬ (!its.toArray.isEmpty && Builtin.List.listTooLong (its.toArray.size + its2.toArray.size)) = true := by
  rw [notLongL hsz,Bool.and_false]
  exact Bool.false_ne_true
 refine call_meets F.slot_list_extend ⟨_,e,rfl⟩ F.entry_list_extend (F.args_list_extend_2 _ _)
  (AutoSeq1.list_extend_list_list_0 l its.toArray n b its2.toArray n2 hlong (by rw [List.size_toArray]; omega) (by omega)) ⟨e,e2,?_⟩
 refine ⟨.non,_,I.lset (its' := its ++ its2) hH e (by simp) (r.append r2) ?_,rfl,q⟩
 rw [List.length_append]
 omega
def rCat : R2 := fun x y H Q => ∃ l b xs zs,x = .ref l ∧ y = .ref b ∧ H l = some (.lst xs) ∧ H b = some (.lst zs) ∧ xs.length + zs.length ≤ sizeLine ∧ ∀ p,H p = none → Q (.ref p) (upd H p (.lst (xs ++ zs)))
theorem op_cat : OpR X (binaryOp .Add) rCat := by
 intro pins s σ H x y v u Q I rx ry h
 obtain ⟨l,b,xs,zs,rfl,rfl,hH,hB,hz,q⟩ := h
 cases rx
 cases ry
 obtain ⟨z,its,n,r,hl,e⟩ := I.lstM hH
 obtain ⟨z2,its2,n2,r2,hl2,e2⟩ := I.lstM hB
 refine PySem.P.add_list e e2 ?_ (by rw [List.size_toArray,List.size_toArray]; omega)
 have ea : its.toArray ++ its2.toArray = (its ++ its2).toArray := by simp
 rw [ea]
 exact ⟨.ref _,_,I.lnew (t' := s.toks) (r.append r2) (by rw [List.length_append]; omega),rfl,q _ I.fresh⟩
end
section
variable {prog : Program} {w : World} {A : Around} {E : Value → Shared → Prop} {s : Shared}
end
section
variable {X : Cx}
end
end L2
namespace Att
open PySem PySem.W PySem.Calls PyProof.Rows
theorem ints_of_wellAll {P : Params} {h : Heap} : ∀ (ns : List Int) (vs : List Value),WellAll P h vs (ns.map WData.int) → IntsAre vs ns := by
 intro ns
 induction ns with
 | nil =>
  intro vs w
  rw [List.map_nil] at w
  cases w
  exact .nil
 | cons n ns ih =>
  intro vs w
  rw [List.map_cons] at w
  cases w with
  | cons a b =>
   cases a
   exact .cons _ _ (ih _ b)
theorem script_of {l : OpenLaw} {n : Nat} (hn : l.most = some n) {P : Params} {h : Heap} {args : List WData} {vals : List Value}
  (hpre : l.row.toRowW.claim.pre args = true) (hwl : WellAll P h vals args) :
  ∃ a vs ns,vals = [Value.ref a] ∧ args = [WData.list (ns.map WData.int)] ∧ h.get? a = some { cls := .type "list",data := .seq vs.toArray } ∧ IntsAre vs ns ∧ ns.length ≤ n := by
 have hsh : WShape.hasAll [] args [.list .int] = true := (pre_splitW hpre).1
 have hc : l.pre.holds [] { args := args } = true := (pre_splitW hpre).2
 obtain ⟨d,r,rfl,h1,h2⟩ := hasAllW_cons hsh
 obtain rfl := hasAllW_nil h2
 obtain ⟨xs,rfl,h3⟩ := hasW_list h1
 obtain ⟨ns,rfl⟩ := items_int h3
 have hlen : ns.length ≤ n := by
  unfold OpenLaw.pre at hc
  have h4 : (WTm.not (.lt (.lit (.int (n : Int))) (.len (.arg 0)))).holds [] { args := [.list (ns.map .int)] } = true := by
   have h4 := (holds_andW hc).1
   rw [hn] at h4
   exact h4
  have h5 := condW_of h4 (w_not (w_lt w_lit (w_len_list (w_arg rfl))))
  rw [List.length_map] at h5
  refine Nat.le_of_not_lt fun q => ?_
  have q' : (n : Int) < ((ns.length : Nat) : Int) := by omega
  first
   | (rw [decide_eq_true q'] at h5; exact absurd h5 (by decide))
   | (simp at h5; omega)
 cases hwl with
 | cons w1 w2 =>
  cases w2
  cases w1 with
  | list ho hall => exact ⟨_,_,ns,rfl,rfl,ho,ints_of_wellAll ns _ hall,hlen⟩
theorem post_true (l : OpenLaw) (args : List WData) : l.row.toRowW.claim.post args (.bool true) args = true :=
 postW_of (r := l.row.toRowW) (X := (true == true))
  (show WShape.has [] (.bool true) .bool = true by first | rfl | decide | simp [WShape.has,WShape.arms,WShape.armsAll])
  (show (WTm.eq .res (.lit (.bool true))).value [] { args := args,res := some (.bool true),after := args } = some (.bool (true == true)) from w_eq_bool (w_res rfl) w_lit) rfl
theorem attach_call {l : OpenLaw} {n : Nat} {q : Program} {loose : List Str} {XP : (Str → Option Value) → Heap → Prop} {YP : World → Heap → Prop} {d : DefRec}
  (hn : l.most = some n) (hdf : d.params.defaults = [])
  (call : ∀ (w : World) (s₀ s₁ : Shared) (mg mb : Str → Option Value) (fa : Addr) (o : Obj) (pm cd doc : Value) (a : Addr) (vs : List Value) (ns : List Int),
   Ground q loose [] XP w s₀ mg mb s₁.heap → YP w s₁.heap →
   s₁.heap.get? fa = some o → o.data = .func (docDef d.name d.params d.body d.scope pm cd doc) → s₁.heap.CodeRec cd d.name → mg d.name = some (.ref fa) →
   s₁.heap.get? a = some { cls := .type "list",data := .seq vs.toArray } → IntsAre vs ns → ns.length ≤ n → s₁.gens = #[] →
   codeAny (model l.prog w) callerA (.call (.ref fa) ⟨[.ref a],[]⟩) (fun r s' => r = .ok (.ret (.bool true)) ∧ OldK s₁.heap s'.heap ∧ s'.os = s₁.os ∧ AllBare s'.gens) s₁) :
  WalkO q loose XP YP l.row.toRowW d [] (fun f vs => PySem.call f vs) := by
 intro w s₀ s₁ mg mb G Y fa o pm cd doc dV kV ho hd hcd hD hmg hg args vals as hpre hlay hrd hwl hlo
 obtain rfl : dV = .none := Dflts.none hD hdf
 obtain rfl : kV = .none := Dflts.noKw hD
 obtain ⟨a,vs,ns,rfl,rfl,hobj,hints,hlen⟩ := script_of hn hpre hwl
 refine enter_call (codeAny_mono (call w s₀ s₁ mg mb fa o pm cd doc a vs ns G Y ho (fd_plain hd) hcd hmg hobj hints hlen hg) fun r s' hq => ?_)
 obtain ⟨rfl,h2,h3,h4⟩ := hq
 exact ⟨.inl ⟨.bool true,.bool true,[],rfl,fun _ => rfl,.bool true,post_true l _,fun _ => ⟨List.Pairwise.nil,fun _ hm => (nomatch hm)⟩⟩,h2,h3,h4⟩
section
variable {prog : Program} {w : World} {A : Around} {E : Value → Shared → Prop} {s : Shared} {K : Frag}
def ledger (h : Heap) (L d : Addr) : List (Addr × Obj) := (List.range h.objs.size).filterMap fun a => if a = L ∨ a = d then none else (h.get? a).map fun o => (a,o)
end
end Att
namespace L2
open PySem PySem.Spec PyProof.Rows
theorem vals_ints : ∀ {vs : List Value} {ns : List Int},IntsAre vs ns → Vals (ns.map V.int) vs
 | _,_,.nil => .nil
 | _,_,.cons n t h => .cons ⟨t,rfl⟩ (vals_ints h)
def Only (H : Hp) : Prop := ∀ b,H b = none ∨ ∃ o xs,H b = some (.frz o (.lst xs))
theorem law_call {P : Program} {w : World} {K : PySem.W.Frag} {mg mb : Str → Option Value} {CX : CXT} {k : Nat} {fa a : Addr} {fd : FuncData} {x : Str} {sp : Sp} {s₁ : Shared} {vs : List Value} {ns : List Int}
  (KX : K.In s₁.heap) (hns : s₁.heap.Ns mainGlobals mg) (hb : s₁.heap.Ns builtinsNs mb) (hbb : ∀ x : Str,x ≠ "__name__" → mb x = bootBuiltins x) (hlim : s₁.heap.NoLimit) (hg : s₁.gens = #[])
  (ha : s₁.heap.get? a = some { cls := .type "list",data := .seq vs.toArray }) (hi : IntsAre vs ns) (hl : ns.length ≤ sizeLine) (hr : Room k callerA)
  (F : ∀ base : Heap,K.In base → base.Ns mainGlobals mg → FnOk P w K mg base CX k fa fd [x] sp) (hbind : ∀ (s : Shared) (u : Value),BindsTo s fd ⟨[u],[]⟩ [(x,u)])
  (hsp : ∀ H : Hp,Only H → SqL K H a (ns.map V.int) → sp [.ref a] H (fun v _ => v = .bl true) fun _ _ _ => False)
  (hCX : ∀ H e s',CX [] H s₁ (fun _ _ _ => False) e s' → False) :
  codeAny (model P w) callerA (.call (.ref fa) ⟨[.ref a],[]⟩) (fun r s' => r = .ok (.ret (.bool true)) ∧ OldK s₁.heap s'.heap ∧ s'.os = s₁.os ∧ AllBare s'.gens) s₁ := by
 have rv := vals_ints hi
 have lenV := hi.length
 have core : ∀ H : Hp,Only H → SqL K H a (ns.map V.int) → HOk P w H s₁.heap → (∀ b,H b ≠ none → b = a) → (H a ≠ none → K.lookup a = none) →
   codeAny (model P w) callerA (.call (.ref fa) ⟨[.ref a],[]⟩) (fun r s' => r = .ok (.ret (.bool true)) ∧ OldK s₁.heap s'.heap ∧ s'.os = s₁.os ∧ AllBare s'.gens) s₁ := by
  intro H hO hS hok hA hK
  have base_of : ∀ {b : Addr} {o : Obj},s₁.heap.get? b = some o → H b = none → (hidT s₁.heap H).get? b = some o := fun e n => hidT_get e n
  have noA : ∀ {b : Addr} {o : Obj} {es : Array DictEntry} {ep : Nat},s₁.heap.get? b = some o → o.data = .dict es ep → H b = none := fun {b o es ep} e d => by
   cases q : H b with
   | none => rfl
   | some u =>
    have e' : b = a := hA b (by rw [q]; simp)
    subst e'
    rw [ha] at e; cases e
    have d' : Data.seq vs.toArray _ = Data.dict es ep := d
    cases d'
  have nsK : ∀ {b : Addr} {m : Str → Option Value},s₁.heap.Ns b m → (hidT s₁.heap H).Ns b m := fun {b m} ⟨o,es,ep,e,d,r⟩ => ⟨o,es,ep,base_of e (noA e d),d,r⟩
  have hKb : K.In (hidT s₁.heap H) := fun b o e => base_of (KX b o e) (by
   cases q : H b with
   | none => rfl
   | some u =>
    have e' : b = a := hA b (by rw [q]; simp)
    subst e'
    rw [hK (by rw [q]; simp)] at e; cases e)
  have hM : Mod K mg (hidT s₁.heap H) := ⟨hKb,nsK hns,⟨mb,nsK hb,hbb⟩,let ⟨mc,h1,h2⟩ := hlim; ⟨mc,nsK h1,h2⟩⟩
  have e0 : Env0 P w K mg (hidT s₁.heap H) callerA [] s₁ H := ⟨rfl,hM,fun b o e => of_hidT e,Nat.le_of_eq (hidT_size _ _),trivial,fun b hb => absurd (show b ∈ ([] : List Addr) from hb) (by simp),hok,.of_eq hg⟩
  refine codeAny_mono ((F _ hKb (nsK hns)).run callerA [] s₁ H ⟨[.ref a],[]⟩ [.ref a] [.ref a] _ _ hr e0 (hbind s₁ (.ref a)) (.cons rfl .nil) (hsp H hO hS)) fun r s' h => ?_
  cases r with
  | error e => exact (hCX H e s' h).elim
  | ok fl =>
   cases fl with
   | next => exact False.elim h
   | brk => exact False.elim h
   | cont => exact False.elim h
   | ret u =>
    obtain ⟨v,H',os,bare,un,hok',r',q⟩ := h
    have q' : v = .bl true := q
    subst q'
    obtain rfl : u = Value.bool true := r'
    refine ⟨rfl,OldK.of_keep fun b o e => ?_,os,bare⟩
    cases q : H b with
    | none => exact un.keep b o e q (by intro z; exact absurd (show b ∈ ([] : List Addr) from z) (by simp)) (by simp)
    | some u =>
     rcases hO b with z | ⟨ob,xs,z⟩
     ·rw [q] at z; cases z
     ·have z2 := un.frzs b ob _ z
      obtain ⟨e1,_⟩ := hok b _ z
      obtain ⟨e2,_⟩ := hok' b _ z2
      rw [e] at e1; cases e1
      exact e2
 cases hk : K.lookup a with
 | some o =>
  have e := KX a o hk
  rw [ha] at e
  cases e
  refine core (fun _ => none) (fun _ => .inl rfl) (.inr ⟨_,vs.toArray,_,hk,rfl,rfl,rfl,by rw [List.size_toArray,lenV]; exact hl,by simpa using rv⟩) (fun b u z => by have z' : (none : Option HO) = some u := z; cases z') (fun b z => absurd rfl z) fun z => absurd rfl z
 | none =>
  refine core (fun b => if b = a then some (.frz { cls := .type "list",data := .seq vs.toArray } (.lst (ns.map V.int))) else none) (fun b => ?_) (.inl (.inr ⟨{ cls := .type "list",data := .seq vs.toArray },if_pos rfl⟩)) (fun b u z => ?_) (fun b z => ?_) fun _ => hk
  ·by_cases hb : b = a
   ·exact .inr ⟨_,_,if_pos hb⟩
   ·exact .inl (if_neg hb)
  ·by_cases hb : b = a
   ·have z' := (if_pos hb).symm.trans z
    cases z'
    subst hb
    exact ⟨ha,by rw [List.length_map]; exact hl,vs,_,rv,ha⟩
   ·have z' := (if_neg hb).symm.trans z
    cases z'
  ·by_cases hb : b = a
   ·exact hb
   ·exact absurd (if_neg hb) z
end L2
namespace L2
open PySem PySem.Spec PyProof.Rows
abbrev KOf {K : PySem.W.Frag} {h : Heap} (_ : K.In h) : PySem.W.Frag := K
theorem walk_of {l : PySem.W.OpenLaw} {n k : Nat} {q : Program} {loose : List Str} {XP : (Str → Option Value) → Heap → Prop} {YP : World → Heap → Prop} {d : DefRec} {K : Params → PySem.W.Frag} {CX : World → CXT} {sp : World → Sp} {x : Str}
  (hn : l.most = some n) (hn2 : n ≤ sizeLine) (hdf : d.params.defaults = []) (hr : Room k callerA)
  (hY : ∀ (w : World) (h : Heap),YP w h → (K w.params).In h)
  (F : ∀ (w : World) (mg : Str → Option Value) (fa : Addr) (h : Heap),(K w.params).In h → h.Ns mainGlobals mg → mg d.name = some (.ref fa) →
   ∃ fd : FuncData,(∀ (s : Shared) (u : Value),BindsTo s fd ⟨[u],[]⟩ [(x,u)]) ∧
    ∀ base : Heap,(K w.params).In base → base.Ns mainGlobals mg → FnOk l.prog w (K w.params) mg base (CX w) k fa fd [x] (sp w))
  (hsp : ∀ (w : World) (H : Hp) (a : Addr) (ns : List Int),ns.length ≤ n → Only H → SqL (K w.params) H a (ns.map V.int) → sp w [.ref a] H (fun v _ => v = .bl true) fun _ _ _ => False)
  (hCX : ∀ (w : World) (H : Hp) (s : Shared) (e : Value) (s' : Shared),CX w [] H s (fun _ _ _ => False) e s' → False) :
  PySem.W.WalkO q loose XP YP l.row.toRowW d [] (fun f vs => PySem.call f vs) := by
 refine Att.attach_call hn hdf fun w s₀ s₁ mg mb fa o pm cd doc a vs ns G Y ho hd hcd hmg hobj hints hlen hg => ?_
 have KX := hY w _ Y
 obtain ⟨fd,hb,hF⟩ := F w mg fa _ KX G.T.g hmg
 exact law_call KX G.T.g G.T.b G.T.builtins G.T.nolimit hg hobj hints (Nat.le_trans hlen hn2) hr hF hb (fun H hO hS => hsp w H a ns hlen hO hS) fun H e s' => hCX w H s₁ e s'
end L2
namespace L2
open PySem PySem.Spec PyProof.Rows
def defArgs (s : Stmt) : Arguments := match s with
 | .FunctionDef _ a _ _ _ _ _ _ _ _ => a
 | _ => { posonlyargs := [],args := [],vararg := none,kwonlyargs := [],kw_defaults := [],kwarg := none,defaults := [] }
def defBody (s : Stmt) : List Stmt := match s with
 | .FunctionDef _ _ b _ _ _ _ _ _ _ => b
 | _ => []
def defScope (s : Stmt) : Scope := match s with
 | .FunctionDef _ _ _ _ _ _ sc _ _ _ => sc
 | _ => { kind := .function,names := [],isGenerator := false,isCoroutine := false }
abbrev CX0 : CXT := fun _ _ _ _ _ _ => False
abbrev E0 : XK := fun _ _ _ => False
theorem pass0 {X : Cx} : Passes CX0 X E0 := fun _ _ _ _ _ _ _ h => h.elim
structure Fun (K : PySem.W.Frag) (x qual : Str) (st : Stmt) (f : Addr) (fd : FuncData) : Prop where
 ex : ∃ (oc : Value) (od : Option Addr) (kV doc pm : Value) (an : Option Addr) (cdv ct : Value) (osl : Array (Option Value)),
  fd = PySem.W.fnOf x qual (defArgs st) (defBody st) (defScope st) .none kV doc pm an cdv ct ∧ K.lookup f = some ⟨oc,od,.func fd,osl⟩ ∧ PySem.W.codeIn K cdv qual = true
 kp : PySem.W.keepIn K (.ref f) = true
section
variable {P : Program} {w : World} {K : PySem.W.Frag} {mg : Str → Option Value} {base : Heap}
theorem Fun.ok {x qual : Str} {st : Stmt} {f : Addr} {fd : FuncData} {N ps : List Str} {k : Nat} {sp : Sp} (F : Fun K x qual st f fd) (S : FnScope N ps (defScope st)) (len : ∀ vs H Q E,sp vs H Q E → vs.length = ps.length)
  (hbody : ∀ (cdv : Value) (A : Around) (outer : List Env) (s : Shared) (H : Hp) (vs : List V) (Q : VK) (E : XK),Room k (A.deeper (envOfC qual (defScope st) s.heap.objs.size f cdv)) → sp vs H Q E →
   ∃ t,PSs (cxOf CX0 P w K mg base N qual (defScope st) f cdv A outer s H E).nox (defBody st) t ∧ t { nx := fun _ H' => Q .non H',rt := Q } (start N vs) H) : FnOk P w K mg base CX0 (k + 1) f fd ps sp := by
 obtain ⟨oc,od,kV,doc,pm,an,cdv,ct,osl,rfl,lk,hcd⟩ := F.ex
 refine fn_of lk hcd S len fun A outer s H vs Q E hr hsp => ?_
 obtain ⟨t,h,q⟩ := hbody cdv A outer s H vs Q E hr hsp
 exact ⟨t,h.nox,q⟩
theorem Fun.binds {x qual : Str} {st : Stmt} {f : Addr} {fd : FuncData} {ps : List Str} (F : Fun K x qual st f fd)
  (h : ∀ (kV doc pm : Value) (an : Option Addr) (cdv ct : Value) (us : List Value),us.length = ps.length → bindArgs (PySem.W.fnOf x qual (defArgs st) (defBody st) (defScope st) .none kV doc pm an cdv ct) ⟨us,[]⟩ = pure (ps.zip us)) : Binds K fd ps [] := by
 obtain ⟨oc,od,kV,doc,pm,an,cdv,ct,osl,rfl,lk,hcd⟩ := F.ex
 exact .all (h kV doc pm an cdv ct)
theorem fun_mk {x qual : Str} {st : Stmt} {f : Addr} {oc : Value} {od an : Option Addr} {osl : Array (Option Value)} {kV doc pm cdv ct : Value} (l : K.lookup f = some ⟨oc,od,.func (PySem.W.fnOf x qual (defArgs st) (defBody st) (defScope st) .none kV doc pm an cdv ct),osl⟩)
  (c : PySem.W.codeIn K cdv qual = true) (k : PySem.W.keepIn K (.ref f) = true) : Fun K x qual st f (PySem.W.fnOf x qual (defArgs st) (defBody st) (defScope st) .none kV doc pm an cdv ct) := ⟨⟨oc,od,kV,doc,pm,an,cdv,ct,osl,rfl,l,c⟩,k⟩
end
theorem small1000 {n : Nat} (h : n ≤ 1000) : n < sizeLine := Nat.lt_of_le_of_lt h (by decide)
section
variable {X : Cx}
theorem pv (i : Nat) {x : Str} {pos : Pos} (hN : X.N[i]? = some x := by rfl) (hv : Vis X.env.scope x := by first | exact Or.inl rfl | exact Or.inr (Or.inl rfl) | exact Or.inr (Or.inr rfl)) (hd : (x == ("__debug__" : Str)) = false := by decide)
  (hcd : (x == ("__classdict__" : Str)) = false := by decide) : PE X (.Name x pos) (tVar i) := pe_var hN hv hd hcd
end
theorem iteF {A B : Prop} (h : B) : if false = true then A else B := by
 rw [if_neg Bool.false_ne_true]
 exact h
theorem iteT {A B : Prop} (h : A) : if true = true then A else B := by
 rw [if_pos rfl]
 exact h
theorem ite2 {c A B : Prop} [Decidable c] (h1 : c → A) (h2 : ¬ c → B) : if c then A else B := by
 by_cases h : c
 ·rw [if_pos h]
  exact h1 h
 ·rw [if_neg h]
  exact h2 h
def Same (H H' : Hp) : Prop := ∀ b o,H b = some o → H' b = some o
theorem Same.refl (H : Hp) : Same H H := fun _ _ h => h
theorem Same.trans {H H1 H2 : Hp} (a : Same H H1) (b : Same H1 H2) : Same H H2 := fun c o h => b c o (a c o h)
theorem Same.free {H H' : Hp} (e : Same H H') {l : Addr} (h : H' l = Option.none) : H l = Option.none := by
 cases q : H l with
 | none => rfl
 | some o =>
  rw [e l o q] at h
  cases h
theorem Same.seq {K : PySem.W.Frag} {H H' : Hp} {a : Addr} {xs : List V} (e : Same H H') (h : SqL K H a xs) : SqL K H' a xs := by
 rcases h with (h | ⟨o,h⟩) | h
 ·exact .inl (.inl (e _ _ h))
 ·exact .inl (.inr ⟨o,e _ _ h⟩)
 ·exact .inr h
end L2
set_option maxHeartbeats 4000000
namespace Ma
theorem split (d x : Int) (hd : 0 < d) : ∃ q,x = d * q + x % d ∧ 0 ≤ x % d ∧ x % d < d :=
 ⟨x / d,by have := Int.mul_ediv_add_emod x d; omega,Int.emod_nonneg x (by omega),Int.emod_lt_of_pos x hd⟩
theorem mul_lt_step {d k m : Int} (hd : 0 < d) (h : k < m) : d * k + d ≤ d * m := by
 have := Int.mul_le_mul_of_nonneg_left (show k + 1 ≤ m by omega) (Int.le_of_lt hd)
 rw [Int.mul_add,Int.mul_one] at this
 exact this
def nextO (d a b t : Int) : Int := if b < t % d then t - t % d + d + a else t - t % d + (if a > t % d then a else t % d)
def lastO (d a b t : Int) : Int := if t % d < a then t - t % d - d + b else t - t % d + (if b < t % d then b else t % d)
section
variable {d a b t : Int}
theorem next_spec (hd : 0 < d) (h0 : 0 ≤ a) (h1 : a ≤ b) (h2 : b < d) :
  ∃ k,d * k + a ≤ nextO d a b t ∧ nextO d a b t ≤ d * k + b ∧ t ≤ nextO d a b t ∧ nextO d a b t < t + d ∧
   ∀ k' x,d * k' + a ≤ x → x ≤ d * k' + b → t ≤ x → nextO d a b t ≤ x := by
 obtain ⟨q,hq,r0,r1⟩ := split d t hd
 unfold nextO
 generalize t % d = r at *
 split
 ·refine ⟨q + 1,?_⟩
  have e : d * (q + 1) = d * q + d := by rw [Int.mul_add,Int.mul_one]
  refine ⟨by omega,by omega,by omega,by omega,fun k' x x1 x2 x3 => ?_⟩
  rcases Int.lt_or_le q k' with hk | hk
  ·have := mul_lt_step hd hk
   omega
  ·have := Int.mul_le_mul_of_nonneg_left hk (Int.le_of_lt hd)
   omega
 ·refine ⟨q,?_⟩
  refine ⟨by split <;> omega,by split <;> omega,by split <;> omega,by split <;> omega,fun k' x x1 x2 x3 => ?_⟩
  rcases (by omega : q < k' ∨ q = k' ∨ k' < q) with hk | hk | hk
  ·have := mul_lt_step hd hk
   split <;> omega
  ·subst hk
   split <;> omega
  ·have := mul_lt_step hd hk
   omega
theorem open_iff (hd : 0 < d) (h0 : 0 ≤ a) (h1 : a ≤ b) (h2 : b < d) (x : Int) : (x - a) % d ≤ b - a ↔ ∃ k,d * k + a ≤ x ∧ x ≤ d * k + b := by
 obtain ⟨q,hq,r0,r1⟩ := split d (x - a) hd
 constructor
 ·intro h
  exact ⟨q,by omega,by omega⟩
 ·rintro ⟨k,k1,k2⟩
  rcases (by omega : q < k ∨ q = k ∨ k < q) with hk | hk | hk
  ·have := mul_lt_step hd hk
   omega
  ·subst hk
   omega
  ·have := mul_lt_step hd hk
   omega
theorem first_law (hd : 0 < d) (h0 : 0 ≤ a) (h1 : a ≤ b) (h2 : b < d) : nextO d a b t = if (t - a) % d > b - a then t + (a - t) % d else t := by
 obtain ⟨k,k1,k2,k3,k4,k5⟩ := next_spec (t := t) hd h0 h1 h2
 split
 ·rename_i hc
  obtain ⟨q,hq,r0,r1⟩ := split d (a - t) hd
  have e : d * (-q) = - (d * q) := Int.mul_neg d q
  have u := k5 (-q) (t + (a - t) % d) (by omega) (by omega) (by omega)
  rcases (by omega : nextO d a b t < t + (a - t) % d ∨ nextO d a b t = t + (a - t) % d) with z | z
  ·exfalso
   rcases (by omega : k < -q ∨ k = -q ∨ -q < k) with hk | hk | hk
   ·have := mul_lt_step hd hk
    apply Int.not_le.mpr hc
    refine (open_iff hd h0 h1 h2 t).mpr ⟨k,?_,?_⟩ <;> omega
   ·subst hk
    omega
   ·have := mul_lt_step hd hk
    omega
  ·exact z
 ·rename_i hc
  obtain ⟨k',e1,e2⟩ := (open_iff hd h0 h1 h2 t).mp (by omega)
  have := k5 k' t e1 e2 (Int.le_refl _)
  omega
end
structure Clk (d : Int) (n : Nat) (A B C : Nat → Int) : Prop where
 d0 : 0 < d
 a0 : ∀ i,i < n → 0 ≤ A i
 ab : ∀ i,i < n → A i ≤ B i
 bd : ∀ i,i < n → B i < d
 c0 : ∀ i,i < n → 0 ≤ C i
 lt : ∀ i j,i < j → j < n → B i < A j
 yl : ∀ i j,i < j → j < n → B i + C i < A j + C j
 wr : ∀ i j,i < n → j < n → B i + C i < d + (A j + C j)
def Dep (d : Int) (n : Nat) (A B C : Nat → Int) (x y : Int) : Prop := ∃ i k,i < n ∧ d * k + A i ≤ x ∧ x ≤ d * k + B i ∧ y = x + C i
section
variable {d : Int} {n : Nat} {A B C : Nat → Int}
theorem dep_mono (K : Clk d n A B C) {x y x' y' : Int} (h : Dep d n A B C x y) (h' : Dep d n A B C x' y') (l : x < x') : y < y' := by
 obtain ⟨i,k,hi,x1,x2,rfl⟩ := h
 obtain ⟨j,m,hj,z1,z2,rfl⟩ := h'
 have d0 := K.d0
 have wr := K.wr i j hi hj
 have a1 := K.a0 i hi
 have a2 := K.a0 j hj
 have b1 := K.bd i hi
 have b2 := K.bd j hj
 rcases (by omega : k < m ∨ k = m ∨ m < k) with hk | hk | hk
 ·have := mul_lt_step d0 hk
  omega
 ·subst hk
  rcases (by omega : i < j ∨ i = j ∨ j < i) with e | e | e
  ·have := K.yl i j e hj
   omega
  ·subst e
   omega
  ·have := K.lt j i e hi
   omega
 ·have := mul_lt_step d0 hk
  omega
theorem dep_fun (K : Clk d n A B C) {x y y' : Int} (h : Dep d n A B C x y) (h' : Dep d n A B C x y') : y = y' := by
 obtain ⟨i,k,hi,x1,x2,rfl⟩ := h
 obtain ⟨j,m,hj,z1,z2,rfl⟩ := h'
 have d0 := K.d0
 have a1 := K.a0 i hi
 have a2 := K.a0 j hj
 have b1 := K.bd i hi
 have b2 := K.bd j hj
 rcases (by omega : k < m ∨ k = m ∨ m < k) with hk | hk | hk
 ·have := mul_lt_step d0 hk
  omega
 ·subst hk
  rcases (by omega : i < j ∨ i = j ∨ j < i) with e | e | e
  ·have := K.lt i j e hj
   omega
  ·rw [e]
  ·have := K.lt j i e hi
   omega
 ·have := mul_lt_step d0 hk
  omega
structure First (d : Int) (n : Nat) (A B C : Nat → Int) (t x y : Int) : Prop where
 dep : Dep d n A B C x y
 le : t ≤ x
 least : ∀ x' y',Dep d n A B C x' y' → t ≤ x' → x ≤ x'
structure Last (d : Int) (n : Nat) (A B C : Nat → Int) (s x : Int) : Prop where
 dep : ∃ y,Dep d n A B C x y ∧ y ≤ s
 most : ∀ x' y',Dep d n A B C x' y' → y' ≤ s → x' ≤ x
theorem First.uniq (K : Clk d n A B C) {t x y x' y' : Int} (h : First d n A B C t x y) (h' : First d n A B C t x' y') : x = x' ∧ y = y' := by
 have a := h.least _ _ h'.dep h'.le
 have b := h'.least _ _ h.dep h.le
 have e : x = x' := by omega
 subst e
 exact ⟨rfl,dep_fun K h.dep h'.dep⟩
theorem First.ge (K : Clk d n A B C) {t x y : Int} (h : First d n A B C t x y) : t ≤ y := by
 obtain ⟨i,k,hi,x1,x2,rfl⟩ := h.dep
 have := h.le
 have := K.c0 i hi
 omega
theorem First.mono (K : Clk d n A B C) {t u x y x' y' : Int} (h : First d n A B C t x y) (h' : First d n A B C u x' y') (l : t ≤ u) : y ≤ y' := by
 have a := h.least _ _ h'.dep (by have := h'.le; omega)
 rcases (by omega : x < x' ∨ x = x') with e | e
 ·have := dep_mono K h.dep h'.dep e
  omega
 ·subst e
  have := dep_fun K h.dep h'.dep
  omega
theorem Last.uniq {s x x' : Int} (h : Last d n A B C s x) (h' : Last d n A B C s x') : x = x' := by
 obtain ⟨y,h1,h2⟩ := h.dep
 obtain ⟨y',h1',h2'⟩ := h'.dep
 have := h.most _ _ h1' h2'
 have := h'.most _ _ h1 h2
 omega
theorem Last.le (K : Clk d n A B C) {s x : Int} (h : Last d n A B C s x) : x ≤ s := by
 obtain ⟨y,⟨i,k,hi,x1,x2,rfl⟩,h2⟩ := h.dep
 have := K.c0 i hi
 omega
theorem Last.mono {s u x x' : Int} (h : Last d n A B C s x) (h' : Last d n A B C u x') (l : s ≤ u) : x ≤ x' := by
 obtain ⟨y,h1,h2⟩ := h.dep
 exact h'.most _ _ h1 (by omega)
end
end Ma
namespace Ma
abbrev T3 := Int × Int × Int
structure Rw (R : List T3) (at_ ride : Int) : Prop where
 at0 : 0 ≤ at_
 r0 : 0 ≤ ride
 atb : at_ ≤ 3000000000000 * (R.length : Int)
 rb : ride ≤ 2000000000000 * (R.length : Int)
 row : ∀ (i : Nat) (a b c : Int),R[i]? = some (a,b,c) → 0 ≤ a ∧ a ≤ b ∧ b < at_ ∧ 0 ≤ c ∧ c ≤ 2000000000000 * (R.length : Int)
 adj : ∀ (i : Nat) (a b c a' b' c' : Int),R[i]? = some (a,b,c) → R[i + 1]? = some (a',b',c') → b < a' ∧ b + c < a' + c'
 last : ∀ (a b c : Int),R[R.length - 1]? = some (a,b,c) → b = at_ - 1 ∧ c = ride
 tch : ∀ (i : Nat) (a b c a' b' c' : Int),R[i]? = some (a,b,c) → R[i + 1]? = some (a',b',c') → b + 1 = a' → c ≠ c'
def rA (R : List T3) (i : Nat) : Int := (R.getD i (0,0,0)).1
def rB (R : List T3) (i : Nat) : Int := (R.getD i (0,0,0)).2.1
def rC (R : List T3) (i : Nat) : Int := (R.getD i (0,0,0)).2.2
theorem r_at {R : List T3} {i : Nat} (h : i < R.length) : R[i]? = some (rA R i,rB R i,rC R i) := by
 unfold rA rB rC
 rw [List.getD_eq_getElem?_getD,List.getElem?_eq_getElem h]
 rfl
theorem r_of {R : List T3} {i : Nat} {a b c : Int} (h : R[i]? = some (a,b,c)) : rA R i = a ∧ rB R i = b ∧ rC R i = c := by
 unfold rA rB rC
 rw [List.getD_eq_getElem?_getD,h]
 exact ⟨rfl,rfl,rfl⟩
def lifted (R : List T3) (lift : Int) : List T3 := R.map fun t => (t.1,t.2.1,t.2.2 + lift)
section
variable {d : Int} {n : Nat} {A B C : Nat → Int}
theorem first_min (K : Clk d n A B C) {t : Int} {j : Nat} (hj : j < n) (hm : ∀ i,i < n → nextO d (A j) (B j) t ≤ nextO d (A i) (B i) t) : First d n A B C t (nextO d (A j) (B j) t) (nextO d (A j) (B j) t + C j) := by
 obtain ⟨k,k1,k2,k3,k4,k5⟩ := next_spec (t := t) K.d0 (K.a0 j hj) (K.ab j hj) (K.bd j hj)
 refine ⟨⟨j,k,hj,k1,k2,rfl⟩,k3,?_⟩
 rintro x' y' ⟨i,k',hi,x1,x2,rfl⟩ hx
 obtain ⟨k',a1,a2,a3,a4,a5⟩ := next_spec (t := t) K.d0 (K.a0 i hi) (K.ab i hi) (K.bd i hi)
 have := a5 _ x' x1 x2 hx
 have := hm i hi
 omega
end
end Ma
namespace L2
open PySem PySem.Spec PyProof.Rows
theorem bt_max : bootBuiltins "max" = some (.builtin "max") := by decide +kernel
theorem bt_min : bootBuiltins "min" = some (.builtin "min") := by decide +kernel
theorem bt_len : bootBuiltins "len" = some (.builtin "len") := by decide +kernel
theorem bt_all : bootBuiltins "all" = some (.builtin "all") := by decide +kernel
theorem bt_isinstance : bootBuiltins "isinstance" = some (.builtin "isinstance") := by decide +kernel
theorem bt_int : bootBuiltins "int" = some (.type "int") := by decide +kernel
theorem bt_bool : bootBuiltins "bool" = some (.type "bool") := by decide +kernel
theorem bt_tuple : bootBuiltins "tuple" = some (.type "tuple") := by decide +kernel
theorem bt_list : bootBuiltins "list" = some (.type "list") := by decide +kernel
def notStar : Expr → Bool
 | .Starred .. => false
 | _ => true
theorem se_of {e : Expr} {es : List Expr} {env : Env} (h : notStar e = true) : starEach (e :: es) env = (false,eval e env) :: starEach es env := by
 cases e <;> first | rfl | cases h
theorem any_of {pos : Pos} {env : Env} : ∀ {es : List Expr},es.all notStar = true → (backTo pos (starEach es env)).any (·.1) = false
 | [],_ => rfl
 | e :: es,h => by
  rw [List.all_cons,Bool.and_eq_true] at h
  rw [se_of h.1]
  show (false || (backTo pos (starEach es env)).any (·.1)) = false
  rw [any_of h.2]
  rfl
section
variable {X : Cx} {e : Expr} {es : List Expr} {te : TE} {t : TA}
theorem pa_c (ha : PE X e te) (hr : PA X es t) (h : notStar e = true := by rfl) : PA X (e :: es) (tCons te t) := pa_cons ha hr (se_of h)
end
section
variable {X : Cx} {x : Str} {p pos : Pos} {e : Expr} {es : List Expr} {t : TA} {id T : String} {r : List V → Hp → VK → Prop}
theorem pe_cb (hc : CallR X (.builtin id) r) (hg : Gl X x) (hm : X.mg x = none) (hv : bootBuiltins x = some (.builtin id)) (ha : PA X (e :: es) t) (hn : x ≠ "__name__" := by decide) (hdb : (x == ("__debug__" : Str)) = false := by decide)
  (he : notStar e = true := by rfl) (hpl : es.all notStar = true := by rfl) : PE X (.Call (.Name x p) (e :: es) [] pos) (tCB r t) := pe_callB hc hg hm hv ha hn hdb (se_of he) (any_of hpl)
theorem pe_ct (hc : CallR X (.type T) r) (hg : Gl X x) (hm : X.mg x = none) (hv : bootBuiltins x = some (.type T)) (ha : PA X (e :: es) t) (hn : x ≠ "__name__" := by decide) (hdb : (x == ("__debug__" : Str)) = false := by decide)
  (he : notStar e = true := by rfl) (hpl : es.all notStar = true := by rfl) : PE X (.Call (.Name x p) (e :: es) [] pos) (tCB r t) := pe_callTy hc hg hm hv ha hn hdb (se_of he) (any_of hpl)
end
structure Callee (P : Program) (w : World) (K : PySem.W.Frag) (mg : Str → Option Value) (base : Heap) (k : Nat) (x : Str) (ps : List Str) (sp : Sp) : Prop where
 ex : ∃ (f : Addr) (fd : FuncData),FnOk P w K mg base CX0 k f fd ps sp ∧ Binds K fd ps [] ∧ PySem.W.keepIn K (.ref f) = true ∧ mg x = some (.ref f)
theorem Callee.up {P : Program} {w : World} {K : PySem.W.Frag} {mg : Str → Option Value} {base : Heap} {j k : Nat} {x : Str} {ps : List Str} {sp : Sp} (C : Callee P w K mg base j x ps sp) (h : j ≤ k) : Callee P w K mg base k x ps sp := by
 obtain ⟨f,fd,G,b,kp,m⟩ := C.ex
 exact ⟨f,fd,G.mono h,b,kp,m⟩
theorem Callee.mk' {P : Program} {w : World} {K : PySem.W.Frag} {mg : Str → Option Value} {base : Heap} {k : Nat} {x : Str} {ps : List Str} {sp : Sp} {f : Addr} {fd : FuncData} (G : FnOk P w K mg base CX0 k f fd ps sp) (b : Binds K fd ps []) (kp : PySem.W.keepIn K (.ref f) = true) (m : mg x = some (.ref f)) : Callee P w K mg base k x ps sp := ⟨f,fd,G,b,kp,m⟩
section
variable {X : Cx} {k : Nat} {x : Str} {ps : List Str} {sp : Sp} {e : Expr} {es : List Expr} {t : TA} {p pos : Pos}
theorem pe_fn (C : Callee X.prog X.w X.K X.mg X.base k x ps sp) (hr : Room k X.A) (hg : Gl X x) (ha : PA X (e :: es) t) (hdb : (x == ("__debug__" : Str)) = false := by decide)
  (he : notStar e = true := by rfl) (hpl : es.all notStar = true := by rfl) :
  PE X (.Call (.Name x p) (e :: es) [] pos) (tCall sp [] E0 t) := by
 obtain ⟨f,fd,G,b,kp,m⟩ := C.ex
 exact pe_call G hr hg m kp b .nil pass0 ha hdb (se_of he) (any_of hpl)
end
def CDivB (_ j : Int) : Prop := 0 < j ∧ j < 1606938044258990275541962092341162602522202993782792835301376
section
variable {X : Cx}
theorem op_fdivB : OpR X (binaryOp .FloorDiv) (rI CDivB fun i j => .int (i / j)) := opI fun i j _ _ _ _ _ hc q => by
 have h1 : (0 : Int) < j := hc.1
 have h2 := hc.2
 refine floordiv_int (by omega) (by rw [Int.fdiv_eq_ediv_of_nonneg i (by omega)]; exact q) (.inl (PyProof.noPylong_of_log2 ?_))
 have h0 : j.natAbs ≠ 0 := by omega
 have h3 : j.natAbs < 2 ^ 200 := by
  have e : (2 : Nat) ^ 200 = 1606938044258990275541962092341162602522202993782792835301376 := by decide +kernel
  rw [e]
  omega
 have := (Nat.log2_lt h0).mpr h3
 omega
theorem call_isi : CallR X (.builtin "isinstance") (fun xs H Q => ∃ x T t b,xs = [x,.ty T] ∧ TyOf X.K H x t ∧ PySem.W.kitOne X.K t (.type T) = some b ∧ Q (.bl b) H) := by
 intro pins s σ H xs us Q I r h
 obtain ⟨x,T,t,b,rfl,ty,hk,q⟩ := h
 obtain ⟨u,v,rfl,r1,r2⟩ := Vals.two r
 cases (show v = Value.type T from r2)
 exact isinst_ok I r1 ty hk fun tk => ⟨.bl b,H,I.tok tk,rfl,q⟩
end
def blk (X : Cx) (N' : List Str) (scope : Scope) (cl : List (Str × Addr)) (C : Addr) (s0 : Shared) (H0 : Hp) (fp : List Addr) : Cx :=
 { X with N := N',s₀ := s0,H₀ := H0,env := compEnvC scope cl C X.env,outer := X.stack,ex := fp,fn := fun _ => false,pn := [],xe := fun _ _ => False }
def seen (caps : List (Option Nat)) (σ : St) : St := caps.map fun o => o.bind fun j => (σ[j]?).join
structure BlkOk (X : Cx) (N' : List Str) (scope : Scope) (cl : List (Str × Addr)) (caps : List (Option Nat)) : Prop where
 clos : closureFor scope X.env = pure cl
 nocell : ∀ y ∈ scope.names,y.2 ≠ .cell
 kind : scope.kind = .function
 names : ∀ y ∈ scope.names,y.2 = .local → scope.names.lookup y.1 = some .local
 sub : ∀ x c,cl.lookup x = some c → X.env.cells.lookup x = some c
 has : ∀ x,((relabel scope X.env).names.lookup x = some .cell ∨ (relabel scope X.env).names.lookup x = some .free) → ∃ c,cl.lookup x = some c
 len : caps.length = N'.length
 cap : ∀ (i j : Nat) (x : Str),caps[i]? = some (some j) → N'[i]? = some x → X.N[j]? = some x ∧ (X.env.kindOf x = some .cell ∨ X.env.kindOf x = some .free) ∧ ((relabel scope X.env).names.lookup x = some .cell ∨ (relabel scope X.env).names.lookup x = some .free)
theorem sameBut_ne {a : Addr} {h h' : Heap} (x : Heap.SameBut a h h') {b : Addr} {o : Obj} (n : b ≠ a) (e : h.get? b = some o) : h'.get? b = some o := x.extBut b o n e
section
variable {X : Cx} {N' : List Str} {scope : Scope} {cl : List (Str × Addr)} {caps : List (Option Nat)} {pins : List (Addr × Obj)} {σ : St} {H : Hp} {s : Shared} {fp : List Addr}
theorem blk_inv (B : BlkOk X N' scope cl caps) (I : Inv X pins σ H s) (hf : ∀ b ∈ fp,FpOk X pins H b) {h1 : Heap} {m : Str → Option Value} (hn : h1.Ns s.heap.objs.size m) (hk : ∀ b o,s.heap.get? b = some o → h1.get? b = some o) {tk : Nat}
  (hfp : ∀ b ∈ fp,b < s.heap.objs.size) : Inv (blk X N' scope cl s.heap.objs.size s H fp) [] (seen caps σ) H { s with heap := h1,toks := tk } := by
 have bsz : X.base.objs.size ≤ s.heap.objs.size := Nat.le_trans I.ok.bsz I.sz
 refine ⟨⟨I.ok.mod,B.kind,I.ok.glob,I.ok.blt,Nat.le_refl _,fun x y c e1 e2 => I.ok.inj x y c (B.sub x c e1) (B.sub y c e2),B.has,fun _ _ z => (nomatch z),I.ok.hd,I.ok.frames,.inl rfl,fun b hb => ⟨Nat.ne_of_lt (hfp b hb),fun x c e => (hf b hb).2.2.2.2.1 x c (B.sub x c e)⟩,
   I.bs,bsz,fun b o e hb => ?_,fun b hb z => ?_,I.stack,I.stkFree⟩,rfl,I.bare,Un.kept hk,⟨m,hn,fun i x v e1 e2 _ => ?_⟩,fun x c e => ?_,I.hok.fresh (Nat.le_refl _),fun x c e => I.freeC x c (B.sub x c e),fun p hp => absurd (show p ∈ ([] : List (Addr × Obj)) from hp) (by simp),I.hok.kept hk,?_⟩
 ·obtain ⟨_,_,_,z,_⟩ := hf b hb
  rcases z with z | z
  ·exact I.ok.noex b o e z
  ·exact absurd (Nat.lt_of_lt_of_le (Heap.lt_size e) (Nat.le_trans I.ok.bsz z)) (Nat.lt_irrefl _)
 ·obtain ⟨_,z1,z2,_⟩ := hf b hb
  rcases List.mem_cons.mp (I.stkSub b z) with e | e
  ·exact z1 e
  ·exact z2 e
 ·have e2' : (seen caps σ)[i]? = some (some v) := e2
  unfold seen at e2'
  rw [List.getElem?_map] at e2'
  cases ec : caps[i]? with
  | none => rw [ec] at e2'; cases e2'
  | some oj =>
   rw [ec] at e2'
   have e3 : (oj.bind fun j => (σ[j]?).join) = some v := Option.some.inj e2'
   cases oj with
   | none => cases e3
   | some j =>
    obtain ⟨c1,c2,c3⟩ := B.cap i j x ec e1
    have e4 : σ[j]? = some (some v) := by
     have e5 : (σ[j]?).join = some v := e3
     cases ej : σ[j]? with
     | none => rw [ej] at e5; cases e5
     | some ov =>
      rw [ej] at e5
      cases ov with
      | none => cases e5
      | some v' => exact congrArg some e5
    obtain ⟨m0,hn0,hl⟩ := I.loc
    obtain ⟨u,ru,lk⟩ := hl j x v c1 e4 (by
     rcases c2 with z | z
     ·exact .inr (.inl z)
     ·exact .inr (.inr z))
    refine ⟨u,ru,.inr ⟨c3,?_⟩⟩
    obtain ⟨c,ecl⟩ := B.has x c3
    refine ⟨c,ecl,?_⟩
    rcases lk with ⟨z,_⟩ | ⟨_,c',e',⟨oc,q1,q2⟩⟩
    ·rcases c2 with y | y
     ·rw [y] at z; cases z
     ·rw [y] at z; cases z
    ·have ee : c' = c := Option.some.inj (e'.symm.trans (B.sub x c ecl))
     subst ee
     exact ⟨oc,hk _ _ q1,q2⟩
 ·obtain ⟨v,o,q1,q2⟩ := I.cell x c (B.sub x c e)
  exact ⟨v,o,hk _ _ q1,q2⟩
 ·show (seen caps σ).length = N'.length
  unfold seen
  rw [List.length_map]
  exact B.len
theorem blk_end (I : Inv X pins σ H s) (hf : ∀ b ∈ fp,FpOk X pins H b) (hfp : ∀ b ∈ fp,b < s.heap.objs.size) {σ' : St} {H' : Hp} {s' : Shared} (J : Inv (blk X N' scope cl s.heap.objs.size s H fp) [] σ' H' s') {h' : Heap}
  (sb : Heap.SameBut s.heap.objs.size s'.heap h') : Inv X pins σ H' { s' with heap := h' } := by
 have hC : ∀ b o,s.heap.get? b = some o → b ≠ s.heap.objs.size := fun b o e => Nat.ne_of_lt (Heap.lt_size e)
 have u := J.base
 have u' : Un (frs X.stack) fp H H' s.heap h' := by
  refine ⟨fun b o e n hb hx => sameBut_ne sb (hC b o e) (u.keep b o e n hb hx),fun b o e n hb hx => ?_,u.free,fun b o e hx => ?_,u.tups,u.frzs,u.tbls⟩
  ·obtain ⟨sl,q⟩ := u.slot b o e n hb hx
   exact ⟨sl,sameBut_ne sb (hC b o e) q⟩
  ·obtain ⟨o',q⟩ := u.there b o e hx
   exact ⟨o',sameBut_ne sb (hC b o e) q⟩
 have nC : H' s.heap.objs.size = none := J.free
 have hok : HOk X.prog X.w H' h' := fun b o e => by
  refine (J.hok b o e).stay (fun c v hc q => sameBut_ne sb ?_ q) (fun _ q => q) fun _ _ q => q
  rcases hc with z | z
  ·intro z'
   rw [z] at z'
   rw [z',nC] at e
   cases e
  ·intro z'
   rw [z',nC] at z
   cases z
 obtain ⟨hh,g,d,t,os'⟩ := s'
 obtain rfl : os' = s.os := J.os
 show Inv X pins σ H' { s with heap := h',gens := g,drawn := d,toks := t }
 refine Inv.call (s := s) (h' := h') (g' := g) (d' := d) (t' := t) (ch := fp) I u' hok J.bare fun b hb => ?_
 obtain ⟨_,z1,_,z3,z4,z5⟩ := hf b hb
 exact ⟨z3,z1,z4,z5⟩
def cBody (caps : List (Option Nat)) (g : TG) (tt : TT) (te : TE) (σ : St) (Q : VK) (J : It) (H1 : Hp) : Prop := ∀ D,H1 D = none → ∃ W : Nat → Nat → Hp → Prop,(∃ m,W 0 m (upd H1 D (.lst []))) ∧ ∀ i m H2,W i m H2 →
 (J.stop i H2 ∧ Q (.ref D) H2) ∨ (J.go i H2 ∧ ∃ N : Hp → Prop,(∀ H',N H' → ∃ m',m' < m ∧ W (i + 1) m' H') ∧ ∀ x H3,J.yld i H2 x H3 → g x (seen caps σ) H3 fun σ4 H4 => (∀ (k : Nat) v,(seen caps σ)[k]? = some (some v) → σ4[k]? = some (some v)) ∧ tt σ4 H4 fun b H5 =>
  if b = true then te σ4 H5 fun y H6 => ∃ ys,H6 D = some (.lst ys) ∧ ys.length < sizeLine ∧ N (upd H6 D (.lst (ys ++ [y]))) else N H5)
def tComp (wi : TI) (caps : List (Option Nat)) (g : TG) (tt : TT) (te : TE) : TE := fun σ H Q => wi σ H (cBody caps g tt te σ Q)
def tTrue : TT := fun _ H Q => Q true H
section
variable {tg iter elt : Expr} {wi : TI} {g : TG} {te : TE} {tt : TT} {pos : Pos} {Q : VK}
theorem comp_again {J : It} {it : Addr} {tn : Nat → Heap → Prop} {H0 : Hp} {C : Addr} (T : Turn X.prog X.w X.K tg J fp it tn) {s7 s9 : Shared} {i n : Nat} {W : Nat → Nat → Hp → Prop} {N : Hp → Prop} (hN : ∀ H',N H' → ∃ m',m' < n ∧ W (i + 1) m' H')
  (st7 : tn (i + 1) s7.heap) {σ8 : St} {H9 : Hp} (I9 : Inv (blk X N' scope cl C s H0 fp) ([] ++ pinsAt fp s7.heap) σ8 H9 s9) (kp : ∀ (k : Nat) v,(seen caps σ)[k]? = some (some v) → σ8[k]? = some (some v)) (hl : (seen caps σ).length = σ8.length) (n9 : N H9) :
  ∃ m,m < n ∧ ∃ j H',Inv (blk X N' scope cl C s H0 fp) [] (seen caps σ) H' s9 ∧ tn j s9.heap ∧ (∀ b ∈ fp,H' b = none) ∧ W j m H' := by
 obtain ⟨m',hm,w7⟩ := hN H9 n9
 refine ⟨m',hm,i + 1,H9,(I9.unpinned).weak hl kp,T.keep _ _ _ st7 fun b hb o e => (I9.pin (b,o) (List.mem_append_right _ (List.mem_append_right _ (mem_pinsAt hb e)))).1,fun b hb => ?_,w7⟩
 obtain ⟨o,e,d⟩ := T.obj _ _ st7 b hb
 exact (I9.pin (b,o) (List.mem_append_right _ (List.mem_append_right _ (mem_pinsAt hb e)))).2.1
theorem pe_comp (B : BlkOk X N' scope cl caps) (hc : X.calm = true) (hi : PI X tg iter wi) (hg : ∀ C s0 H0 fp,PG (blk X N' scope cl C s0 H0 fp) tg g) (he : ∀ C s0 H0 fp,PE (blk X N' scope cl C s0 H0 fp) elt te)
  (hs : ∀ x,foldedSetIterable iter X.env x = pure x := by intro _; rfl) : PE X (.ListComp elt [⟨tg,iter,[],0⟩] scope pos) (tComp wi caps g tTrue te) := by
 intro pins s σ H Q I h
 rw [eval_ListComp]
 refine wpAny_comprehension_free (use := none) rfl hs B.clos B.kind B.names ?_
 refine thn (hi pins s σ H _ I h) fun v s1 h1 => thn h1 fun itv s2 h2 => ?_
 obtain ⟨it,fp,tn,J,H2,rfl,I2,T,st2,f2,q2⟩ := h2
 have fpl : ∀ b ∈ fp,b < s2.heap.objs.size := fun b hb => by
  obtain ⟨o,e,_⟩ := T.obj _ _ st2 b hb
  exact Heap.lt_size e
 obtain ⟨W,⟨m0,w0⟩,turn⟩ := q2 s2.heap.objs.size (I2.hok.fresh (Nat.le_refl _))
 refine wpAny_newObj_type ?_
 have I3 : Inv X pins σ (upd H2 s2.heap.objs.size (.lst [])) { s2 with heap := s2.heap.push { cls := .type "list",data := .seq ([] : List Value).toArray } } :=
  I2.laid (t' := s2.toks) (fun b u e => Heap.get?_push_of_some _ e) (Nat.le_refl _) ⟨Nat.zero_le _,[],0,.nil,Heap.get?_push_size _ rfl⟩
 generalize hs3 : ({ s2 with heap := s2.heap.push { cls := .type "list",data := .seq ([] : List Value).toArray } } : Shared) = s3 at I3
 have k23 : ∀ b o,s2.heap.get? b = some o → s3.heap.get? b = some o := fun b o e => by rw [← hs3]; exact Heap.get?_push_of_some _ e
 have fpl3 : ∀ b ∈ fp,b < s3.heap.objs.size := fun b hb => by
  obtain ⟨o,e,_⟩ := T.obj _ _ st2 b hb
  exact Heap.lt_size (k23 b o e)
 have f3 : ∀ b ∈ fp,FpOk X pins (upd H2 s2.heap.objs.size (.lst [])) b := fun b hb => ⟨by rw [upd_ne (Nat.ne_of_lt (fpl b hb))]; exact (f2 b hb).1,(f2 b hb).2⟩
 refine wpAny_newFunctionEnv B.nocell (by intro y hy; simp at hy) (fun h1 hn1 sb1 => ?_) B.kind
 have k31 : ∀ b o,s3.heap.get? b = some o → h1.get? b = some o := fun b o e => sb1.extBut b o (Nat.ne_of_lt (Heap.lt_size e)) (Heap.get?_push_of_some _ e)
 have J0 := blk_inv (fp := fp) (tk := s3.toks + ([] : List (Str × Value)).length) B I3 f3 hn1 k31 fpl3
 have st1 : tn 0 h1 := T.keep _ _ _ st2 fun b _ o e => k31 b o (k23 b o e)
 have loop : codeAny (model X.prog X.w) X.A (.compLoop (.ListComp elt [⟨tg,iter,[],0⟩] scope pos) 0 (.ref it) (.ref s2.heap.objs.size) (blk X N' scope cl s3.heap.objs.size s3 (upd H2 s2.heap.objs.size (.lst [])) fp).env)
   (compPost (model X.prog X.w) X.A X.xe none (EP X pins σ Q) (.ref s2.heap.objs.size) s3.heap.objs.size) { s3 with heap := h1,toks := s3.toks + ([] : List (Str × Value)).length } := by
  refine codeAny_loop rfl (fun n s' => ∃ i H',Inv (blk X N' scope cl s3.heap.objs.size s3 (upd H2 s2.heap.objs.size (.lst [])) fp) [] (seen caps σ) H' s' ∧ tn i s'.heap ∧ (∀ b ∈ fp,H' b = none) ∧ W i n H') (fun n s5 hI => ?_) m0
   ⟨0,_,J0,st1,fun b hb => (f3 b hb).1,w0⟩
  obtain ⟨i,H5,I5,st5,fr5,w5⟩ := hI
  show wpAny _ _ ((compTurn (.ListComp elt [⟨tg,iter,[],0⟩] scope pos) 0 (.ref it) (.ref s2.heap.objs.size) (blk X N' scope cl s3.heap.objs.size s3 (upd H2 s2.heap.objs.size (.lst [])) fp).env).onRaise (fun x => do noteFrame x (blk X N' scope cl s3.heap.objs.size s3 (upd H2 s2.heap.objs.size (.lst [])) fp).env; theTreesLotGoes x)) _ _ s5
  refine wpAny_noted ?_
  rw [compTurn_list1]
  have ff : ∀ {H' : Hp},(∀ b ∈ fp,H' b = none) → ∀ b ∈ fp,FpOk (blk X N' scope cl s3.heap.objs.size s3 (upd H2 s2.heap.objs.size (.lst [])) fp) [] H' b := fun {H'} hn b hb =>
   ⟨hn b hb,(J0.ok.exf b hb).1,J0.ok.exfs b hb,.inl hb,fun x c e => (J0.ok.exf b hb).2 x c e,fun p hp => absurd (show p ∈ ([] : List (Addr × Obj)) from hp) (by simp)⟩
  rcases turn i n H5 w5 with ⟨stop,qn⟩ | ⟨go,N,hN,step⟩
  ·refine wpAny_bind (wpAny_standAt (wpAny_bind (thn (T.done (blk X N' scope cl s3.heap.objs.size s3 (upd H2 s2.heap.objs.size (.lst [])) fp) rfl rfl rfl hc i [] s5 _ H5 _ I5 (ff fr5) st5 stop) fun r s6 ⟨hr,I6⟩ => ?_)))
   subst hr
   refine wpAny_pure ?_
   obtain ⟨m,hn,_⟩ := id I6.loc
   exact ⟨m,hn,fun h' sb => ⟨.ref s2.heap.objs.size,H5,blk_end I3 f3 fpl3 I6 sb,rfl,qn⟩⟩
  ·refine wpAny_bind (wpAny_standAt (wpAny_bind (thn (T.item (blk X N' scope cl s3.heap.objs.size s3 (upd H2 s2.heap.objs.size (.lst [])) fp) rfl rfl rfl hc i [] s5 _ H5 _ I5 (ff fr5) st5 go) fun r s6 ⟨u,hr,h6⟩ => ?_)))
   subst hr
   refine wpAny_bind (thn h6 fun _ s7 ⟨x,H7,I7,r7,y7,st7,fr7⟩ => ?_)
   have I7' := I7.pinned (ff fr7) (T.obj _ _ st7)
   refine wpAny_bind (wpAny_mono (hg _ _ _ _ _ s7 _ H7 x u _ I7' r7 (step x H7 y7)) (fun _ s8 ⟨σ8,H8,I8,kp,q8⟩ => ?_) fun _ _ f => f.elim)
   have q8' : te σ8 H8 fun y H6 => ∃ ys,H6 s2.heap.objs.size = some (.lst ys) ∧ ys.length < sizeLine ∧ N (upd H6 s2.heap.objs.size (.lst (ys ++ [y]))) := by
    have z := q8
    unfold tTrue at z
    dsimp only at z
    rw [if_pos rfl] at z
    exact z
   refine wpAny_bind (wpAny_bind (wpAny_mono (he _ _ _ _ _ s8 σ8 H8 _ I8 q8') (fun y s9 ⟨y',H9,I9,r9,ys,hD,hl,n9⟩ => ?_) fun _ _ f => f.elim))
   refine wpAny_bind (wpAny_mono (mt_append (X := blk X N' scope cl s3.heap.objs.size s3 (upd H2 s2.heap.objs.size (.lst [])) fp) _ s9 σ8 H9 (.ref s2.heap.objs.size) [y'] (.ref s2.heap.objs.size) [y] (fun _ H' => N H') I9 rfl (.cons r9 .nil) ⟨_,ys,y',rfl,rfl,hD,hl,n9⟩) (fun _ s10 ⟨_,H10,I10,_,n10⟩ => ?_) fun _ _ f => f.elim)
   exact wpAny_pure (wpAny_pure ⟨rfl,comp_again T hN st7 I10 kp (I5.len.trans I10.len.symm) n10⟩)
 exact codeAny_compStart_list loop (T.self X.A 0 _ _ _ st1 loop)
theorem pe_compIf {c : Expr} (B : BlkOk X N' scope cl caps) (hc : X.calm = true) (hi : PI X tg iter wi) (hg : ∀ C s0 H0 fp,PG (blk X N' scope cl C s0 H0 fp) tg g) (ht : ∀ C s0 H0 fp,PT (blk X N' scope cl C s0 H0 fp) c tt)
  (he : ∀ C s0 H0 fp,PE (blk X N' scope cl C s0 H0 fp) elt te) (hs : ∀ x,foldedSetIterable iter X.env x = pure x := by intro _; rfl) : PE X (.ListComp elt [⟨tg,iter,[c],0⟩] scope pos) (tComp wi caps g tt te) := by
 intro pins s σ H Q I h
 rw [eval_ListComp]
 refine wpAny_comprehension_free (use := none) rfl hs B.clos B.kind B.names ?_
 refine thn (hi pins s σ H _ I h) fun v s1 h1 => thn h1 fun itv s2 h2 => ?_
 obtain ⟨it,fp,tn,J,H2,rfl,I2,T,st2,f2,q2⟩ := h2
 have fpl : ∀ b ∈ fp,b < s2.heap.objs.size := fun b hb => by
  obtain ⟨o,e,_⟩ := T.obj _ _ st2 b hb
  exact Heap.lt_size e
 obtain ⟨W,⟨m0,w0⟩,turn⟩ := q2 s2.heap.objs.size (I2.hok.fresh (Nat.le_refl _))
 refine wpAny_newObj_type ?_
 have I3 : Inv X pins σ (upd H2 s2.heap.objs.size (.lst [])) { s2 with heap := s2.heap.push { cls := .type "list",data := .seq ([] : List Value).toArray } } :=
  I2.laid (t' := s2.toks) (fun b u e => Heap.get?_push_of_some _ e) (Nat.le_refl _) ⟨Nat.zero_le _,[],0,.nil,Heap.get?_push_size _ rfl⟩
 generalize hs3 : ({ s2 with heap := s2.heap.push { cls := .type "list",data := .seq ([] : List Value).toArray } } : Shared) = s3 at I3
 have k23 : ∀ b o,s2.heap.get? b = some o → s3.heap.get? b = some o := fun b o e => by rw [← hs3]; exact Heap.get?_push_of_some _ e
 have fpl3 : ∀ b ∈ fp,b < s3.heap.objs.size := fun b hb => by
  obtain ⟨o,e,_⟩ := T.obj _ _ st2 b hb
  exact Heap.lt_size (k23 b o e)
 have f3 : ∀ b ∈ fp,FpOk X pins (upd H2 s2.heap.objs.size (.lst [])) b := fun b hb => ⟨by rw [upd_ne (Nat.ne_of_lt (fpl b hb))]; exact (f2 b hb).1,(f2 b hb).2⟩
 refine wpAny_newFunctionEnv B.nocell (by intro y hy; simp at hy) (fun h1 hn1 sb1 => ?_) B.kind
 have k31 : ∀ b o,s3.heap.get? b = some o → h1.get? b = some o := fun b o e => sb1.extBut b o (Nat.ne_of_lt (Heap.lt_size e)) (Heap.get?_push_of_some _ e)
 have J0 := blk_inv (fp := fp) (tk := s3.toks + ([] : List (Str × Value)).length) B I3 f3 hn1 k31 fpl3
 have st1 : tn 0 h1 := T.keep _ _ _ st2 fun b _ o e => k31 b o (k23 b o e)
 have loop : codeAny (model X.prog X.w) X.A (.compLoop (.ListComp elt [⟨tg,iter,[c],0⟩] scope pos) 0 (.ref it) (.ref s2.heap.objs.size) (blk X N' scope cl s3.heap.objs.size s3 (upd H2 s2.heap.objs.size (.lst [])) fp).env)
   (compPost (model X.prog X.w) X.A X.xe none (EP X pins σ Q) (.ref s2.heap.objs.size) s3.heap.objs.size) { s3 with heap := h1,toks := s3.toks + ([] : List (Str × Value)).length } := by
  refine codeAny_loop rfl (fun n s' => ∃ i H',Inv (blk X N' scope cl s3.heap.objs.size s3 (upd H2 s2.heap.objs.size (.lst [])) fp) [] (seen caps σ) H' s' ∧ tn i s'.heap ∧ (∀ b ∈ fp,H' b = none) ∧ W i n H') (fun n s5 hI => ?_) m0
   ⟨0,_,J0,st1,fun b hb => (f3 b hb).1,w0⟩
  obtain ⟨i,H5,I5,st5,fr5,w5⟩ := hI
  show wpAny _ _ ((compTurn (.ListComp elt [⟨tg,iter,[c],0⟩] scope pos) 0 (.ref it) (.ref s2.heap.objs.size) (blk X N' scope cl s3.heap.objs.size s3 (upd H2 s2.heap.objs.size (.lst [])) fp).env).onRaise (fun x => do noteFrame x (blk X N' scope cl s3.heap.objs.size s3 (upd H2 s2.heap.objs.size (.lst [])) fp).env; theTreesLotGoes x)) _ _ s5
  refine wpAny_noted ?_
  rw [compTurn_list]
  have ff : ∀ {H' : Hp},(∀ b ∈ fp,H' b = none) → ∀ b ∈ fp,FpOk (blk X N' scope cl s3.heap.objs.size s3 (upd H2 s2.heap.objs.size (.lst [])) fp) [] H' b := fun {H'} hn b hb =>
   ⟨hn b hb,(J0.ok.exf b hb).1,J0.ok.exfs b hb,.inl hb,fun x c e => (J0.ok.exf b hb).2 x c e,fun p hp => absurd (show p ∈ ([] : List (Addr × Obj)) from hp) (by simp)⟩
  rcases turn i n H5 w5 with ⟨stop,qn⟩ | ⟨go,N,hN,step⟩
  ·refine wpAny_bind (wpAny_standAt (wpAny_bind (thn (T.done (blk X N' scope cl s3.heap.objs.size s3 (upd H2 s2.heap.objs.size (.lst [])) fp) rfl rfl rfl hc i [] s5 _ H5 _ I5 (ff fr5) st5 stop) fun r s6 ⟨hr,I6⟩ => ?_)))
   subst hr
   refine wpAny_pure ?_
   obtain ⟨m,hn,_⟩ := id I6.loc
   exact ⟨m,hn,fun h' sb => ⟨.ref s2.heap.objs.size,H5,blk_end I3 f3 fpl3 I6 sb,rfl,qn⟩⟩
  ·refine wpAny_bind (wpAny_standAt (wpAny_bind (thn (T.item (blk X N' scope cl s3.heap.objs.size s3 (upd H2 s2.heap.objs.size (.lst [])) fp) rfl rfl rfl hc i [] s5 _ H5 _ I5 (ff fr5) st5 go) fun r s6 ⟨u,hr,h6⟩ => ?_)))
   subst hr
   refine wpAny_bind (thn h6 fun _ s7 ⟨x,H7,I7,r7,y7,st7,fr7⟩ => ?_)
   have I7' := I7.pinned (ff fr7) (T.obj _ _ st7)
   refine wpAny_bind (wpAny_mono (hg _ _ _ _ _ s7 _ H7 x u _ I7' r7 (step x H7 y7)) (fun _ s8 ⟨σ8,H8,I8,kp,q8⟩ => ?_) fun _ _ f => f.elim)
   refine wpAny_bind (wpAny_tests_one (wpAny_mono (ht _ _ _ _ _ s8 σ8 H8 _ I8 q8) (fun b s9 ⟨H9,I9,q9⟩ => ?_) fun _ _ f => f.elim))
   cases b with
   | false =>
    rw [if_neg Bool.false_ne_true] at q9
    exact wpAny_pure ⟨rfl,comp_again T hN st7 I9 kp (I5.len.trans I9.len.symm) q9⟩
   | true =>
    rw [if_pos rfl] at q9
    refine wpAny_bind (wpAny_bind (wpAny_mono (he _ _ _ _ _ s9 σ8 H9 _ I9 q9) (fun y s10 ⟨y',H10,I10,r10,ys,hD,hl,n10⟩ => ?_) fun _ _ f => f.elim))
    refine wpAny_bind (wpAny_mono (mt_append (X := blk X N' scope cl s3.heap.objs.size s3 (upd H2 s2.heap.objs.size (.lst [])) fp) _ s10 σ8 H10 (.ref s2.heap.objs.size) [y'] (.ref s2.heap.objs.size) [y] (fun _ H' => N H') I10 rfl (.cons r10 .nil) ⟨_,ys,y',rfl,rfl,hD,hl,n10⟩) (fun _ s11 ⟨_,H11,I11,_,n11⟩ => ?_) fun _ _ f => f.elim)
    exact wpAny_pure (wpAny_pure ⟨rfl,comp_again T hN st7 I11 kp (I5.len.trans I11.len.symm) n11⟩)
 exact codeAny_compStart_list loop (T.self X.A 0 _ _ _ st1 loop)
end
end
end L2
namespace L2
open PySem PySem.Spec PyProof.Rows
section
variable {X : Cx} {a b c d : Expr} {ta tb tc td : TE} {pos : Pos}
def tChain3 (r r' r'' : R2) (ta tb tc td : TE) : TE := fun σ H Q => ta σ H fun x H1 => tb σ H1 fun y H2 => r x y H2 fun z H3 => ∃ k,z = .bl k ∧
 (if k = true then tc σ H3 fun w' H4 => r' y w' H4 fun z' H5 => ∃ k',z' = .bl k' ∧ (if k' = true then td σ H5 fun w2 H6 => r'' w' w2 H6 Q else Q (.bl false) H5) else Q (.bl false) H3)
theorem pe_chain3 {op op' op'' : CmpOp} {r r' r'' : R2} (ho : OpR X (compareOp op) r) (ho' : OpR X (compareOp op') r') (ho'' : OpR X (compareOp op'') r'') (ha : PE X a ta) (hb : PE X b tb) (hc : PE X c tc) (hd : PE X d td)
  (hm : lastMarks [op,op',op''] [b,c,d] = false := by with_unfolding_all rfl) : PE X (.Compare a [op,op',op''] [b,c,d] pos) (tChain3 r r' r'' ta tb tc td) := by
 intro pins s σ H Q I h
 refine Compare_chain (thn (ha pins s σ H _ I h) fun v s1 ⟨x,H1,I1,r1,q1⟩ => chain_link (thn (hb pins s1 σ H1 _ I1 q1) fun u s2 ⟨y,H2,I2,r2,q2⟩ =>
  thn (ho pins s2 σ H2 x y v u _ I2 r1 r2 q2) fun d s3 ⟨z,H3,I3,r3,k,e,q3⟩ => ?_)) hm
 subst e
 cases r3
 refine wpAny_truthy_bool ?_
 cases k with
 | false => exact ite_ff ⟨.bl false,H3,I3,rfl,q3⟩
 | true =>
  refine ite_tt (chain_link (thn (hc pins s3 σ H3 _ I3 q3) fun w' s4 ⟨z',H4,I4,r4,q4⟩ => thn (ho' pins s4 σ H4 y z' u w' _ I4 r2 r4 q4) fun d' s5 ⟨z2,H5,I5,r5,k2,e2,q5⟩ => ?_))
  subst e2
  cases r5
  refine wpAny_truthy_bool ?_
  cases k2 with
  | false => exact ite_ff ⟨.bl false,H5,I5,rfl,q5⟩
  | true => exact ite_tt (chain_last (thn (hd pins s5 σ H5 _ I5 q5) fun w2 s6 ⟨z3,H6,I6,r6,q6⟩ => ho'' pins s6 σ H6 z' z3 w' w2 Q I6 r4 r6 q6))
theorem vals_bl {bs : List Bool} {its : List Value} (r : Vals (bs.map V.bl) its) {i : Nat} {v : Value} (h : its[i]? = some v) : ∃ k,bs[i]? = some k ∧ v = .bool k := by
 have hl := r.length
 rw [List.length_map] at hl
 have hi : i < bs.length := by
  have := (List.getElem?_eq_some_iff.mp h).1
  omega
 obtain ⟨u,hu,ru⟩ := r.get (i := i) (x := .bl bs[i]) (by rw [List.getElem?_map,List.getElem?_eq_getElem hi]; rfl)
 rw [h] at hu
 cases hu
 exact ⟨bs[i],List.getElem?_eq_getElem hi,ru⟩
theorem all_range (bs : List Bool) : ((List.range bs.length).all fun i => (bs[i]?).getD true) = bs.all id := by
 rw [Bool.eq_iff_iff,List.all_eq_true,List.all_eq_true]
 constructor
 ·intro h x hx
  obtain ⟨i,hi,e⟩ := List.mem_iff_getElem.mp hx
  have := h i (List.mem_range.mpr hi)
  rw [List.getElem?_eq_getElem hi,e] at this
  exact this
 ·intro h i hi
  have hi' := List.mem_range.mp hi
  rw [List.getElem?_eq_getElem hi']
  exact h _ (List.getElem_mem hi')
theorem call_all (hc : X.calm = true) : CallR X (.builtin "all") (fun xs H Q => ∃ (p : Addr) (bs : List Bool),xs = [.ref p] ∧ SqL X.K H p (bs.map V.bl) ∧ Q (.bl (bs.all id)) H) := by
 intro pins s σ H xs us Q I r h
 obtain ⟨p,bs,rfl,hS,q⟩ := h
 obtain ⟨u,rfl,ru⟩ := vals1 r
 cases ru
 obtain ⟨its,rv,pl,hz⟩ := I.list hS
 have hl := pl.isList
 have hlt : p < s.heap.objs.size := by obtain ⟨_,e,_⟩ := hl; exact Heap.lt_size e
 refine call_all_walk (wpAny_pyIter_list hl ?_)
 refine ⟨s.heap.objs.size,[s.heap.objs.size,p],[s.heap.objs.size],its.toArray.size,_,_,fun i => (bs[i]?).getD true,rfl,Walks.list (A := X.A.in1) (I.ok.hd hc) _ p (Nat.ne_of_lt hlt) its.toArray,
  ⟨⟨_,Heap.get?_push_size _ rfl,rfl,rfl⟩,hl.push _⟩,fun i v s' Q' E' hP hQ => ?_,fun h' tk hk => ?_⟩
 ·obtain ⟨k,e,rfl⟩ := vals_bl rv (i := i) (v := v) (by simpa using hP)
  simp only [e,Option.getD_some] at hQ
  exact wpAny_truthy_bool hQ
 ·have e : ((List.range its.toArray.size).all fun i => (bs[i]?).getD true) = bs.all id := by
   have hl2 := rv.length
   rw [List.length_map] at hl2
   rw [List.size_toArray,← hl2]
   exact all_range bs
  rw [e]
  have keep : ∀ b x,s.heap.get? b = some x → h'.get? b = some x := fun b x e => hk b x (fun hm => by rw [List.mem_singleton.mp hm] at e; exact Nat.lt_irrefl _ (Heap.lt_size e)) (Heap.get?_push_of_some _ e)
  exact ⟨.bl (bs.all id),H,I.kept (t' := tk) keep,rfl,q⟩
end
section
variable {X : Cx} {st : Stmt} {rest : List Stmt} {t u : TS} {e : Expr} {te : TE} {tt : TT}
def tCut (t u : TS) : TS := fun D σ H => ∃ M : St → Hp → Prop,t { D with nx := M } σ H ∧ ∀ σ' H',M σ' H' → u D σ' H'
theorem pss_cut (h1 : PS X st t) (h2 : PSs X rest u) : PSs X (st :: rest) (tCut t u) := by
 intro pins s σ H D I h
 obtain ⟨M,h,hM⟩ := h
 refine wpAny_execs_cons (thn (h1 pins s σ H { D with nx := M } I h) fun f s1 q => ?_)
 cases f with
 | next =>
  obtain ⟨σ',H',I',q⟩ := q
  exact h2 pins s1 σ' H' D I' (hM σ' H' q)
 | ret v => exact q
 | brk => exact q
 | cont => exact q
def tCutE (t : TE) : TE := fun σ H Q => ∃ M : V → Hp → Prop,t σ H M ∧ ∀ v H',M v H' → Q v H'
theorem pe_cut (h : PE X e te) : PE X e (tCutE te) := by
 intro pins s σ H Q I q
 obtain ⟨M,q,hM⟩ := q
 exact thn (h pins s σ H M I q) fun u s1 ⟨v,H1,I1,r1,q1⟩ => ⟨v,H1,I1,r1,hM v H1 q1⟩
def tCutT (t : TT) : TT := fun σ H Q => ∃ M : Bool → Hp → Prop,t σ H M ∧ ∀ b H',M b H' → Q b H'
theorem pt_cut (h : PT X e tt) : PT X e (tCutT tt) := by
 intro pins s σ H Q I q
 obtain ⟨M,q,hM⟩ := q
 exact thn (h pins s σ H M I q) fun b s1 ⟨H1,I1,q1⟩ => ⟨H1,I1,hM b H1 q1⟩
end
def blkCheck (X : Cx) (N' : List Str) (scope : Scope) (cl : List (Str × Addr)) (caps : List (Option Nat)) : Bool :=
 (scope.names.all fun y => y.2 != .cell) && (scope.names.all fun y => y.2 != .local || scope.names.lookup y.1 == some .local) &&
 ((relabel scope X.env).names.all fun y => !(y.2 == .cell || y.2 == .free) || (cl.lookup y.1).isSome) && (caps.length == N'.length) &&
 ((List.range caps.length).all fun i => match caps[i]?,N'[i]? with
  | some (some j),some x => (X.N[j]? == some x) && (X.env.kindOf x == some .cell || X.env.kindOf x == some .free) && ((relabel scope X.env).names.lookup x == some .cell || (relabel scope X.env).names.lookup x == some .free)
  | _,_ => true)
theorem BlkOk.of {X : Cx} {N' : List Str} {scope : Scope} {cl : List (Str × Addr)} {caps : List (Option Nat)} (clos : closureFor scope X.env = pure cl) (kind : scope.kind = .function) (sub : ∀ x c,cl.lookup x = some c → X.env.cells.lookup x = some c)
  (h : blkCheck X N' scope cl caps = true) : BlkOk X N' scope cl caps := by
 unfold blkCheck at h
 simp only [Bool.and_eq_true] at h
 obtain ⟨⟨⟨⟨h1,h2⟩,h3⟩,h4⟩,h5⟩ := h
 have ok3 : ∀ x k,(relabel scope X.env).names.lookup x = some k → (k = .cell ∨ k = .free) → ∃ c,cl.lookup x = some c := fun x k e hk => by
  have := List.all_eq_true.mp h3 _ (PySem.mem_of_lookup e)
  have hb : (k == NameKind.cell || k == NameKind.free) = true := by
   rcases hk with rfl | rfl <;> rfl
  simp only [hb,Bool.not_true,Bool.false_or] at this
  exact Option.isSome_iff_exists.mp this
 refine ⟨clos,fun y hy => ?_,kind,fun y hy e => ?_,sub,fun x hx => ?_,by simpa using h4,fun i j x e1 e2 => ?_⟩
 ·have := List.all_eq_true.mp h1 y hy
  simpa using this
 ·have := List.all_eq_true.mp h2 y hy
  rw [e] at this
  simpa using this
 ·rcases hx with hx | hx
  ·exact ok3 x _ hx (.inl rfl)
  ·exact ok3 x _ hx (.inr rfl)
 ·have hi : i < caps.length := (List.getElem?_eq_some_iff.mp e1).1
  have := List.all_eq_true.mp h5 i (List.mem_range.mpr hi)
  rw [e1,e2] at this
  simp only [Bool.and_eq_true,Bool.or_eq_true,beq_iff_eq] at this
  exact ⟨this.1.1,this.1.2,this.2⟩
section
variable {K : PySem.W.Frag} {a : Addr} {xs : List V} {caps : List (Option Nat)} {g : TG} {tt : TT} {te : TE} {σ : St} {H : Hp} {Q : VK}
theorem comp_list (Pv : Addr → Nat → Hp → Prop) (h0 : ∀ D,H D = none → Pv D 0 (upd H D (.lst []))) (hl : ∀ D i H',H D = none → i ≤ xs.length → Pv D i H' → SqL K H' a xs)
  (hs : ∀ D i x H',H D = none → xs[i]? = some x → Pv D i H' → g x (seen caps σ) H' fun σ4 H4 => (∀ (k : Nat) v,(seen caps σ)[k]? = some (some v) → σ4[k]? = some (some v)) ∧ tt σ4 H4 fun b H5 =>
   if b = true then te σ4 H5 fun y H6 => ∃ ys,H6 D = some (.lst ys) ∧ ys.length < sizeLine ∧ Pv D (i + 1) (upd H6 D (.lst (ys ++ [y]))) else Pv D (i + 1) H5)
  (hd : ∀ D H',H D = none → Pv D xs.length H' → Q (.ref D) H') : cBody caps g tt te σ Q (Itl K a) H := by
 intro D hD
 refine ⟨fun i m H' => m = xs.length - i ∧ i ≤ xs.length ∧ Pv D i H',⟨xs.length,by simp,Nat.zero_le _,h0 D hD⟩,?_⟩
 rintro i m H2 ⟨rfl,hi,p⟩
 have q := hl D i H2 hD hi p
 by_cases hlt : i < xs.length
 ·refine .inr ⟨⟨xs,xs[i],q,by simp [hlt]⟩,Pv D (i + 1),fun H' p' => ⟨xs.length - (i + 1),by omega,rfl,hlt,p'⟩,fun x H3 y => ?_⟩
  obtain ⟨e,y⟩ := y
  subst e
  exact hs D i x _ hD (y xs q) p
 ·have e : i = xs.length := by omega
  subst e
  exact .inl ⟨⟨xs,q,Nat.le_refl _⟩,hd D H2 hD p⟩
theorem comp_list0 (Pv : Addr → Nat → Hp → Prop) (h0 : ∀ D,H D = none → Pv D 0 (upd H D (.lst []))) (hl : ∀ D i H',H D = none → i ≤ xs.length → Pv D i H' → SqL K H' a xs)
  (hs : ∀ D i x H',H D = none → xs[i]? = some x → Pv D i H' → g x (seen caps σ) H' fun σ4 H4 => (∀ (k : Nat) v,(seen caps σ)[k]? = some (some v) → σ4[k]? = some (some v)) ∧
   te σ4 H4 fun y H6 => ∃ ys,H6 D = some (.lst ys) ∧ ys.length < sizeLine ∧ Pv D (i + 1) (upd H6 D (.lst (ys ++ [y]))))
  (hd : ∀ D H',H D = none → Pv D xs.length H' → Q (.ref D) H') : cBody caps g tTrue te σ Q (Itl K a) H := comp_list Pv h0 hl hs hd
theorem comp_tup (Pv : Addr → Nat → Hp → Prop) (h0 : ∀ D,H D = none → Pv D 0 (upd H D (.lst []))) (hl : ∀ D i H',H D = none → i ≤ xs.length → Pv D i H' → SqT K H' a xs)
  (hs : ∀ D i x H',H D = none → xs[i]? = some x → Pv D i H' → g x (seen caps σ) H' fun σ4 H4 => (∀ (k : Nat) v,(seen caps σ)[k]? = some (some v) → σ4[k]? = some (some v)) ∧ tt σ4 H4 fun b H5 =>
   if b = true then te σ4 H5 fun y H6 => ∃ ys,H6 D = some (.lst ys) ∧ ys.length < sizeLine ∧ Pv D (i + 1) (upd H6 D (.lst (ys ++ [y]))) else Pv D (i + 1) H5)
  (hd : ∀ D H',H D = none → Pv D xs.length H' → Q (.ref D) H') : cBody caps g tt te σ Q (Itt K a) H := by
 intro D hD
 refine ⟨fun i m H' => m = xs.length - i ∧ i ≤ xs.length ∧ Pv D i H',⟨xs.length,by simp,Nat.zero_le _,h0 D hD⟩,?_⟩
 rintro i m H2 ⟨rfl,hi,p⟩
 have q := hl D i H2 hD hi p
 by_cases hlt : i < xs.length
 ·refine .inr ⟨⟨xs,xs[i],q,by simp [hlt]⟩,Pv D (i + 1),fun H' p' => ⟨xs.length - (i + 1),by omega,rfl,hlt,p'⟩,fun x H3 y => ?_⟩
  obtain ⟨e,y⟩ := y
  subst e
  exact hs D i x _ hD (y xs q) p
 ·have e : i = xs.length := by omega
  subst e
  exact .inl ⟨⟨xs,q,Nat.le_refl _⟩,hd D H2 hD p⟩
theorem comp_tup0 (Pv : Addr → Nat → Hp → Prop) (h0 : ∀ D,H D = none → Pv D 0 (upd H D (.lst []))) (hl : ∀ D i H',H D = none → i ≤ xs.length → Pv D i H' → SqT K H' a xs)
  (hs : ∀ D i x H',H D = none → xs[i]? = some x → Pv D i H' → g x (seen caps σ) H' fun σ4 H4 => (∀ (k : Nat) v,(seen caps σ)[k]? = some (some v) → σ4[k]? = some (some v)) ∧
   te σ4 H4 fun y H6 => ∃ ys,H6 D = some (.lst ys) ∧ ys.length < sizeLine ∧ Pv D (i + 1) (upd H6 D (.lst (ys ++ [y]))))
  (hd : ∀ D H',H D = none → Pv D xs.length H' → Q (.ref D) H') : cBody caps g tTrue te σ Q (Itt K a) H := comp_tup Pv h0 hl hs hd
end
mutual
inductive RdV (K : PySem.W.Frag) (H : Hp) : V → PyData → Prop
 | non : RdV K H .non .none
 | bl (b : Bool) : RdV K H (.bl b) (.bool b)
 | int (i : Int) : RdV K H (.int i) (.int i)
 | str (x : Str) : RdV K H (.str x) (.str x)
 | lst {a : Addr} {xs : List V} {ds : List PyData} : SqL K H a xs → RdAll K H xs ds → RdV K H (.ref a) (.list ds)
 | tup {a : Addr} {xs : List V} {ds : List PyData} : SqT K H a xs → RdAll K H xs ds → RdV K H (.ref a) (.tuple ds)
inductive RdAll (K : PySem.W.Frag) (H : Hp) : List V → List PyData → Prop
 | nil : RdAll K H [] []
 | cons {x : V} {d : PyData} {xs : List V} {ds : List PyData} : RdV K H x d → RdAll K H xs ds → RdAll K H (x :: xs) (d :: ds)
end
section
variable {X : Cx} {pins : List (Addr × Obj)} {σ : St} {H : Hp} {s : Shared}
mutual
theorem Inv.rd (I : Inv X pins σ H s) : ∀ {x : V} {d : PyData},RdV X.K H x d → ∀ u,RelV x u → ∃ as,Reads s.heap u d as
 | _,_,.non,u,r => by cases (show u = Value.none from r); exact ⟨_,.none⟩
 | _,_,.bl b,u,r => by cases (show u = Value.bool b from r); exact ⟨_,.bool b⟩
 | _,_,.int i,u,r => by obtain ⟨t,q⟩ := (show ∃ t,u = Value.int i t from r); cases q; exact ⟨_,.int i t⟩
 | _,_,.str x,u,r => by obtain ⟨t,q⟩ := (show ∃ t,u = Value.str x t from r); cases q; exact ⟨_,.str x t⟩
 | _,_,.lst (a := a) hS hA,u,r => by
  cases (show u = Value.ref a from r)
  obtain ⟨its,rv,p,hz⟩ := I.list hS
  obtain ⟨as,q⟩ := Inv.rdAll I hA its rv
  obtain ⟨o,e,hc,n,hd⟩ := p.isList
  exact ⟨_,.list e hc hd (by simpa using q)⟩
 | _,_,.tup (a := a) hS hA,u,r => by
  cases (show u = Value.ref a from r)
  obtain ⟨its,rv,p,hz⟩ := I.tuple hS
  obtain ⟨as,q⟩ := Inv.rdAll I hA its rv
  obtain ⟨o,e,hc,n,hd⟩ := p
  exact ⟨_,.tuple e hc hd (by simpa using q)⟩
theorem Inv.rdAll (I : Inv X pins σ H s) : ∀ {xs : List V} {ds : List PyData},RdAll X.K H xs ds → ∀ us,Vals xs us → ∃ as,ReadsAll s.heap us ds as
 | _,_,.nil,us,r => by cases r; exact ⟨_,.nil⟩
 | _,_,.cons h1 h2,us,r => by
  cases r with
  | cons r1 r2 =>
   obtain ⟨as,q1⟩ := Inv.rd I h1 _ r1
   obtain ⟨bs,q2⟩ := Inv.rdAll I h2 _ r2
   exact ⟨_,.cons q1 q2⟩
end
end
section
variable {X : Cx}
def rEqD (K : PySem.W.Frag) : R2 := fun x y H Q => ∃ d e,RdV K H x d ∧ RdV K H y e ∧ SeqAt.shaped d = true ∧ SeqAt.shaped e = true ∧ Q (.bl (PyData.eqv d e)) H
theorem op_eqD (hu : X.A.units + 64 < cLine) : OpR X (compareOp .Eq) (rEqD X.K) := by
 intro pins s σ H x y v u Q I rx ry h
 obtain ⟨d,e,hd,he,sd,se,q⟩ := h
 obtain ⟨as,ra⟩ := I.rd hd v rx
 obtain ⟨bs,rb⟩ := I.rd he u ry
 exact eq_dataH ra rb sd se hu ⟨.bl _,H,I,rfl,q⟩
end
end L2
namespace L2
open PySem PySem.Spec PyProof.Rows
structure QE (X : Cx) (e : Expr) (t : TE) : Prop where
 run : PE X e t
structure QT (X : Cx) (e : Expr) (t : TT) : Prop where
 run : PT X e t
structure QW (X : Cx) (e : Expr) (t : TT) : Prop where
 run : PW X e t
structure QA (X : Cx) (es : List Expr) (t : TA) : Prop where
 run : PA X es t
structure QS (X : Cx) (st : Stmt) (t : TS) : Prop where
 run : PS X st t
structure QSs (X : Cx) (st : List Stmt) (t : TS) : Prop where
 run : PSs X st t
structure QG (X : Cx) (e : Expr) (t : TG) : Prop where
 run : PG X e t
structure QGs (X : Cx) (es : List Expr) (t : TGs) : Prop where
 run : PGs X es t
structure QI (X : Cx) (tg it : Expr) (w : TI) : Prop where
 run : PI X tg it w
structure QO (X : Cx) (e : Option Expr) (t : TO) : Prop where
 run : PO X e t
structure QC (X : Cx) (op : CmpOp) (a b : Expr) (t : TE) : Prop where
 run : PC X op a b t
structure QOp (X : Cx) (f : Value → Value → Sem Value) (r : R2) : Prop where
 run : OpR X f r
structure QCall (X : Cx) (f : Value) (r : List V → Hp → VK → Prop) : Prop where
 run : CallR X f r
structure QIx (X : Cx) (r : R2) : Prop where
 run : IxR X r
section
variable {X : Cx} {st : Stmt} {rest : List Stmt} {t u : TS} {a b c d e : Expr} {ta tb tc td te : TE} {tA tB' tt : TT} {pos p : Pos}
theorem qss_nil : QSs X [] tNext := ⟨pss_nil⟩
theorem qss_one (h1 : QS X st t) : QSs X [st] t := ⟨pss_one h1.run⟩
theorem qss_cons (h1 : QS X st t) (h2 : QSs X rest u) : QSs X (st :: rest) (tSeq t u) := ⟨pss_cons h1.run h2.run⟩
theorem qss_cut (h1 : QS X st t) (h2 : QSs X rest u) : QSs X (st :: rest) (tCut t u) := ⟨pss_cut h1.run h2.run⟩
theorem qs_set {i : Nat} {x : Str} {pos' : Pos} (hN : X.N.Nodup) (hi : X.N[i]? = some x) (hx : Loc X.env.scope x) (he : QE X e te) (hs : swapsWith e (some (.Name x pos')) pos.line X.env = pure false := by rfl) (hf : X.fn x = true ∨ X.env.scope.names.lookup x = some .local := by first | exact .inl rfl | exact .inr rfl | assumption) :
  QS X (.Assign [.Name x pos'] e pos) (tAsg te (gName i)) := ⟨ps_set hN hi hx he.run hs hf⟩
theorem qs_asg {tg : Expr} {g : TG} (he : QE X e te) (hg : QG X tg g) (hs : swapsWithSole [tg] e pos.line X.env = pure false := by rfl) (hw : swappedStores [tg] e X.env = pure none := by rfl)
  (h1 : (assignEach [tg] X.env).map (·.2) = [assign tg X.env] := by rfl) : QS X (.Assign [tg] e pos) (tAsg te g) := ⟨ps_asg he.run hg.run hs hw h1⟩
theorem qs_if {a b : List Stmt} {tc : TT} (hc : QT X c tc) (ha : QSs X a t) (hb : QSs X b u) : QS X (.If c a b pos) (tIfS tc t u) := ⟨ps_if hc.run ha.run hb.run⟩
theorem qs_ret (he : QE X e te) : QS X (.Return (some e) pos) (tRet te) := ⟨ps_ret he.run⟩
theorem qs_retN : QS X (.Return none pos) tRetN := ⟨ps_retN⟩
theorem qs_expr (he : QE X e te) (hs : swapsWith e none pos.line X.env = pure false := by rfl) : QS X (.Expr e pos) (tDrop te) := ⟨ps_expr he.run hs⟩
theorem qs_while {body : List Stmt} {tb : TS} (hp : PassesOwn (model X.prog X.w) X.A X.env X.xe) (hc : QT X c tt) (hb : QSs X body tb) : QS X (.While c body [] pos) (tWhile tt tb) := ⟨ps_while hp hc.run hb.run⟩
theorem qs_for {tg iter : Expr} {body : List Stmt} {wi : TI} {g : TG} {tb : TS} (hp : PassesOwn (model X.prog X.w) X.A X.env X.xe) (hc : X.calm = true) (hi : QI X tg iter wi) (hg : QG X tg g) (hb : QSs X body tb)
  (hs : ∀ x,foldedSetIterable iter X.env x = pure x := by intro _; rfl) : QS X (.For tg iter body [] pos) (tFor wi g tb) := ⟨ps_for hp hc hi.run hg.run hb.run hs⟩
theorem qg_name {i : Nat} {x : Str} (hN : X.N.Nodup) (hi : X.N[i]? = some x) (hx : Loc X.env.scope x) (hf : X.fn x = true ∨ X.env.scope.names.lookup x = some .local := by first | exact .inl rfl | exact .inr rfl | assumption) : QG X (.Name x pos) (gName i) := ⟨pg_name hN hi hx hf⟩
theorem qgs_nil : QGs X [] gNil := ⟨pgs_nil⟩
theorem qgs_cons {es : List Expr} {t : TG} {u : TGs} (h1 : QG X e t) (h2 : QGs X es u) (hs : (assignEach (e :: es) X.env).map (·.2) = assign e X.env :: (assignEach es X.env).map (·.2) := by rfl) : QGs X (e :: es) (gCons t u) := ⟨pgs_cons h1.run h2.run hs⟩
theorem qg_tup {es : List Expr} {k : Nat} {t : TGs} {n : Nat} (hc : X.calm = true) (h : QGs X es t)
  (hn : (assignEach es X.env).length = n := by rfl) (hst : (assignEach es X.env).findIdx? (·.1) = none := by rfl) : QG X (.Tuple es k pos) (gTup X.K n t) := ⟨pg_tup hc h.run hn hst⟩
theorem qg_sub {o i : Expr} {to ti : TE} {t : TSet} (ho : QE X o to) (hi : QE X i ti) (hs : PSet X t)
  (ha : ∀ v,assign (.Subscript o i pos) X.env v = (do
   let ov ← holding [v] (eval o X.env)
   let iv ← holding [v,ov] (eval i X.env)
   standAt pos
   holding [v,ov,iv] (setItem ov iv v)
   release [v,ov,iv] []) := by intro _; rfl) : QG X (.Subscript o i pos) (gSub to ti t) := ⟨pg_sub ho.run hi.run hs ha⟩
theorem qi_list {tg l : Expr} {tl : TE} (hl : QE X l tl) : QI X tg l (iList X.K tl) := ⟨pi_list hl.run⟩
theorem qi_tup {tg l : Expr} {tl : TE} (hl : QE X l tl) : QI X tg l (iTup X.K tl) := ⟨pi_tup hl.run⟩
theorem qi_range2 {tg : Expr} {ta : TA} (hg : Gl X "range") (hm : X.mg "range" = none) (ha : QA X [a,b] ta) (h : notStar a = true := by rfl) (h2 : notStar b = true := by rfl) : QI X tg (.Call (.Name "range" p) [a,b] [] pos) (iRng2 ta) :=
 ⟨pi_range2 hg hm ha.run (by rw [se_of h,se_of h2]; rfl) (se_of h2)⟩
theorem qa_nil : QA X [] tNil := ⟨pa_nil⟩
theorem qa_c {es : List Expr} {t : TA} (ha : QE X e te) (hr : QA X es t) (h : notStar e = true := by rfl) : QA X (e :: es) (tCons te t) := ⟨pa_c ha.run hr.run h⟩
theorem qv (i : Nat) {x : Str} (hN : X.N[i]? = some x := by rfl) (hv : Vis X.env.scope x := by first | exact Or.inl rfl | exact Or.inr (Or.inl rfl) | exact Or.inr (Or.inr rfl)) (hd : (x == ("__debug__" : Str)) = false := by decide)
  (hcd : (x == ("__classdict__" : Str)) = false := by decide) : QE X (.Name x pos) (tVar i) := ⟨pe_var hN hv hd hcd⟩
theorem qe_bltn {x : Str} {v : V} {u : Value} (hg : Gl X x) (hm : X.mg x = none) (hv : bootBuiltins x = some u) (r : RelV v u) (hn : x ≠ "__name__" := by decide) (hd : (x == ("__debug__" : Str)) = false := by decide) : QE X (.Name x pos) (tC v) := ⟨pe_bltn hg hm hv r hn hd⟩
theorem qe_int {i : Int} {j : Nat} : QE X (.Constant (.int i) j pos) (tC (.int i)) := ⟨pe_int⟩
theorem qe_bl {b : Bool} {j : Nat} : QE X (.Constant (.bool b) j pos) (tC (.bl b)) := ⟨pe_bl⟩
theorem qe_non {j : Nat} : QE X (.Constant .none j pos) (tC .non) := ⟨pe_non⟩
theorem qe_op {op : Operator} {r : R2} (ho : QOp X (binaryOp op) r) (ha : QE X a ta) (hb : QE X b tb) : QE X (.BinOp a op b pos) (tOp r ta tb) := ⟨pe_op ho.run ha.run hb.run⟩
theorem qe_neg (ha : QE X a ta) : QE X (.UnaryOp .USub a pos) (tUn (rU fun i => .int (-i)) ta) := ⟨pe_un un_neg ha.run⟩
theorem qe_not (ha : QE X a ta) : QE X (.UnaryOp .Not a pos) (tNotV ta) := ⟨pe_not ha.run⟩
theorem qe_isN {j : Nat} {pos' : Pos} (ha : QE X a ta) : QE X (.Compare a [.Is] [.Constant .none j pos'] pos) (tIsN ta) := ⟨pe_cmp (pc_isN ha.run)⟩
theorem qe_cmpR {op : CmpOp} {r : R2} (ho : QOp X (compareOp op) r) (ha : QE X a ta) (hb : QE X b tb) (hm : behindInMarks op b = false) : QE X (.Compare a [op] [b] pos) (tOp r ta tb) := ⟨pe_cmpR ho.run ha.run hb.run hm⟩
theorem qt_cmpR {op : CmpOp} {r : R2} (ho : QOp X (compareOp op) r) (ha : QE X a ta) (hb : QE X b tb) (hm : behindInMarks op b = false) : QT X (.Compare a [op] [b] pos) (tTest (tOp r ta tb)) := ⟨pt_cmpR ho.run ha.run hb.run hm⟩
theorem qt_chain {op op' : CmpOp} {r r' : R2} (ho : QOp X (compareOp op) r) (ho' : QOp X (compareOp op') r') (ha : QE X a ta) (hb : QE X b tb) (hc : QE X c tc) (hm : lastMarks [op,op'] [b,c] = false := by with_unfolding_all rfl) :
  QT X (.Compare a [op,op'] [b,c] pos) (tTest (tChain r r' ta tb tc)) := ⟨pt_chain ho.run ho'.run ha.run hb.run hc.run hm⟩
theorem qe_chain3 {op op' op'' : CmpOp} {r r' r'' : R2} (ho : QOp X (compareOp op) r) (ho' : QOp X (compareOp op') r') (ho'' : QOp X (compareOp op'') r'') (ha : QE X a ta) (hb : QE X b tb) (hc : QE X c tc) (hd : QE X d td) (hm : lastMarks [op,op',op''] [b,c,d] = false := by with_unfolding_all rfl) :
  QE X (.Compare a [op,op',op''] [b,c,d] pos) (tChain3 r r' r'' ta tb tc td) := ⟨pe_chain3 ho.run ho'.run ho''.run ha.run hb.run hc.run hd.run hm⟩
theorem qe_one {op : BoolOp} (h : QE X a ta) : QE X (.BoolOp op [a] pos) ta := ⟨pe_one h.run⟩
theorem qe_and {rest : List Expr} (ha : QE X a ta) (hb : QE X (.BoolOp .And (b :: rest) pos) tb) : QE X (.BoolOp .And (a :: b :: rest) pos) (tAndV ta tb) := ⟨pe_and ha.run hb.run⟩
theorem qw_and1 (ha : QT X a tA) : QW X (.BoolOp .And [a] pos) tA := ⟨pw_and1 ha.run⟩
theorem qw_or1 (ha : QT X a tA) : QW X (.BoolOp .Or [a] pos) tA := ⟨pw_or1 ha.run⟩
theorem qw_and {rest : List Expr} (ha : QT X a tA) (hb : QW X (.BoolOp .And (b :: rest) pos) tB') : QW X (.BoolOp .And (a :: b :: rest) pos) (tAnd tA tB') := ⟨pw_and ha.run hb.run⟩
theorem qw_or {rest : List Expr} (ha : QT X a tA) (hb : QW X (.BoolOp .Or (b :: rest) pos) tB') : QW X (.BoolOp .Or (a :: b :: rest) pos) (tOr tA tB') := ⟨pw_or ha.run hb.run⟩
theorem QW.pt (h : QW X e tt) : QT X e tt := ⟨h.run.pt⟩
theorem qt_not (ha : QT X a tA) : QT X (.UnaryOp .Not a pos) (tNot tA) := ⟨pt_not ha.run⟩
theorem qt_val (h : QE X e te) (he : ∀ whole,isTrue e X.env whole = (do let v ← whole; standAt e.pos; holding [v] (truthy v)) := by intro _; rfl) : QT X e (tB te) := ⟨pt_val h.run he⟩
theorem qt_cut (h : QT X e tt) : QT X e (tCutT tt) := ⟨pt_cut h.run⟩
theorem qe_cut (h : QE X e te) : QE X e (tCutE te) := ⟨pe_cut h.run⟩
theorem qe_ifExp (hc : QT X c tA) (ha : QE X a ta) (hb : QE X b tb) : QE X (.IfExp c a b pos) (tIf tA ta tb) := ⟨pe_ifExp hc.run ha.run hb.run⟩
theorem qe_tup {es : List Expr} {t : TA} {x1 : Nat} (h : QA X es t) : QE X (.Tuple es x1 pos) (tTup t) := ⟨pe_tup h.run⟩
theorem qe_lst {es : List Expr} {t : TA} (h : QA X es t) : QE X (.List es pos) (tLst t) := ⟨pe_lst h.run⟩
theorem qe_ix {r : R2} (hr : QIx X r) (ha : QE X a ta) (hb : QE X b tb) (hs : PlainIx b) : QE X (.Subscript a b pos) (tOp r ta tb) := ⟨pe_ix hr.run ha.run hb.run hs⟩
theorem qo_none : QO X none tNoPart := ⟨po_none⟩
theorem qo_some (h : QE X e te) : QO X (some e) (tPart te) := ⟨po_some h.run⟩
theorem qe_slL {lo hi : Option Expr} {tl th : TO} {p2 : Pos} (he : QE X e te) (hl : QO X lo tl) (hu : QO X hi th) : QE X (.Subscript e (.Slice lo hi none p2) pos) (tSl (rSlL X.K) te tl th) := ⟨pe_slice sl_list he.run hl.run hu.run⟩
theorem qe_cb {x : Str} {es : List Expr} {t : TA} {id : String} {r : List V → Hp → VK → Prop} (hc : QCall X (.builtin id) r) (hg : Gl X x) (hm : X.mg x = none) (hv : bootBuiltins x = some (.builtin id)) (ha : QA X (e :: es) t) (hn : x ≠ "__name__" := by decide) (hdb : (x == ("__debug__" : Str)) = false := by decide)
  (he : notStar e = true := by rfl) (hpl : es.all notStar = true := by rfl) : QE X (.Call (.Name x p) (e :: es) [] pos) (tCB r t) := ⟨pe_cb hc.run hg hm hv ha.run hn hdb he hpl⟩
theorem qe_ct {x : Str} {es : List Expr} {t : TA} {T : String} {r : List V → Hp → VK → Prop} (hc : QCall X (.type T) r) (hg : Gl X x) (hm : X.mg x = none) (hv : bootBuiltins x = some (.type T)) (ha : QA X (e :: es) t) (hn : x ≠ "__name__" := by decide) (hdb : (x == ("__debug__" : Str)) = false := by decide)
  (he : notStar e = true := by rfl) (hpl : es.all notStar = true := by rfl) : QE X (.Call (.Name x p) (e :: es) [] pos) (tCB r t) := ⟨pe_ct hc.run hg hm hv ha.run hn hdb he hpl⟩
theorem qe_fn {k : Nat} {x : Str} {ps : List Str} {sp : Sp} {es : List Expr} {t : TA} (C : Callee X.prog X.w X.K X.mg X.base k x ps sp) (hr : Room k X.A) (hg : Gl X x) (ha : QA X (e :: es) t) (hdb : (x == ("__debug__" : Str)) = false := by decide)
  (he : notStar e = true := by rfl) (hpl : es.all notStar = true := by rfl) : QE X (.Call (.Name x p) (e :: es) [] pos) (tCall sp [] E0 t) := ⟨pe_fn C hr hg ha.run hdb he hpl⟩
theorem qe_append {o : Expr} {to : TE} {t : TA} {apos : Pos} (ho : QE X o to) (ha : QA X [e] t) (h : notStar e = true := by rfl) (hbase : attributeBase o "append" X.env (eval o X.env) = eval o X.env := by rfl) (hline : (apos.endLine == pos.line) = true := by rfl) :
  QE X (.Call (.Attribute o "append" apos) [e] [] pos) (tBM X.K "list" rAppend to t) :=
 ⟨pe_bm PySem.F.plainAttrs_list PySem.F.slot_list_append PySem.F.type_list_append mt_append ho.run ha.run hbase (by rw [se_of h]; rfl) hline (se_of h) rfl⟩
end
section
variable {X : Cx}
theorem qop_add : QOp X (binaryOp .Add) (rI0 fun i j => .int (i + j)) := ⟨op_add⟩
theorem qop_sub : QOp X (binaryOp .Sub) (rI0 fun i j => .int (i - j)) := ⟨op_sub⟩
theorem qop_mul : QOp X (binaryOp .Mult) (rI CMul fun i j => .int (i * j)) := ⟨op_mul⟩
theorem qop_fdivB : QOp X (binaryOp .FloorDiv) (rI CDivB fun i j => .int (i / j)) := ⟨op_fdivB⟩
theorem qop_mod : QOp X (binaryOp .Mod) (rI (fun _ j => 0 < j) fun i j => .int (i % j)) := ⟨op_mod⟩
theorem qop_pow : QOp X (binaryOp .Pow) (rI CPow fun i j => .int (i ^ j.toNat)) := ⟨op_pow⟩
theorem qop_eq : QOp X (compareOp .Eq) rEq := ⟨op_eq⟩
theorem qop_ne : QOp X (compareOp .NotEq) rNe := ⟨op_ne⟩
theorem qop_lt : QOp X (compareOp .Lt) (rI0 fun i j => .bl (decide (i < j))) := ⟨op_lt⟩
theorem qop_le : QOp X (compareOp .LtE) (rI0 fun i j => .bl (decide (i ≤ j))) := ⟨op_le⟩
theorem qop_gt : QOp X (compareOp .Gt) (rI0 fun i j => .bl (decide (j < i))) := ⟨op_gt⟩
theorem qop_ge : QOp X (compareOp .GtE) (rI0 fun i j => .bl (decide (j ≤ i))) := ⟨op_ge⟩
theorem qop_eqD (hu : X.A.units + 64 < cLine) : QOp X (compareOp .Eq) (rEqD X.K) := ⟨op_eqD hu⟩
theorem qix_list : QIx X (rIxL X.K) := ⟨ix_list⟩
theorem qix_tup : QIx X (rIxT X.K) := ⟨ix_tup⟩
theorem qcall_len : QCall X (.builtin "len") (fun xs H Q => ∃ p ys,xs = [.ref p] ∧ (SqL X.K H p ys ∨ SqT X.K H p ys) ∧ Q (.int ys.length) H) := ⟨call_len_seq⟩
theorem qcall_max (hc : X.calm = true) : QCall X (.builtin "max") (fun xs H Q => ∃ i j,xs = [.int i,.int j] ∧ Q (.int (if j > i then j else i)) H) := ⟨call_max2 hc⟩
theorem qcall_min (hc : X.calm = true) : QCall X (.builtin "min") (fun xs H Q => ∃ i j,xs = [.int i,.int j] ∧ Q (.int (if j < i then j else i)) H) := ⟨call_min2 hc⟩
theorem qcall_isi : QCall X (.builtin "isinstance") (fun xs H Q => ∃ x T t b,xs = [x,.ty T] ∧ TyOf X.K H x t ∧ PySem.W.kitOne X.K t (.type T) = some b ∧ Q (.bl b) H) := ⟨call_isi⟩
theorem qcall_all (hc : X.calm = true) : QCall X (.builtin "all") (fun xs H Q => ∃ (p : Addr) (bs : List Bool),xs = [.ref p] ∧ SqL X.K H p (bs.map V.bl) ∧ Q (.bl (bs.all id)) H) := ⟨call_all hc⟩
theorem qcall_list : QCall X (.type "list") (fun xs H Q => ∃ p ys,xs = [.ref p] ∧ (SqL X.K H p ys ∨ SqT X.K H p ys) ∧ ∀ l,H l = none → Q (.ref l) (upd H l (.lst ys))) := ⟨call_list_of⟩
end
section
variable {P : Program} {w : World} {K : PySem.W.Frag} {mg : Str → Option Value} {base : Heap}
theorem Fun.okQ {x qual : Str} {st : Stmt} {f : Addr} {fd : FuncData} {N ps : List Str} {k : Nat} {sp : Sp} (F : Fun K x qual st f fd) (S : FnScope N ps (defScope st)) (len : ∀ vs H Q E,sp vs H Q E → vs.length = ps.length)
  (hbody : ∀ (cdv : Value) (A : Around) (outer : List Env) (s : Shared) (H : Hp) (vs : List V) (Q : VK) (E : XK),Room k (A.deeper (envOfC qual (defScope st) s.heap.objs.size f cdv)) → sp vs H Q E →
   ∃ t,QSs (cxOf CX0 P w K mg base N qual (defScope st) f cdv A outer s H E).nox (defBody st) t ∧ t { nx := fun _ H' => Q .non H',rt := Q } (start N vs) H) : FnOk P w K mg base CX0 (k + 1) f fd ps sp := by
 refine F.ok S len fun cdv A outer s H vs Q E hr h => ?_
 obtain ⟨t,h1,h2⟩ := hbody cdv A outer s H vs Q E hr h
 exact ⟨t,h1.run,h2⟩
end
structure SubL (cl cells : List (Str × Addr)) : Prop where
 to : ∀ x c,cl.lookup x = some c → cells.lookup x = some c
theorem subN {cells : List (Str × Addr)} : SubL [] cells := ⟨fun _ _ e => nomatch e⟩
theorem subC {x : Str} {c : Addr} {cl cells : List (Str × Addr)} (h : cells.lookup x = some c) (r : SubL cl cells) : SubL ((x,c) :: cl) cells := ⟨fun y d e => by
 rw [List.lookup_cons] at e
 cases q : y == x with
 | true => rw [q] at e; cases e; rw [eq_of_beq q]; exact h
 | false => rw [q] at e; exact r.to y d e⟩
section
variable {X : Cx} {scope : Scope} {cl : List (Str × Addr)} {tg iter elt : Expr} {wi : TI} {g : TG} {te : TE} {tt : TT} {pos : Pos}
theorem qe_comp (N' : List Str) (caps : List (Option Nat)) (B : BlkOk X N' scope cl caps) (hc : X.calm = true) (hi : QI X tg iter wi) (hg : ∀ C s0 H0 fp,QG (blk X N' scope cl C s0 H0 fp) tg g) (he : ∀ C s0 H0 fp,QE (blk X N' scope cl C s0 H0 fp) elt te)
  (hs : ∀ x,foldedSetIterable iter X.env x = pure x := by intro _; rfl) : QE X (.ListComp elt [⟨tg,iter,[],0⟩] scope pos) (tComp wi caps g tTrue te) := ⟨pe_comp B hc hi.run (fun C s0 H0 fp => (hg C s0 H0 fp).run) (fun C s0 H0 fp => (he C s0 H0 fp).run) hs⟩
theorem qe_compIf {c : Expr} (N' : List Str) (caps : List (Option Nat)) (B : BlkOk X N' scope cl caps) (hc : X.calm = true) (hi : QI X tg iter wi) (hg : ∀ C s0 H0 fp,QG (blk X N' scope cl C s0 H0 fp) tg g) (ht : ∀ C s0 H0 fp,QT (blk X N' scope cl C s0 H0 fp) c tt)
  (he : ∀ C s0 H0 fp,QE (blk X N' scope cl C s0 H0 fp) elt te) (hs : ∀ x,foldedSetIterable iter X.env x = pure x := by intro _; rfl) : QE X (.ListComp elt [⟨tg,iter,[c],0⟩] scope pos) (tComp wi caps g tt te) :=
 ⟨pe_compIf B hc hi.run (fun C s0 H0 fp => (hg C s0 H0 fp).run) (fun C s0 H0 fp => (ht C s0 H0 fp).run) (fun C s0 H0 fp => (he C s0 H0 fp).run) hs⟩
end
section
variable {X : Cx} {pos : Pos}
theorem qg_tupK (K : PySem.W.Frag) (hK : X.K = K) {es : List Expr} {k : Nat} {t : TGs} {n : Nat} (hc : X.calm = true) (h : QGs X es t)
  (hn : (assignEach es X.env).length = n := by rfl) (hst : (assignEach es X.env).findIdx? (·.1) = none := by rfl) : QG X (.Tuple es k pos) (gTup K n t) := by
 subst hK
 exact qg_tup hc h hn hst
theorem qix_tupK (K : PySem.W.Frag) (hK : X.K = K) : QIx X (rIxT K) := by subst hK; exact qix_tup
end
end L2
namespace L2
open PySem PySem.Spec PyProof.Rows
section
variable {X : Cx} {k : Nat} {f : Addr} {fd : FuncData} {ps : List Str} {sp : Sp} {e : Expr} {es : List Expr} {t : TA} {p pos : Pos} {x : Str}
end
def CodeQ (c : Addr) (qual : Str) : Heap → Prop := fun h => h.CodeRec (.ref c) qual
structure LamScope (N ps : List Str) (sc : Scope) (clos : List (Str × Addr)) : Prop where
 kind : sc.kind = .function
 co : sc.isCoroutine = false
 gen : sc.isGenerator = false
 nd : ps.Nodup
 pre : N.take ps.length = ps
 par : ∀ x ∈ ps,sc.names.lookup x = some .local
 nocell : ∀ y ∈ sc.names,y.2 ≠ .cell
 has : ∀ x,sc.names.lookup x = some .free → ∃ c,clos.lookup x = some c
 inj : ∀ x y c,clos.lookup x = some c → clos.lookup y = some c → x = y
def TabOk (H : Hp) (P : Addr) (pos : Pos) (qual : Str) : Prop :=
 ∃ ps : Array Value,H P = some (.tbl ps) ∧ TriplesOk ps.toList ∧ (codeAmong pos ps.toList = none ∨ ∃ c,codeAmong pos ps.toList = some (.ref c) ∧ H c = some (.ext (CodeQ c qual)))
def SameT (P : Addr) (H H' : Hp) : Prop := ∀ b o,H b = some o → b ≠ P → H' b = some o
def fixed (X : Cx) (H : Hp) (h : Heap) : Heap := PySem.W.hideAll h (trk h H ++ frs X.stack)
section
variable {X : Cx} {pins : List (Addr × Obj)} {σ : St} {H : Hp} {s : Shared}
end
section
variable {X : Cx} {k : Nat} {x y : Str} {g c P cy : Addr} {gd : FuncData} {ps2 N ps : List Str} {spG : V → Addr → Addr → Sp} {e1 body : Expr} {te : TE} {params : Arguments} {sc : Scope} {lpos p pos : Pos} {clos : List (Str × Addr)}
end
end L2
namespace L2
open PySem PySem.Spec PyProof.Rows
end L2
namespace L2
open PySem PySem.Spec PyProof.Rows
theorem Inv.turnedL {X : Cx} {pins : List (Addr × Obj)} {σ : St} {H H' : Hp} {s : Shared} {h' : Heap} {ch : List Addr} (I : Inv X pins σ H s) (hf : ∀ b ∈ ch,FpOk X pins H b) (k : ∀ b o,b ∉ ch → s.heap.get? b = some o → h'.get? b = some o)
  (up : ∀ b o,H b = some o → H' b = some o) (no : ∀ b o,s.heap.get? b = some o → H b = none → H' b = none) (new : ∀ b o,H b = none → H' b = some o → ObjOk X.prog X.w H' h' b o) : Inv X pins σ H' { s with heap := h' } := by
 have tr : ∀ b o,H b = some o → b ∉ ch := fun b o e z => by rw [(hf b z).1] at e; cases e
 refine I.call (s := s) (h' := h') (g' := s.gens) (d' := s.drawn) (t' := s.toks) (ch := ch) ⟨fun b o e _ _ hx => k b o hx e,fun b o e _ _ hx => ⟨o.slots,k b o hx e⟩,fun b o e n _ => no b o e n,fun b o e hx => ⟨o,k b o hx e⟩,fun b xs e => up b _ e,fun b o u e => up b _ e,fun b ps e => ⟨#[],by rw [up b _ e]; simp⟩⟩ (fun b o e => ?_) I.bare fun b hb => ?_
 ·cases q : H b with
  | none => exact new b o q e
  | some o2 =>
   have e2 := up b o2 q
   rw [e] at e2
   cases e2
   refine (I.hok b o q).stay (fun c v hc q2 => k c v ?_ q2) (fun c q2 => up c _ q2) fun c xs q2 => up c _ q2
   rcases hc with hc | hc
   ·rw [hc]; exact tr b o q
   ·exact tr c _ hc
 ·obtain ⟨_,f1,_,f3,f4,f5⟩ := hf b hb
  exact ⟨f3,f1,f4,f5⟩
section
variable {X : Cx}
end
section
variable {K : PySem.W.Frag} {a b : Addr} {xs ys : List V} {caps : List (Option Nat)} {g : TG} {tt : TT} {te : TE} {σ : St} {H : Hp} {Q : VK}
end
end L2
namespace L2
open PySem PySem.Spec PyProof.Rows
section
variable {X : Cx}
variable {e o a : Expr} {es : List Expr} {to : TE} {t : TA} {apos pos : Pos}
end
end L2
namespace Ma
abbrev T4 := Int × Int × Bool × Int
def btS (d t : Int) (best : Option Int) (w : T3) : Option Int :=
 match best with
 | none => some (nextO d w.1 w.2.1 t + w.2.2)
 | some b => if nextO d w.1 w.2.1 t + w.2.2 < b then some (nextO d w.1 w.2.1 t + w.2.2) else some b
def bt (d : Int) (R : List T3) (t : Int) : Option Int := R.foldl (btS d t) none
theorem bt_nil (d t : Int) : bt d [] t = none := rfl
structure IsMin (d t : Int) (R : List T3) (y : Int) : Prop where
 at_ : ∃ w ∈ R,y = nextO d w.1 w.2.1 t + w.2.2
 le : ∀ w ∈ R,y ≤ nextO d w.1 w.2.1 t + w.2.2
theorem IsMin.uniq {d t : Int} {R : List T3} {y y' : Int} (h : IsMin d t R y) (h' : IsMin d t R y') : y = y' := by
 obtain ⟨w,hw,e⟩ := h.at_
 obtain ⟨w',hw',e'⟩ := h'.at_
 have := h.le w' hw'
 have := h'.le w hw
 omega
theorem fold_bt (d t : Int) : ∀ (R : List T3) (best : Option Int),(best = none ∧ R = [] ∧ R.foldl (btS d t) best = none) ∨
  ∃ y,R.foldl (btS d t) best = some y ∧ (best = some y ∨ ∃ w ∈ R,y = nextO d w.1 w.2.1 t + w.2.2) ∧ (∀ b,best = some b → y ≤ b) ∧ ∀ w ∈ R,y ≤ nextO d w.1 w.2.1 t + w.2.2
 | [],none => .inl ⟨rfl,rfl,rfl⟩
 | [],some b => .inr ⟨b,rfl,.inl rfl,fun b' e => by cases e; exact Int.le_refl _,fun w hw => by cases hw⟩
 | w :: R,best => by
  rw [List.foldl_cons]
  rcases fold_bt d t R (btS d t best w) with ⟨e,_⟩ | ⟨y,e1,e2,e3,e4⟩
  ·cases best with
   | none => cases e
   | some b =>
    simp only [btS] at e
    split at e <;> cases e
  ·refine .inr ⟨y,e1,?_,fun b hb => ?_,fun u hu => ?_⟩
   ·rcases e2 with e2 | ⟨u,hu,e2⟩
    ·cases best with
     | none =>
      cases e2
      exact .inr ⟨w,List.mem_cons_self ..,rfl⟩
     | some b =>
      simp only [btS] at e2
      split at e2
      ·cases e2
       exact .inr ⟨w,List.mem_cons_self ..,rfl⟩
      ·cases e2
       exact .inl rfl
    ·exact .inr ⟨u,List.mem_cons_of_mem _ hu,e2⟩
   ·subst hb
    by_cases c : nextO d w.1 w.2.1 t + w.2.2 < b
    ·have := e3 _ (by simp only [btS]; rw [if_pos c])
     omega
    ·exact e3 _ (by simp only [btS]; rw [if_neg c])
   ·rcases List.mem_cons.mp hu with rfl | hu
    ·cases best with
     | none => exact e3 _ rfl
     | some b =>
      by_cases c : nextO d u.1 u.2.1 t + u.2.2 < b
      ·exact e3 _ (by simp only [btS]; rw [if_pos c])
      ·have := e3 b (by simp only [btS]; rw [if_neg c])
       omega
    ·exact e4 u hu
theorem bt_spec (d t : Int) (R : List T3) : (R = [] ∧ bt d R t = none) ∨ ∃ y,bt d R t = some y ∧ IsMin d t R y := by
 rcases fold_bt d t R none with ⟨_,e,e2⟩ | ⟨y,e1,e2,_,e4⟩
 ·exact .inl ⟨e,e2⟩
 ·refine .inr ⟨y,e1,?_,e4⟩
  rcases e2 with e2 | e2
  ·cases e2
  ·exact e2
theorem IsMin.bt {d t : Int} {R : List T3} {y : Int} (h : IsMin d t R y) : bt d R t = some y := by
 rcases bt_spec d t R with ⟨rfl,_⟩ | ⟨y',e,h'⟩
 ·obtain ⟨w,hw,_⟩ := h.at_
  cases hw
 ·rw [e,h.uniq h']
theorem bt_min {d t : Int} {R : List T3} {y : Int} (h : bt d R t = some y) : IsMin d t R y := by
 rcases bt_spec d t R with ⟨rfl,e⟩ | ⟨y',e,h'⟩
 ·rw [e] at h; cases h
 ·rw [e] at h
  cases h
  exact h'
def Tells (d : Int) (R : List T3) (f : Int → Int) : Prop := ∀ t,bt d R t = some (f t)
def bf (d : Int) (R : List T3) (t : Int) : Int := (bt d R t).getD 0
theorem tells_bf {d : Int} {R : List T3} (h : R ≠ []) : Tells d R (bf d R) := fun t => by
 unfold bf
 rcases bt_spec d t R with ⟨e,_⟩ | ⟨y,e,_⟩
 ·exact absurd e h
 ·rw [e]; rfl
theorem Tells.eq {d : Int} {R : List T3} {f g : Int → Int} (h : Tells d R f) (h' : Tells d R g) (t : Int) : f t = g t := by
 have := h t
 rw [h' t] at this
 exact (Option.some.inj this).symm
theorem Tells.ne {d : Int} {R : List T3} {f : Int → Int} (h : Tells d R f) : R ≠ [] := fun e => by
 have := h 0
 rw [e,bt_nil] at this
 cases this
structure Rise (d : Int) (f : Int → Int) : Prop where
 ge : ∀ t,t ≤ f t
 mono : ∀ t u,t ≤ u → f t ≤ f u
 per : ∀ t,f (t + d) = f t + d
theorem Rise.mul {d : Int} {f : Int → Int} (r : Rise d f) (t : Int) : ∀ k : Int,f (t + d * k) = f t + d * k := by
 have up : ∀ (t : Int) (n : Nat),f (t + d * (n : Int)) = f t + d * (n : Int) := fun t n => by
  induction n with
  | zero => simp
  | succ n ih =>
   have e : d * ((n + 1 : Nat) : Int) = d * (n : Int) + d := by
    rw [Int.natCast_add,Int.mul_add]
    simp
   rw [e,← Int.add_assoc,r.per,ih]
   omega
 intro k
 rcases Int.le_total 0 k with h | h
 ·have e : k = ((k.toNat : Nat) : Int) := by omega
  rw [e]
  exact up t _
 ·obtain ⟨m,e⟩ : ∃ m : Nat,k = -(m : Int) := ⟨(-k).toNat,by omega⟩
  subst e
  have := up (t + d * -(m : Int)) m
  rw [Int.mul_neg] at this ⊢
  have e2 : t + -(d * (m : Int)) + d * (m : Int) = t := by omega
  rw [e2] at this
  omega
def Wins (d : Int) (R : List T3) : Prop := ∀ w ∈ R,0 ≤ w.1 ∧ w.1 ≤ w.2.1 ∧ w.2.1 < d ∧ 0 ≤ w.2.2
theorem next_mono {d a b t u : Int} (hd : 0 < d) (h0 : 0 ≤ a) (h1 : a ≤ b) (h2 : b < d) (l : t ≤ u) : nextO d a b t ≤ nextO d a b u := by
 obtain ⟨k,k1,k2,k3,k4,k5⟩ := next_spec (t := u) hd h0 h1 h2
 obtain ⟨k',_,_,_,_,m5⟩ := next_spec (t := t) hd h0 h1 h2
 exact m5 k _ k1 k2 (by omega)
theorem next_per {d a b t : Int} : nextO d a b (t + d) = nextO d a b t + d := by
 unfold nextO
 rw [Int.add_emod_right]
 split <;> omega
theorem board_rise {d : Int} {R : List T3} {f : Int → Int} (hd : 0 < d) (W : Wins d R) (T : Tells d R f) : Rise d f := by
 have m : ∀ t,IsMin d t R (f t) := fun t => bt_min (T t)
 refine ⟨fun t => ?_,fun t u l => ?_,fun t => ?_⟩
 ·obtain ⟨w,hw,e⟩ := (m t).at_
  obtain ⟨w0,w1,w2,w3⟩ := W w hw
  obtain ⟨_,_,_,k3,_⟩ := next_spec (t := t) hd w0 w1 w2
  omega
 ·obtain ⟨w,hw,e⟩ := (m u).at_
  obtain ⟨w0,w1,w2,w3⟩ := W w hw
  have := (m t).le w hw
  have := next_mono hd w0 w1 w2 l
  omega
 ·refine IsMin.uniq (m (t + d)) ⟨?_,fun w hw => ?_⟩
  ·obtain ⟨w,hw,e⟩ := (m t).at_
   exact ⟨w,hw,by rw [next_per]; omega⟩
  ·have := (m t).le w hw
   rw [next_per]
   omega
structure CK (d : Int) (R : List T3) : Prop where
 d0 : 0 < d
 win : Wins d R
 srt : R.Pairwise fun u v => u.2.1 < v.1 ∧ u.2.1 + u.2.2 < v.1 + v.2.2 ∧ (u.2.1 + 1 = v.1 → u.2.2 ≠ v.2.2)
 wr : ∀ u ∈ R,∀ v ∈ R,u.2.1 + u.2.2 < d + (v.1 + v.2.2)
theorem ck_nil {d : Int} (h : 0 < d) : CK d [] := ⟨h,(fun w hw => by cases hw),List.Pairwise.nil,(fun w hw => by cases hw)⟩
theorem get_mem {R : List T3} {i : Nat} (h : i < R.length) : (rA R i,rB R i,rC R i) ∈ R := List.mem_of_getElem? (r_at h)
theorem mem_get {R : List T3} {w : T3} (h : w ∈ R) : ∃ i,i < R.length ∧ rA R i = w.1 ∧ rB R i = w.2.1 ∧ rC R i = w.2.2 := by
 obtain ⟨i,hi,e⟩ := List.mem_iff_getElem.mp h
 have e2 : R[i]? = some (w.1,w.2.1,w.2.2) := by rw [List.getElem?_eq_getElem hi,e]
 exact ⟨i,hi,r_of e2⟩
theorem pw_get {R : List T3} {p : T3 → T3 → Prop} (h : R.Pairwise p) {i j : Nat} (hij : i < j) (hj : j < R.length) : p (rA R i,rB R i,rC R i) (rA R j,rB R j,rC R j) := by
 have e1 := r_at (R := R) (i := i) (by omega)
 have e2 := r_at (R := R) hj
 rw [List.getElem?_eq_getElem (by omega)] at e1
 rw [List.getElem?_eq_getElem hj] at e2
 have := List.pairwise_iff_getElem.mp h i j (by omega) hj hij
 rw [Option.some.inj e1,Option.some.inj e2] at this
 exact this
theorem CK.clk {d : Int} {R : List T3} (h : CK d R) : Clk d R.length (rA R) (rB R) (rC R) :=
 ⟨h.d0,fun i hi => (h.win _ (get_mem hi)).1,fun i hi => (h.win _ (get_mem hi)).2.1,fun i hi => (h.win _ (get_mem hi)).2.2.1,fun i hi => (h.win _ (get_mem hi)).2.2.2,
  fun i j hij hj => (pw_get h.srt hij hj).1,fun i j hij hj => (pw_get h.srt hij hj).2.1,fun i j hi hj => h.wr _ (get_mem hi) _ (get_mem hj)⟩
theorem ex_min (g : Nat → Int) : ∀ n : Nat,0 < n → ∃ j,j < n ∧ ∀ i,i < n → g j ≤ g i
 | 0,h => absurd h (Nat.lt_irrefl _)
 | 1,_ => ⟨0,by omega,fun i hi => by have : i = 0 := (by omega); rw [this]; exact Int.le_refl _⟩
 | n + 2,_ => by
  obtain ⟨j,hj,h⟩ := ex_min g (n + 1) (by omega)
  rcases Int.le_total (g j) (g (n + 1)) with c | c
  ·refine ⟨j,by omega,fun i hi => ?_⟩
   rcases (by omega : i < n + 1 ∨ i = n + 1) with z | z
   ·exact h i z
   ·rw [z]; exact c
  ·refine ⟨n + 1,by omega,fun i hi => ?_⟩
   rcases (by omega : i < n + 1 ∨ i = n + 1) with z | z
   ·have := h i z
    omega
   ·rw [z]; exact Int.le_refl _
theorem clk_first {d : Int} {R : List T3} (K : Clk d R.length (rA R) (rB R) (rC R)) (n0 : R.length ≠ 0) (t : Int) : ∃ x y,First d R.length (rA R) (rB R) (rC R) t x y ∧ bt d R t = some y := by
 obtain ⟨j,hj,hm⟩ := ex_min (fun i => nextO d (rA R i) (rB R i) t) R.length (by omega)
 have F := first_min K hj hm
 refine ⟨_,_,F,IsMin.bt ⟨⟨_,get_mem hj,rfl⟩,fun w hw => ?_⟩⟩
 obtain ⟨i,hi,e1,e2,e3⟩ := mem_get hw
 obtain ⟨k,k1,k2,k3,k4,k5⟩ := next_spec (t := t) K.d0 (K.a0 i hi) (K.ab i hi) (K.bd i hi)
 have D : Dep d R.length (rA R) (rB R) (rC R) (nextO d (rA R i) (rB R i) t) (nextO d (rA R i) (rB R i) t + rC R i) := ⟨i,k,hi,k1,k2,rfl⟩
 have le := F.least _ _ D k3
 rw [← e1,← e2,← e3]
 rcases (by omega : nextO d (rA R j) (rB R j) t < nextO d (rA R i) (rB R i) t ∨ nextO d (rA R j) (rB R j) t = nextO d (rA R i) (rB R i) t) with z | z
 ·have := dep_mono K F.dep D z
  omega
 ·rw [← z] at D
  have := dep_fun K F.dep D
  omega
structure Can (lo P : Int) (f : Int → Int) (R : List T3) : Prop where
 srt : R.Pairwise fun u v => u.2.1 < v.1 ∧ (u.2.1 + 1 = v.1 → u.2.2 ≠ v.2.2)
 mem : ∀ w ∈ R,lo ≤ w.1 ∧ w.1 ≤ w.2.1 ∧ w.2.1 < P ∧ ∀ x,w.1 ≤ x → x ≤ w.2.1 → f x = x + w.2.2 ∧ f x < f (x + 1)
 cov : ∀ x,lo ≤ x → x < P → f x < f (x + 1) → ∃ w ∈ R,w.1 ≤ x ∧ x ≤ w.2.1
theorem Can.tail {lo P : Int} {f : Int → Int} {w : T3} {R : List T3} (h : Can lo P f (w :: R)) : Can (w.2.1 + 1) P f R := by
 have s := List.pairwise_cons.mp h.srt
 have hw := h.mem w (List.mem_cons_self ..)
 refine ⟨s.2,fun u hu => ?_,fun x x0 x1 x2 => ?_⟩
 ·have a := h.mem u (List.mem_cons_of_mem _ hu)
  have b := (s.1 u hu).1
  exact ⟨by omega,a.2⟩
 ·obtain ⟨u,hu,u1,u2⟩ := h.cov x (by omega) x1 x2
  rcases List.mem_cons.mp hu with rfl | hu
  ·omega
  ·exact ⟨u,hu,u1,u2⟩
theorem Can.head_le {lo P : Int} {f : Int → Int} {w : T3} {R : List T3} (h : Can lo P f (w :: R)) {x : Int} (x0 : lo ≤ x) (x1 : x < P) (x2 : f x < f (x + 1)) : w.1 ≤ x := by
 have s := List.pairwise_cons.mp h.srt
 obtain ⟨u,hu,u1,u2⟩ := h.cov x x0 x1 x2
 rcases List.mem_cons.mp hu with rfl | hu
 ·exact u1
 ·have := (s.1 u hu).1
  have := (h.mem w (List.mem_cons_self ..)).2.1
  omega
theorem Can.end_le {lo P : Int} {f : Int → Int} {w w' : T3} {R R' : List T3} (h : Can lo P f (w :: R)) (h' : Can lo P f (w' :: R')) (ea : w.1 = w'.1) (ec : w.2.2 = w'.2.2) : w'.2.1 ≤ w.2.1 := by
 rcases Int.lt_or_le w.2.1 w'.2.1 with z | z
 ·exfalso
  have m := h.mem w (List.mem_cons_self ..)
  have m' := h'.mem w' (List.mem_cons_self ..)
  have q := m'.2.2.2 (w.2.1 + 1) (by omega) (by omega)
  obtain ⟨u,hu,u1,u2⟩ := h.cov (w.2.1 + 1) (by omega) (by omega) q.2
  rcases List.mem_cons.mp hu with rfl | hu
  ·omega
  ·have s := (List.pairwise_cons.mp h.srt).1 u hu
   have r := ((h.mem u (List.mem_cons_of_mem _ hu)).2.2.2 (w.2.1 + 1) u1 u2).1
   exact s.2 (by omega) (by omega)
 ·exact z
theorem Can.uniq {P : Int} {f : Int → Int} : ∀ {R R' : List T3} {lo : Int},Can lo P f R → Can lo P f R' → R = R'
 | [],[],_,_,_ => rfl
 | [],w :: R,lo,h,h' => by
  have m := h'.mem w (List.mem_cons_self ..)
  obtain ⟨u,hu,_⟩ := h.cov w.1 m.1 (by omega) (m.2.2.2 w.1 (Int.le_refl _) m.2.1).2
  cases hu
 | w :: R,[],lo,h,h' => by
  have m := h.mem w (List.mem_cons_self ..)
  obtain ⟨u,hu,_⟩ := h'.cov w.1 m.1 (by omega) (m.2.2.2 w.1 (Int.le_refl _) m.2.1).2
  cases hu
 | w :: R,w' :: R',lo,h,h' => by
  have m := h.mem w (List.mem_cons_self ..)
  have m' := h'.mem w' (List.mem_cons_self ..)
  have q := m.2.2.2 w.1 (Int.le_refl _) m.2.1
  have q' := m'.2.2.2 w'.1 (Int.le_refl _) m'.2.1
  have l1 := h.head_le (x := w'.1) m'.1 (by omega) q'.2
  have l2 := h'.head_le (x := w.1) m.1 (by omega) q.2
  have ea : w.1 = w'.1 := by omega
  have ec : w.2.2 = w'.2.2 := by
   have := q.1
   have := q'.1
   rw [ea] at *
   omega
  have b1 := h.end_le h' ea ec
  have b2 := h'.end_le h ea.symm ec.symm
  have eb : w.2.1 = w'.2.1 := by omega
  have ew : w = w' := by
   obtain ⟨x,y,z⟩ := w
   obtain ⟨x',y',z'⟩ := w'
   cases ea
   cases eb
   cases ec
   rfl
  subst ew
  rw [Can.uniq h.tail h'.tail]
theorem const_of {f : Int → Int} (mono : ∀ t u,t ≤ u → f t ≤ f u) {x : Int} : ∀ (n : Nat),(∀ y,x ≤ y → y < x + n → ¬ f y < f (y + 1)) → f x = f (x + n)
 | 0,_ => by simp
 | n + 1,h => by
  have e := const_of mono (x := x) n fun y y0 y1 => h y y0 (by omega)
  have a := h (x + n) (by omega) (by omega)
  have b := mono (x + n) (x + n + 1) (by omega)
  have e2 : x + ((n + 1 : Nat) : Int) = x + n + 1 := by omega
  rw [e2]
  omega
theorem const_to {f : Int → Int} (mono : ∀ t u,t ≤ u → f t ≤ f u) {x z : Int} (hz : x ≤ z) (h : ∀ y,x ≤ y → y < z → ¬ f y < f (y + 1)) : f x = f z := by
 have e : z = x + ((z - x).toNat : Int) := by omega
 have := const_of mono (x := x) (z - x).toNat fun y y0 y1 => h y y0 (by omega)
 rw [← e] at this
 exact this
theorem next_dep {d : Int} {f : Int → Int} (hd : 0 < d) (r : Rise d f) (t : Int) : ∃ x,t ≤ x ∧ x < t + d ∧ f x = f t ∧ f x < f (x + 1) := by
 have go : ∀ n : Nat,f t < f (t + n) → ∃ x,t ≤ x ∧ x < t + n ∧ f x = f t ∧ f x < f (x + 1) := by
  intro n
  induction n with
  | zero => intro h; simp at h
  | succ n ih =>
   intro h
   by_cases c : f t < f (t + n)
   ·obtain ⟨x,x1,x2,x3,x4⟩ := ih c
    exact ⟨x,x1,by omega,x3,x4⟩
   ·have b := r.mono t (t + n) (by omega)
    have e : t + ((n + 1 : Nat) : Int) = t + n + 1 := by omega
    rw [e] at h
    exact ⟨t + n,by omega,by omega,by omega,by omega⟩
 have e : d = ((d.toNat : Nat) : Int) := by omega
 have := go d.toNat (by rw [← e,r.per]; omega)
 rw [← e] at this
 exact this
theorem Can.tells {d : Int} {f : Int → Int} {R : List T3} (hd : 0 < d) (r : Rise d f) (h : Can 0 d f R) : Tells d R f := by
 intro t
 have lo : ∀ w ∈ R,f t ≤ nextO d w.1 w.2.1 t + w.2.2 := fun w hw => by
  obtain ⟨m0,m1,m2,m3⟩ := h.mem w hw
  obtain ⟨k,k1,k2,k3,k4,k5⟩ := next_spec (t := t) hd m0 m1 m2
  generalize nextO d w.1 w.2.1 t = x at *
  have q := (m3 (x - d * k) (by omega) (by omega)).1
  have q2 := r.mul (x - d * k) k
  have e : x - d * k + d * k = x := by omega
  rw [e] at q2
  have := r.mono t x k3
  omega
 refine IsMin.bt ⟨?_,lo⟩
 obtain ⟨x,x1,x2,x3,x4⟩ := next_dep hd r t
 obtain ⟨q,e,e0,e1⟩ := split d x hd
 have p0 := r.mul (x % d) q
 have p1 := r.mul (x % d + 1) q
 have e2 : x % d + d * q = x := by omega
 have e3 : x % d + 1 + d * q = x + 1 := by omega
 rw [e2] at p0
 rw [e3] at p1
 obtain ⟨w,hw,w1,w2⟩ := h.cov (x % d) e0 e1 (by omega)
 obtain ⟨m0,m1,m2,m3⟩ := h.mem w hw
 have c := (m3 (x % d) w1 w2).1
 obtain ⟨k,k1,k2,k3,k4,k5⟩ := next_spec (t := t) hd m0 m1 m2
 have u := k5 q x (by omega) (by omega) x1
 have v := lo w hw
 exact ⟨w,hw,by omega⟩
theorem Can.ck {d : Int} {f : Int → Int} {R : List T3} (hd : 0 < d) (r : Rise d f) (h : Can 0 d f R) : CK d R := by
 have at_ : ∀ w ∈ R,f w.1 = w.1 + w.2.2 ∧ f w.2.1 = w.2.1 + w.2.2 ∧ f w.2.1 < f (w.2.1 + 1) := fun w hw => by
  obtain ⟨m0,m1,m2,m3⟩ := h.mem w hw
  exact ⟨(m3 _ (Int.le_refl _) m1).1,m3 _ m1 (Int.le_refl _)⟩
 refine ⟨hd,fun w hw => ?_,?_,fun u hu v hv => ?_⟩
 ·obtain ⟨m0,m1,m2,m3⟩ := h.mem w hw
  have := at_ w hw
  have := r.ge w.1
  exact ⟨m0,m1,m2,by omega⟩
 ·refine List.Pairwise.imp_of_mem (fun {u v} hu hv p => ?_) h.srt
  refine ⟨p.1,?_,p.2⟩
  have a := at_ u hu
  have b := at_ v hv
  have := r.mono (u.2.1 + 1) v.1 (by omega)
  omega
 ·have a := at_ u hu
  have b := at_ v hv
  obtain ⟨m0,m1,m2,m3⟩ := h.mem u hu
  obtain ⟨n0,_⟩ := h.mem v hv
  have := r.mono (u.2.1 + 1) (v.1 + d) (by omega)
  have := r.per v.1
  omega
theorem CK.can {d : Int} {R : List T3} {f : Int → Int} (h : CK d R) (T : Tells d R f) : Can 0 d f R := by
 have K := h.clk
 have n0 : R.length ≠ 0 := fun e => T.ne (List.length_eq_zero_iff.mp e)
 have F : ∀ t,∃ x,First d R.length (rA R) (rB R) (rC R) t x (f t) := fun t => by
  obtain ⟨x,y,h1,h2⟩ := clk_first K n0 t
  rw [T t] at h2
  cases h2
  exact ⟨x,h1⟩
 refine ⟨h.srt.imp fun p => ⟨p.1,p.2.2⟩,fun w hw => ?_,fun x x0 x1 x2 => ?_⟩
 ·obtain ⟨w0,w1,w2,w3⟩ := h.win w hw
  refine ⟨w0,w1,w2,fun x a b => ?_⟩
  obtain ⟨i,hi,e1,e2,e3⟩ := mem_get hw
  have D : Dep d R.length (rA R) (rB R) (rC R) x (x + w.2.2) := ⟨i,0,hi,by omega,by omega,by omega⟩
  obtain ⟨x',F1⟩ := F x
  have l := F1.least _ _ D (Int.le_refl _)
  have l2 := F1.le
  have e : x' = x := by omega
  subst e
  have ey := dep_fun K F1.dep D
  obtain ⟨x2,F2⟩ := F (x' + 1)
  have := dep_mono K F1.dep F2.dep (by have := F2.le; omega)
  exact ⟨ey,this⟩
 ·obtain ⟨x',F1⟩ := F x
  rcases (by have := F1.le; omega : x' = x ∨ x + 1 ≤ x') with e | e
  ·subst e
   obtain ⟨i,k,hi,k1,k2,_⟩ := F1.dep
   have a0 := K.a0 i hi
   have bd := K.bd i hi
   have d0 := K.d0
   have : k = 0 := by
    rcases (by omega : k < 0 ∨ k = 0 ∨ 0 < k) with z | z | z
    ·have := mul_lt_step d0 z
     omega
    ·exact z
    ·have := mul_lt_step d0 z
     omega
   subst this
   exact ⟨_,get_mem hi,by simpa using k1,by simpa using k2⟩
  ·obtain ⟨x2',F2⟩ := F (x + 1)
   have F3 : First d R.length (rA R) (rB R) (rC R) (x + 1) x' (f x) := ⟨F1.dep,e,fun u v h1 h2 => F1.least u v h1 (by omega)⟩
   have := (F2.uniq K F3).2
   omega
theorem CK.uniq {d : Int} {R R' : List T3} (h : CK d R) (h' : CK d R') (e : ∀ t,bt d R t = bt d R' t) : R = R' := by
 by_cases n : R = []
 ·subst n
  by_cases n' : R' = []
  ·exact n'.symm
  ·have := e 0
   rw [bt_nil,tells_bf n' 0] at this
   cases this
 ·have T := tells_bf (d := d) n
  have T' : Tells d R' (bf d R) := fun t => by rw [← e t]; exact T t
  exact Can.uniq (h.can T) (h'.can T')
theorem CK.rise {d : Int} {R : List T3} {f : Int → Int} (h : CK d R) (T : Tells d R f) : Rise d f := board_rise h.d0 h.win T
end Ma
namespace Ma
theorem snoc_ind {α : Type} {p : List α → Prop} (h0 : p []) (hs : ∀ l x,p l → p (l ++ [x])) (l : List α) : p l := by
 rw [← List.reverse_reverse l]
 induction l.reverse with
 | nil => exact h0
 | cons x r ih =>
  rw [List.reverse_cons]
  exact hs _ _ ih
def putW (R : List T3) (a b c : Int) : List T3 :=
 if b < a then R else match R.getLast? with
  | some l => if l.2.1 + 1 = a ∧ l.2.2 = c then R.dropLast ++ [(l.1,b,c)] else R ++ [(a,b,c)]
  | none => R ++ [(a,b,c)]
theorem putW_len (R : List T3) (a b c : Int) : (putW R a b c).length ≤ R.length + 1 := by
 unfold putW
 split
 ·omega
 ·split
  ·split
   ·rw [List.length_append,List.length_dropLast,List.length_singleton]; omega
   ·simp
  ·simp
section
variable {lo P P' : Int} {f : Int → Int} {R : List T3} {a b c : Int}
theorem Can.app (h : Can lo P f R) (l0 : lo ≤ P) (pa : P ≤ a) (ab : a ≤ b) (bp : b < P') (dep : ∀ x,P ≤ x → x < P' → (f x < f (x + 1) ↔ a ≤ x ∧ x ≤ b)) (ride : ∀ x,a ≤ x → x ≤ b → f x = x + c)
  (un : ∀ u ∈ R,u.2.1 + 1 = a → u.2.2 ≠ c) : Can lo P' f (R ++ [(a,b,c)]) := by
 refine ⟨List.pairwise_append.mpr ⟨h.srt,List.pairwise_singleton _ _,fun u hu v hv => ?_⟩,fun w hw => ?_,fun x x0 x1 x2 => ?_⟩
 ·rw [List.mem_singleton] at hv
  subst hv
  have m := h.mem u hu
  exact ⟨by show u.2.1 < a; omega,un u hu⟩
 ·rcases List.mem_append.mp hw with hw | hw
  ·obtain ⟨m0,m1,m2,m3⟩ := h.mem w hw
   exact ⟨m0,m1,by omega,m3⟩
  ·rw [List.mem_singleton] at hw
   subst hw
   exact ⟨by show lo ≤ a; omega,ab,bp,fun x x1 x2 => by
    have x1' : a ≤ x := x1
    have x2' : x ≤ b := x2
    exact ⟨ride x x1 x2,(dep x (by omega) (by omega)).mpr ⟨x1,x2⟩⟩⟩
 ·rcases Int.lt_or_le x P with z | z
  ·obtain ⟨w,hw,w1⟩ := h.cov x x0 z x2
   exact ⟨w,List.mem_append_left _ hw,w1⟩
  ·exact ⟨(a,b,c),List.mem_append_right _ (List.mem_singleton.mpr rfl),(dep x z x1).mp x2⟩
theorem Can.step (h : Can lo P f R) (l0 : lo ≤ P) (pa : P ≤ a) (bp : b < P') (hp : P ≤ P') (dep : ∀ x,P ≤ x → x < P' → (f x < f (x + 1) ↔ a ≤ x ∧ x ≤ b)) (ride : ∀ x,a ≤ x → x ≤ b → f x = x + c) : Can lo P' f (putW R a b c) := by
 unfold putW
 split
 ·rename_i ba
  refine ⟨h.srt,fun w hw => ?_,fun x x0 x1 x2 => ?_⟩
  ·obtain ⟨m0,m1,m2,m3⟩ := h.mem w hw
   exact ⟨m0,m1,by omega,m3⟩
  ·rcases Int.lt_or_le x P with z | z
   ·exact h.cov x x0 z x2
   ·have := (dep x z x1).mp x2
    omega
 ·rename_i ab
  split
  ·rename_i l hl
   obtain ⟨R0,rfl⟩ : ∃ R0,R = R0 ++ [l] := by
    obtain ⟨R0,e⟩ := List.getLast?_eq_some_iff.mp hl
    exact ⟨R0,e⟩
   have s := List.pairwise_append.mp h.srt
   split
   ·rename_i tc
    rw [List.dropLast_concat]
    have ml := h.mem l (List.mem_append_right _ (List.mem_singleton.mpr rfl))
    refine ⟨List.pairwise_append.mpr ⟨s.1,List.pairwise_singleton _ _,fun u hu v hv => ?_⟩,fun w hw => ?_,fun x x0 x1 x2 => ?_⟩
    ·rw [List.mem_singleton] at hv
     subst hv
     have q := s.2.2 u hu l (List.mem_singleton.mpr rfl)
     rw [← tc.2]
     exact q
    ·rcases List.mem_append.mp hw with hw | hw
     ·obtain ⟨m0,m1,m2,m3⟩ := h.mem w (List.mem_append_left _ hw)
      exact ⟨m0,m1,by omega,m3⟩
     ·rw [List.mem_singleton] at hw
      subst hw
      obtain ⟨m0,m1,m2,m3⟩ := ml
      refine ⟨m0,by show l.1 ≤ b; omega,bp,fun x x1 x2 => ?_⟩
      have x1' : l.1 ≤ x := x1
      have x2' : x ≤ b := x2
      show f x = x + c ∧ f x < f (x + 1)
      rcases Int.lt_or_le l.2.1 x with z | z
      ·exact ⟨ride x (by omega) x2',(dep x (by omega) (by omega)).mpr ⟨by omega,x2'⟩⟩
      ·rw [← tc.2]
       exact m3 x x1' z
    ·rcases Int.lt_or_le x P with z | z
     ·obtain ⟨w,hw,w1,w2⟩ := h.cov x x0 z x2
      rcases List.mem_append.mp hw with hw | hw
      ·exact ⟨w,List.mem_append_left _ hw,w1,w2⟩
      ·rw [List.mem_singleton] at hw
       subst hw
       exact ⟨_,List.mem_append_right _ (List.mem_singleton.mpr rfl),w1,by show x ≤ b; omega⟩
     ·have q := (dep x z x1).mp x2
      exact ⟨_,List.mem_append_right _ (List.mem_singleton.mpr rfl),by show l.1 ≤ x; have := ml.2.1; omega,q.2⟩
   ·rename_i tc
    refine h.app l0 pa (by omega) bp dep ride fun u hu e => ?_
    rcases List.mem_append.mp hu with hu | hu
    ·have q := s.2.2 u hu l (List.mem_singleton.mpr rfl)
     have ml := h.mem l (List.mem_append_right _ (List.mem_singleton.mpr rfl))
     omega
    ·rw [List.mem_singleton] at hu
     subst hu
     exact fun e2 => tc ⟨e,e2⟩
  ·rename_i hl
   have e := List.getLast?_eq_none_iff.mp hl
   subst e
   exact h.app l0 pa (by omega) bp dep ride fun u hu => by cases hu
end
def tell (r : T4) (x : Int) : Int := if r.2.2.1 = true then r.2.2.2 else x + r.2.2.2
def ftold (r : T4) : Int := if r.2.2.1 = true then r.2.2.2 else r.1 + r.2.2.2
theorem ftold_eq (r : T4) : ftold r = tell r r.1 := rfl
def cfStep (fo : Int) (r : T4) (R : List T3) : List T3 :=
 if r.2.2.1 = true then putW R r.2.1 (if r.2.2.2 < fo then r.2.1 else r.2.1 - 1) (r.2.2.2 - r.2.1)
 else putW R r.1 (if r.2.1 + r.2.2.2 < fo then r.2.1 else r.2.1 - 1) r.2.2.2
theorem cfStep_len (fo : Int) (r : T4) (R : List T3) : (cfStep fo r R).length ≤ R.length + 1 := by
 unfold cfStep
 split <;> exact putW_len ..
theorem Can.row {lo P : Int} {f : Int → Int} {R : List T3} (h : Can lo P f R) (l0 : lo ≤ P) (r : T4) (e : r.1 = P) (le : r.1 ≤ r.2.1) (tl : ∀ x,r.1 ≤ x → x ≤ r.2.1 → f x = tell r x) :
  Can lo (r.2.1 + 1) f (cfStep (f (r.2.1 + 1)) r R) := by
 obtain ⟨p,q,s,v⟩ := r
 have e' : p = P := e
 subst e'
 have le' : p ≤ q := le
 have tl' : ∀ x,p ≤ x → x ≤ q → f x = if s = true then v else x + v := tl
 unfold cfStep
 show Can lo (q + 1) f (if s = true then putW R q (if v < f (q + 1) then q else q - 1) (v - q) else putW R p (if q + v < f (q + 1) then q else q - 1) v)
 cases s with
 | true =>
  rw [if_pos rfl]
  have t0 : ∀ x,p ≤ x → x ≤ q → f x = v := fun x h1 h2 => by have := tl' x h1 h2; rw [if_pos rfl] at this; exact this
  refine h.step l0 le' (by split <;> omega) (by omega) (fun x x0 x1 => ?_) fun x x0 x1 => ?_
  ·rcases (by omega : x < q ∨ x = q) with z | z
   ·have := t0 x x0 (by omega)
    have := t0 (x + 1) (by omega) (by omega)
    constructor
    ·intro; omega
    ·rintro ⟨h1,h2⟩; omega
   ·subst z
    rw [t0 x x0 (Int.le_refl _)]
    constructor
    ·intro z
     rw [if_pos z]
     exact ⟨Int.le_refl _,Int.le_refl _⟩
    ·rintro ⟨_,z⟩
     split at z
     ·assumption
     ·omega
  ·have x1' : x ≤ q := by split at x1 <;> omega
   have := t0 x (by omega) x1'
   omega
 | false =>
  rw [if_neg (by decide)]
  have t0 : ∀ x,p ≤ x → x ≤ q → f x = x + v := fun x h1 h2 => by have := tl' x h1 h2; rw [if_neg (by decide)] at this; exact this
  refine h.step l0 (Int.le_refl _) (by split <;> omega) (by omega) (fun x x0 x1 => ?_) fun x x0 x1 => ?_
  ·rcases (by omega : x < q ∨ x = q) with z | z
   ·have := t0 x x0 (by omega)
    have := t0 (x + 1) (by omega) (by omega)
    constructor
    ·intro
     refine ⟨x0,?_⟩
     split <;> omega
    ·intro; omega
   ·subst z
    rw [t0 x x0 (Int.le_refl _)]
    constructor
    ·intro z
     rw [if_pos z]
     exact ⟨x0,Int.le_refl _⟩
    ·rintro ⟨_,z⟩
     split at z
     ·assumption
     ·omega
  ·exact t0 x x0 (by split at x1 <;> omega)
def Cov (f : Int → Int) : Int → List T4 → Int → Prop
 | lo,[],hi => lo = hi
 | lo,r :: S,hi => r.1 = lo ∧ r.1 ≤ r.2.1 ∧ (∀ x,r.1 ≤ x → x ≤ r.2.1 → f x = tell r x) ∧ Cov f (r.2.1 + 1) S hi
theorem Cov.le {f : Int → Int} : ∀ {S : List T4} {lo hi : Int},Cov f lo S hi → lo ≤ hi
 | [],lo,hi,h => by have : lo = hi := h; omega
 | r :: S,lo,hi,⟨h1,h2,_,h4⟩ => by have := Cov.le h4; omega
theorem Cov.append {f : Int → Int} : ∀ {S S' : List T4} {lo mid hi : Int},Cov f lo S mid → Cov f mid S' hi → Cov f lo (S ++ S') hi
 | [],S',lo,mid,hi,h,h' => by
  have : lo = mid := h
  subst this
  exact h'
 | r :: S,S',lo,mid,hi,⟨h1,h2,h3,h4⟩,h' => ⟨h1,h2,h3,Cov.append h4 h'⟩
theorem Cov.one {f : Int → Int} {r : T4} (h : r.1 ≤ r.2.1) (t : ∀ x,r.1 ≤ x → x ≤ r.2.1 → f x = tell r x) : Cov f r.1 [r] (r.2.1 + 1) := ⟨rfl,h,t,rfl⟩
theorem Cov.get {f : Int → Int} : ∀ {S : List T4} {lo hi : Int} {k : Nat} {r : T4},Cov f lo S hi → S[k]? = some r → lo ≤ r.1 ∧ r.1 ≤ r.2.1 ∧ r.2.1 < hi ∧ (∀ x,r.1 ≤ x → x ≤ r.2.1 → f x = tell r x) ∧
  (k = 0 → r.1 = lo) ∧ (∀ r',S[k + 1]? = some r' → r'.1 = r.2.1 + 1) ∧ (k + 1 = S.length → r.2.1 + 1 = hi)
 | [],_,_,_,_,_,e => by simp at e
 | r0 :: S,lo,hi,0,r,⟨h1,h2,h3,h4⟩,e => by
  have e' : r0 = r := by simpa using e
  subst e'
  have l := Cov.le h4
  refine ⟨by omega,h2,by omega,h3,fun _ => h1,fun r' e' => ?_,fun e' => ?_⟩
  ·have e2 : S[0]? = some r' := by simpa using e'
   exact (Cov.get h4 e2).2.2.2.2.1 rfl
  ·have : S = [] := by
    simp at e'
    exact e'
   subst this
   exact h4
 | r0 :: S,lo,hi,k + 1,r,⟨h1,h2,h3,h4⟩,e => by
  have e2 : S[k]? = some r := by simpa using e
  obtain ⟨g1,g2,g3,g4,g5,g6,g7⟩ := Cov.get h4 e2
  refine ⟨by omega,g2,g3,g4,fun z => by omega,fun r' e' => g6 r' (by simpa using e'),fun e' => g7 (by simp at e'; omega)⟩
theorem Cov.ext {f g : Int → Int} (e : ∀ x,f x = g x) : ∀ {S : List T4} {lo hi : Int},Cov f lo S hi → Cov g lo S hi
 | [],_,_,h => h
 | _ :: _,_,_,⟨h1,h2,h3,h4⟩ => ⟨h1,h2,fun x a b => by rw [← e x]; exact h3 x a b,Cov.ext e h4⟩
def cfo (d : Int) (S : List T4) (k : Nat) : Int := match S[k + 1]? with
 | some r => ftold r
 | none => d + (match S[0]? with
  | some r => ftold r
  | none => 0)
theorem cfo_eq {d : Int} {f : Int → Int} {S : List T4} {k : Nat} {r : T4} (h : Cov f 0 S d) (per : ∀ t,f (t + d) = f t + d) (e : S[k]? = some r) : cfo d S k = f (r.2.1 + 1) := by
 obtain ⟨g1,g2,g3,g4,g5,g6,g7⟩ := h.get e
 have hk := (List.getElem?_eq_some_iff.mp e).1
 unfold cfo
 cases e1 : S[k + 1]? with
 | some r' =>
  have q := g6 r' e1
  obtain ⟨_,g2',_,g4',_⟩ := h.get e1
  show ftold r' = _
  rw [ftold_eq,← g4' r'.1 (Int.le_refl _) g2',q]
 | none =>
  have el : k + 1 = S.length := by
   have := List.getElem?_eq_none_iff.mp e1
   omega
  have q := g7 el
  have h0 : 0 < S.length := by omega
  obtain ⟨_,g2',_,g4',g5',_⟩ := h.get (List.getElem?_eq_getElem h0)
  rw [List.getElem?_eq_getElem h0]
  show d + ftold S[0] = _
  rw [ftold_eq,← g4' _ (Int.le_refl _) g2',g5' rfl,q]
  have := per 0
  rw [Int.zero_add] at this
  omega
def stStep (acc : List T4 × Int) (w : T3) : List T4 × Int := ((if acc.2 < w.1 then acc.1 ++ [(acc.2,w.1 - 1,true,w.1 + w.2.2)] else acc.1) ++ [(w.1,w.2.1,false,w.2.2)],w.2.1 + 1)
def stPre (R : List T3) : List T4 × Int := R.foldl stStep ([],0)
theorem stPre_snoc (R : List T3) (w : T3) : stPre (R ++ [w]) = stStep (stPre R) w := by
 unfold stPre
 rw [List.foldl_append]
 rfl
def strOf (d : Int) (R : List T3) : List T4 := if 0 < (stPre R).1.length ∧ (stPre R).2 < d then (stPre R).1 ++ [((stPre R).2,d - 1,true,d + rA R 0 + rC R 0)] else (stPre R).1
theorem stPre_len (R : List T3) : (stPre R).1.length ≤ 2 * R.length ∧ (R ≠ [] → 0 < (stPre R).1.length) := by
 refine snoc_ind (p := fun R => (stPre R).1.length ≤ 2 * R.length ∧ (R ≠ [] → 0 < (stPre R).1.length)) ⟨by simp [stPre],fun h => absurd rfl h⟩ (fun R w ih => ?_) R
 rw [stPre_snoc]
 unfold stStep
 refine ⟨?_,fun _ => by simp⟩
 simp only [List.length_append,List.length_singleton]
 split
 ·simp only [List.length_append,List.length_singleton]; omega
 ·omega
theorem strOf_len (d : Int) (R : List T3) : (strOf d R).length ≤ 2 * R.length + 1 := by
 have := (stPre_len R).1
 unfold strOf
 split
 ·simp only [List.length_append,List.length_singleton]; omega
 ·omega
section
variable {d : Int} {R : List T3} {f : Int → Int}
theorem st_cov (h : CK d R) (T : Tells d R f) : ∀ R1 R2,R = R1 ++ R2 → Cov f 0 (stPre R1).1 (stPre R1).2 ∧ 0 ≤ (stPre R1).2 ∧ (stPre R1).2 ≤ d ∧ (∀ u ∈ R1,u.2.1 < (stPre R1).2) ∧ (∀ v ∈ R2,(stPre R1).2 ≤ v.1) := by
 have C := h.can T
 have r := h.rise T
 have d0 := h.d0
 refine snoc_ind (p := fun R1 => ∀ R2,R = R1 ++ R2 → Cov f 0 (stPre R1).1 (stPre R1).2 ∧ 0 ≤ (stPre R1).2 ∧ (stPre R1).2 ≤ d ∧ (∀ u ∈ R1,u.2.1 < (stPre R1).2) ∧ (∀ v ∈ R2,(stPre R1).2 ≤ v.1)) (fun R2 e => ?_) fun R1 w ih R2 e => ?_
 ·refine ⟨rfl,Int.le_refl _,by show (0 : Int) ≤ d; omega,(fun u hu => by cases hu),fun v hv => ?_⟩
  exact (h.win v (by rw [e]; exact hv)).1
 ·have e' : R = R1 ++ (w :: R2) := by rw [e]; simp
  obtain ⟨c,p0,pd,pu,pv⟩ := ih (w :: R2) e'
  have hw : w ∈ R := by rw [e']; simp
  obtain ⟨w0,w1,w2,w3⟩ := h.win w hw
  have pw := pv w (List.mem_cons_self ..)
  have srt := h.srt
  rw [e'] at srt
  have s2 := List.pairwise_cons.mp (List.pairwise_append.mp srt).2.1
  rw [stPre_snoc]
  unfold stStep
  generalize (stPre R1).1 = S at *
  generalize (stPre R1).2 = p at *
  have mw := (C.mem w hw).2.2.2
  have fa := (mw w.1 (Int.le_refl _) w1).1
  refine ⟨?_,by show 0 ≤ w.2.1 + 1; omega,by show w.2.1 + 1 ≤ d; omega,fun u hu => ?_,fun v hv => ?_⟩
  ·have last : Cov f w.1 [(w.1,w.2.1,false,w.2.2)] (w.2.1 + 1) := Cov.one (r := (w.1,w.2.1,false,w.2.2)) w1 fun x x0 x1 => by
    rw [(mw x x0 x1).1]
    rfl
   show Cov f 0 ((if p < w.1 then S ++ [(p,w.1 - 1,true,w.1 + w.2.2)] else S) ++ [(w.1,w.2.1,false,w.2.2)]) (w.2.1 + 1)
   split
   ·rename_i z
    refine Cov.append (Cov.append c (mid := p) (hi := w.1) ?_) last
    have e1 : w.1 - 1 + 1 = w.1 := by omega
    have := Cov.one (f := f) (r := (p,w.1 - 1,true,w.1 + w.2.2)) (by show p ≤ w.1 - 1; omega) fun x x0 x1 => ?_
    ·rw [e1] at this
     exact this
    ·have x0' : p ≤ x := x0
     have x1' : x ≤ w.1 - 1 := x1
     show f x = w.1 + w.2.2
     rw [← fa]
     refine const_to r.mono (by omega) fun y y0 y1 yd => ?_
     obtain ⟨u,hu,u1,u2⟩ := C.cov y (by omega) (by omega) yd
     rw [e'] at hu
     rcases List.mem_append.mp hu with hu | hu
     ·have := pu u hu
      omega
     ·rcases List.mem_cons.mp hu with rfl | hu
      ·omega
      ·have := (s2.1 u hu).1
       omega
   ·rename_i z
    have : p = w.1 := by omega
    subst this
    exact Cov.append c last
  ·show u.2.1 < w.2.1 + 1
   rcases List.mem_append.mp hu with hu | hu
   ·have := pu u hu
    omega
   ·rw [List.mem_singleton] at hu
    subst hu
    omega
  ·have := (s2.1 v hv).1
   show w.2.1 + 1 ≤ v.1
   omega
theorem str_cov (h : CK d R) (T : Tells d R f) : Cov f 0 (strOf d R) d := by
 obtain ⟨c,p0,pd,pu,pv⟩ := st_cov h T R [] (by simp)
 have C := h.can T
 have r := h.rise T
 have ne := (stPre_len R).2 T.ne
 unfold strOf
 generalize (stPre R).1 = S at *
 generalize (stPre R).2 = p at *
 split
 ·rename_i z
  refine Cov.append c ?_
  have e1 : d - 1 + 1 = d := by omega
  have := Cov.one (f := f) (r := (p,d - 1,true,d + rA R 0 + rC R 0)) (by show p ≤ d - 1; omega) fun x x0 x1 => ?_
  ·rw [e1] at this
   exact this
  ·have x0' : p ≤ x := x0
   have x1' : x ≤ d - 1 := x1
   show f x = d + rA R 0 + rC R 0
   have hn : 0 < R.length := List.length_pos_iff.mpr T.ne
   have m0 := C.mem _ (get_mem hn)
   have f0 : f (rA R 0) = rA R 0 + rC R 0 := (m0.2.2.2 (rA R 0) (Int.le_refl _) m0.2.1).1
   have a0 : (0 : Int) ≤ rA R 0 := m0.1
   have z0 : f 0 = f (rA R 0) := const_to r.mono a0 fun y y0 y1 yd => by
    have q := m0.2.2.1
    have q1 := m0.2.1
    obtain ⟨u,hu,u1,u2⟩ := C.cov y y0 (by omega) yd
    obtain ⟨i,hi,e1,e2,e3⟩ := mem_get hu
    rcases Nat.eq_zero_or_pos i with e | e
    ·subst e; omega
    ·have := (pw_get h.srt e hi).1
     omega
   have z1 : f x = f d := const_to r.mono (by omega) fun y y0 y1 yd => by
    obtain ⟨u,hu,u1,u2⟩ := C.cov y (by omega) y1 yd
    have := pu u hu
    omega
   have := r.per 0
   rw [Int.zero_add] at this
   omega
 ·rename_i z
  have : p = d := by omega
  subst this
  exact c
end
end Ma
namespace Ma
abbrev T6 := Int × Int × Bool × Int × Bool × Int
def tl (s : Bool) (v x : Int) : Int := if s = true then v else x + v
def Cov2 (f g : Int → Int) : Int → List T6 → Int → Prop
 | lo,[],hi => lo = hi
 | lo,r :: S,hi => r.1 = lo ∧ r.1 ≤ r.2.1 ∧ (∀ x,r.1 ≤ x → x ≤ r.2.1 → f x = tl r.2.2.1 r.2.2.2.1 x ∧ g x = tl r.2.2.2.2.1 r.2.2.2.2.2 x) ∧ Cov2 f g (r.2.1 + 1) S hi
theorem Cov2.le {f g : Int → Int} : ∀ {S : List T6} {lo hi : Int},Cov2 f g lo S hi → lo ≤ hi
 | [],lo,hi,h => by have : lo = hi := h; omega
 | r :: S,lo,hi,⟨h1,h2,_,h4⟩ => by have := Cov2.le h4; omega
theorem Cov2.snoc {f g : Int → Int} {r : T6} (h2 : r.1 ≤ r.2.1) (h3 : ∀ x,r.1 ≤ x → x ≤ r.2.1 → f x = tl r.2.2.1 r.2.2.2.1 x ∧ g x = tl r.2.2.2.2.1 r.2.2.2.2.2 x) : ∀ {S : List T6} {lo : Int},Cov2 f g lo S r.1 → Cov2 f g lo (S ++ [r]) (r.2.1 + 1)
 | [],lo,h => by
  have : lo = r.1 := h
  subst this
  exact ⟨rfl,h2,h3,rfl⟩
 | r0 :: S,lo,⟨a1,a2,a3,a4⟩ => ⟨a1,a2,a3,Cov2.snoc h2 h3 a4⟩
theorem Cov2.get {f g : Int → Int} : ∀ {S : List T6} {lo hi : Int} {k : Nat} {r : T6},Cov2 f g lo S hi → S[k]? = some r → lo ≤ r.1 ∧ r.1 ≤ r.2.1 ∧ r.2.1 < hi ∧ (∀ x,r.1 ≤ x → x ≤ r.2.1 → f x = tl r.2.2.1 r.2.2.2.1 x ∧ g x = tl r.2.2.2.2.1 r.2.2.2.2.2 x) ∧
  (k = 0 → r.1 = lo) ∧ (∀ r',S[k + 1]? = some r' → r'.1 = r.2.1 + 1) ∧ (k + 1 = S.length → r.2.1 + 1 = hi)
 | [],_,_,_,_,_,e => by simp at e
 | r0 :: S,lo,hi,0,r,⟨h1,h2,h3,h4⟩,e => by
  have e' : r0 = r := by simpa using e
  subst e'
  have l := Cov2.le h4
  refine ⟨by omega,h2,by omega,h3,fun _ => h1,fun r' e' => ?_,fun e' => ?_⟩
  ·have e2 : S[0]? = some r' := by simpa using e'
   exact (Cov2.get h4 e2).2.2.2.2.1 rfl
  ·have : S = [] := by
    simp at e'
    exact e'
   subst this
   exact h4
 | r0 :: S,lo,hi,k + 1,r,⟨h1,h2,h3,h4⟩,e => by
  have e2 : S[k]? = some r := by simpa using e
  obtain ⟨g1,g2,g3,g4,g5,g6,g7⟩ := Cov2.get h4 e2
  refine ⟨by omega,g2,g3,g4,fun z => by omega,fun r' e' => g6 r' (by simpa using e'),fun e' => g7 (by simp at e'; omega)⟩
def jn (late : Bool) (x y : Int) : Int := if late = true then (if y > x then y else x) else (if y < x then y else x)
theorem jn_comm (late : Bool) (x y : Int) : jn late x y = jn late y x := by
 unfold jn
 split
 ·split <;> split <;> omega
 ·split <;> split <;> omega
theorem jn_add (late : Bool) (x y d : Int) : jn late (x + d) (y + d) = jn late x y + d := by
 unfold jn
 split
 ·split <;> split <;> omega
 ·split <;> split <;> omega
theorem rise_jn {d : Int} {f g : Int → Int} (late : Bool) (rf : Rise d f) (rg : Rise d g) : Rise d fun x => jn late (f x) (g x) := by
 refine ⟨fun t => ?_,fun t u l => ?_,fun t => ?_⟩
 ·have := rf.ge t
  have := rg.ge t
  unfold jn
  split <;> split <;> omega
 ·have := rf.mono t u l
  have := rg.mono t u l
  unfold jn
  split
  ·split <;> split <;> omega
  ·split <;> split <;> omega
 ·show jn late (f (t + d)) (g (t + d)) = _
  rw [rf.per,rg.per,jn_add]
def pickL (p q wt rd : Int) (late : Bool) : List T4 :=
 (if p ≤ (if wt - rd < q then wt - rd else q) then [(p,(if wt - rd < q then wt - rd else q),late,if late = true then wt else rd)] else []) ++
 (if (if wt - rd + 1 > p then wt - rd + 1 else p) ≤ q then [((if wt - rd + 1 > p then wt - rd + 1 else p),q,!late,if late = true then rd else wt)] else [])
theorem pick_cov {p q wt rd : Int} {late : Bool} {h : Int → Int} (pq : p ≤ q) (hh : ∀ x,p ≤ x → x ≤ q → h x = jn late wt (x + rd)) : Cov h p (pickL p q wt rd late) (q + 1) := by
 have lo : ∀ x,p ≤ x → x ≤ q → x ≤ wt - rd → h x = tl late (if late = true then wt else rd) x := fun x x0 x1 x2 => by
  rw [hh x x0 x1]
  unfold jn tl
  cases late
  ·simp only [Bool.false_eq_true,if_false]; split <;> omega
  ·simp only [if_true]; split <;> omega
 have hi : ∀ x,p ≤ x → x ≤ q → wt - rd < x → h x = tl (!late) (if late = true then rd else wt) x := fun x x0 x1 x2 => by
  rw [hh x x0 x1]
  unfold jn tl
  cases late
  ·simp only [Bool.false_eq_true,if_false,Bool.not_false,if_true]; split <;> omega
  ·simp only [if_true,Bool.not_true,Bool.false_eq_true,if_false]; split <;> omega
 unfold pickL
 rcases (by omega : wt - rd < p ∨ (p ≤ wt - rd ∧ wt - rd < q) ∨ q ≤ wt - rd) with z | z | z
 ·rw [if_pos (show wt - rd < q by omega),if_neg (show ¬ p ≤ wt - rd by omega),if_neg (show ¬ wt - rd + 1 > p by omega),if_pos pq,List.nil_append]
  exact Cov.one (r := (p,q,!late,if late = true then rd else wt)) pq fun x x0 x1 => hi x x0 x1 (by have : p ≤ x := x0; omega)
 ·rw [if_pos z.2,if_pos z.1]
  have hm : (if wt - rd + 1 > p then wt - rd + 1 else p) = wt - rd + 1 := if_pos (by omega)
  rw [hm,if_pos (show wt - rd + 1 ≤ q by omega)]
  refine Cov.append (mid := wt - rd + 1) ?_ ?_
  ·exact Cov.one (r := (p,wt - rd,late,if late = true then wt else rd)) z.1 fun x x0 x1 => lo x x0 (by have : x ≤ wt - rd := x1; omega) x1
  ·exact Cov.one (r := (wt - rd + 1,q,!late,if late = true then rd else wt)) (by show wt - rd + 1 ≤ q; omega) fun x x0 x1 => hi x (by have : wt - rd + 1 ≤ x := x0; omega) x1 (by have : wt - rd + 1 ≤ x := x0; omega)
 ·rw [if_neg (show ¬ wt - rd < q by omega),if_pos pq]
  have hm : ¬ (if wt - rd + 1 > p then wt - rd + 1 else p) ≤ q := by split <;> omega
  rw [if_neg hm,List.append_nil]
  exact Cov.one (r := (p,q,late,if late = true then wt else rd)) pq fun x x0 x1 => lo x x0 x1 (by have : x ≤ q := x1; omega)
theorem pick_len (p q wt rd : Int) (late : Bool) : (pickL p q wt rd late).length ≤ 2 := by
 unfold pickL
 rw [List.length_append]
 have one : ∀ (c : Prop) [Decidable c] (x : T4),(if c then [x] else []).length ≤ 1 := fun c _ x => by split <;> simp
 exact Nat.add_le_add (one _ _) (one _ _)
def joinRow (late : Bool) (r : T6) : List T4 :=
 if r.2.2.1 = r.2.2.2.2.1 then [(r.1,r.2.1,r.2.2.1,jn late r.2.2.2.1 r.2.2.2.2.2)]
 else if r.2.2.1 = true then pickL r.1 r.2.1 r.2.2.2.1 r.2.2.2.2.2 late else pickL r.1 r.2.1 r.2.2.2.2.2 r.2.2.2.1 late
theorem joinRow_len (late : Bool) (r : T6) : (joinRow late r).length ≤ 2 := by
 unfold joinRow
 split
 ·simp
 ·split <;> exact pick_len ..
theorem joinRow_cov {late : Bool} {r : T6} {f g : Int → Int} (pq : r.1 ≤ r.2.1) (h : ∀ x,r.1 ≤ x → x ≤ r.2.1 → f x = tl r.2.2.1 r.2.2.2.1 x ∧ g x = tl r.2.2.2.2.1 r.2.2.2.2.2 x) :
  Cov (fun x => jn late (f x) (g x)) r.1 (joinRow late r) (r.2.1 + 1) := by
 obtain ⟨p,q,s,v,s',v'⟩ := r
 have h' : ∀ x,p ≤ x → x ≤ q → f x = tl s v x ∧ g x = tl s' v' x := h
 unfold joinRow
 show Cov _ p (if s = s' then [(p,q,s,jn late v v')] else if s = true then pickL p q v v' late else pickL p q v' v late) (q + 1)
 by_cases e : s = s'
 ·rw [if_pos e]
  subst e
  refine Cov.one (r := (p,q,s,jn late v v')) pq fun x x0 x1 => ?_
  obtain ⟨e1,e2⟩ := h' x x0 x1
  show jn late (f x) (g x) = tl s (jn late v v') x
  rw [e1,e2]
  unfold tl
  cases s
  ·simp only [Bool.false_eq_true,if_false]
   have := jn_add late v v' x
   rw [Int.add_comm v x,Int.add_comm v' x] at this
   omega
  ·simp
 ·rw [if_neg e]
  cases s with
  | true =>
   have e' : s' = false := by cases s' with | true => exact absurd rfl e | false => rfl
   subst e'
   rw [if_pos rfl]
   refine pick_cov pq fun x x0 x1 => ?_
   obtain ⟨e1,e2⟩ := h' x x0 x1
   show jn late (f x) (g x) = _
   rw [e1,e2]
   rfl
  | false =>
   have e' : s' = true := by cases s' with | false => exact absurd rfl e | true => rfl
   subst e'
   rw [if_neg (by decide)]
   refine pick_cov pq fun x x0 x1 => ?_
   obtain ⟨e1,e2⟩ := h' x x0 x1
   show jn late (f x) (g x) = _
   rw [e1,e2,jn_comm]
   rfl
def omin : Option Int → Option Int → Option Int
 | none,b => b
 | a,none => a
 | some x,some y => some (jn false x y)
def omax : Option Int → Option Int → Option Int
 | some x,some y => some (jn true x y)
 | _,_ => none
theorem bt_append (d : Int) (R R' : List T3) (t : Int) : bt d (R ++ R') t = omin (bt d R t) (bt d R' t) := by
 rcases bt_spec d t R with ⟨rfl,e⟩ | ⟨y,e,m⟩
 ·rw [e,List.nil_append]
  cases bt d R' t <;> rfl
 ·rcases bt_spec d t R' with ⟨rfl,e'⟩ | ⟨y',e',m'⟩
  ·rw [e',e,List.append_nil,e]
   rfl
  ·rw [e,e']
   show _ = some (jn false y y')
   refine IsMin.bt ⟨?_,fun w hw => ?_⟩
   ·unfold jn
    rw [if_neg (by decide)]
    split
    ·obtain ⟨w,hw,q⟩ := m'.at_
     exact ⟨w,List.mem_append_right _ hw,q⟩
    ·obtain ⟨w,hw,q⟩ := m.at_
     exact ⟨w,List.mem_append_left _ hw,q⟩
   ·unfold jn
    rw [if_neg (by decide)]
    rcases List.mem_append.mp hw with hw | hw
    ·have := m.le w hw
     split <;> omega
    ·have := m'.le w hw
     split <;> omega
theorem Tells.min {d : Int} {R R' : List T3} {f g : Int → Int} (h : Tells d R f) (h' : Tells d R' g) (t : Int) : omin (bt d R t) (bt d R' t) = some (jn false (f t) (g t)) := by rw [h t,h' t]; rfl
theorem Tells.max {d : Int} {R R' : List T3} {f g : Int → Int} (h : Tells d R f) (h' : Tells d R' g) (t : Int) : omax (bt d R t) (bt d R' t) = some (jn true (f t) (g t)) := by rw [h t,h' t]; rfl
theorem ck_one {d : Int} (hd : 0 < d) {w : T3} (h : 0 ≤ w.1 ∧ w.1 ≤ w.2.1 ∧ w.2.1 < d ∧ 0 ≤ w.2.2) : CK d [w] := by
 refine ⟨hd,fun u hu => ?_,List.pairwise_singleton _ _,fun u hu v hv => ?_⟩
 ·rw [List.mem_singleton] at hu
  subst hu
  exact h
 ·rw [List.mem_singleton] at hu hv
  subst hu hv
  omega
end Ma
namespace Ma
theorem nodup_le {α : Type} [DecidableEq α] : ∀ {l L : List α},l.Nodup → (∀ x ∈ l,x ∈ L) → l.length ≤ L.length
 | [],_,_,_ => Nat.zero_le _
 | x :: l,L,h,s => by
  obtain ⟨L1,L2,rfl⟩ := List.append_of_mem (s x (List.mem_cons_self ..))
  have h' := List.nodup_cons.mp h
  have := nodup_le (L := L1 ++ L2) h'.2 fun y hy => by
   have q := s y (List.mem_cons_of_mem _ hy)
   rcases List.mem_append.mp q with q | q
   ·exact List.mem_append_left _ q
   ·rcases List.mem_cons.mp q with rfl | q
    ·exact absurd hy h'.1
    ·exact List.mem_append_right _ q
  simp only [List.length_cons,List.length_append] at *
  omega
theorem CK.starts {d : Int} {R : List T3} (h : CK d R) : (R.map (·.1)).Nodup := by
 refine List.pairwise_map.mpr (h.srt.imp_of_mem fun {u v} hu hv p => ?_)
 have := (h.win u hu).2.1
 omega
section
variable {d : Int} {R R' : List T3}
theorem at_open {f : Int → Int} {t : Int} (hd : 0 < d) (W : Wins d R) (T : Tells d R f) (t0 : 0 ≤ t) (t1 : t < d) (lt : f t < f (t + 1)) : ∃ u ∈ R,u.1 ≤ t ∧ t ≤ u.2.1 ∧ f t = t + u.2.2 := by
 obtain ⟨u,hu,e⟩ := (bt_min (T t)).at_
 obtain ⟨w0,w1,w2,w3⟩ := W u hu
 obtain ⟨k,k1,k2,k3,k4,k5⟩ := next_spec (t := t) hd w0 w1 w2
 obtain ⟨k',m1,m2,m3,m4,m5⟩ := next_spec (t := t + 1) hd w0 w1 w2
 have le := (bt_min (T (t + 1))).le u hu
 rcases (by omega : nextO d u.1 u.2.1 t = t ∨ t + 1 ≤ nextO d u.1 u.2.1 t) with z | z
 ·rw [z] at k1 k2 e
  have : k = 0 := by
   rcases (by omega : k < 0 ∨ k = 0 ∨ 0 < k) with y | y | y
   ·have := mul_lt_step hd y
    omega
   ·exact y
   ·have := mul_lt_step hd y
    omega
  subst this
  exact ⟨u,hu,by omega,by omega,e⟩
 ·have := m5 k _ k1 k2 z
  omega
theorem start_at (h : CK d R') (W : Wins d R) {f : Int → Int} (T : Tells d R f) (T' : Tells d R' f) : ∀ w ∈ R',w.1 ∈ 0 :: (R.map (·.1) ++ R.map (·.2.1 + 1)) := by
 intro w hw
 have C := h.can T'
 obtain ⟨m0,m1,m2,m3⟩ := C.mem w hw
 have d0 := h.d0
 by_cases z : w.1 = 0
 ·rw [z]; exact List.mem_cons_self ..
 refine List.mem_cons_of_mem _ ?_
 obtain ⟨fa,fl⟩ := m3 w.1 (Int.le_refl _) m1
 obtain ⟨u,hu,u1,u2,u3⟩ := at_open d0 W T m0 (by omega) fl
 by_cases ea : w.1 = u.1
 ·exact List.mem_append_left _ (List.mem_map.mpr ⟨u,hu,ea.symm⟩)
 refine List.mem_append_right _ ?_
 have r := h.rise T'
 have open_le : ∀ v ∈ R,∀ x,v.1 ≤ x → x ≤ v.2.1 → f x ≤ x + v.2.2 := fun v hv x x1 x2 => by
  obtain ⟨w0,w1,w2,w3⟩ := W v hv
  obtain ⟨k,k1,k2,k3,k4,k5⟩ := next_spec (t := x) d0 w0 w1 w2
  have := k5 0 x (by omega) (by omega) (Int.le_refl _)
  have := (bt_min (T x)).le v hv
  omega
 have l1 := open_le u hu (w.1 - 1) (by omega) (by omega)
 have e1 : w.1 - 1 + 1 = w.1 := by omega
 have lt : f (w.1 - 1) < f (w.1 - 1 + 1) := by rw [e1]; omega
 have ne : f (w.1 - 1) ≠ w.1 - 1 + u.2.2 := fun e => by
  obtain ⟨w',hw',y1,y2⟩ := C.cov (w.1 - 1) (by omega) (by omega) lt
  obtain ⟨n0,n1,n2,n3⟩ := C.mem w' hw'
  have c' := (n3 _ y1 y2).1
  have apart : w'.2.1 < w.1 := by
   rcases (by omega : w'.2.1 < w.1 ∨ w.1 ≤ w'.2.1) with y | y
   ·exact y
   ·exfalso
    obtain ⟨i,hi,a1,a2,a3⟩ := mem_get hw
    obtain ⟨j,hj,b1,b2,b3⟩ := mem_get hw'
    rcases (by omega : i < j ∨ i = j ∨ j < i) with q | q | q
    ·have : rB R' i < rA R' j := (pw_get h.srt q hj).1
     omega
    ·subst q
     omega
    ·have : rB R' j < rA R' i := (pw_get h.srt q hi).1
     omega
  obtain ⟨i,hi,a1,a2,a3⟩ := mem_get hw
  obtain ⟨j,hj,b1,b2,b3⟩ := mem_get hw'
  rcases (by omega : i < j ∨ i = j ∨ j < i) with q | q | q
  ·have : rB R' i < rA R' j := (pw_get h.srt q hj).1
   omega
  ·subst q
   omega
  ·have := (pw_get h.srt q hi).2.2
   exact this (by show rB R' j + 1 = rA R' i; omega) (by show rC R' j = rC R' i; omega)
 obtain ⟨v,hv,v1,v2,v3⟩ := at_open d0 W T (by omega) (by omega) lt
 rcases (by omega : v.2.1 = w.1 - 1 ∨ w.1 ≤ v.2.1) with y | y
 ·exact List.mem_map.mpr ⟨v,hv,by omega⟩
 ·have := open_le v hv w.1 (by omega) y
  omega
theorem ck_len (h : CK d R') (W : Wins d R) (e : ∀ t,bt d R' t = bt d R t) : R'.length ≤ 2 * R.length + 1 := by
 by_cases n : R' = []
 ·rw [n]; simp
 ·have T' := tells_bf (d := d) n
  have T : Tells d R (bf d R') := fun t => by rw [← e t]; exact T' t
  have := nodup_le h.starts (L := 0 :: (R.map (·.1) ++ R.map (·.2.1 + 1))) fun x hx => by
   obtain ⟨w,hw,rfl⟩ := List.mem_map.mp hx
   exact start_at h W T T' w hw
  simp only [List.length_map,List.length_cons,List.length_append] at this
  omega
end
end Ma
namespace Ma
theorem Cov.lt {f : Int → Int} : ∀ {S : List T4} {lo hi : Int} {i j : Nat} {r r' : T4},Cov f lo S hi → S[i]? = some r → S[j]? = some r' → i < j → r.2.1 < r'.1
 | [],_,_,_,_,_,_,_,e,_,_ => by simp at e
 | r0 :: S,lo,hi,0,j + 1,r,r',⟨_,h2,h3,h4⟩,e,e',_ => by
  have e1 : r0 = r := by simpa using e
  subst e1
  have e2 : S[j]? = some r' := by simpa using e'
  have := (Cov.get h4 e2).1
  omega
 | r0 :: S,lo,hi,i + 1,j + 1,r,r',⟨_,h2,h3,h4⟩,e,e',l => Cov.lt h4 (by simpa using e) (by simpa using e') (by omega)
 | r0 :: S,lo,hi,i,0,r,r',_,_,_,l => by omega
theorem Cov.congr {f g : Int → Int} : ∀ {S : List T4} {lo hi : Int},(∀ x,lo ≤ x → x < hi → f x = g x) → Cov f lo S hi → Cov g lo S hi
 | [],_,_,_,h => h
 | r :: S,lo,hi,e,⟨h1,h2,h3,h4⟩ => ⟨h1,h2,fun x a b => by
  have := Cov.le h4
  rw [← e x (by omega) (by omega)]; exact h3 x a b,Cov.congr (fun x a b => e x (by omega) b) h4⟩
end Ma
namespace Ma
def tot (g : Int → Int) (lo : Int) : Nat → Int
 | 0 => 0
 | n + 1 => tot g lo n + g (lo + n)
theorem tot_add (g : Int → Int) (lo : Int) (m : Nat) : ∀ n : Nat,tot g lo (m + n) = tot g lo m + tot g (lo + m) n
 | 0 => by simp [tot]
 | n + 1 => by
  show tot g lo (m + n) + g (lo + ((m + n : Nat) : Int)) = tot g lo m + (tot g (lo + m) n + g (lo + m + n))
  rw [tot_add g lo m n]
  have e : lo + ((m + n : Nat) : Int) = lo + m + n := by omega
  rw [e]
  omega
theorem tot_congr {g h : Int → Int} {lo : Int} : ∀ n : Nat,(∀ x,lo ≤ x → x < lo + n → g x = h x) → tot g lo n = tot h lo n
 | 0,_ => rfl
 | n + 1,e => by
  show tot g lo n + g (lo + n) = tot h lo n + h (lo + n)
  rw [tot_congr n fun x a b => e x a (by omega),e (lo + n) (by omega) (by omega)]
def sw (p q : Int) (s : Bool) (v : Int) : Int := if s = true then (q - p + 1) * v - (q - p + 1) * (p + q) / 2 else (q - p + 1) * v
theorem tot_const (lo v : Int) : ∀ n : Nat,tot (fun _ => v) lo n = (n : Int) * v
 | 0 => by simp [tot]
 | n + 1 => by
  show tot (fun _ => v) lo n + v = ((n + 1 : Nat) : Int) * v
  rw [tot_const lo v n,Int.natCast_add,Int.add_mul]
  simp
theorem tot_still (p v : Int) : ∀ n : Nat,tot (fun x => v - x) p n = (n : Int) * v - (n : Int) * (2 * p + n - 1) / 2
 | 0 => by simp [tot]
 | n + 1 => by
  show tot (fun x => v - x) p n + (v - (p + n)) = ((n + 1 : Nat) : Int) * v - ((n + 1 : Nat) : Int) * (2 * p + ((n + 1 : Nat) : Int) - 1) / 2
  rw [tot_still p v n]
  have e0 : ((n + 1 : Nat) : Int) = (n : Int) + 1 := by omega
  rw [e0]
  have e1 : ((n : Int) + 1) * v = (n : Int) * v + v := by rw [Int.add_mul,Int.one_mul]
  have e2 : ((n : Int) + 1) * (2 * p + ((n : Int) + 1) - 1) = (n : Int) * (2 * p + n - 1) + 2 * (p + n) := by
   have a : 2 * p + ((n : Int) + 1) - 1 = (2 * p + n - 1) + 1 := by omega
   rw [a,Int.add_mul,Int.mul_add]
   omega
  rw [e1,e2]
  generalize (n : Int) * (2 * p + n - 1) = A
  generalize (n : Int) * v = C
  omega
theorem sw_eq {f : Int → Int} {p q v : Int} {s : Bool} (pq : p ≤ q) (h : ∀ x,p ≤ x → x ≤ q → f x = if s = true then v else x + v) : tot (fun x => f x - x) p (q - p + 1).toNat = sw p q s v := by
 have en : (((q - p + 1).toNat : Nat) : Int) = q - p + 1 := by omega
 unfold sw
 cases s with
 | true =>
  rw [if_pos rfl,tot_congr (h := fun x => v - x) _ fun x a b => by rw [h x a (by omega),if_pos rfl],tot_still,en]
  have e : 2 * p + (q - p + 1) - 1 = p + q := by omega
  rw [e]
 | false =>
  rw [if_neg (by decide),tot_congr (h := fun _ => v) _ fun x a b => by rw [h x a (by omega),if_neg (by decide)]; omega,tot_const,en]
theorem cov_tot {f : Int → Int} : ∀ {S : List T4} {lo hi : Int},Cov f lo S hi → (S.map fun r => sw r.1 r.2.1 r.2.2.1 r.2.2.2).foldr (· + ·) 0 = tot (fun x => f x - x) lo (hi - lo).toNat
 | [],lo,hi,h => by
  have : lo = hi := h
  subst this
  simp [tot]
 | r :: S,lo,hi,⟨h1,h2,h3,h4⟩ => by
  have l := Cov.le h4
  have ih := cov_tot h4
  rw [List.map_cons,List.foldr_cons,ih,← sw_eq h2 h3,h1]
  have e : (hi - lo).toNat = (r.2.1 - r.1 + 1).toNat + (hi - (r.2.1 + 1)).toNat := by omega
  have e2 : lo + (((r.2.1 - r.1 + 1).toNat : Nat) : Int) = r.2.1 + 1 := by omega
  rw [e,tot_add,e2,h1]
def sumOf (d : Int) (R : List T3) : Option Int := if R = [] then none else some (tot (fun x => bf d R x - x) 0 d.toNat)
theorem bf_eq {d : Int} {R : List T3} {f : Int → Int} (T : Tells d R f) (t : Int) : bf d R t = f t := by
 unfold bf
 rw [T t]
 rfl
end Ma
namespace Ma
section
variable {d a b c : Int}
end
structure IsLv (d : Int) (R : List T3) (s y : Int) : Prop where
 at_ : ∃ w ∈ R,y = lastO d w.1 w.2.1 (s - w.2.2)
 le : ∀ w ∈ R,lastO d w.1 w.2.1 (s - w.2.2) ≤ y
section
variable {d : Int} {R : List T3} {f : Int → Int}
def Gal (f g : Int → Int) : Prop := ∀ x s,f x ≤ s ↔ x ≤ g s
theorem Gal.turn {f g : Int → Int} (h : Gal f g) : Gal (fun t => -(g (-t))) fun s => -(f (-s)) := fun x s => by
 have := h (-s) (-x)
 constructor
 ·intro l
  have := this.mpr (by have l' : -(g (-x)) ≤ s := l; omega)
  show x ≤ -(f (-s))
  omega
 ·intro l
  have := this.mp (by have l' : x ≤ -(f (-s)) := l; omega)
  show -(g (-x)) ≤ s
  omega
theorem Gal.uniq {f g g' : Int → Int} (h : Gal f g) (h' : Gal f g') (s : Int) : g s = g' s := by
 have a := (h (g s) s).mpr (Int.le_refl _)
 have b := (h' (g s) s).mp a
 have a' := (h' (g' s) s).mpr (Int.le_refl _)
 have b' := (h (g' s) s).mp a'
 omega
end
end Ma
namespace Ma
section
variable {f g : Int → Int}
end
end Ma
namespace Ma
theorem IsLv.uniq {d s y y' : Int} {R : List T3} (h : IsLv d R s y) (h' : IsLv d R s y') : y = y' := by
 obtain ⟨w,hw,e⟩ := h.at_
 obtain ⟨w',hw',e'⟩ := h'.at_
 have := h.le w' hw'
 have := h'.le w hw
 omega
end Ma
namespace L2
open PySem PySem.Spec PyProof.Rows
def Ite (K : PySem.W.Frag) (a : Addr) : It :=
 ⟨fun i H => ∃ xs x,SqL K H a xs ∧ xs[i]? = some x,
  fun i H v H' => ∃ p x,v = .ref p ∧ H p = none ∧ H' = upd H p (.tup [.int i,x]) ∧ (∀ xs,SqL K H a xs → xs[i]? = some x),
  fun i H => ∃ xs,SqL K H a xs ∧ xs.length ≤ i⟩
theorem turn_enum {P : Program} {w : World} {K : PySem.W.Frag} {es : List Expr} {kk : Nat} {tp : Pos} {e it a : Addr} (D : e ≠ it) : Turn P w K (.Tuple es kk tp) (Ite K a) [e,it] e
  (fun i h => (∃ old,IsEnum h e it (i : Int) old) ∧ h.IsListIter it a i) where
 mem := by simp
 obj := fun i h st c hc => by
  obtain ⟨⟨old,he⟩,⟨o1,e1,c1,d1⟩⟩ := st
  simp only [List.mem_cons,List.not_mem_nil,or_false] at hc
  rcases hc with rfl | rfl
  ·exact ⟨_,he,fun v q => by cases (show Data.fields _ = Data.cell v from q)⟩
  ·exact ⟨o1,e1,fun v q => by rw [d1] at q; cases q⟩
 keep := fun i h h' st k => by
  obtain ⟨⟨old,he⟩,h1⟩ := st
  exact ⟨⟨old,k e (by simp) _ he⟩,h1.at fun o e => k it (by simp) o e⟩
 item := by
  intro X hP hw hK hc i pins s σ H E I hf st hg
  subst hP hw hK
  obtain ⟨xs,x,hq1,hx⟩ := hg
  obtain ⟨t1,rv1,p1,hz1⟩ := I.list hq1
  obtain ⟨u,hu,ru⟩ := rv1.get hx
  obtain ⟨⟨old,he⟩,h1⟩ := st
  refine wpAny_pyNext_enum_item he h1 p1.isList (x := u) (by simpa using hu) D fun h' a1 a3 a5 a6 k => ?_
  have fresh : H s.heap.objs.size = none := I.hok.fresh (Nat.le_refl _)
  have szn : ∀ c o,s.heap.get? c = some o → c ≠ s.heap.objs.size := fun c o e => Nat.ne_of_lt (Heap.lt_size e)
  have I1 : Inv X pins σ (upd H s.heap.objs.size (.tup [.int i,x])) { s with heap := h' } := by
   refine I.turnedL (ch := [e,it]) (fun c hc => hf c hc) (fun c o hc e => ?_) (fun c o e => by rw [upd_ne (ne_of_none e fresh)]; exact e) (fun c o e n => by rw [upd_ne (szn c o e)]; exact n) fun c o n e => ?_
   ·simp only [List.mem_cons,List.not_mem_nil,or_false,not_or] at hc
    exact k c o hc.1 hc.2 e
   ·by_cases ec : c = s.heap.objs.size
    ·rw [ec,upd_same] at e
     cases e
     rw [ec]
     exact ⟨by show 2 ≤ sizeLine; decide,[.int i s.toks,u],.cons ⟨_,rfl⟩ (.cons ru .nil),_,a5,rfl,_,rfl⟩
    ·rw [upd_ne ec,n] at e
     cases e
  have I1' : Inv X pins σ (upd H s.heap.objs.size (.tup [.int i,x])) { s with heap := h',toks := s.toks + 1 } := I1.tok _
  refine ⟨_,rfl,wpAny_letOwnedTupleGo_enum a1 fun h'' hz'' sb => ?_⟩
  have zf := hf e (by simp)
  have zs : e ≠ s.heap.objs.size := szn e _ he
  have I2 : Inv X pins σ (upd H s.heap.objs.size (.tup [.int i,x])) { s with heap := h'',toks := s.toks + 1 } := Inv.turned (s := { s with heap := h',toks := s.toks + 1 }) (h' := h'') (t' := s.toks + 1) (it := e) I1' (fun c o hc e => sb.extBut c o hc e) (by rw [upd_ne zs]; exact zf.1) zf.2.1 zf.2.2.2.1 zf.2.2.2.2.1 zf.2.2.2.2.2
  refine ⟨.ref s.heap.objs.size,_,I2,rfl,⟨_,x,rfl,fresh,rfl,fun xs' h => by rw [I.list_inj h hq1]; exact hx⟩,?_,fun c hc => ?_⟩
  ·exact ⟨⟨_,hz''⟩,a3.extBut sb.extBut D.symm⟩
  ·have q : c ≠ s.heap.objs.size := by
    obtain ⟨o1,e1,_⟩ := h1
    simp only [List.mem_cons,List.not_mem_nil,or_false] at hc
    rcases hc with rfl | rfl
    ·exact zs
    ·exact szn _ _ e1
   rw [upd_ne q]
   exact (hf c hc).1
 done := by
  intro X hP hw hK hc i pins s σ H E I hf st hg
  subst hP hw hK
  obtain ⟨xs,hq1,hl⟩ := hg
  obtain ⟨t1,rv1,p1,hz1⟩ := I.list hq1
  have l1 := rv1.length
  obtain ⟨⟨old,he⟩,h1⟩ := st
  refine wpAny_pyNext_enum_end (I.ok.hd hc) he h1 p1.isList (by simp; omega) fun h' k => ⟨rfl,?_⟩
  refine I.turnedL (ch := [e,it]) (fun c hc => hf c hc) (fun c o hc e => ?_) (fun c o e => e) (fun c o e n => n) fun c o n e => by rw [n] at e; cases e
  simp only [List.mem_cons,List.not_mem_nil,or_false,not_or] at hc
  exact k c o hc.2 e
 self := fun _ _ _ _ _ st h => by
  obtain ⟨⟨old,he⟩,_⟩ := st
  exact wpAny_pyIter_enum he h
def iEnum (K : PySem.W.Frag) (ta : TA) : TI := fun σ H R => ta σ H fun vs H1 => ∃ l1,vs = [.ref l1] ∧ (∃ xs,SqL K H1 l1 xs) ∧ R (Ite K l1) H1
theorem boot_enum : bootBuiltins "enumerate" = some (.type "enumerate") := by decide +kernel
section
variable {X : Cx}
theorem pi_enum {a : Expr} {ta : TA} {p pos tp : Pos} {es : List Expr} {kk : Nat} (hg : Gl X "enumerate") (hm : X.mg "enumerate" = none) (ha : PA X [a] ta) (hs : starEach [a] X.env = [(false,eval a X.env)]) :
  PI X (.Tuple es kk tp) (.Call (.Name "enumerate" p) [a] [] pos) (iEnum X.K ta) := by
 intro pins s σ H R I h
 refine Call_ (ld_blt I hg hm boot_enum (PyProof.Rows.callWith_type1 (thn (ha pos pins s σ H _ I h) fun us s1 ⟨vs,H1,I1,r1,q1⟩ => ?_) (by rw [hs]; rfl) (by rfl)))
 obtain ⟨l1,e,⟨xs,hq1⟩,q⟩ := q1
 subst e
 cases r1 with
 | cons r rr =>
  cases rr
  cases r
  obtain ⟨t1,rv1,p1,hz1⟩ := I1.list hq1
  refine call_enumerate_list p1.isList fun h' hz hit1 hsz k => wpAny_pyIter_enum hz ?_
  refine ⟨s1.heap.objs.size + 1,[s1.heap.objs.size + 1,s1.heap.objs.size],_,_,H1,rfl,I1.kept (t' := s1.toks) k,turn_enum (Nat.succ_ne_self _),⟨⟨_,hz⟩,hit1⟩,fun c hc => ?_,q⟩
  have ge : s1.heap.objs.size ≤ c := by
   simp only [List.mem_cons,List.not_mem_nil,or_false] at hc
   rcases hc with rfl | rfl <;> omega
  exact I1.fpOk ge (I1.hok.fresh ge)
theorem qi_enum {a : Expr} {ta : TA} {p pos tp : Pos} {es : List Expr} {kk : Nat} (hg : Gl X "enumerate") (hm : X.mg "enumerate" = none) (ha : QA X [a] ta) (h : notStar a = true := by rfl) :
  QI X (.Tuple es kk tp) (.Call (.Name "enumerate" p) [a] [] pos) (iEnum X.K ta) := ⟨pi_enum hg hm ha.run (by rw [se_of h]; rfl)⟩
end
theorem for_enum {K : PySem.W.Frag} {a : Addr} {xs : List V} {g : TG} {tb : TS} {D : Ends} {σ : St} {H : Hp} (Pv : Nat → St → Hp → Prop) (h0 : Pv 0 σ H) (hl : ∀ i σ H,i ≤ xs.length → Pv i σ H → SqL K H a xs)
  (hs : ∀ i x p σ H,xs[i]? = some x → Pv i σ H → H p = none → g (.ref p) σ (upd H p (.tup [.int i,x])) fun σ2 H2 => tb { D with nx := Pv (i + 1),ct := Pv (i + 1),bk := D.nx } σ2 H2) (hd : ∀ σ H,Pv xs.length σ H → D.nx σ H) :
  ∃ W : Nat → Nat → St → Hp → Prop,(∃ m,W 0 m σ H) ∧ ∀ i m σ H,W i m σ H →
   ((Ite K a).stop i H ∧ D.nx σ H) ∨ ((Ite K a).go i H ∧ ∃ N : St → Hp → Prop,(∀ σ' H',N σ' H' → ∃ m',m' < m ∧ W (i + 1) m' σ' H') ∧ ∀ x H',(Ite K a).yld i H x H' → g x σ H' fun σ2 H2 => tb { D with nx := N,ct := N,bk := D.nx } σ2 H2) := by
 refine ⟨fun i m σ H => m = xs.length - i ∧ i ≤ xs.length ∧ Pv i σ H,⟨xs.length,by simp,Nat.zero_le _,h0⟩,?_⟩
 rintro i m σ H ⟨rfl,hi,p⟩
 have q := hl i σ H hi p
 by_cases hlt : i < xs.length
 ·refine .inr ⟨⟨xs,xs[i],q,by simp [hlt]⟩,Pv (i + 1),fun σ' H' p' => ⟨xs.length - (i + 1),by omega,rfl,hlt,p'⟩,fun x H' y => ?_⟩
  obtain ⟨c,x,e,fr,e2,y⟩ := y
  subst e e2
  exact hs i x c σ _ (y xs q) p fr
 ·have e : i = xs.length := by omega
  subst e
  exact .inl ⟨⟨xs,q,Nat.le_refl _⟩,hd σ H p⟩
section
variable {X : Cx} {e o a : Expr} {es : List Expr} {to te : TE} {t : TA} {apos pos : Pos}
theorem qs_aug {i : Nat} {x : Str} {op : Operator} {ti : TIp} {pos' : Pos} (hN : X.N.Nodup) (hi : X.N[i]? = some x) (hx : Loc X.env.scope x) (ho : PIp X op ti) (he : QE X e te) (hf : X.fn x = true ∨ X.env.scope.names.lookup x = some .local := by first | exact .inl rfl | exact .inr rfl | assumption) :
  QS X (.AugAssign (.Name x pos') op e pos) (tAug i te ti) := ⟨ps_aug hN hi hx he.run ho hf⟩
theorem qs_never {st : Stmt} : QS X st tNever := ⟨ps_never⟩
theorem qop_cat : QOp X (binaryOp .Add) rCat := ⟨op_cat⟩
theorem qe_extend (ho : QE X o to) (ha : QA X [e] t) (h : notStar e = true := by rfl) (hbase : attributeBase o "extend" X.env (eval o X.env) = eval o X.env := by rfl) (hline : (apos.endLine == pos.line) = true := by rfl) :
  QE X (.Call (.Attribute o "extend" apos) [e] [] pos) (tBM X.K "list" rExtend to t) :=
 ⟨pe_bm PySem.F.plainAttrs_list PySem.F.slot_list_extend PySem.F.type_list_extend mt_extend ho.run ha.run hbase (by rw [se_of h]; rfl) hline (se_of h) rfl⟩
end
section
variable {lo : Int} {n : Nat} {caps : List (Option Nat)} {g : TG} {tt : TT} {te : TE} {σ : St} {H : Hp} {Q : VK}
end
def It3 (lo st : Int) (n : Nat) : It := ⟨fun i _ => i < n,fun i H x H' => H' = H ∧ x = .int (lo + (i : Nat) * st),fun i _ => n ≤ i⟩
theorem turn_range3 {P : Program} {w : World} {K : PySem.W.Frag} {tg : Expr} (it : Addr) (lo stp : Int) (n : Nat) : Turn P w K tg (It3 lo stp n) [it] it (fun i h => IsRangeIter h it (lo + (i : Nat) * stp) ((n : Int) - (i : Nat)) stp) where
 mem := by simp
 obj := fun i h st b hb => by
  have e : b = it := by simpa using hb
  subst e
  exact ⟨_,st,fun v z => by
   have z' : Data.fields _ = Data.cell v := z
   cases z'⟩
 keep := fun i h h' st k => k it (by simp) _ st
 item := by
  intro X hP hw hK hc i pins s σ H E I hf st hg
  subst hP hw hK
  obtain ⟨f0,f1,f2,f3,f4,f5⟩ := hf it (by simp)
  have hg' : i < n := hg
  refine wpAny_pyNext_range_item st (by omega) fun h' st' sb => ?_
  have I1 : Inv X pins σ H { s with heap := h',toks := s.toks + 1 } := I.turned (fun b o hb e => sb.extBut b o hb e) f0 f1 f3 f4 f5
  refine ⟨_,rfl,go_of (s := { s with heap := h',toks := s.toks + 1 }) (n := "range_iterator") st' rfl rfl (by decide) ⟨.int _,H,I1,⟨_,rfl⟩,⟨rfl,rfl⟩,?_,fun b hb => (hf b hb).1⟩⟩
  show IsRangeIter h' it (lo + ((i + 1 : Nat) : Int) * stp) ((n : Int) - ((i + 1 : Nat) : Int)) stp
  have e1 : lo + ((i + 1 : Nat) : Int) * stp = lo + (i : Int) * stp + stp := by
   rw [Int.natCast_add,Int.add_mul]
   simp
   omega
  have e2 : (n : Int) - ((i + 1 : Nat) : Int) = (n : Int) - (i : Int) - 1 := by omega
  rw [e1,e2]
  exact st'
 done := by
  intro X hP hw hK hc i pins s σ H E I hf st hg
  subst hP hw hK
  obtain ⟨f0,f1,f2,f3,f4,f5⟩ := hf it (by simp)
  exact wpAny_pyNext_range_end (I.ok.hd hc) st (by have : n ≤ i := hg; omega) fun h' eb => ⟨rfl,I.turned (t' := s.toks) (fun b o hb e => eb b o hb e) f0 f1 f3 f4 f5⟩
 self := fun _ _ _ _ _ st h => wpAny_pyIter_rangeiter st h
def cnt3 (a b c : Int) : Nat := if a < b then ((b - a - 1) / c + 1).toNat else 0
theorem size3 {a b c : Int} (hc : 0 < c) : Builtin.Range.rangeSize a b c = ((cnt3 a b c : Nat) : Int) := by
 unfold Builtin.Range.rangeSize cnt3
 rw [if_pos (by omega)]
 split
 ·have : 0 ≤ (b - a - 1) / c := Int.ediv_nonneg (by omega) (by omega)
  omega
 ·rfl
theorem cnt3_lt {a b c : Int} (hc : 0 < c) {i : Nat} (h : i < cnt3 a b c) : a + (i : Int) * c < b := by
 unfold cnt3 at h
 split at h
 ·have h1 : (i : Int) ≤ (b - a - 1) / c := by omega
  have h2 := Int.mul_le_mul_of_nonneg_right h1 (Int.le_of_lt hc)
  have h3 := Int.ediv_mul_le (b - a - 1) (b := c) (by omega)
  omega
 ·omega
theorem small3 {a b c : Int} (ha : -(2 ^ 60) ≤ a) (ha' : a < 2 ^ 60) (hb : -(2 ^ 60) ≤ b) (hb' : b < 2 ^ 60) (hc : 0 < c) (hc' : c < 1000) : Builtin.Range.small a b c = true := by
 have hn : 0 ≤ Builtin.Range.rangeSize a b c ∧ Builtin.Range.rangeSize a b c < 2 ^ 62 := by
  unfold Builtin.Range.rangeSize
  rw [if_pos (by omega)]
  split
  ·have h1 : 0 ≤ (b - a - 1) / c := Int.ediv_nonneg (by omega) (by omega)
   have h2 : (b - a - 1) / c ≤ b - a - 1 := Int.ediv_le_self _ (by omega)
   omega
  ·omega
 unfold Builtin.Range.small Builtin.Range.rangeFitsLong
 generalize Builtin.Range.rangeSize a b c = k at *
 simp only [Bool.and_eq_true,Bool.or_eq_true,decide_eq_true_eq,beq_iff_eq]
 refine ⟨⟨⟨⟨?_,?_⟩,?_⟩,?_⟩,.inr ?_⟩
 ·omega
 ·omega
 ·omega
 ·omega
 ·rw [if_pos (by omega)]
  simp only [Bool.and_eq_true,decide_eq_true_eq]
  omega
def iRng3 (ta : TA) : TI := fun σ H R => ta σ H fun vs H1 => ∃ i j c : Int,vs = [.int i,.int j,.int c] ∧ (-(2 ^ 60) ≤ i ∧ i < 2 ^ 60 ∧ -(2 ^ 60) ≤ j ∧ j < 2 ^ 60 ∧ 0 < c ∧ c < 1000) ∧ R (It3 i c (cnt3 i j c)) H1
section
variable {X : Cx} {tg : Expr}
theorem pi_range3 {a b c : Expr} {ta : TA} {p pos : Pos} (hg : Gl X "range") (hm : X.mg "range" = none) (ha : PA X [a,b,c] ta) (hs : starEach [a,b,c] X.env = (false,eval a X.env) :: starEach [b,c] X.env) (hs2 : (backTo pos (starEach [b,c] X.env)).any (·.1) = false) :
  PI X tg (.Call (.Name "range" p) [a,b,c] [] pos) (iRng3 ta) := by
 intro pins s σ H R I h
 refine Call_ (ld_blt I hg hm boot_range (PyProof.Rows.callWith_type1 (thn (ha pos pins s σ H _ I h) fun us s1 ⟨vs,H1,I1,r1,q1⟩ => ?_) hs hs2))
 obtain ⟨i,j,k,e,⟨q1,q2,q3,q4,q5,q6⟩,q⟩ := q1
 subst e
 cases r1 with
 | cons r rr =>
  cases rr with
  | cons r' rr =>
   cases rr with
   | cons r'' rr =>
    cases rr
    obtain ⟨t,rfl⟩ := r
    obtain ⟨t',rfl⟩ := r'
    obtain ⟨t'',rfl⟩ := r''
    refine call_range_3 (by omega) ?_ (.inl (PyProof.noPylong_small (by omega)))
    refine wpAny_pyIter_range (IsRange.new ..) (small3 q1 q2 q3 q4 q5 q6) ?_
    have I2 : Inv X pins σ H1 { s1 with heap := s1.heap.push { cls := .type "range",data := .fields #[.int i t,.int j t',.int k t''] } } := I1.kept (t' := s1.toks) fun b o e => Heap.get?_push_of_some _ e
    refine ⟨(s1.heap.push { cls := .type "range",data := .fields #[.int i t,.int j t',.int k t''] }).objs.size,[(s1.heap.push { cls := .type "range",data := .fields #[.int i t,.int j t',.int k t''] }).objs.size],_,_,H1,rfl,
     I2.kept (t' := s1.toks) fun b o e => Heap.get?_push_of_some _ e,turn_range3 _ i k (cnt3 i j k),?_,fun b hb => ?_,q⟩
    ·show IsRangeIter _ _ (i + ((0 : Nat) : Int) * k) (((cnt3 i j k : Nat) : Int) - ((0 : Nat) : Int)) k
     have e1 : i + ((0 : Nat) : Int) * k = i := by simp
     have e2 : ((cnt3 i j k : Nat) : Int) - ((0 : Nat) : Int) = Builtin.Range.rangeSize i j k := by rw [size3 q5]; simp
     rw [e1,e2]
     exact Heap.get?_push_size _ rfl
    ·have e : b = (s1.heap.push { cls := .type "range",data := .fields #[.int i t,.int j t',.int k t''] }).objs.size := by simpa using hb
     subst e
     exact I2.fpOk (Nat.le_refl _) (I2.hok.fresh (Nat.le_refl _))
theorem qi_range3 {a b c : Expr} {ta : TA} {p pos : Pos} (hg : Gl X "range") (hm : X.mg "range" = none) (ha : QA X [a,b,c] ta) (h : notStar a = true := by rfl) (h2 : [b,c].all notStar = true := by rfl) : QI X tg (.Call (.Name "range" p) [a,b,c] [] pos) (iRng3 ta) :=
 ⟨pi_range3 hg hm ha.run (se_of h) (any_of h2)⟩
end
theorem for_range3 {lo st : Int} {n : Nat} {g : TG} {tb : TS} {D : Ends} {σ : St} {H : Hp} (Pv : Nat → St → Hp → Prop) (h0 : Pv 0 σ H)
  (hs : ∀ i σ H,i < n → Pv i σ H → g (.int (lo + (i : Nat) * st)) σ H fun σ2 H2 => tb { D with nx := Pv (i + 1),ct := Pv (i + 1),bk := D.nx } σ2 H2) (hd : ∀ σ H,Pv n σ H → D.nx σ H) :
  ∃ W : Nat → Nat → St → Hp → Prop,(∃ m,W 0 m σ H) ∧ ∀ i m σ H,W i m σ H →
   ((It3 lo st n).stop i H ∧ D.nx σ H) ∨ ((It3 lo st n).go i H ∧ ∃ N : St → Hp → Prop,(∀ σ' H',N σ' H' → ∃ m',m' < m ∧ W (i + 1) m' σ' H') ∧ ∀ x H',(It3 lo st n).yld i H x H' → g x σ H' fun σ2 H2 => tb { D with nx := N,ct := N,bk := D.nx } σ2 H2) := by
 refine ⟨fun i m σ H => m = n - i ∧ i ≤ n ∧ Pv i σ H,⟨n,by simp,Nat.zero_le _,h0⟩,?_⟩
 rintro i m σ H ⟨rfl,hi,p⟩
 by_cases hlt : i < n
 ·refine .inr ⟨hlt,Pv (i + 1),fun σ' H' p' => ⟨n - (i + 1),by omega,rfl,hlt,p'⟩,fun x H' y => ?_⟩
  obtain ⟨e,y⟩ := y
  subst e y
  exact hs i σ _ hlt p
 ·have e : i = n := by omega
  subst e
  exact .inl ⟨Nat.le_refl _,hd σ H p⟩
end L2
namespace L2
open PySem PySem.Spec PyProof.Rows
section
variable {X : Cx} {N' : List Str} {scope : Scope} {cl : List (Str × Addr)} {caps : List (Option Nat)} {tg iter elt : Expr} {wi : TI} {g : TG} {te : TE} {tt : TT} {pos : Pos}
end
end L2
namespace L2
open PySem PySem.Spec PyProof.Rows
def valI (ns : List Int) (i : Nat) : Int := (ns[i]?).getD 0
def sumI (ns : List Int) : Int := preSum (valI ns) ns.length
theorem preSum_congr {f g : Nat → Int} : ∀ n,(∀ i,i < n → f i = g i) → preSum f n = preSum g n
 | 0,_ => rfl
 | n + 1,h => by
  show preSum f n + f n = preSum g n + g n
  rw [preSum_congr n fun i hi => h i (by omega),h n (by omega)]
theorem sumI_snoc (ns : List Int) (x : Int) : sumI (ns ++ [x]) = sumI ns + x := by
 unfold sumI
 rw [List.length_append,List.length_singleton]
 show preSum (valI (ns ++ [x])) ns.length + valI (ns ++ [x]) ns.length = _
 rw [preSum_congr (g := valI ns) ns.length fun i hi => by unfold valI; rw [List.getElem?_append_left hi]]
 unfold valI
 simp
theorem vals_int {ns : List Int} {its : List Value} (r : Vals (ns.map V.int) its) {i : Nat} {v : Value} (h : its[i]? = some v) : ∃ t,v = .int (valI ns i) t := by
 have hl := r.length
 rw [List.length_map] at hl
 have hi : i < ns.length := by
  have := (List.getElem?_eq_some_iff.mp h).1
  omega
 obtain ⟨u,hu,ru⟩ := r.get (i := i) (x := .int ns[i]) (by rw [List.getElem?_map,List.getElem?_eq_getElem hi]; rfl)
 rw [h] at hu
 cases hu
 obtain ⟨t,e⟩ := ru
 exact ⟨t,by rw [e]; unfold valI; rw [List.getElem?_eq_getElem hi]; rfl⟩
theorem best_le (f : Nat → Int) : ∀ k,argBest (fun i j => decide (f i < f j)) k ≤ k ∧ ∀ i,i ≤ k → f (argBest (fun i j => decide (f i < f j)) k) ≤ f i
 | 0 => ⟨Nat.le_refl _,fun i hi => by
  have : i = 0 := by omega
  subst this
  exact Int.le_refl _⟩
 | k + 1 => by
  obtain ⟨h1,h2⟩ := best_le f k
  simp only [argBest]
  by_cases c : f (k + 1) < f (argBest (fun i j => decide (f i < f j)) k)
  ·rw [if_pos (decide_eq_true c)]
   refine ⟨Nat.le_refl _,fun i hi => ?_⟩
   rcases (by omega : i ≤ k ∨ i = k + 1) with z | z
   ·have := h2 i z
    omega
   ·rw [z]; exact Int.le_refl _
  ·rw [if_neg (fun z => c (of_decide_eq_true z))]
   refine ⟨by omega,fun i hi => ?_⟩
   rcases (by omega : i ≤ k ∨ i = k + 1) with z | z
   ·exact h2 i z
   ·rw [z]; omega
theorem valI_mem {ns : List Int} {i : Nat} (h : i < ns.length) : valI ns i ∈ ns := by
 unfold valI
 rw [List.getElem?_eq_getElem h]
 exact List.getElem_mem h
theorem mem_valI {ns : List Int} {x : Int} (h : x ∈ ns) : ∃ i,i < ns.length ∧ valI ns i = x := by
 obtain ⟨i,hi,e⟩ := List.mem_iff_getElem.mp h
 exact ⟨i,hi,by unfold valI; rw [List.getElem?_eq_getElem hi,e]; rfl⟩
section
variable {X : Cx}
theorem call_sumL (hc : X.calm = true) : CallR X (.builtin "sum") (fun xs H Q => ∃ (p : Addr) (ns : List Int),xs = [.ref p] ∧ SqL X.K H p (ns.map V.int) ∧ Q (.int (sumI ns)) H) := by
 intro pins s σ H xs us Q I r h
 obtain ⟨p,ns,rfl,hS,q⟩ := h
 obtain ⟨u,rfl,ru⟩ := vals1 r
 cases ru
 obtain ⟨its,rv,pl,hz⟩ := I.list hS
 have hl := pl.isList
 have hlt : p < s.heap.objs.size := by obtain ⟨_,e,_⟩ := hl; exact Heap.lt_size e
 refine call_sum_walkG (wpAny_pyIter_list hl ?_)
 refine ⟨s.heap.objs.size,[s.heap.objs.size,p],[s.heap.objs.size],its.toArray.size,_,_,valI ns,rfl,Walks.list (A := X.A.in1) (I.ok.hd hc) _ p (Nat.ne_of_lt hlt) its.toArray,
  ⟨⟨_,Heap.get?_push_size _ rfl,rfl,rfl⟩,hl.push _⟩,fun b hb => ?_,fun i v hP => vals_int rv (by simpa using hP),fun h' tk t' hk => ?_⟩
 ·simp only [List.mem_cons,List.not_mem_nil,or_false] at hb
  show b < (s.heap.push _).objs.size
  rw [Heap.size_push]
  rcases hb with rfl | rfl
  ·exact Nat.lt_succ_self _
  ·exact Nat.lt_succ_of_lt hlt
 ·have hl2 := rv.length
  rw [List.length_map] at hl2
  have e : preSum (valI ns) its.toArray.size = sumI ns := by unfold sumI; rw [List.size_toArray,hl2]
  rw [e]
  have keep : ∀ b x,s.heap.get? b = some x → h'.get? b = some x := fun b x e => hk b x (fun hm => by rw [List.mem_singleton.mp hm] at e; exact Nat.lt_irrefl _ (Heap.lt_size e)) (Heap.get?_push_of_some _ e)
  exact ⟨.int (sumI ns),H,I.kept (t' := tk) keep,⟨_,rfl⟩,q⟩
theorem call_minL (hc : X.calm = true) : CallR X (.builtin "min") (fun xs H Q => ∃ (p : Addr) (ns : List Int),xs = [.ref p] ∧ SqL X.K H p (ns.map V.int) ∧ ns ≠ [] ∧ ∀ m,m ∈ ns → (∀ x ∈ ns,m ≤ x) → Q (.int m) H) := by
 intro pins s σ H xs us Q I r h
 obtain ⟨p,ns,rfl,hS,n0,q⟩ := h
 obtain ⟨u,rfl,ru⟩ := vals1 r
 cases ru
 obtain ⟨its,rv,pl,hz⟩ := I.list hS
 have hl := pl.isList
 have hlt : p < s.heap.objs.size := by obtain ⟨_,e,_⟩ := hl; exact Heap.lt_size e
 have hl2 := rv.length
 rw [List.length_map] at hl2
 have hn : 0 < ns.length := List.length_pos_iff.mpr n0
 have hsz : its.toArray.size = ns.length := by rw [List.size_toArray,hl2]
 refine call_min_walk (wpAny_pyIter_list hl ?_)
 refine ⟨s.heap.objs.size,[s.heap.objs.size,p],[s.heap.objs.size],its.toArray.size,_,_,_,rfl,Walks.list (A := X.A.in1) (I.ok.hd hc) _ p (Nat.ne_of_lt hlt) its.toArray,
  ⟨⟨_,Heap.get?_push_size _ rfl,rfl,rfl⟩,hl.push _⟩,fun b hb => ?_,by omega,CmpOf.ints_lt (valI ns) (fun i v hP => vals_int rv (by simpa using hP)),fun v h' tk hP hk => ?_⟩
 ·simp only [List.mem_cons,List.not_mem_nil,or_false] at hb
  show b < (s.heap.push _).objs.size
  rw [Heap.size_push]
  rcases hb with rfl | rfl
  ·exact Nat.lt_succ_self _
  ·exact Nat.lt_succ_of_lt hlt
 ·obtain ⟨t,rfl⟩ := vals_int rv (i := argBest (fun i j => decide (valI ns i < valI ns j)) (its.toArray.size - 1)) (v := v) (by simpa using hP)
  obtain ⟨b1,b2⟩ := best_le (valI ns) (its.toArray.size - 1)
  have keep : ∀ b x,s.heap.get? b = some x → h'.get? b = some x := fun b x e => hk b x (fun hm => by rw [List.mem_singleton.mp hm] at e; exact Nat.lt_irrefl _ (Heap.lt_size e)) (Heap.get?_push_of_some _ e)
  refine ⟨.int _,H,I.kept (t' := tk) keep,⟨_,rfl⟩,q _ (valI_mem (by omega)) fun x hx => ?_⟩
  obtain ⟨i,hi,e⟩ := mem_valI hx
  rw [← e]
  exact b2 i (by omega)
theorem bt_sum : bootBuiltins "sum" = some (.builtin "sum") := by decide +kernel
theorem qcall_sum (hc : X.calm = true) : QCall X (.builtin "sum") (fun xs H Q => ∃ (p : Addr) (ns : List Int),xs = [.ref p] ∧ SqL X.K H p (ns.map V.int) ∧ Q (.int (sumI ns)) H) := ⟨call_sumL hc⟩
theorem qcall_minL (hc : X.calm = true) : QCall X (.builtin "min") (fun xs H Q => ∃ (p : Addr) (ns : List Int),xs = [.ref p] ∧ SqL X.K H p (ns.map V.int) ∧ ns ≠ [] ∧ ∀ m,m ∈ ns → (∀ x ∈ ns,m ≤ x) → Q (.int m) H) := ⟨call_minL hc⟩
end
end L2
namespace My
open PySem L2
theorem same_new {H : Hp} {p : Addr} (h : H p = none) (o : HO) : Same H (upd H p o) := fun b u q => by rw [upd_ne (ne_of_none q h)]; exact q
theorem fresh_of {H H' : Hp} {p : Addr} {o : HO} (hp : H p = none) (hg : upd H p o = H') : Same H H' ∧ H' p = some o := by
 subst hg
 exact ⟨same_new hp o,upd_same⟩
theorem at_int {ns : List Int} {k : Int} (h0 : 0 ≤ k) (h : k < (ns.length : Int)) : ∃ v : Int,atI (ns.map V.int) k = some (.int v) := by
 have hk : k.toNat < ns.length := by omega
 have ek : k = ((k.toNat : Nat) : Int) := by omega
 have q : atI (ns.map V.int) ((k.toNat : Nat) : Int) = some (.int ns[k.toNat]) := atI_nat (by rw [List.getElem?_map,List.getElem?_eq_getElem hk] <;> rfl)
 rw [← ek] at q
 exact ⟨_,q⟩
theorem iteP {c A B : Prop} [Decidable c] (h : c) (x : A) : if c then A else B := by
 rw [if_pos h]
 exact x
theorem iteN {c A B : Prop} [Decidable c] (h : ¬ c) (x : B) : if c then A else B := by
 rw [if_neg h]
 exact x
theorem ride4 {a b c d j : Int} (ha : 0 < a) (hb : 0 < b) (hc : 0 < c) (hd : 0 < d) (h0 : 0 ≤ j) (h1 : j < 4) : ∃ v : Int,atI [V.int a,V.int b,V.int c,V.int d] j = some (.int v) ∧ 0 < v := by
 rcases (by omega : j = 0 ∨ j = 1 ∨ j = 2 ∨ j = 3) with rfl | rfl | rfl | rfl
 ·exact ⟨a,rfl,ha⟩
 ·exact ⟨b,rfl,hb⟩
 ·exact ⟨c,rfl,hc⟩
 ·exact ⟨d,rfl,hd⟩
theorem pow15 : ((10 : Int) ^ (15 : Int).toNat) = 1000000000000000 := by decide +kernel
def spCell (K : PySem.W.Frag) : Sp := fun vs H Q _ => ∃ (a : Addr) (ns : List Int) (k : Int),vs = [.ref a,.int k] ∧ SqL K H a (ns.map V.int) ∧ 0 ≤ k ∧ ∀ c : Int,Q (.int c) H
def spDay : Sp := fun vs H Q _ => ∃ c : Int,vs = [.int c] ∧ ∀ (d : Int) (H' : Hp),1 ≤ d → d ≤ 1000000000000000 → Same H H' → Q (.int d) H'
open Ma (T3 rA rB rC)
def tup3 (R : List T3) (i : Nat) : HO := .tup [.int (rA R i),.int (rB R i),.int (rC R i)]
structure RowsAt (H : Hp) (p : Addr) (R : List T3) : Prop where
 ex : ∃ rs : List Addr,H p = some (.lst (rs.map V.ref)) ∧ rs.length = R.length ∧ ∀ (i : Nat) r,rs[i]? = some r → H r = some (tup3 R i)
theorem RowsAt.mono {H H' : Hp} {p : Addr} {R : List T3} (h : RowsAt H p R) (s : ∀ b o,H b = some o → (∀ z,o ≠ .tbl z) → H' b = some o) : RowsAt H' p R := by
 obtain ⟨rs,h1,h2,h3⟩ := h.ex
 exact ⟨rs,s _ _ h1 (fun _ z => nomatch z),h2,fun i r e => s _ _ (h3 i r e) (fun _ z => nomatch z)⟩
theorem RowsAt.same {H H' : Hp} {p : Addr} {R : List T3} (h : RowsAt H p R) (s : Same H H') : RowsAt H' p R := h.mono fun b o e _ => s b o e
theorem RowsAt.at {K : PySem.W.Frag} {H : Hp} {p : Addr} {R : List T3} (h : RowsAt H p R) : ∃ xs : List V,SqL K H p xs ∧ xs.length = R.length ∧ ∀ k : Int,0 ≤ k → k < (R.length : Int) → ∃ r,atI xs k = some (.ref r) ∧ H r = some (tup3 R k.toNat) := by
 obtain ⟨rs,h1,h2,h3⟩ := h.ex
 refine ⟨rs.map V.ref,SqL.of h1,by rw [List.length_map,h2],fun k k0 k1 => ?_⟩
 have hk : k.toNat < rs.length := by omega
 have ek : k = ((k.toNat : Nat) : Int) := by omega
 have q : atI (rs.map V.ref) ((k.toNat : Nat) : Int) = some (.ref rs[k.toNat]) := atI_nat (by rw [List.getElem?_map]; simp [hk])
 rw [← ek] at q
 exact ⟨rs[k.toNat],q,h3 _ _ (List.getElem?_eq_getElem hk)⟩
theorem map_ref {rs : List Addr} {i : Nat} {y : V} (h : (rs.map V.ref)[i]? = some y) : ∃ r,y = V.ref r ∧ rs[i]? = some r := by
 rw [List.getElem?_map] at h
 cases e : rs[i]? with
 | none => rw [e] at h; cases h
 | some z => rw [e] at h; exact ⟨z,(Option.some.inj h).symm,rfl⟩
def rowsD (R : List T3) : List PyData := R.map fun t => .tuple [.int t.1,.int t.2.1,.int t.2.2]
theorem rd_rows {K : PySem.W.Frag} {H : Hp} : ∀ (rs : List Addr) (R : List T3),rs.length = R.length → (∀ (i : Nat) r,rs[i]? = some r → H r = some (tup3 R i)) → RdAll K H (rs.map V.ref) (rowsD R)
 | [],[],_,_ => .nil
 | [],_ :: _,h,_ => by cases h
 | _ :: _,[],h,_ => by cases h
 | r :: rs,t :: R,h,hr => by
  refine .cons (.tup (SqT.of (hr 0 r rfl)) (.cons (.int _) (.cons (.int _) (.cons (.int _) .nil)))) ?_
  refine rd_rows rs R (by simpa using h) fun i r' e => ?_
  have := hr (i + 1) r' (by simpa using e)
  exact this
theorem RowsAt.rd {K : PySem.W.Frag} {H : Hp} {p : Addr} {R : List T3} (h : RowsAt H p R) : RdV K H (.ref p) (.list (rowsD R)) := by
 obtain ⟨rs,h1,h2,h3⟩ := h.ex
 exact .lst (SqL.of h1) (rd_rows rs R h2 h3)
theorem RowsAt.append {H : Hp} {p r : Addr} {R : List T3} {a b c : Int} {xs : List V} (h : RowsAt H p R) (hx : H p = some (.lst xs)) (hr : H r = some (.tup [.int a,.int b,.int c])) : RowsAt (upd H p (.lst (xs ++ [.ref r]))) p (R ++ [(a,b,c)]) := by
 obtain ⟨rs,h1,h2,h3⟩ := h.ex
 rw [h1] at hx
 cases hx
 have ne : ∀ q (ys : List V),H q = some (.tup ys) → q ≠ p := fun q ys e z => by rw [z,h1] at e; cases e
 refine ⟨rs ++ [r],by rw [upd_same,List.map_append]; rfl,by rw [List.length_append,List.length_append,h2]; rfl,fun i q e => ?_⟩
 rcases (by omega : i < rs.length ∨ rs.length ≤ i) with hi | hi
 ·rw [List.getElem?_append_left hi] at e
  have e2 := h3 i q e
  have e3 : tup3 (R ++ [(a,b,c)]) i = tup3 R i := by
   have e4 : (R ++ [(a,b,c)])[i]? = R[i]? := List.getElem?_append_left (by omega)
   unfold tup3 rA rB rC
   rw [List.getD_eq_getElem?_getD,List.getD_eq_getElem?_getD,e4]
  rw [upd_ne (ne q _ e2),e3]
  exact e2
 ·rw [List.getElem?_append_right hi] at e
  have ei : i - rs.length = 0 := by
   have := (List.getElem?_eq_some_iff.mp e).1
   simp at this
   omega
  rw [ei] at e
  have eq : r = q := Option.some.inj e
  subst eq
  have e4 : (R ++ [(a,b,c)])[i]? = some (a,b,c) := by
   rw [show i = R.length by omega]
   simp
  have e5 := Ma.r_of e4
  rw [upd_ne (ne r _ hr),hr]
  unfold tup3
  rw [e5.1,e5.2.1,e5.2.2]
theorem RowsAt.nil {H : Hp} {p : Addr} (h : H p = some (.lst [])) : RowsAt H p [] := ⟨[],h,rfl,fun i r e => by cases i <;> cases e⟩
theorem SameT.keep {H H' : Hp} {P r : Addr} {pos : Pos} {qual : Str} {o : HO} (s : SameT P H H') (t : TabOk H P pos qual) (e : H r = some o) (n : ∀ z,o ≠ .tbl z) : H' r = some o := s r o e fun z => by
 obtain ⟨ps,hp,_⟩ := t
 rw [z,hp] at e
 exact n ps (Option.some.inj e).symm
theorem SameT.tup {H H' : Hp} {P r : Addr} {pos : Pos} {qual : Str} {xs : List V} (s : SameT P H H') (t : TabOk H P pos qual) (e : H r = some (.tup xs)) : H' r = some (.tup xs) := SameT.keep s t e fun _ z => nomatch z
theorem SameT.seq {K : PySem.W.Frag} {H H' : Hp} {P a : Addr} {pos : Pos} {qual : Str} {xs : List V} (s : SameT P H H') (t : TabOk H P pos qual) (h : SqL K H a xs) : SqL K H' a xs := by
 rcases h with (h | ⟨o,h⟩) | h
 ·exact .inl (.inl (SameT.keep s t h fun _ z => nomatch z))
 ·exact .inl (.inr ⟨o,SameT.keep s t h fun _ z => nomatch z⟩)
 ·exact .inr h
theorem RowsAt.copy {H H' : Hp} {p l : Addr} {R : List T3} {ys : List V} {K : PySem.W.Frag} (h : RowsAt H p R) (s : Same H H') (hy : H p = some (.lst ys)) (e : H' l = some (.lst ys)) : RowsAt H' l R := by
 obtain ⟨rs,h1,h2,h3⟩ := h.ex
 rw [h1] at hy
 cases hy
 exact ⟨rs,e,h2,fun i r er => s _ _ (h3 i r er)⟩
theorem RowsAt.lst {H : Hp} {p : Addr} {R : List T3} (h : RowsAt H p R) : ∃ ys,H p = some (.lst ys) ∧ ys.length = R.length := by
 obtain ⟨rs,h1,h2,h3⟩ := h.ex
 exact ⟨_,h1,by rw [List.length_map,h2]⟩
structure LA {α : Type} (enc : α → List V) (H : Hp) (p : Addr) (xs : List α) : Prop where
 ex : ∃ rs : List Addr,H p = some (.lst (rs.map V.ref)) ∧ rs.length = xs.length ∧ ∀ (i : Nat) r x,rs[i]? = some r → xs[i]? = some x → H r = some (.tup (enc x))
section
variable {α : Type} {enc : α → List V} {H H' : Hp} {p q r : Addr} {xs ys : List α} {vs ws : List V}
theorem LA.nil (h : H p = some (.lst [])) : LA enc H p [] := ⟨[],h,rfl,fun i r x e => by cases i <;> cases e⟩
theorem LA.mono (h : LA enc H p xs) (s : ∀ b o,H b = some o → (∀ z,o ≠ .tbl z) → H' b = some o) : LA enc H' p xs := by
 obtain ⟨rs,h1,h2,h3⟩ := h.ex
 exact ⟨rs,s _ _ h1 (fun _ z => nomatch z),h2,fun i r x e e' => s _ _ (h3 i r x e e') (fun _ z => nomatch z)⟩
theorem LA.same (h : LA enc H p xs) (s : Same H H') : LA enc H' p xs := h.mono fun b o e _ => s b o e
theorem LA.lst (h : LA enc H p xs) : ∃ vs,H p = some (.lst vs) ∧ vs.length = xs.length ∧ ∀ (i : Nat) y,vs[i]? = some y → ∃ r x,y = .ref r ∧ xs[i]? = some x ∧ H r = some (.tup (enc x)) := by
 obtain ⟨rs,h1,h2,h3⟩ := h.ex
 refine ⟨_,h1,by rw [List.length_map,h2],fun i y e => ?_⟩
 obtain ⟨r,rfl,er⟩ := map_ref e
 have hi : i < xs.length := by
  have := (List.getElem?_eq_some_iff.mp er).1
  omega
 exact ⟨r,xs[i],rfl,List.getElem?_eq_getElem hi,h3 i r _ er (List.getElem?_eq_getElem hi)⟩
theorem LA.of (h : H p = some (.lst vs)) (l : vs.length = xs.length) (g : ∀ (i : Nat) y,vs[i]? = some y → ∃ r,y = .ref r ∧ ∀ x,xs[i]? = some x → H r = some (.tup (enc x))) : LA enc H p xs := by
 have go : ∀ (vs : List V),(∀ (i : Nat) y,vs[i]? = some y → ∃ r,y = V.ref r) → ∃ rs : List Addr,vs = rs.map V.ref := by
  intro vs
  induction vs with
  | nil => intro _; exact ⟨[],rfl⟩
  | cons v vs ih =>
   intro g
   obtain ⟨r,e⟩ := g 0 v rfl
   obtain ⟨rs,e2⟩ := ih fun i y e => g (i + 1) y (by simpa using e)
   exact ⟨r :: rs,by rw [e,e2]; rfl⟩
 obtain ⟨rs,e⟩ := go vs fun i y e => by
  obtain ⟨r,e1,_⟩ := g i y e
  exact ⟨r,e1⟩
 subst e
 refine ⟨rs,h,by rw [List.length_map] at l; exact l,fun i r x e1 e2 => ?_⟩
 obtain ⟨r',e3,e4⟩ := g i (.ref r) (by rw [List.getElem?_map,e1]; rfl)
 cases e3
 exact e4 x e2
theorem LA.append {x : α} (h : LA enc H p xs) (hx : H p = some (.lst vs)) (hr : H r = some (.tup (enc x))) : LA enc (upd H p (.lst (vs ++ [.ref r]))) p (xs ++ [x]) := by
 obtain ⟨vs',h1,h2,h3⟩ := h.lst
 rw [h1] at hx
 cases hx
 have ne : ∀ q (ys : List V),H q = some (.tup ys) → q ≠ p := fun q ys e z => by rw [z,h1] at e; cases e
 refine LA.of upd_same (by simp [h2]) fun i y e => ?_
 rcases (by omega : i < vs.length ∨ vs.length ≤ i) with hi | hi
 ·rw [List.getElem?_append_left hi] at e
  obtain ⟨r',x',e1,e2,e3⟩ := h3 i y e
  refine ⟨r',e1,fun x2 e4 => ?_⟩
  rw [List.getElem?_append_left (by omega),e2] at e4
  cases e4
  rw [upd_ne (ne r' _ e3)]
  exact e3
 ·rw [List.getElem?_append_right hi] at e
  have ei : i - vs.length = 0 := by
   have := (List.getElem?_eq_some_iff.mp e).1
   simp at this
   omega
  rw [ei] at e
  have e' : V.ref r = y := by simpa using e
  refine ⟨r,e'.symm,fun x2 e4 => ?_⟩
  rw [List.getElem?_append_right (by omega),show i - xs.length = 0 by omega] at e4
  have e5 : x = x2 := by simpa using e4
  subst e5
  rw [upd_ne (ne r _ hr)]
  exact hr
theorem LA.extend (h : LA enc H p xs) (h' : LA enc H q ys) (hx : H p = some (.lst vs)) (hy : H q = some (.lst ws)) : LA enc (upd H p (.lst (vs ++ ws))) p (xs ++ ys) := by
 obtain ⟨vs',h1,h2,h3⟩ := h.lst
 obtain ⟨ws',k1,k2,k3⟩ := h'.lst
 rw [h1] at hx
 cases hx
 rw [k1] at hy
 cases hy
 have ne : ∀ q (ys : List V),H q = some (.tup ys) → q ≠ p := fun q ys e z => by rw [z,h1] at e; cases e
 refine LA.of upd_same (by simp [h2,k2]) fun i y e => ?_
 rcases (by omega : i < vs.length ∨ vs.length ≤ i) with hi | hi
 ·rw [List.getElem?_append_left hi] at e
  obtain ⟨r',x',e1,e2,e3⟩ := h3 i y e
  refine ⟨r',e1,fun x2 e4 => ?_⟩
  rw [List.getElem?_append_left (by omega),e2] at e4
  cases e4
  rw [upd_ne (ne r' _ e3)]
  exact e3
 ·rw [List.getElem?_append_right hi] at e
  obtain ⟨r',x',e1,e2,e3⟩ := k3 _ y e
  refine ⟨r',e1,fun x2 e4 => ?_⟩
  rw [List.getElem?_append_right (by omega),show i - xs.length = i - vs.length by omega,e2] at e4
  cases e4
  rw [upd_ne (ne r' _ e3)]
  exact e3
theorem LA.cat (h : LA enc H p xs) (h' : LA enc H q ys) (hx : H p = some (.lst vs)) (hy : H q = some (.lst ws)) (hr : H r = none) : LA enc (upd H r (.lst (vs ++ ws))) r (xs ++ ys) := by
 obtain ⟨vs',h1,h2,h3⟩ := h.lst
 obtain ⟨ws',k1,k2,k3⟩ := h'.lst
 rw [h1] at hx
 cases hx
 rw [k1] at hy
 cases hy
 have ne : ∀ q o,H q = some o → q ≠ r := fun q o e => ne_of_none e hr
 refine LA.of upd_same (by simp [h2,k2]) fun i y e => ?_
 rcases (by omega : i < vs.length ∨ vs.length ≤ i) with hi | hi
 ·rw [List.getElem?_append_left hi] at e
  obtain ⟨r',x',e1,e2,e3⟩ := h3 i y e
  refine ⟨r',e1,fun x2 e4 => ?_⟩
  rw [List.getElem?_append_left (by omega),e2] at e4
  cases e4
  rw [upd_ne (ne r' _ e3)]
  exact e3
 ·rw [List.getElem?_append_right hi] at e
  obtain ⟨r',x',e1,e2,e3⟩ := k3 _ y e
  refine ⟨r',e1,fun x2 e4 => ?_⟩
  rw [List.getElem?_append_right (by omega),show i - xs.length = i - vs.length by omega,e2] at e4
  cases e4
  rw [upd_ne (ne r' _ e3)]
  exact e3
theorem LA.setAt {x : α} {j : Nat} (h : LA enc H p xs) (hx : H p = some (.lst vs)) (hr : H r = some (.tup (enc x))) : LA enc (upd H p (.lst (vs.set j (.ref r)))) p (xs.set j x) := by
 obtain ⟨vs',h1,h2,h3⟩ := h.lst
 rw [h1] at hx
 cases hx
 have ne : ∀ q (ys : List V),H q = some (.tup ys) → q ≠ p := fun q ys e z => by rw [z,h1] at e; cases e
 refine LA.of upd_same (by simp [h2]) fun i y e => ?_
 rw [List.getElem?_set] at e
 by_cases c : j = i
 ·rw [if_pos c] at e
  split at e
  ·have e' : V.ref r = y := by simpa using e
   refine ⟨r,e'.symm,fun x2 e4 => ?_⟩
   rw [List.getElem?_set,if_pos c] at e4
   split at e4
   ·have e5 : x = x2 := by simpa using e4
    subst e5
    rw [upd_ne (ne r _ hr)]
    exact hr
   ·cases e4
  ·cases e
 ·rw [if_neg c] at e
  obtain ⟨r',x',e1,e2,e3⟩ := h3 i y e
  refine ⟨r',e1,fun x2 e4 => ?_⟩
  rw [List.getElem?_set,if_neg c,e2] at e4
  cases e4
  rw [upd_ne (ne r' _ e3)]
  exact e3
theorem LA.copy (h : LA enc H p xs) (s : Same H H') (hx : H p = some (.lst vs)) (e : H' q = some (.lst vs)) : LA enc H' q xs := by
 obtain ⟨rs,h1,h2,h3⟩ := h.ex
 rw [h1] at hx
 cases hx
 exact ⟨rs,e,h2,fun i r x e1 e2 => s _ _ (h3 i r x e1 e2)⟩
theorem LA.at {K : PySem.W.Frag} (h : LA enc H p xs) : ∃ vs : List V,H p = some (.lst vs) ∧ vs.length = xs.length ∧ ∀ (k : Nat) x,xs[k]? = some x → ∃ r,atI vs (k : Int) = some (.ref r) ∧ H r = some (.tup (enc x)) := by
 obtain ⟨vs,h1,h2,h3⟩ := h.lst
 refine ⟨vs,h1,h2,fun k x e => ?_⟩
 have hk : k < vs.length := by
  have := (List.getElem?_eq_some_iff.mp e).1
  omega
 obtain ⟨r,x',e1,e2,e3⟩ := h3 k _ (List.getElem?_eq_getElem hk)
 rw [e] at e2
 cases e2
 exact ⟨r,atI_nat (by rw [List.getElem?_eq_getElem hk,e1]),e3⟩
end
theorem atI_last {vs : List V} (h : vs ≠ []) : atI vs (-1) = vs[vs.length - 1]? := by
 have hl : 0 < vs.length := List.length_pos_iff.mpr h
 unfold atI ixN
 rw [if_neg (by omega),if_pos (by omega)]
 show vs[(-1 + (vs.length : Int)).toNat]? = _
 congr 1
 omega
section
variable {α : Type} {D : α → PyData}
theorem eqvAll_map [DecidableEq α] (hD : ∀ x y,PyData.eqv (D x) (D y) = decide (x = y)) : ∀ xs ys : List α,PyData.eqvAll (xs.map D) (ys.map D) = decide (xs = ys)
 | [],[] => by simp [PyData.eqvAll]
 | [],y :: ys => by simp [PyData.eqvAll]
 | x :: xs,[] => by simp [PyData.eqvAll]
 | x :: xs,y :: ys => by
  have ih := eqvAll_map hD xs ys
  simp only [List.map_cons,PyData.eqvAll,ih,hD]
  by_cases c : x = y <;> by_cases c' : xs = ys <;> simp [c,c']
theorem eqv_list [DecidableEq α] (hD : ∀ x y,PyData.eqv (D x) (D y) = decide (x = y)) (xs ys : List α) : PyData.eqv (.list (xs.map D)) (.list (ys.map D)) = decide (xs = ys) := by
 simp only [PyData.eqv]
 exact eqvAll_map hD xs ys
theorem canLay_map (h : ∀ x,PyData.canLay0 (D x) = true) : ∀ xs : List α,PyData.canLayAll0 (xs.map D) = true
 | [] => by simp [PyData.canLayAll0]
 | x :: xs => by
  have := canLay_map h xs
  simp [PyData.canLayAll0,h,this]
theorem depth_map {n : Nat} (h : ∀ x,PyData.depth (D x) ≤ n) : ∀ xs : List α,PyData.depthAll (xs.map D) ≤ n
 | [] => by simp [PyData.depthAll]
 | x :: xs => by
  have := depth_map h xs
  have := h x
  simp only [List.map_cons,PyData.depthAll]
  omega
theorem shaped_map {n : Nat} (h : ∀ x,PyData.canLay0 (D x) = true) (h2 : ∀ x,PyData.depth (D x) ≤ n) (hn : n ≤ 60) (xs : List α) : SeqAt.shaped (.list (xs.map D)) = true := by
 have h3 := depth_map h2 xs
 show (PyData.canLay0 (.list (xs.map D)) && decide (PyData.depth (.list (xs.map D)) ≤ 64)) = true
 rw [Bool.and_eq_true]
 exact ⟨by simp only [PyData.canLay0]; exact canLay_map h xs,decide_eq_true (by simp only [PyData.depth]; omega)⟩
theorem LA.rd {K : PySem.W.Frag} {enc : α → List V} {ds : α → List PyData} {H : Hp} {p : Addr} {xs : List α} (h : LA enc H p xs) (hd : ∀ x,RdAll K H (enc x) (ds x)) : RdV K H (.ref p) (.list (xs.map fun x => .tuple (ds x))) := by
 obtain ⟨rs,h1,h2,h3⟩ := h.ex
 refine .lst (SqL.of h1) ?_
 have go : ∀ (rs : List Addr) (xs : List α),rs.length = xs.length → (∀ (i : Nat) r x,rs[i]? = some r → xs[i]? = some x → H r = some (.tup (enc x))) → RdAll K H (rs.map V.ref) (xs.map fun x => .tuple (ds x)) := by
  intro rs
  induction rs with
  | nil =>
   intro xs hl _
   cases xs with
   | nil => exact .nil
   | cons x xs => cases hl
  | cons r rs ih =>
   intro xs hl g
   cases xs with
   | nil => cases hl
   | cons x xs => exact .cons (.tup (SqT.of (g 0 r x rfl rfl)) (hd x)) (ih xs (by simpa using hl) fun i r' x' e1 e2 => g (i + 1) r' x' (by simpa using e1) (by simpa using e2))
 exact go rs xs h2 h3
end
open Ma (T4)
def enc3 (t : T3) : List V := [.int t.1,.int t.2.1,.int t.2.2]
def enc4 (t : T4) : List V := [.int t.1,.int t.2.1,.bl t.2.2.1,.int t.2.2.2]
def dat3 (t : T3) : PyData := .tuple [.int t.1,.int t.2.1,.int t.2.2]
theorem eqv3 (x y : T3) : PyData.eqv (dat3 x) (dat3 y) = decide (x = y) := by
 obtain ⟨a,b,c⟩ := x
 obtain ⟨a',b',c'⟩ := y
 simp only [dat3,PyData.eqv,PyData.eqvAll,Prod.mk.injEq]
 by_cases c1 : a = a' <;> by_cases c2 : b = b' <;> by_cases c3 : c = c' <;> simp [c1,c2,c3]
theorem shaped3 (xs : List T3) : SeqAt.shaped (.list (xs.map dat3)) = true := shaped_map (n := 2) (fun x => by simp [dat3,PyData.canLay0,PyData.canLayAll0]) (fun x => by simp [dat3,PyData.depth,PyData.depthAll]) (by decide) xs
section
variable {K : PySem.W.Frag} {H H' : Hp} {p : Addr} {R : List T3}
theorem rd3 (h : LA enc3 H p R) : RdV K H (.ref p) (.list (R.map dat3)) := h.rd fun x => .cons (.int _) (.cons (.int _) (.cons (.int _) .nil))
theorem RowsAt.la (h : RowsAt H p R) : LA enc3 H p R := by
 obtain ⟨rs,h1,h2,h3⟩ := h.ex
 refine ⟨rs,h1,h2,fun i r x e1 e2 => ?_⟩
 obtain ⟨a,b,c⟩ := x
 have := Ma.r_of e2
 rw [h3 i r e1]
 unfold tup3 enc3
 rw [this.1,this.2.1,this.2.2]
theorem LA.rows (h : LA enc3 H p R) : RowsAt H p R := by
 obtain ⟨rs,h1,h2,h3⟩ := h.ex
 refine ⟨rs,h1,h2,fun i r e1 => ?_⟩
 have hi : i < R.length := by
  have := (List.getElem?_eq_some_iff.mp e1).1
  omega
 exact h3 i r _ e1 (Ma.r_at hi)
end
inductive Dv (H : Hp) : V → Prop
 | non : Dv H .non
 | bl (b : Bool) : Dv H (.bl b)
 | int (i : Int) : Dv H (.int i)
 | str (x : Str) : Dv H (.str x)
 | lst {a : Addr} {xs : List V} : H a = some (.lst xs) → Dv H (.ref a)
 | tup {a : Addr} {xs : List V} : H a = some (.tup xs) → Dv H (.ref a)
def isWh : V → Bool
 | .int _ => true
 | _ => false
def tupV (H : Hp) : V → Option (List V)
 | .ref a => match H a with
  | some (.tup xs) => some xs
  | _ => none
 | _ => none
def lstV (H : Hp) : V → Option (List V)
 | .ref a => match H a with
  | some (.lst xs) => some xs
  | _ => none
 | _ => none
theorem tupV_of {H : Hp} {a : Addr} {xs : List V} (h : H a = some (.tup xs)) : tupV H (.ref a) = some xs := by simp [tupV,h]
theorem lstV_of {H : Hp} {a : Addr} {xs : List V} (h : H a = some (.lst xs)) : lstV H (.ref a) = some xs := by simp [lstV,h]
theorem tupV_at {H : Hp} {x : V} {xs : List V} (h : tupV H x = some xs) : ∃ a,x = .ref a ∧ H a = some (.tup xs) := by
 unfold tupV at h
 split at h
 ·rename_i a
  split at h
  ·rename_i ys e
   cases h
   exact ⟨a,rfl,e⟩
  ·cases h
 ·cases h
theorem lstV_at {H : Hp} {x : V} {xs : List V} (h : lstV H x = some xs) : ∃ a,x = .ref a ∧ H a = some (.lst xs) := by
 unfold lstV at h
 split at h
 ·rename_i a
  split at h
  ·rename_i ys e
   cases h
   exact ⟨a,rfl,e⟩
  ·cases h
 ·cases h
section
variable {H H' : Hp} {x : V}
theorem Dv.same (h : Dv H x) (s : Same H H') : Dv H' x := by
 cases h with
 | non => exact .non
 | bl b => exact .bl b
 | int i => exact .int i
 | str x => exact .str x
 | lst e => exact .lst (s _ _ e)
 | tup e => exact .tup (s _ _ e)
theorem Dv.tupV_same (h : Dv H x) (s : Same H H') : tupV H' x = tupV H x := by
 cases h with
 | non => rfl
 | bl b => rfl
 | int i => rfl
 | str x => rfl
 | lst e => simp [tupV,e,s _ _ e]
 | tup e => simp [tupV,e,s _ _ e]
theorem Dv.isTup {K : PySem.W.Frag} (h : Dv H x) : ∃ t,TyOf K H x t ∧ PySem.W.kitOne K t (.type "tuple") = some (tupV H x).isSome := by
 cases h with
 | non => exact ⟨_,.non,rfl⟩
 | bl b => exact ⟨_,.bl b,rfl⟩
 | int i => exact ⟨_,.int i,rfl⟩
 | str x => exact ⟨_,.str x,rfl⟩
 | lst e => exact ⟨_,.lst e,by simp only [tupV,e]; rfl⟩
 | tup e => exact ⟨_,.tup e,by simp only [tupV,e]; rfl⟩
theorem Dv.isLst {K : PySem.W.Frag} (h : Dv H x) : ∃ t,TyOf K H x t ∧ PySem.W.kitOne K t (.type "list") = some (lstV H x).isSome := by
 cases h with
 | non => exact ⟨_,.non,rfl⟩
 | bl b => exact ⟨_,.bl b,rfl⟩
 | int i => exact ⟨_,.int i,rfl⟩
 | str x => exact ⟨_,.str x,rfl⟩
 | lst e => exact ⟨_,.lst e,by simp only [lstV,e]; rfl⟩
 | tup e => exact ⟨_,.tup e,by simp only [lstV,e]; rfl⟩
end
def Dv2 (H : Hp) (x : V) : Prop := Dv H x ∧ ∀ zs,tupV H x = some zs → ∀ z ∈ zs,Dv H z
theorem Dv2.same {H H' : Hp} {x : V} (h : Dv2 H x) (s : Same H H') : Dv2 H' x := ⟨h.1.same s,fun zs e z hz => (h.2 zs (by rw [← h.1.tupV_same s]; exact e) z hz).same s⟩
def winL (day : Int) : List V → Bool
 | [.int a,.int b,.int c] => decide (0 ≤ a) && (decide (a ≤ b) && (decide (b < day) && decide (0 ≤ c)))
 | _ => false
def winV (H : Hp) (day : Int) (x : V) : Bool := match tupV H x with
 | some xs => winL day xs
 | none => false
theorem Dv.winV_same {H H' : Hp} {x : V} (h : Dv H x) (s : Same H H') (day : Int) : winV H' day x = winV H day x := by
 unfold winV
 rw [h.tupV_same s]
def boardV (H : Hp) (day : Int) (x : V) : Bool := match lstV H x with
 | some xs => xs.all (winV H day)
 | none => false
def spIsWhole : Sp := fun vs H Q _ => ∃ x : V,vs = [x] ∧ Dv H x ∧ Q (.bl (isWh x)) H
def spWindow : Sp := fun vs H Q _ => ∃ (day : Int) (x : V),vs = [.int day,x] ∧ Dv2 H x ∧ ∀ H',Same H H' → Q (.bl (winV H day x)) H'
def Dv3 (H : Hp) (x : V) : Prop := Dv H x ∧ ∀ xs,lstV H x = some xs → xs.length ≤ 1000 ∧ ∀ y ∈ xs,Dv2 H y
def spBoard : Sp := fun vs H Q _ => ∃ (day : Int) (x : V),vs = [.int day,x] ∧ Dv3 H x ∧ ∀ H',Same H H' → Q (.bl (boardV H day x)) H'
theorem take_snoc {α β : Type} {xs : List α} {i : Nat} {y : α} (f : α → β) (h : xs[i]? = some y) : (xs.take (i + 1)).map f = (xs.take i).map f ++ [f y] := by
 rw [List.take_add_one,h,List.map_append]
 rfl
theorem three {α : Type} : ∀ {xs : List α},xs.length = 3 → ∃ u v w,xs = [u,v,w]
 | [u,v,w],_ => ⟨u,v,w,rfl⟩
theorem isWh_int {x : V} (h : isWh x = true) : ∃ i,x = .int i := by
 cases x <;> first | exact ⟨_,rfl⟩ | cases h
inductive Ev (H : Hp) : Nat → V → Prop
 | non {n : Nat} : Ev H n .non
 | bl {n : Nat} (b : Bool) : Ev H n (.bl b)
 | int {n : Nat} (i : Int) : Ev H n (.int i)
 | str {n : Nat} {x : Str} : PyData.strOk x = true → Ev H n (.str x)
 | lst {n : Nat} {a : Addr} {xs : List V} : H a = some (.lst xs) → (∀ y ∈ xs,Ev H n y) → Ev H (n + 1) (.ref a)
 | tup {n : Nat} {a : Addr} {xs : List V} : H a = some (.tup xs) → (∀ y ∈ xs,Ev H n y) → Ev H (n + 1) (.ref a)
theorem Ev.same {H H' : Hp} (s : Same H H') : ∀ {n : Nat} {x : V},Ev H n x → Ev H' n x := by
 intro n x h
 induction h with
 | non => exact .non
 | bl b => exact .bl b
 | int i => exact .int i
 | str h => exact .str h
 | lst e _ ih => exact .lst (s _ _ e) ih
 | tup e _ ih => exact .tup (s _ _ e) ih
theorem Ev.dv {H : Hp} {n : Nat} {x : V} (h : Ev H n x) : Dv H x := by
 cases h with
 | non => exact .non
 | bl b => exact .bl b
 | int i => exact .int i
 | str h => exact .str _
 | lst e _ => exact .lst e
 | tup e _ => exact .tup e
theorem Ev.parts {H : Hp} {n : Nat} {x : V} {zs : List V} (h : Ev H (n + 1) x) (e : tupV H x = some zs) : ∀ z ∈ zs,Ev H n z := by
 obtain ⟨a,rfl,ea⟩ := tupV_at e
 cases h with
 | lst e2 _ => rw [ea] at e2; cases e2
 | tup e2 p => rw [ea] at e2; cases e2; exact p
theorem Ev.items {H : Hp} {n : Nat} {x : V} {zs : List V} (h : Ev H (n + 1) x) (e : lstV H x = some zs) : ∀ z ∈ zs,Ev H n z := by
 obtain ⟨a,rfl,ea⟩ := lstV_at e
 cases h with
 | tup e2 _ => rw [ea] at e2; cases e2
 | lst e2 p => rw [ea] at e2; cases e2; exact p
theorem Ev.d2 {H : Hp} {n : Nat} {x : V} (h : Ev H (n + 1) x) : Dv2 H x := ⟨h.dv,fun zs e z hz => (h.parts e z hz).dv⟩
theorem Ev.d3 {H : Hp} {n : Nat} {x : V} (h : Ev H (n + 2) x) (l : ∀ zs,lstV H x = some zs → zs.length ≤ 1000) : Dv3 H x := ⟨h.dv,fun zs e => ⟨l zs e,fun z hz => (h.items e z hz).d2⟩⟩
theorem Ev.up {H : Hp} : ∀ {n : Nat} {x : V},Ev H n x → Ev H (n + 1) x := by
 intro n x h
 induction h with
 | non => exact .non
 | bl b => exact .bl b
 | int i => exact .int i
 | str h => exact .str h
 | lst e _ ih => exact .lst e ih
 | tup e _ ih => exact .tup e ih
def RdOk (K : PySem.W.Frag) (H : Hp) (n : Nat) (x : V) : Prop := ∃ d,RdV K H x d ∧ PyData.canLay0 d = true ∧ PyData.depth d ≤ n + 1 ∧ PyData.eqv d d = true
def RdAOk (K : PySem.W.Frag) (H : Hp) (n : Nat) (xs : List V) : Prop := ∃ ds,RdAll K H xs ds ∧ PyData.canLayAll0 ds = true ∧ PyData.depthAll ds ≤ n + 1 ∧ PyData.eqvAll ds ds = true ∧ ds.length = xs.length
theorem rd_all {K : PySem.W.Frag} {H : Hp} {n : Nat} : ∀ {xs : List V},(∀ y ∈ xs,RdOk K H n y) → RdAOk K H n xs
 | [],_ => ⟨[],.nil,by simp [PyData.canLayAll0],by simp [PyData.depthAll],by simp [PyData.eqvAll],rfl⟩
 | y :: ys,h => by
  obtain ⟨d,r,c,p,e⟩ := h y (List.mem_cons_self ..)
  obtain ⟨ds,rs,cs,ps,es,l⟩ := rd_all (xs := ys) fun z hz => h z (List.mem_cons_of_mem _ hz)
  exact ⟨d :: ds,.cons r rs,by simp [PyData.canLayAll0,c,cs],by simp only [PyData.depthAll]; omega,by simp [PyData.eqvAll,e,es],by simp [l]⟩
theorem Ev.rd {K : PySem.W.Frag} {H : Hp} : ∀ {n : Nat} {x : V},Ev H n x → RdOk K H n x := by
 intro n x h
 induction h with
 | non => exact ⟨_,.non,by simp [PyData.canLay0],by simp [PyData.depth],by simp [PyData.eqv]⟩
 | bl b => exact ⟨_,.bl b,by simp [PyData.canLay0],by simp [PyData.depth],by simp [PyData.eqv]⟩
 | int i => exact ⟨_,.int i,by simp [PyData.canLay0],by simp [PyData.depth],by simp [PyData.eqv]⟩
 | str h => exact ⟨_,.str _,by simp [PyData.canLay0,h],by simp [PyData.depth],by simp [PyData.eqv]⟩
 | lst e _ ih =>
  obtain ⟨ds,rs,cs,ps,es,l⟩ := rd_all ih
  exact ⟨.list ds,.lst (SqL.of e) rs,by simp [PyData.canLay0,cs],by simp only [PyData.depth]; omega,by simp [PyData.eqv,es]⟩
 | tup e _ ih =>
  obtain ⟨ds,rs,cs,ps,es,l⟩ := rd_all ih
  exact ⟨.tuple ds,.tup (SqT.of e) rs,by simp [PyData.canLay0,cs],by simp only [PyData.depth]; omega,by simp [PyData.eqv,es]⟩
theorem Same.seqT {K : PySem.W.Frag} {H H' : Hp} {a : Addr} {xs : List V} (e : Same H H') (h : SqT K H a xs) : SqT K H' a xs := by
 rcases h with (h | ⟨o,h⟩) | h
 ·exact .inl (.inl (e _ _ h))
 ·exact .inl (.inr ⟨o,e _ _ h⟩)
 ·exact .inr h
mutual
theorem rdv_same {K : PySem.W.Frag} {H H' : Hp} (s : Same H H') : ∀ {x : V} {d : PyData},RdV K H x d → RdV K H' x d
 | _,_,.non => .non
 | _,_,.bl b => .bl b
 | _,_,.int i => .int i
 | _,_,.str x => .str x
 | _,_,.lst h a => .lst (s.seq h) (rda_same s a)
 | _,_,.tup h a => .tup (Same.seqT s h) (rda_same s a)
theorem rda_same {K : PySem.W.Frag} {H H' : Hp} (s : Same H H') : ∀ {xs : List V} {ds : List PyData},RdAll K H xs ds → RdAll K H' xs ds
 | _,_,.nil => .nil
 | _,_,.cons h1 h2 => .cons (rdv_same s h1) (rda_same s h2)
end
def optV : Option Int → V
 | none => .non
 | some y => .int y
theorem line_of {n : Nat} (h : n ≤ 16000000) : n < sizeLine := by
 have e : sizeLine = 16777216 := by decide +kernel
 omega
theorem same_wr {H H1 : Hp} {p : Addr} {o : HO} (hp : H p = none) (s : Same H H1) : Same H (upd H1 p o) := fun b u e => by
 rw [upd_ne (ne_of_none e hp)]
 exact s _ _ e
theorem SameT.refl (P : Addr) (H : Hp) : SameT P H H := fun _ _ e _ => e
theorem SameT.trans {P : Addr} {H H1 H2 : Hp} (a : SameT P H H1) (b : SameT P H1 H2) : SameT P H H2 := fun c o e n => b c o (a c o e n) n
theorem SameT.same {P : Addr} {H H1 : Hp} (a : Same H H1) : SameT P H H1 := fun c o e _ => a c o e
def SameU (H H' : Hp) : Prop := (∀ b o,H b = some o → (∀ z,o ≠ .tbl z) → H' b = some o) ∧ ∀ b o,H b = some o → ∃ o',H' b = some o'
theorem SameU.refl (H : Hp) : SameU H H := ⟨fun _ _ e _ => e,fun _ o e => ⟨o,e⟩⟩
theorem SameU.trans {H H1 H2 : Hp} (a : SameU H H1) (b : SameU H1 H2) : SameU H H2 := ⟨fun c o e n => b.1 c o (a.1 c o e n) n,fun c o e => by
 obtain ⟨o1,e1⟩ := a.2 c o e
 exact b.2 c o1 e1⟩
theorem SameU.of {H H1 : Hp} (a : Same H H1) : SameU H H1 := ⟨fun c o e _ => a c o e,fun c o e => ⟨o,a c o e⟩⟩
theorem SameU.free {H H1 : Hp} {p : Addr} (a : SameU H H1) (h : H1 p = none) : H p = none := by
 cases e : H p with
 | none => rfl
 | some o =>
  obtain ⟨o',e'⟩ := a.2 p o e
  rw [h] at e'
  cases e'
theorem SameU.lst {H H1 : Hp} {p : Addr} {xs : List V} (a : SameU H H1) (e : H p = some (.lst xs)) : H1 p = some (.lst xs) := a.1 _ _ e fun _ z => nomatch z
theorem SameU.tup {H H1 : Hp} {p : Addr} {xs : List V} (a : SameU H H1) (e : H p = some (.tup xs)) : H1 p = some (.tup xs) := a.1 _ _ e fun _ z => nomatch z
theorem SameU.seq {K : PySem.W.Frag} {H H' : Hp} {a : Addr} {xs : List V} (s : SameU H H') (h : SqL K H a xs) : SqL K H' a xs := by
 rcases h with (h | ⟨o,h⟩) | h
 ·exact .inl (.inl (s.1 _ _ h fun _ z => nomatch z))
 ·exact .inl (.inr ⟨o,s.1 _ _ h fun _ z => nomatch z⟩)
 ·exact .inr h
theorem SameU.wr {H H1 : Hp} {p : Addr} {o : HO} (hp : H p = none) (s : SameU H H1) : SameU H (upd H1 p o) := ⟨fun b u e n => by
 rw [upd_ne (ne_of_none e hp)]
 exact s.1 _ _ e n,fun b u e => by
 rw [upd_ne (ne_of_none e hp)]
 exact s.2 _ _ e⟩
theorem LA.u {α : Type} {enc : α → List V} {H H' : Hp} {p : Addr} {xs : List α} (h : LA enc H p xs) (s : SameU H H') : LA enc H' p xs := h.mono s.1
theorem Callee.imp {P : Program} {w : World} {K : PySem.W.Frag} {mg : Str → Option Value} {base : Heap} {k : Nat} {x : Str} {ps : List Str} {sp sp' : Sp} (C : Callee P w K mg base k x ps sp) (h : ∀ vs H Q E,sp' vs H Q E → sp vs H Q E) : Callee P w K mg base k x ps sp' := by
 obtain ⟨f,fd,G,b,kp,m⟩ := C.ex
 exact ⟨f,fd,G.imp h,b,kp,m⟩
structure TB (T : Hp → Prop) : Prop where
 same : ∀ H H',T H → Same H H' → T H'
 wr : ∀ H p xs ys,T H → H p = some (.lst xs) → T (upd H p (.lst ys))
section
variable {H H' : Hp} {p : Addr} {R : List T3} {d : Int}
theorem la_mem {y : V} {vs : List V} (h : LA enc3 H p R) (hv : H p = some (.lst vs)) (hy : y ∈ vs) : ∃ r x,y = .ref r ∧ x ∈ R ∧ H r = some (.tup (enc3 x)) := by
 obtain ⟨vs',h1,h2,h3⟩ := h.lst
 rw [h1] at hv
 cases hv
 obtain ⟨i,hi⟩ := List.getElem?_of_mem hy
 obtain ⟨r,x,e1,e2,e3⟩ := h3 i y hi
 exact ⟨r,x,e1,List.mem_of_getElem? e2,e3⟩
theorem la_ev (h : LA enc3 H p R) : Ev H 3 (.ref p) := by
 obtain ⟨vs,h1,h2,h3⟩ := h.lst
 refine .lst h1 fun y hy => ?_
 obtain ⟨r,x,rfl,_,e⟩ := la_mem h h1 hy
 refine .tup e fun z hz => ?_
 simp only [enc3,List.mem_cons,List.not_mem_nil,or_false] at hz
 rcases hz with rfl | rfl | rfl <;> exact .int _
theorem la_lst {vs : List V} (h : LA enc3 H p R) (e : lstV H (.ref p) = some vs) : vs.length = R.length := by
 obtain ⟨ws,h1,h2,h3⟩ := h.lst
 rw [lstV_of h1] at e
 cases e
 exact h2
theorem la_dv3 (h : LA enc3 H p R) (hl : R.length ≤ 1000) : Dv3 H (.ref p) := Ev.d3 (n := 1) (la_ev h) fun zs e => by rw [la_lst h e]; exact hl
theorem la_board (h : LA enc3 H p R) (W : Ma.Wins d R) : boardV H d (.ref p) = true := by
 obtain ⟨vs,h1,h2,h3⟩ := h.lst
 unfold boardV
 rw [lstV_of h1]
 refine List.all_eq_true.mpr fun y hy => ?_
 obtain ⟨r,x,rfl,hx,e⟩ := la_mem h h1 hy
 obtain ⟨w0,w1,w2,w3⟩ := W x hx
 unfold winV
 rw [tupV_of e]
 simp [enc3,winL,w0,w1,w2,w3]
end
theorem cut_take (vs : List V) (h : Nat) (hh : h ≤ vs.length) : cutV vs none (some (h : Int)) = vs.take h := by
 unfold cutV HT.sIx
 have h0 : ¬ (h : Int) < 0 := by omega
 simp only [if_neg h0,Int.toNat_natCast,List.drop_zero,Nat.sub_zero]
 rw [Nat.min_eq_left hh]
theorem cut_drop (vs : List V) (h : Nat) (hh : h ≤ vs.length) : cutV vs (some (h : Int)) none = vs.drop h := by
 unfold cutV HT.sIx
 have h0 : ¬ (h : Int) < 0 := by omega
 simp only [if_neg h0,Int.toNat_natCast]
 rw [Nat.min_eq_left hh,List.take_of_length_le]
 rw [List.length_drop]
 exact Nat.le_refl _
theorem LA.part {α : Type} {enc : α → List V} {H H' : Hp} {p l : Addr} {xs : List α} {vs : List V} (h : LA enc H p xs) (s : Same H H') (hv : H p = some (.lst vs)) (lo hi : Nat) (e : H' l = some (.lst ((vs.drop lo).take hi))) : LA enc H' l ((xs.drop lo).take hi) := by
 obtain ⟨rs,h1,h2,h3⟩ := h.ex
 rw [h1] at hv
 cases hv
 refine ⟨(rs.drop lo).take hi,by rw [e,← List.map_drop,← List.map_take],by simp [h2],fun i r x e1 e2 => ?_⟩
 rw [List.getElem?_take] at e1 e2
 split at e1
 ·rw [List.getElem?_drop] at e1
  rename_i c
  rw [if_pos c,List.getElem?_drop] at e2
  exact s _ _ (h3 _ r x e1 e2)
 ·cases e1
theorem bt_none {d t : Int} {R : List T3} (h : Ma.bt d R t = none) : R = [] := by
 rcases Ma.bt_spec d t R with ⟨e,_⟩ | ⟨y,e,_⟩
 ·exact e
 ·rw [e] at h; cases h
end My
namespace L2
open PySem PySem.Spec PyProof.Rows
section
def Ris (xs : Array Nat) : Prop := xs.toList.Pairwise (· < ·)
theorem Ris.get {xs : Array Nat} (h : Ris xs) {i k : Nat} (hik : i < k) (hk : k < xs.size) : xs[i] < xs[k] := by
 have := List.pairwise_iff_getElem.mp h i k (by simp; omega) (by simpa using hk) hik
 simpa using this
theorem below_go {xs : Array Nat} {j : Nat} (hr : Ris xs) : ∀ (fuel lo hi : Nat),hi - lo ≤ fuel → lo ≤ hi → hi ≤ xs.size → (∀ i (h : i < xs.size),i < lo → xs[i] < j) → (∀ i (h : i < xs.size),hi ≤ i → ¬ xs[i] < j) →
  SetTable.below.go xs j fuel lo hi ≤ xs.size ∧ ∀ i (h : i < xs.size),xs[i] < j ↔ i < SetTable.below.go xs j fuel lo hi
 | 0,lo,hi,hf,hlh,hs,h1,h2 => by
  have e : lo = hi := by omega
  subst e
  refine ⟨hs,fun i h => ⟨fun z => ?_,fun z => h1 i h z⟩⟩
  rcases Nat.lt_or_ge i lo with a | a
  ·exact a
  ·exact absurd z (h2 i h a)
 | fuel + 1,lo,hi,hf,hlh,hs,h1,h2 => by
  unfold SetTable.below.go
  by_cases c : lo < hi
  ·rw [if_pos c]
   have hm : (lo + hi) / 2 < xs.size := by omega
   have hm2 : lo ≤ (lo + hi) / 2 ∧ (lo + hi) / 2 < hi := by omega
   have eg : xs.getD ((lo + hi) / 2) j = xs[(lo + hi) / 2] := by simp [Array.getD,hm]
   dsimp only
   rw [eg]
   by_cases c2 : xs[(lo + hi) / 2] < j
   ·rw [if_pos c2]
    refine below_go hr fuel _ hi (by omega) (by omega) hs (fun i h z => ?_) h2
    rcases Nat.lt_or_ge i ((lo + hi) / 2) with a | a
    ·exact Nat.lt_trans (hr.get a hm) c2
    ·have : i = (lo + hi) / 2 := by omega
     subst this
     exact c2
   ·rw [if_neg c2]
    refine below_go hr fuel lo _ (by omega) (by omega) (by omega) h1 fun i h z => ?_
    rcases Nat.lt_or_ge ((lo + hi) / 2) i with a | a
    ·have := hr.get a h
     omega
    ·have : i = (lo + hi) / 2 := by omega
     subst this
     exact c2
  ·rw [if_neg c]
   have e : lo = hi := by omega
   subst e
   refine ⟨hs,fun i h => ⟨fun z => ?_,fun z => h1 i h z⟩⟩
   rcases Nat.lt_or_ge i lo with a | a
   ·exact a
   ·exact absurd z (h2 i h a)
theorem below_is {xs : Array Nat} (hr : Ris xs) (j : Nat) : SetTable.below xs j ≤ xs.size ∧ ∀ i (h : i < xs.size),xs[i] < j ↔ i < SetTable.below xs j :=
 below_go hr xs.size 0 xs.size (by omega) (by omega) (Nat.le_refl _) (fun i _ z => absurd z (Nat.not_lt_zero _)) fun i h z => absurd h (by omega)
theorem below_free {xs : Array Nat} (hr : Ris xs) {j : Nat} (h : ¬ xs[SetTable.below xs j]? = some j) : ∀ i (hi : i < xs.size),xs[i] ≠ j := fun i hi e => by
 obtain ⟨b1,b2⟩ := below_is hr j
 have n1 : ¬ i < SetTable.below xs j := fun z => by
  have := (b2 i hi).mpr z
  omega
 have hb : SetTable.below xs j < xs.size := by omega
 have n2 : ¬ xs[SetTable.below xs j] < j := fun z => Nat.lt_irrefl _ ((b2 _ hb).mp z)
 have hne : xs[SetTable.below xs j] ≠ j := fun z => h (by rw [Array.getElem?_eq_getElem hb,z])
 rcases Nat.lt_or_ge (SetTable.below xs j) i with a | a
 ·have := hr.get a hi
  omega
 ·have : i = SetTable.below xs j := by omega
  subst this
  exact hne e
theorem ris_insert {xs : Array Nat} (hr : Ris xs) {j : Nat} (h : ∀ i (hi : i < xs.size),xs[i] ≠ j) : Ris (SetTable.insertAt xs (SetTable.below xs j) j) := by
 obtain ⟨b1,b2⟩ := below_is hr j
 unfold Ris
 rw [SetTable.toList_insertAt]
 have hl : ∀ x ∈ xs.toList.take (SetTable.below xs j),x < j := fun x hx => by
  obtain ⟨i,hi,e⟩ := List.mem_iff_getElem.mp hx
  rw [List.length_take] at hi
  rw [List.getElem_take] at e
  have hi' : i < xs.size := by simp at hi; omega
  have := (b2 i hi').mpr (by omega)
  rw [← e]
  simpa using this
 have hg : ∀ x ∈ xs.toList.drop (SetTable.below xs j),j < x := fun x hx => by
  obtain ⟨i,hi,e⟩ := List.mem_iff_getElem.mp hx
  rw [List.length_drop] at hi
  rw [List.getElem_drop] at e
  have hi' : SetTable.below xs j + i < xs.size := by simp at hi; omega
  have n1 : ¬ xs[SetTable.below xs j + i] < j := fun z => by
   have := (b2 _ hi').mp z
   omega
  have n2 := h _ hi'
  have e' : xs[SetTable.below xs j + i] = x := by simpa using e
  omega
 rw [List.pairwise_append]
 refine ⟨hr.sublist (List.take_sublist _ _),List.pairwise_cons.mpr ⟨hg,hr.sublist (List.drop_sublist _ _)⟩,fun x hx y hy => ?_⟩
 have h1 := hl x hx
 rcases List.mem_cons.mp hy with rfl | hy
 ·exact h1
 ·exact Nat.lt_trans h1 (hg y hy)
theorem ris_range (n : Nat) : Ris (Array.range n) := by
 unfold Ris
 rw [Array.toList_range]
 exact List.pairwise_lt_range
theorem ris_standIn (t : SetTable) (n : Nat) : Ris (t.standIn n).place := ris_range n
theorem slot_free {t : SetTable} (hr : Ris t.place) {j : Nat} (h : ∀ i,t.slot j ≠ .live i) : ∀ i (hi : i < t.place.size),t.place[i] ≠ j := by
 refine below_free hr fun e => ?_
 refine h (SetTable.below t.place j) ?_
 unfold SetTable.slot
 dsimp only
 rw [e]
 simp
theorem probe_go {t : SetTable} {f : Nat → Int} {h : Int} : ∀ (fuel : Nat) (p : SetTable.Probe) {j : Nat} {d : Option Nat},(∀ x,p.dummy = some x → t.slot x = .dummy) → SetTable.probe.go t f h fuel p = some (.empty j d) → t.slot j = .empty ∧ ∀ x,d = some x → t.slot x = .dummy
 | 0,p,j,d,_,e => by cases e
 | fuel + 1,p,j,d,hd,e => by
  have adv : ∀ q : SetTable.Probe,(t.advance q).dummy = q.dummy := fun q => by
   unfold SetTable.advance
   split <;> rfl
  unfold SetTable.probe.go at e
  cases hs : t.slot p.j with
  | empty =>
   rw [hs] at e
   dsimp only at e
   injection e with e
   injection e with e1 e2
   subst e1 e2
   exact ⟨hs,hd⟩
  | dummy =>
   rw [hs] at e
   dsimp only at e
   refine probe_go fuel _ (fun x hx => ?_) e
   rw [adv] at hx
   have : p.j = x := by simpa using hx
   rw [← this]
   exact hs
  | live i =>
   rw [hs] at e
   dsimp only at e
   split at e
   ·cases e
   ·refine probe_go fuel _ (fun x hx => ?_) e
    rw [adv] at hx
    exact hd x hx
theorem free_slot {t : SetTable} {h : Int} {j : Nat} {b : Bool} (e : t.freeSlot h = some (j,b)) : ∀ i,t.slot j ≠ .live i := by
 unfold SetTable.freeSlot at e
 cases hp : t.probe (fun _ => h + 1) h (t.probeStart h) with
 | none => rw [hp] at e; cases e
 | some m =>
  rw [hp] at e
  cases m with
  | candidate j' i nx => cases e
  | empty j' d =>
   dsimp only at e
   have pg := probe_go _ _ (fun x hx => by cases hx) hp
   injection e with e
   injection e with e1 e2
   intro i z
   cases d with
   | none =>
    have : j' = j := e1
    subst this
    rw [pg.1] at z
    cases z
   | some x =>
    have ex : x = j := e1
    subst ex
    rw [pg.2 x rfl] at z
    cases z
def TabX (led : Bool) (t : SetTable) : Prop := t.led = led ∧ Ris t.place
theorem layNew_x {led : Bool} {t : SetTable} {es : Array (Int × Value)} {h : Int} {x : Value} (ht : TabX led t) : TabX led (layNew t es h x).2.1 := by
 unfold layNew
 split
 ·rename_i slot wd e
  have fr := slot_free ht.2 (free_slot e)
  show TabX led ((t.put slot).1.orStandIn _)
  unfold SetTable.orStandIn
  split
  ·exact ⟨ht.1,ris_insert ht.2 fr⟩
  ·exact ⟨ht.1,ris_standIn _ _⟩
 ·exact ⟨ht.1,ris_standIn _ _⟩
theorem laid_x {mask finger moves : Nat} {led plain : Bool} {hs : Array Int} {t : SetTable} {order : Array Nat} (e : SetTable.laid mask finger moves led plain hs = some (t,order)) : TabX led t := by
 unfold SetTable.laid at e
 cases ho : SetTable.layClean mask hs with
 | none => rw [ho] at e; cases e
 | some owner =>
  rw [ho] at e
  have e : some (({ mask,place := (((List.range (mask + 1)).filterMap fun j => (owner.getD j none).map (j,·)).map (·.1)).toArray,dummies := #[],finger,led,moves,plain } : SetTable),(((List.range (mask + 1)).filterMap fun j => (owner.getD j none).map (j,·)).map (·.2)).toArray) = some (t,order) := e
  injection e with e
  injection e with e1 e2
  subst e1
  refine ⟨rfl,?_⟩
  show ((((List.range (mask + 1)).filterMap fun j => (owner.getD j none).map (j,·)).map (·.1))).Pairwise (· < ·)
  have sub : ∀ l : List Nat,((l.filterMap fun j => (owner.getD j none).map (j,·)).map (·.1)).Sublist l := by
   intro l
   induction l with
   | nil => exact List.Sublist.refl _
   | cons a l ih =>
    rw [List.filterMap_cons]
    cases owner.getD a none with
    | none => exact List.Sublist.cons _ ih
    | some y => exact List.Sublist.cons_cons _ ih
  exact List.Pairwise.sublist (sub _) List.pairwise_lt_range
theorem relayAll_x {led : Bool} {t : SetTable} {es : Array (Int × Value)} {n : Nat} (ht : TabX led t) : TabX led (relayAll t es n).2.1 := by
 unfold relayAll
 split
 ·rename_i t' order e
  dsimp only
  split
  ·have := laid_x e
   rw [ht.1] at this
   exact this
  ·exact ⟨ht.1,ris_standIn _ _⟩
 ·exact ⟨ht.1,ris_standIn _ _⟩
end
section
variable {prog : Program} {w : World} {A : Around} {E : Value → Shared → Prop} {s : Shared}
def keyV : Value → Int
 | .int n _ => n
 | _ => 0
def byText (w : World) : Bool := w.params.followText "set-order"
structure SetO (prog : Program) (w : World) (o : Obj) (es : Array (Int × Value)) (ep : Nat) (t : SetTable) (ks : List Int) : Prop where
 ex : o.ExactSet
 dt : o.data = .set es ep t
 el : ElemsOf (intKind prog w) es.toList
 sb : es.size < scanBound
 ft : t.fits es.size = true
 tx : TabX (!byText w) t
 pm : (es.toList.map fun e => keyV e.2).Perm ks
 nd : ks.Nodup
def SetX (prog : Program) (w : World) (h : Heap) (a : Addr) (ks : List Int) : Prop := ∃ o es ep t,h.get? a = some o ∧ SetO prog w o es ep t ks
def addK (ks : List Int) (k : Int) : List Int := if k ∈ ks then ks else ks ++ [k]
theorem key_is {k : Int} {v : Value} (h : (intKind prog w).is k v = true) : keyV v = k ∧ ∃ t,v = .int k t := by
 obtain ⟨t,rfl⟩ := Value.isInt_shape h
 exact ⟨rfl,t,rfl⟩
theorem storeX {h : Heap} {a : Addr} {o : Obj} {es es' : Array (Int × Value)} {ep : Nat} {t t' : SetTable} {ks ks' : List Int} (ho : h.get? a = some o) (X : SetO prog w o es ep t ks) (hel : ElemsOf (intKind prog w) es'.toList) (hb : es'.size < scanBound) (hf : t'.fits es'.size = true) (hx : TabX (!byText w) t') (hp : (es'.toList.map fun e => keyV e.2).Perm ks') (nd : ks'.Nodup) :
  (h.update a (Obj.putSet es' t')).get? a = some { o with data := .set es' (ep + 1) t' } ∧ SetO prog w { o with data := .set es' (ep + 1) t' } es' (ep + 1) t' ks' := by
 have hg : (h.update a (Obj.putSet es' t')).get? a = some { o with data := .set es' (ep + 1) t' } := by
  have := Heap.get?_update_self (Obj.putSet es' t') ho (by rw [putSet_of es' t' X.dt]; rfl)
  rw [putSet_of es' t' X.dt] at this
  exact this
 exact ⟨hg,⟨X.ex,rfl,hel,hb,hf,hx,hp,nd⟩⟩
theorem add_tailX {g : Bool → Sem Unit} (hg : ∀ (b : Bool) (s₁ : Shared) (Q' : Unit → Shared → Prop),Q' () s₁ → wpAny (model prog w) A (g b) Q' E s₁) {a : Addr} {o : Obj} {es es1 : Array (Int × Value)} {ep : Nat} {t t2 : SetTable} {ks ks' : List Int} (ho : s.heap.get? a = some o) (X : SetO prog w o es ep t ks)
  (hel1 : ElemsOf (intKind prog w) es1.toList) (hb1 : es1.size < scanBound) (hf2 : t2.fits es1.size = true) (hx : TabX (!byText w) t2) (hp1 : (es1.toList.map fun e => keyV e.2).Perm ks') (nd : ks'.Nodup) {wasDummy : Bool} {R : Option Bool → Shared → Prop}
  (h : ∀ h',Heap.SameBut a s.heap h' → SetX prog w h' a ks' → R (some true) { s with heap := h' }) :
  wpAny (model prog w) A (do
    storeSet a es1 t2
    if (!wasDummy && t2.tooFull) = true then do
      g (relayAll t2 es1 (SetTable.grown es1.size)).2.2
      storeSet a (relayAll t2 es1 (SetTable.grown es1.size)).1 (relayAll t2 es1 (SetTable.grown es1.size)).2.1
      pure (some true)
     else pure (some true)) R E s := by
 refine wpAny_bind (wpAny_storeSet_of ho X.dt ?_ (fits_of_scanBound hb1))
 obtain ⟨ho1,X1⟩ := storeX ho X hel1 hb1 hf2 hx hp1 nd
 have hsb1 := Heap.SameBut.update s.heap a (Obj.putSet es1 t2)
 split
 ·have hp := relayAll_perm t2 es1 (SetTable.grown es1.size)
  have hfr := relayAll_fits t2 es1 (SetTable.grown es1.size)
  have hxr := relayAll_x (es := es1) (n := SetTable.grown es1.size) hx
  generalize relayAll t2 es1 (SetTable.grown es1.size) = Rl at hp hfr hxr ⊢
  obtain ⟨es2,t3,gave2⟩ := Rl
  dsimp only at hp hfr hxr ⊢
  have hsz : es2.size = es1.size := by rw [← Array.length_toList,hp.length_eq,Array.length_toList]
  have hb2 : es2.size < scanBound := by rw [hsz]; exact hb1
  refine wpAny_bind (hg _ _ _ ?_)
  refine wpAny_bind (wpAny_storeSet_of ho1 rfl ?_ (fits_of_scanBound hb2))
  obtain ⟨ho2,X2⟩ := storeX ho1 X1 (hel1.perm hp) hb2 hfr hxr ((hp.map _).trans hp1) nd
  exact wpAny_pure (h _ (hsb1.trans (Heap.SameBut.update _ a _)) ⟨_,_,_,_,ho2,X2⟩)
 ·exact wpAny_pure (h _ hsb1 ⟨_,_,_,_,ho1,X1⟩)
theorem add_x {a : Addr} {ks : List Int} {k : Int} {tk : Tok} {Q : Bool → Shared → Prop} (hS : SetX prog w s.heap a ks) (hroom : ks.length + 1 < scanBound) (h : ∀ (b : Bool) h',Heap.SameBut a s.heap h' → SetX prog w h' a (addK ks k) → Q b { s with heap := h' }) :
  wpAny (model prog w) A (setAddHashed a (.int k tk) ((intKind prog w).hash k)) Q E s := by
 obtain ⟨o,es,ep,t,ho,X⟩ := hS
 have hsz : es.size = ks.length := by
  have := X.pm.length_eq
  simpa using this
 have hb1 : es.size + 1 < scanBound := by omega
 have hkey := intKind_is prog w k tk
 unfold setAddHashed setAddHashedIn
 refine wpAny_holding (wpAny_bind (wpAny_setState_of ho X.dt X.ft ?_))
 dsimp only
 rw [byScan_of (knd := intKind prog w) (x := .int k tk) rfl X.sb X.el]
 simp only [↓reduceIte]
 unfold setAddByScan
 refine wpAny_bind ?_
 refine wpAny_bind (wpAny_rule ?_)
 refine wpAny_bind (wpAny_setScan_of hkey ho X.dt X.ft X.el ?_)
 have there : ∀ e ∈ es.toList,(intKind prog w).is k e.2 = true → k ∈ ks := fun e he z => by
  have : keyV e.2 ∈ es.toList.map fun e => keyV e.2 := List.mem_map.mpr ⟨e,he,rfl⟩
  rw [(key_is z).1] at this
  exact X.pm.mem_iff.mp this
 cases hr : List.findIdx? (fun e => (intKind prog w).is k e.2) es.toList with
 | some j =>
  dsimp only
  obtain ⟨hj,hpj,_⟩ := List.findIdx?_eq_some_iff_getElem.mp hr
  have hk := there _ (List.getElem_mem hj) hpj
  refine wpAny_pure (wpAny_pure ?_)
  have e : s = { s with heap := s.heap } := by cases s; rfl
  rw [e]
  refine h _ s.heap (Heap.SameBut.refl a s.heap) ?_
  unfold addK
  rw [if_pos hk]
  exact ⟨o,es,ep,t,ho,X⟩
 | none =>
  dsimp only
  have hk : k ∉ ks := fun z => by
   have := X.pm.mem_iff.mpr z
   obtain ⟨e,he,ek⟩ := List.mem_map.mp this
   obtain ⟨⟨k',hk',_⟩,_⟩ := X.el e he
   have e1 := (key_is hk').1
   have ek : keyV e.2 = k := ek
   have : k' = k := e1.symm.trans ek
   subst this
   have := List.findIdx?_eq_none_iff.mp hr e he
   rw [hk'] at this
   cases this
  have ea : addK ks k = ks ++ [k] := if_neg hk
  have nd : (ks ++ [k]).Nodup := by
   rw [List.nodup_append]
   refine ⟨X.nd,by simp,fun x hx y hy => ?_⟩
   have : y = k := by simpa using hy
   intro z
   exact hk (by rw [← this,← z]; exact hx)
  have hgw : ∀ (b : Bool) {s₁ : Shared} {Q' : Unit → Shared → Prop},Q' () s₁ → wpAny (model prog w) A (match b with | true => rule "set.scan.the-table-gave-way" | false => pure ()) Q' E s₁ :=
   fun b s₁ Q' hq => by cases b <;> first | exact wpAny_pure hq | exact wpAny_rule hq
  have hperm := layNew_perm t es ((intKind prog w).hash k) (.int k tk)
  have hfits := layNew_fits t es ((intKind prog w).hash k) (.int k tk)
  have hxx := layNew_x (es := es) (h := (intKind prog w).hash k) (x := .int k tk) X.tx
  generalize layNew t es ((intKind prog w).hash k) (.int k tk) = L at hperm hfits hxx ⊢
  obtain ⟨es1,t1,wasDummy,gave⟩ := L
  dsimp only at hperm hfits hxx ⊢
  rw [Array.toList_push] at hperm
  have hel1 : ElemsOf (intKind prog w) es1.toList := (X.el.push hkey rfl).perm hperm
  have hb1' : es1.size < scanBound := by rw [← Array.length_toList,hperm.length_eq,List.length_append,Array.length_toList]; simpa using hb1
  have hp1 : (es1.toList.map fun e => keyV e.2).Perm (ks ++ [k]) := by
   refine (hperm.map _).trans ?_
   rw [List.map_append]
   exact X.pm.append_right _
  have hend : ∀ h',Heap.SameBut a s.heap h' → SetX prog w h' a (ks ++ [k]) → Q true { s with heap := h' } := fun h' hsb hS' => h true h' hsb (by rw [ea]; exact hS')
  refine wpAny_bind (hgw _ ?_)
  split
  ·refine wpAny_bind ?_
   rw [hashByValue_scannable 8 rfl]
   refine wpAny_pure ?_
   refine add_tailX ?_ ho X hel1 hb1' ?_ ?_ hp1 nd ?_
   ·intro b s₁ Q' hq; cases b <;> first | exact wpAny_pure hq | exact wpAny_rule hq
   ·split
    ·exact hfits
    ·exact SetTable.fits_plain_off hfits
   ·split
    ·exact hxx
    ·exact hxx
   ·intro h' hsb hS'; dsimp only; exact wpAny_pure (hend h' hsb hS')
  ·refine wpAny_bind (wpAny_pure ?_)
   simp only [↓reduceIte]
   refine add_tailX ?_ ho X hel1 hb1' hfits hxx hp1 nd ?_
   ·intro b s₁ Q' hq; cases b <;> first | exact wpAny_pure hq | exact wpAny_rule hq
   ·intro h' hsb hS'; dsimp only; exact wpAny_pure (hend h' hsb hS')
end
section
variable {prog : Program} {w : World} {A : Around} {R : Result → Shared → Prop} {I : Addr} {fp wr : List Addr} {G : Array GenState → Array GenState → Prop} {n : Nat} {P : Nat → Value → Prop} {St : Nat → Shared → Prop}
def addAll (val : Nat → Int) : Nat → List Int
 | 0 => []
 | i + 1 => addK (addAll val i) (val i)
theorem addAll_len (val : Nat → Int) : ∀ i,(addAll val i).length ≤ i
 | 0 => Nat.le_refl _
 | i + 1 => by
  have := addAll_len val i
  show (addK (addAll val i) (val i)).length ≤ i + 1
  unfold addK
  split
  ·omega
  ·rw [List.length_append,List.length_singleton]
   omega
theorem addAll_mem (val : Nat → Int) {k : Int} : ∀ {i : Nat},k ∈ addAll val i ↔ ∃ j,j < i ∧ val j = k
 | 0 => ⟨fun h => (by cases h),fun ⟨j,h,_⟩ => absurd h (Nat.not_lt_zero _)⟩
 | i + 1 => by
  have ih := addAll_mem val (k := k) (i := i)
  have e : k ∈ addK (addAll val i) (val i) ↔ k ∈ addAll val i ∨ val i = k := by
   unfold addK
   split
   ·rename_i h
    exact ⟨.inl,fun z => z.elim id fun z => z ▸ h⟩
   ·rw [List.mem_append,List.mem_singleton]
    exact ⟨fun z => z.imp id Eq.symm,fun z => z.imp id Eq.symm⟩
  show k ∈ addK (addAll val i) (val i) ↔ _
  rw [e,ih]
  constructor
  ·rintro (⟨j,h,z⟩ | z)
   ·exact ⟨j,by omega,z⟩
   ·exact ⟨i,by omega,z⟩
  ·rintro ⟨j,h,z⟩
   rcases Nat.lt_or_ge j i with a | a
   ·exact .inl ⟨j,a,z⟩
   ·have : j = i := by omega
    subst this
    exact .inr z
theorem SetX.moved {h h' : Heap} {a : Addr} {ks : List Int} (x : SetX prog w h a ks) (k : ∀ o,h.get? a = some o → h'.get? a = some o) : SetX prog w h' a ks := by
 obtain ⟨o,es,ep,t,ho,X⟩ := x
 exact ⟨o,es,ep,t,k o ho,X⟩
theorem update_loopX (W : WalksS prog w A.in1 I fp wr G n P St) (S : Addr) (hSf : S ∉ fp) (val : Nat → Int) (hval : ∀ i v,P i v → ∃ t,v = .int (val i) t) (hb : n + 1 < scanBound) :
  ∀ (k i : Nat) (s : Shared),n - i = k → i ≤ n → St i s → SetX prog w s.heap S (addAll val i) →
   (∀ s',Moved (S :: wr) G s s' → SetX prog w s'.heap S (addAll val n) → R (.ok (.ret .none)) s') →
   codeAny (model prog w) A (.builtin "set.update.loop" ⟨[.ref S,.ref I],[]⟩) R s := by
 have hSw : S ∉ wr := fun h => hSf (W.sub _ h)
 have hsub : ∀ b ∈ wr,b ∈ S :: wr := fun b hb => List.mem_cons_of_mem _ hb
 intro k
 induction k with
 | zero =>
  intro i s hk hi hst hS hR
  have hin : i = n := by omega
  subst hin
  refine codeAny_builtin PyProof.Rows.F.entry_set_update_loop ?_
  rw [Around.under_plainId PyProof.Rows.F.plain_set_update_loop _]
  show wpAny _ A.in1 (pyNext (.ref I) >>= _) _ _ s
  refine wpAny_bind (W.done s _ _ hst fun s' hm => ?_)
  show wpAny _ A.in1 (ret Value.none) _ _ s'
  exact wpAny_pure (hR s' (hm.mono hsub) (hS.moved fun o ho => hm.heap S _ hSw ho))
 | succ k ih =>
  intro i s hk hi hst hS hR
  have hlt : i < n := by omega
  refine codeAny_builtin PyProof.Rows.F.entry_set_update_loop ?_
  rw [Around.under_plainId PyProof.Rows.F.plain_set_update_loop _]
  show wpAny _ A.in1 (pyNext (.ref I) >>= _) _ _ s
  refine wpAny_bind (W.item i s _ _ hlt hst fun v s' hP hst' hm => ?_)
  obtain ⟨t,rfl⟩ := hval i v hP
  have hS' : SetX prog w s'.heap S (addAll val i) := hS.moved fun o ho => hm.heap S _ hSw ho
  show wpAny _ A.in1 (holding [Value.int (val i) t] (setAdd S (.int (val i) t)) >>= _) _ _ s'
  refine wpAny_bind (wpAny_holding ?_)
  unfold setAdd
  refine wpAny_holding ?_
  refine wpAny_bind ((intKind prog w).pyHash (k := val i) (intKind_is _ _ _ _) ?_)
  have hroom : (addAll val i).length + 1 < scanBound := by have := addAll_len val i; omega
  refine add_x (s := { s' with toks := s'.toks + 1 }) hS' hroom fun b h' hsb hS2 => ?_
  refine wpAny_pure ⟨plainId_quiet PyProof.Rows.F.plain_set_update_loop _,ih (i + 1) _ (by omega) hlt (W.frame _ s' _ _ hst' (Nat.le_succ _) fun b hb o e => ?_) hS2 fun s'' hm'' hS'' => ?_⟩
  ·rw [hsb.2 b (fun h : b = S => hSf (by rw [← h]; exact hb))]; exact e
  ·refine hR s'' (Moved.trans W.gtrans ((hm.mono hsub).then_heap (Nat.le_succ _) fun b o hb e => ?_) hm'') hS''
   rw [hsb.2 b (fun h : b = S => hb (by rw [h]; exact List.mem_cons_self))]; exact e
end
section
variable {prog : Program} {w : World} {A : Around} {E : Value → Shared → Prop} {s : Shared}
theorem set_newX (a : Value) {Q₁ : Value → Shared → Prop}
  (h : Q₁ (.ref s.heap.objs.size) { s with heap := s.heap.push { cls := .type "set",dict := none,data := .set #[] 0 (.fresh 0 0 (!byText w)) } }) :
  codeAny (model prog w) A (.call (.builtin "set.__new__") ⟨[.type "set",a],[]⟩) (wants Q₁ E) s := by
 refine codeAny_of_tree ?_
 show wpAny _ A.in1 (do checkBuiltinCall "set.__new__" ⟨[.type "set",a],[]⟩; again (.builtin "set.__new__" ⟨[.type "set",a],[]⟩)) _ _ s
 refine wpAny_bind (wpAny_of_eq (PySem.F.newCall_set_1 a) (wpAny_pure ⟨plainId_quiet PySem.F.plain_set_new _,codeAny_builtin PySem.F.entry_set_new ?_⟩))
 rw [Around.under_plainId PySem.F.plain_set_new _]
 unfold Builtin.«set.__new__» Builtin.Frozenset.newClass
 have hsub := sub_set_self
 obtain ⟨hp,g,d,tk,os⟩ := s
 dsimp only
 wp_walk
 refine wpAny_askSetting (wpAny_pure ?_)
 dsimp only
 simp only [newObj]
 refine wpAny_bind (wpAny_alloc (wpAny_pure ?_))
 exact wpAny_pure h
set_option maxRecDepth 100000 in
set_option maxHeartbeats 3200000 in
theorem call_set_x {l : Addr} {items : Array Value} {ns : List Int} {Q : Value → Shared → Prop} (hh : A.handled = none) (hl : s.heap.IsList l items) (hi : PyProof.Rows.IntsAre items.toList ns) (hb : items.size + 1 < scanBound)
  (h : ∀ (h' : Heap) (tk : Nat),SetX prog w h' s.heap.objs.size (addAll (fun i => ns.getD i 0) items.size) → (∀ b o,b < s.heap.objs.size → s.heap.get? b = some o → h'.get? b = some o) → Q (.ref s.heap.objs.size) { s with heap := h',toks := tk }) :
  wpAny (model prog w) A (call (.type "set") [.ref l]) Q E s := by
 obtain ⟨c,tl,hmro⟩ := PySem.F.called_set.mro
 have hmade := PySem.F.called_set.made
 have hsub := PySem.F.called_set.sub
 refine wpAny_call (codeAny_of_tree ?_)
 show wpAny _ _ (callAny (.type "set") _) _ _ _
 refine wpAny_pure ⟨Code.quiet_builtin _ (by decide +kernel),codeAny_builtin PySem.F.entry_type_call ?_⟩
 rw [Around.under_plain (weight_type_call_type "set" [.ref l] []) rfl]
 have h1 := PySem.F.called_set.notType
 have h2 := PySem.F.called_set.canCreate
 have hct := PySem.F.typeCall_set_1 (.ref l)
 repeat (any_goals (first | assumption | wp_step))
 refine codeAny_mono (set_newX (.ref l) (E := E) (Q₁ := fun obj s₁ => obj = .ref s.heap.objs.size ∧ s₁ = { s with heap := s.heap.push { cls := .type "set",dict := none,data := .set #[] 0 (.fresh 0 0 (!byText w)) } }) ⟨rfl,rfl⟩) fun r s₁ hr => ?_
 cases r with
 | error e => exact hr
 | ok fl =>
  cases fl with
  | ret obj =>
   obtain ⟨rfl,rfl⟩ := hr
   generalize hled : (!byText w) = led at *
   have hS : (s.heap.push { cls := .type "set",dict := none,data := .set #[] 0 (.fresh 0 0 led) }).get? s.heap.objs.size = some { cls := .type "set",dict := none,data := .set #[] 0 (.fresh 0 0 led) } := Heap.get?_push_size _ rfl
   have hT : Shared.TypeIs { s with heap := s.heap.push { cls := .type "set",dict := none,data := .set #[] 0 (.fresh 0 0 led) } } (.ref s.heap.objs.size) "set" := ⟨_,hS,rfl⟩
   have hli := PySem.F.called_set.init.lookup
   have hbi := PySem.F.called_set.init.bind (.ref s.heap.objs.size)
   repeat (any_goals (first | assumption | wp_step))
   refine codeAny_mono (codeAny_call_builtin (R := wants (fun r s₂ => r = .none ∧ ∃ h' tk,s₂ = { s with heap := h',toks := tk } ∧ SetX prog w h' s.heap.objs.size (addAll (fun i => ns.getD i 0) items.size) ∧
     (∀ b o,b < s.heap.objs.size → s.heap.get? b = some o → h'.get? b = some o)) E) PySem.F.called_set.init.plain PySem.F.entry_set_init (check_set_init_1 hT ?_)) fun r₂ s₂ hr₂ => ?_
   ·obtain ⟨ol,hol,hcl,nl,hdl⟩ := hl
    obtain ⟨ocls,odict,odata,oslots⟩ := ol
    simp only at hcl hdl
    subst hcl; subst hdl
    have hol' : (s.heap.push { cls := .type "set",dict := none,data := .set #[] 0 (.fresh 0 0 led) }).get? l = some { cls := .type "list",dict := odict,data := .seq items nl,slots := oslots } := Heap.get?_push_of_some _ hol
    have hsls := PySem.F.sub_list_set
    have hslf := PySem.F.sub_list_frozenset
    have hne : (Value.type "list" == Value.type "dict") = false := by decide
    have hl1 : (s.heap.push { cls := .type "set",dict := none,data := .set #[] 0 (.fresh 0 0 led) }).IsList l items := ⟨_,hol',rfl,nl,rfl⟩
    unfold Builtin.«set.__init__» noKeywords Builtin.Frozenset.updateFrom
    generalize hPI : pyIter = PI
    wp_walk
    subst hPI
    refine wpAny_pyIter_list hl1 ?_
    refine wpAny_bind (wpAny_runValue ?_)
    have hlS : l < s.heap.objs.size := Heap.lt_size hol
    have hh3 : A.in1.in1.in1.handled = none := by simp [hh]
    have hneI : l ≠ (s.heap.push { cls := .type "set",dict := none,data := .set #[] 0 (.fresh 0 0 led) }).objs.size := by
     rw [Heap.size_push]; exact Nat.ne_of_lt (Nat.lt_succ_of_lt hlS)
    have hSf : s.heap.objs.size ∉ [(s.heap.push { cls := .type "set",dict := none,data := .set #[] 0 (.fresh 0 0 led) }).objs.size,l] := by
     rw [Heap.size_push]; simp only [List.mem_cons,List.mem_singleton,List.not_mem_nil,or_false,not_or]
     exact ⟨Nat.ne_of_lt (Nat.lt_succ_self _),Nat.ne_of_gt hlS⟩
    have hval : ∀ (i : Nat) (v : Value),items[i]? = some v → ∃ t,v = .int ((fun i => ns.getD i 0) i) t := fun i v hv =>
     PyProof.Rows.IntsAre.int_at hi i v (by rw [Array.getElem?_toList]; exact hv)
    refine update_loopX ((Walks.list hh3 _ l hneI items).toS) s.heap.objs.size
     hSf (fun i => ns.getD i 0) hval hb (items.size - 0) 0 _ (by omega) (Nat.zero_le _)
     ⟨⟨_,Heap.get?_push_size _ rfl,rfl,rfl⟩,(hl1.push _)⟩ ?hS0 ?hR
    case hS0 =>
     have hget : ((s.heap.push { cls := .type "set",dict := none,data := .set #[] 0 (.fresh 0 0 led) }).push { cls := .type "list_iterator",data := .fields #[.ref l,.int 0 0] }).get? s.heap.objs.size
       = some { cls := .type "set",dict := none,data := .set #[] 0 (.fresh 0 0 led) } := Heap.get?_push_of_some _ hS
     exact ⟨_,#[],0,_,hget,⟨⟨rfl,rfl,rfl⟩,rfl,fun e he => (by simp at he),(by decide),rfl,⟨hled.symm,List.Pairwise.nil⟩,List.Perm.nil,List.nodup_nil⟩⟩
    case hR =>
     intro s' hm hS'
     obtain ⟨h',g',d',tk',os'⟩ := s'
     have eg : g' = s.gens := hm.gens
     have ed : d' = s.drawn := hm.drawn
     have eo : os' = s.os := hm.os
     subst eg; subst ed; subst eo
     show wpAny _ _ _ _ _ _
     refine wpAny_pure ?_
     show wpAny _ _ (ret Value.none) _ _ _
     refine wpAny_pure ⟨rfl,h',tk',rfl,hS',fun b o hb e => ?_⟩
     have hb1 : b ≠ s.heap.objs.size := Nat.ne_of_lt hb
     have hb2 : b ≠ (s.heap.push { cls := .type "set",dict := none,data := .set #[] 0 (.fresh 0 0 led) }).objs.size := by
      rw [Heap.size_push]; exact Nat.ne_of_lt (Nat.lt_succ_of_lt hb)
     exact hm.heap b o (by simp only [List.mem_cons,List.mem_singleton,List.not_mem_nil,or_false,not_or]; exact ⟨hb1,hb2⟩) (Heap.get?_push_of_some _ (Heap.get?_push_of_some _ e))
   ·cases r₂ with
    | error e => exact hr₂
    | ok fl₂ =>
     cases fl₂ with
     | ret r =>
      obtain ⟨rfl,h',tk,rfl,hS',hk'⟩ := hr₂
      repeat (any_goals (first | assumption | wp_step))
      exact h _ _ hS' hk'
     | _ => exact hr₂.elim
  | _ => exact hr.elim
end
end L2
namespace L2
open PySem PySem.Spec PyProof.Rows
section
set_option maxRecDepth 100000
theorem sl_sitNext : Slot "set_iterator" "__next__" "set_iterator.__next__" :=
 .of (owner := "set_iterator") (n := "__next__") (by rw [typeLookup_type,builtinLookup_eq_fast]; kernel_rfl) (by decide +kernel) (by decide +kernel) (by decide +kernel) (by first | exact .inl (by decide +kernel) | exact .inr (by decide +kernel)) (by rw [isSubtype_type]; kernel_rfl)
theorem sl_sitIter : Slot "set_iterator" "__iter__" "set_iterator.__iter__" :=
 .of (owner := "set_iterator") (n := "__iter__") (by rw [typeLookup_type,builtinLookup_eq_fast]; kernel_rfl) (by decide +kernel) (by decide +kernel) (by decide +kernel) (by first | exact .inl (by decide +kernel) | exact .inr (by decide +kernel)) (by rw [isSubtype_type]; kernel_rfl)
theorem en_sitNext : entryFor table "set_iterator.__next__" = some Builtin.«set_iterator.__next__» := entryFor_of_fast (by kernel_rfl)
theorem en_sitIter : entryFor table "set_iterator.__iter__" = some Builtin.«dict_keyiterator.__iter__» := entryFor_alias (id' := "dict_keyiterator.__iter__") (by kernel_rfl) rfl (by decide +kernel) (by kernel_rfl)
theorem en_setIter : entryFor table "set.__iter__" = some Builtin.«frozenset.__iter__» := entryFor_alias (id' := "frozenset.__iter__") (by kernel_rfl) rfl (by decide +kernel) (by kernel_rfl)
theorem ar_sitNext (a : Value) : argsOk "set_iterator.__next__" ⟨[a],[]⟩ := by unfold argsOk; kernel_rfl
theorem ar_sitIter (a : Value) : argsOk "set_iterator.__iter__" ⟨[a],[]⟩ := by unfold argsOk; kernel_rfl
end
section
variable {prog : Program} {w : World} {A : Around} {E : Value → Shared → Prop} {s : Shared}
theorem choose_any {M : Model} {src : Source} {n : Nat} {Q : Nat → Shared → Prop} (hn : n ≠ 0) (h : ∀ i,i < n → Q i { s with drawn := s.drawn.bump src }) : wpAny M A (choose src n) Q E s :=
 fun _ _ _ => ⟨hn,h _ (Nat.mod_lt _ (Nat.pos_of_ne_zero hn))⟩
theorem erase_perm {α : Type} {l : List α} {i : Nat} (h : i < l.length) : (l[i] :: l.eraseIdx i).Perm l := by
 have e : l = l.take i ++ l[i] :: l.drop (i + 1) := by rw [List.getElem_cons_drop,List.take_append_drop]
 rw [List.eraseIdx_eq_take_drop_succ]
 conv => rhs; rw [e]
 exact List.perm_middle.symm
theorem pick_go {α : Type} (nx : Nat → Nat) : ∀ (fuel k : Nat) (left : List α) (out : Array α),left.length = fuel → (pickOrder.go nx fuel k left out).toList.Perm (out.toList ++ left)
 | 0,k,left,out,hl => by
  have : left = [] := List.length_eq_zero_iff.mp hl
  subst this
  unfold pickOrder.go
  simp
 | fuel + 1,k,left,out,hl => by
  have hj : nx k % left.length < left.length := Nat.mod_lt _ (by omega)
  unfold pickOrder.go
  rw [List.getElem?_eq_getElem hj]
  dsimp only
  refine (pick_go nx fuel (k + 1) _ _ (by rw [List.length_eraseIdx_of_lt hj]; omega)).trans ?_
  rw [Array.toList_push,List.append_assoc]
  exact List.Perm.append_left _ (erase_perm hj)
theorem pick_perm {α : Type} (nx : Nat → Nat) (xs : Array α) : (pickOrder nx xs).toList.Perm xs.toList := by
 have := pick_go nx xs.size 0 xs.toList #[] (by simp)
 simpa [pickOrder] using this
theorem draw_order {M : Model} {α : Type} : ∀ (n : Nat) (xs : List α) {s : Shared} {Q : List α → Shared → Prop},xs.length = n → (∀ ys d,ys.Perm xs → Q ys { s with drawn := d }) → wpAny M A (drawOrder n xs) Q E s
 | 0,xs,s,Q,hl,h => by
  have : xs = [] := List.length_eq_zero_iff.mp hl
  subst this
  unfold drawOrder
  exact wpAny_pure (h [] s.drawn (List.Perm.refl _))
 | n + 1,[],s,Q,hl,h => by cases hl
 | n + 1,x :: xs,s,Q,hl,h => by
  unfold drawOrder
  refine wpAny_bind (choose_any (by simp) fun i hi => ?_)
  rw [List.getElem?_eq_getElem hi]
  dsimp only
  refine wpAny_bind (draw_order n _ (by rw [List.length_eraseIdx_of_lt hi]; omega) fun ys d hp => ?_)
  exact wpAny_pure (h _ d ((List.Perm.cons _ hp).trans (erase_perm hi)))
abbrev SetIt (h : Heap) (I S : Addr) (first : Value) (i n ep : Nat) : Prop := h.get? I = some { cls := .type "set_iterator",dict := none,data := .fields #[first,.int i 0,.ref S,.int n 0,.int ep 0],slots := #[] }
theorem sit_item {I S : Addr} {slot slot' i n ep : Nat} {x : Value} {o : Obj} {es : Array (Int × Value)} {t : SetTable} {Q : Option Value → Shared → Prop} (hit : SetIt s.heap I S (.int slot 0) i n ep) (ho : s.heap.get? S = some o) (hd : o.data = .set es ep t) (hf : t.fits es.size = true) (hn : n = es.size)
  (hnx : ∀ (A : Around) (E : Value → Shared → Prop) (Q : Option (Value × Nat) → Shared → Prop),Q (some (x,slot')) s → wpAny (model prog w) A (setNext S slot i ep) Q E s) (hQ : ∀ h',SetIt h' I S (.int slot' 0) (i + 1) n ep → Heap.SameBut I s.heap h' → Q (some x) { s with heap := h' }) :
  wpAny (model prog w) A (pyNext (.ref I)) Q E s := by
 have hT : s.TypeIs (.ref I) "set_iterator" := ⟨_,hit,rfl⟩
 unfold pyNext
 refine wpAny_bind (wpAny_attempt (wpAny_callSpecial?_slot (name := Str.ofString "__next__") hT sl_sitNext (wpAny_call_entry sl_sitNext hT en_sitNext ?_ (ar_sitNext _))))
 unfold Builtin.«set_iterator.__next__»
 refine wpAny_bind (wpAny_pure ?_)
 refine wpAny_bind (wpAny_fieldsOf hit rfl ?_)
 dsimp only
 refine wpAny_bind ?_
 unfold setEntries
 refine wpAny_bind (wpAny_setState_of ho hd hf (wpAny_pure ?_))
 rw [if_neg (by rw [hn]; simp)]
 refine wpAny_bind (hnx _ _ _ ?_)
 dsimp only
 refine wpAny_bind (wpAny_setField_rec hit (by simp) fun h1 he1 hs1 => ?_)
 refine wpAny_bind (wpAny_setField_rec (s := { s with heap := h1 }) he1 (by simp) fun h2 he2 hs2 => ?_)
 refine wpAny_pure ⟨_,rfl,wpAny_pure (hQ h2 ?_ (hs1.trans hs2))⟩
 have e : ((i + 1 : Nat) : Int) = (i : Int) + 1 := by omega
 unfold SetIt
 rw [e]
 simpa [rawInt] using he2
theorem sit_end {I S : Addr} {slot i n ep : Nat} {o : Obj} {es : Array (Int × Value)} {t : SetTable} {Q : Option Value → Shared → Prop} (hh : A.handled = none) (hit : SetIt s.heap I S (.int slot 0) i n ep) (ho : s.heap.get? S = some o) (hd : o.data = .set es ep t) (hf : t.fits es.size = true) (hn : n = es.size)
  (hnx : ∀ (A : Around) (E : Value → Shared → Prop) (Q : Option (Value × Nat) → Shared → Prop),Q none s → wpAny (model prog w) A (setNext S slot i ep) Q E s) (hQ : ∀ h',Heap.ExtBut I s.heap h' → Q none { s with heap := h' }) :
  wpAny (model prog w) A (pyNext (.ref I)) Q E s := by
 have hT : s.TypeIs (.ref I) "set_iterator" := ⟨_,hit,rfl⟩
 unfold pyNext
 refine wpAny_bind (wpAny_attempt (wpAny_callSpecial?_slot (name := Str.ofString "__next__") hT sl_sitNext (wpAny_call_entry sl_sitNext hT en_sitNext ?_ (ar_sitNext _))))
 unfold Builtin.«set_iterator.__next__»
 refine wpAny_bind (wpAny_pure ?_)
 refine wpAny_bind (wpAny_fieldsOf hit rfl ?_)
 dsimp only
 refine wpAny_bind ?_
 unfold setEntries
 refine wpAny_bind (wpAny_setState_of ho hd hf (wpAny_pure ?_))
 rw [if_neg (by rw [hn]; simp)]
 refine wpAny_bind (hnx _ _ _ ?_)
 dsimp only
 refine wpAny_bind (wpAny_setField_rec hit (by simp) fun h1 he1 hs1 => ?_)
 refine wpAny_bind ?_
 simp only [newExc,newTuple]
 refine wpAny_bind (wpAny_newObj_type ?_ (by size_fits))
 refine wpAny_bind (m := firstArgMember _ _) (wpAny_of_eq (a := Value.none) (by first | rfl | (simp only [firstArgMember]; rfl)) ?_)
 refine wpAny_newObj_type ?_ (by size_fits)
 simp only [raiseNew]
 refine wpAny_bind (wpAny_handled ?_)
 rw [show A.in1.handled = none from hh]
 refine wpAny_bind (wpAny_pure (wpAny_throw ?_))
 refine wpAny_bind (wpAny_isInstance (T := "StopIteration") (b := true) ⟨_,Heap.get?_push_size _ rfl,rfl⟩ isSubtype_stop ?_)
 exact wpAny_pure (hQ _ ((hs1.extBut.push _).push _))
theorem sit_itemT {I S T : Addr} {i n ep pl : Nat} {e : Int × Value} {places : Array Value} {oT : Obj} {cT : Nat} {o : Obj} {es : Array (Int × Value)} {t : SetTable} {Q : Option Value → Shared → Prop} (hit : SetIt s.heap I S (.ref T) i n ep) (ho : s.heap.get? S = some o) (hd : o.data = .set es ep t) (hf : t.fits es.size = true) (hn : n = es.size)
  (hT' : s.heap.get? T = some oT) (hdT : oT.data = .seq places cT) (hp : places[i]? = some (.int pl 0)) (he : es[pl]? = some e) (hQ : ∀ h',SetIt h' I S (.ref T) (i + 1) n ep → Heap.SameBut I s.heap h' → Q (some e.2) { s with heap := h' }) :
  wpAny (model prog w) A (pyNext (.ref I)) Q E s := by
 have hT : s.TypeIs (.ref I) "set_iterator" := ⟨_,hit,rfl⟩
 unfold pyNext
 refine wpAny_bind (wpAny_attempt (wpAny_callSpecial?_slot (name := Str.ofString "__next__") hT sl_sitNext (wpAny_call_entry sl_sitNext hT en_sitNext ?_ (ar_sitNext _))))
 unfold Builtin.«set_iterator.__next__»
 refine wpAny_bind (wpAny_pure ?_)
 refine wpAny_bind (wpAny_fieldsOf hit rfl ?_)
 dsimp only
 refine wpAny_bind ?_
 unfold setEntries
 refine wpAny_bind (wpAny_setState_of ho hd hf (wpAny_pure ?_))
 rw [if_neg (by rw [hn]; simp)]
 refine wpAny_bind (wpAny_seqItems hT' hdT ?_)
 dsimp only
 rw [Int.toNat_natCast,hp]
 dsimp only
 refine wpAny_bind ?_
 unfold setNextDrawn
 refine wpAny_bind (wpAny_setState_of ho hd hf ?_)
 dsimp only
 rw [if_neg (by simp),Int.toNat_natCast,he]
 dsimp only
 refine wpAny_pure ?_
 refine wpAny_bind (wpAny_setField_rec hit (by simp) fun h1 he1 hs1 => ?_)
 refine wpAny_pure ⟨_,rfl,wpAny_pure (hQ h1 ?_ hs1)⟩
 have e : ((i + 1 : Nat) : Int) = (i : Int) + 1 := by omega
 unfold SetIt
 rw [e]
 simpa [rawInt] using he1
theorem sit_endT {I S T : Addr} {i n ep : Nat} {places : Array Value} {oT : Obj} {cT : Nat} {o : Obj} {es : Array (Int × Value)} {t : SetTable} {Q : Option Value → Shared → Prop} (hh : A.handled = none) (hit : SetIt s.heap I S (.ref T) i n ep) (ho : s.heap.get? S = some o) (hd : o.data = .set es ep t) (hf : t.fits es.size = true) (hn : n = es.size)
  (hT' : s.heap.get? T = some oT) (hdT : oT.data = .seq places cT) (hp : places[i]? = none) (hQ : ∀ h',Heap.ExtBut I s.heap h' → Q none { s with heap := h' }) :
  wpAny (model prog w) A (pyNext (.ref I)) Q E s := by
 have hT : s.TypeIs (.ref I) "set_iterator" := ⟨_,hit,rfl⟩
 unfold pyNext
 refine wpAny_bind (wpAny_attempt (wpAny_callSpecial?_slot (name := Str.ofString "__next__") hT sl_sitNext (wpAny_call_entry sl_sitNext hT en_sitNext ?_ (ar_sitNext _))))
 unfold Builtin.«set_iterator.__next__»
 refine wpAny_bind (wpAny_pure ?_)
 refine wpAny_bind (wpAny_fieldsOf hit rfl ?_)
 dsimp only
 refine wpAny_bind ?_
 unfold setEntries
 refine wpAny_bind (wpAny_setState_of ho hd hf (wpAny_pure ?_))
 rw [if_neg (by rw [hn]; simp)]
 refine wpAny_bind (wpAny_seqItems hT' hdT ?_)
 dsimp only
 rw [Int.toNat_natCast,hp]
 dsimp only
 refine wpAny_bind (wpAny_setField_rec hit (by simp) fun h0 he0 hs0 => ?_)
 refine wpAny_bind (wpAny_setField_rec (s := { s with heap := h0 }) he0 (by simp) fun h1 he1 hs1 => ?_)
 refine wpAny_bind ?_
 simp only [newExc,newTuple]
 refine wpAny_bind (wpAny_newObj_type ?_ (by size_fits))
 refine wpAny_bind (m := firstArgMember _ _) (wpAny_of_eq (a := Value.none) (by first | rfl | (simp only [firstArgMember]; rfl)) ?_)
 refine wpAny_newObj_type ?_ (by size_fits)
 simp only [raiseNew]
 refine wpAny_bind (wpAny_handled ?_)
 rw [show A.in1.handled = none from hh]
 refine wpAny_bind (wpAny_pure (wpAny_throw ?_))
 refine wpAny_bind (wpAny_isInstance (T := "StopIteration") (b := true) ⟨_,Heap.get?_push_size _ rfl,rfl⟩ isSubtype_stop ?_)
 exact wpAny_pure (hQ _ (((hs0.trans hs1).extBut.push _).push _))
theorem sit_self {I S : Addr} {first : Value} {i n ep : Nat} {Q : Value → Shared → Prop} (hit : SetIt s.heap I S first i n ep) (h : Q (.ref I) s) : wpAny (model prog w) A (pyIter (.ref I)) Q E s := by
 have hT : s.TypeIs (.ref I) "set_iterator" := ⟨_,hit,rfl⟩
 refine wpAny_pyIter_slot hT sl_sitIter (wpAny_call_entry sl_sitIter hT en_sitIter ?_ (ar_sitIter _))
 show wpAny _ _ (ret (.ref I)) _ _ s
 exact wpAny_pure ⟨_,rfl,"set_iterator",_,hT,sl_sitNext.lookup,h⟩
theorem moved_same {I : Addr} {h' : Heap} (hs : Heap.SameBut I s.heap h') : Moved [I] Eq s { s with heap := h' } := ⟨fun b o hb e => hs.extBut b o (fun z => hb (by simp [z])) e,rfl,rfl,rfl,Nat.le_refl _⟩
theorem moved_ext {I : Addr} {h' : Heap} (hs : Heap.ExtBut I s.heap h') : Moved [I] Eq s { s with heap := h' } := ⟨fun b o hb e => hs b o (fun z => hb (by simp [z])) e,rfl,rfl,rfl,Nat.le_refl _⟩
theorem walk_setI (hh : A.handled = none) {I S : Addr} (hne : S ≠ I) {o : Obj} {es : Array (Int × Value)} {ep : Nat} {t : SetTable} (hd : o.data = .set es ep t) (hf : t.fits es.size = true) (slot : Nat → Nat) (val : Nat → Value)
  (h1 : ∀ (i : Nat) (s : Shared) (A : Around) (E : Value → Shared → Prop) (Q : Option (Value × Nat) → Shared → Prop),i < es.size → s.heap.get? S = some o → Q (some (val i,slot (i + 1))) s → wpAny (model prog w) A (setNext S (slot i) i ep) Q E s)
  (h2 : ∀ (s : Shared) (A : Around) (E : Value → Shared → Prop) (Q : Option (Value × Nat) → Shared → Prop),s.heap.get? S = some o → Q none s → wpAny (model prog w) A (setNext S (slot es.size) es.size ep) Q E s) :
  WalksS prog w A I [I,S] [I] Eq es.size (fun i v => v = val i) (fun i s => SetIt s.heap I S (.int (slot i) 0) i es.size ep ∧ s.heap.get? S = some o) where
 sub := fun b hb => by simp at hb; simp [hb]
 grefl := fun _ => rfl
 gtrans := fun _ _ _ a b => a.trans b
 frame := fun i s h' tk st _ hk => ⟨hk I (by simp) _ st.1,hk S (by simp) _ st.2⟩
 item := fun i s Q E hi st hQ => sit_item st.1 st.2 hd hf rfl (fun A E Q q => h1 i s A E Q hi st.2 q) fun h' hit hs => hQ _ _ rfl ⟨hit,hs.extBut S o hne st.2⟩ (moved_same hs)
 done := fun s Q E st hQ => sit_end hh st.1 st.2 hd hf rfl (fun A E Q q => h2 s A E Q st.2 q) fun h' he => hQ _ (moved_ext he)
 self := fun i s Q E st q => sit_self st.1 q
theorem walk_setT (hh : A.handled = none) {I S T : Addr} (hne : S ≠ I) (hneT : T ≠ I) {o oT : Obj} {es : Array (Int × Value)} {ep cT : Nat} {t : SetTable} (hd : o.data = .set es ep t) (hf : t.fits es.size = true) {places : List Nat} (hdT : oT.data = .seq (places.map fun p : Nat => Value.int p 0).toArray cT) (hpl : places.length = es.size) (hin : ∀ p ∈ places,p < es.size) (val : Nat → Value)
  (hv : ∀ i p,places[i]? = some p → ∀ e,es[p]? = some e → e.2 = val i) :
  WalksS prog w A I [I,S,T] [I] Eq es.size (fun i v => v = val i) (fun i s => SetIt s.heap I S (.ref T) i es.size ep ∧ s.heap.get? S = some o ∧ s.heap.get? T = some oT) where
 sub := fun b hb => by simp at hb; simp [hb]
 grefl := fun _ => rfl
 gtrans := fun _ _ _ a b => a.trans b
 frame := fun i s h' tk st _ hk => ⟨hk I (by simp) _ st.1,hk S (by simp) _ st.2.1,hk T (by simp) _ st.2.2⟩
 item := fun i s Q E hi st hQ => by
  have hi' : i < places.length := by omega
  have hlt := hin places[i] (List.getElem_mem hi')
  refine sit_itemT (pl := places[i]) (e := es[places[i]]) st.1 st.2.1 hd hf rfl st.2.2 hdT (by simp [hi']) (by simp [hlt]) fun h' hit hs => ?_
  exact hQ _ _ (hv i places[i] (by simp [hi']) _ (by simp [hlt])) ⟨hit,hs.extBut S o hne st.2.1,hs.extBut T oT hneT st.2.2⟩ (moved_same hs)
 done := fun s Q E st hQ => sit_endT hh st.1 st.2.1 hd hf rfl st.2.2 hdT (by simp [hpl]) fun h' he => hQ _ (moved_ext he)
 self := fun i s Q E st q => sit_self st.1 q
end
end L2
namespace L2
open PySem PySem.Spec PyProof.Rows
section
variable {prog : Program} {w : World} {A : Around} {E : Value → Shared → Prop} {s : Shared}
theorem next_text {S : Addr} {slot i ep : Nat} {o : Obj} {es : Array (Int × Value)} {t : SetTable} {Q : Option (Value × Nat) → Shared → Prop} (hb : byText w = true) (ho : s.heap.get? S = some o) (hd : o.data = .set es ep t) (hf : t.fits es.size = true)
  (h : Q (((pickOrder (w.params.setOrder S ep) es)[i]?).map fun e => (e.2,slot)) s) : wpAny (model prog w) A (setNext S slot i ep) Q E s := by
 unfold setNext
 refine wpAny_bind (wpAny_setState_of ho hd hf ?_)
 dsimp only
 refine wpAny_bind ?_
 unfold setsByText
 refine wpAny_bind (wpAny_askSetting (wpAny_pure ?_))
 rw [show Params.followText (model prog w).w.params "set-order" = true from hb]
 rw [if_pos rfl,if_neg (by simp)]
 refine wpAny_bind ?_
 unfold setWalk
 refine wpAny_bind (wpAny_setState_of ho hd hf ?_)
 dsimp only
 refine wpAny_bind ?_
 unfold setsByText
 refine wpAny_bind (wpAny_askSetting (wpAny_pure ?_))
 rw [show Params.followText (model prog w).w.params "set-order" = true from hb]
 rw [if_pos rfl]
 refine wpAny_bind (wpAny_askSetting (wpAny_pure ?_))
 exact wpAny_pure h
theorem next_place {S : Addr} {slot i ep : Nat} {o : Obj} {es : Array (Int × Value)} {t : SetTable} {Q : Option (Value × Nat) → Shared → Prop} (hb : byText w = false) (hp : (!t.plain && decide (es.size > 1)) = false) (hl : t.led = true) (ho : s.heap.get? S = some o) (hd : o.data = .set es ep t) (hf : t.fits es.size = true)
  (h : Q (match es[SetTable.below t.place slot]?,t.place[SetTable.below t.place slot]? with
   | some (_,x),some j => some (x,j + 1)
   | _,_ => none) s) : wpAny (model prog w) A (setNext S slot i ep) Q E s := by
 unfold setNext
 refine wpAny_bind (wpAny_setState_of ho hd hf ?_)
 dsimp only
 refine wpAny_bind ?_
 unfold setsByText
 refine wpAny_bind (wpAny_askSetting (wpAny_pure ?_))
 rw [show Params.followText (model prog w).w.params "set-order" = false from hb]
 rw [if_neg (by simp)]
 show wpAny _ _ (if (!t.plain && decide (es.size > 1)) = true then _ else _) _ _ _
 rw [if_neg (by rw [hp]; simp)]
 refine wpAny_bind ?_
 show wpAny _ _ (if (!t.led && !es.isEmpty) = true then _ else _) _ _ _
 rw [if_neg (by rw [hl]; simp)]
 exact wpAny_pure (wpAny_pure h)
def slotOf (t : SetTable) : Nat → Nat
 | 0 => 0
 | i + 1 => t.place.getD i 0 + 1
theorem below_slot {t : SetTable} (hr : Ris t.place) : ∀ i,i ≤ t.place.size → SetTable.below t.place (slotOf t i) = i
 | 0,_ => by
  obtain ⟨b1,b2⟩ := below_is hr 0
  rcases Nat.eq_zero_or_pos (SetTable.below t.place 0) with e | e
  ·exact e
  ·exact absurd ((b2 0 (by omega)).mpr e) (Nat.not_lt_zero _)
 | i + 1,hi => by
  have eg : t.place.getD i 0 = t.place[i] := by simp [Array.getD,show i < t.place.size from hi]
  show SetTable.below t.place (t.place.getD i 0 + 1) = i + 1
  rw [eg]
  obtain ⟨b1,b2⟩ := below_is hr (t.place[i] + 1)
  have l1 : i < SetTable.below t.place (t.place[i] + 1) := (b2 i hi).mp (Nat.lt_succ_self _)
  rcases Nat.lt_or_ge (i + 1) (SetTable.below t.place (t.place[i] + 1)) with a | a
  ·have hj : i + 1 < t.place.size := by omega
   have := (b2 (i + 1) hj).mpr a
   have : t.place[i] < t.place[i + 1] := hr.get (Nat.lt_succ_self i) hj
   omega
  ·omega
theorem fits_size {t : SetTable} {n : Nat} (h : t.fits n = true) : t.place.size = n := by
 simp only [SetTable.fits,Bool.and_eq_true,beq_iff_eq] at h
 exact h.1
theorem SetO.val {o : Obj} {es : Array (Int × Value)} {ep : Nat} {t : SetTable} {ks : List Int} (X : SetO prog w o es ep t ks) {e : Int × Value} (h : e ∈ es.toList) : ∃ tk,e.2 = .int (keyV e.2) tk := by
 obtain ⟨⟨k',hk',_⟩,_⟩ := X.el e h
 obtain ⟨e1,tk,e2⟩ := key_is hk'
 exact ⟨tk,by rw [e1]; exact e2⟩
def ValsOf (ks : List Int) (val : Nat → Value) : Prop := ∃ ns : List Int,ns.Perm ks ∧ ∀ i,i < ks.length → ∃ tk,val i = .int (ns.getD i 0) tk
theorem vals_of {o : Obj} {es : Array (Int × Value)} {ep : Nat} {t : SetTable} {ks : List Int} (X : SetO prog w o es ep t ks) {ord : List (Int × Value)} (hp : ord.Perm es.toList) {val : Nat → Value} (hv : ∀ i (h : i < ord.length),val i = ord[i].2) : ValsOf ks val := by
 have pm := (hp.map fun e => keyV e.2).trans X.pm
 refine ⟨ord.map fun e => keyV e.2,pm,fun i hi => ?_⟩
 have hi' : i < ord.length := by
  have := pm.length_eq
  rw [List.length_map] at this
  omega
 obtain ⟨tk,e⟩ := X.val (hp.mem_iff.mp (List.getElem_mem hi'))
 refine ⟨tk,?_⟩
 rw [hv i hi',e]
 simp [hi',keyV]
theorem SetO.size {o : Obj} {es : Array (Int × Value)} {ep : Nat} {t : SetTable} {ks : List Int} (X : SetO prog w o es ep t ks) : es.size = ks.length := by
 have := X.pm.length_eq
 simpa using this
theorem iter_set {S : Addr} {ks : List Int} {Q : Value → Shared → Prop} (hS : SetX prog w s.heap S ks)
  (h : ∀ (h' : Heap) (d : Drawn) (I : Addr) (fp : List Addr) (n : Nat) (val : Nat → Value) (St : Nat → Shared → Prop),n = ks.length → (∀ B : Around,B.handled = none → WalksS prog w B I fp [I] Eq n (fun i v => v = val i) St) → St 0 { s with heap := h',drawn := d } → (∀ b o,s.heap.get? b = some o → h'.get? b = some o) → (∀ b ∈ fp,b = S ∨ s.heap.objs.size ≤ b) → (∀ b ∈ fp,b < h'.objs.size) → s.heap.objs.size ≤ I → ValsOf ks val → Q (.ref I) { s with heap := h',drawn := d }) :
  wpAny (model prog w) A (pyIter (.ref S)) Q E s := by
 obtain ⟨o,es,ep,t,ho,X⟩ := hS
 have hT : s.TypeIs (.ref S) "set" := ⟨o,ho,X.ex.1⟩
 have hlt : S < s.heap.objs.size := Heap.lt_size ho
 have hsz := X.size
 have hfit : es.size ≤ sizeLine := fits_of_scanBound X.sb
 refine wpAny_pyIter_slot hT PySem.F.slot_set_iter (wpAny_call_entry PySem.F.slot_set_iter hT en_setIter ?_ (PySem.F.args_set_iter_1 _))
 unfold Builtin.«frozenset.__iter__»
 refine wpAny_bind (m := Builtin.Frozenset.slot0 _ _) (wpAny_pure ?_)
 refine wpAny_bind ?_
 unfold Builtin.Frozenset.sizeOf setEntries
 refine wpAny_bind (wpAny_bind (wpAny_setState_of ho X.dt X.ft (wpAny_pure (wpAny_pure ?_))))
 refine wpAny_bind ?_
 unfold setDrawn
 refine wpAny_bind (wpAny_setState_of ho X.dt X.ft ?_)
 dsimp only
 refine wpAny_bind ?_
 unfold setsByText
 refine wpAny_bind (wpAny_askSetting (wpAny_pure (wpAny_pure ?_)))
 show wpAny _ _ (if (!byText w && (!t.plain && decide (es.size > 1))) = true then _ else _ >>= _) _ _ _
 have ends : ∀ (first : Value),first = .int 0 0 → (∀ (I : Addr),S ≠ I → ∃ (fp : List Addr) (val : Nat → Value) (St : Nat → Shared → Prop),(∀ B : Around,B.handled = none → WalksS prog w B I fp [I] Eq es.size (fun i v => v = val i) St) ∧ (∀ s' : Shared,SetIt s'.heap I S (.int 0 0) 0 es.size ep → s'.heap.get? S = some o → St 0 s') ∧ fp = [I,S] ∧ ValsOf ks val) →
   wpAny (model prog w) A.in1 (do ret (← newFields "set_iterator" [first,rawInt 0,.ref S,rawInt es.size,rawInt (← setEpoch S)])) (fun fin s' => ∃ v,fin = .done (.ret v) ∧ ∃ T' r,s'.TypeIs v T' ∧ typeLookup (.type T') "__next__" = pure (some r) ∧ Q v s') E s := by
  intro first e hw
  subst e
  unfold setEpoch
  refine wpAny_bind (wpAny_bind (wpAny_setState_of ho X.dt X.ft (wpAny_pure ?_)))
  unfold newFields
  refine wpAny_bind (wpAny_newObj_type ?_ (by size_fits))
  obtain ⟨fp,val,St,W,st0,rfl,vv⟩ := hw s.heap.objs.size (Nat.ne_of_lt hlt)
  refine wpAny_pure ⟨_,rfl,"set_iterator",_,⟨_,Heap.get?_push_size _ rfl,rfl⟩,sl_sitNext.lookup,?_⟩
  refine h _ s.drawn _ _ _ val St hsz W (st0 _ (Heap.get?_push_size _ rfl) (Heap.get?_push_of_some _ ho)) (fun b o e => Heap.get?_push_of_some _ e) (fun b hb => ?_) (fun b hb => ?_) (Nat.le_refl _) vv
  ·simp at hb
   rcases hb with rfl | rfl
   ·exact .inr (Nat.le_refl _)
   ·exact .inl rfl
  ·rw [Heap.size_push]
   simp at hb
   rcases hb with rfl | rfl
   ·exact Nat.lt_succ_self _
   ·exact Nat.lt_succ_of_lt hlt
 cases hb : byText w with
 | true =>
  rw [if_neg (by simp)]
  refine wpAny_bind (wpAny_pure ?_)
  refine ends _ rfl fun I hne => ?_
  refine ⟨_,fun i => ((pickOrder (w.params.setOrder S ep) es)[i]?.map (·.2)).getD .none,_,fun B hB => walk_setI hB hne X.dt X.ft (fun _ => 0) _ (fun i s' A' E' Q' hi ho' q => next_text hb ho' X.dt X.ft ?_) (fun s' A' E' Q' ho' q => next_text hb ho' X.dt X.ft ?_),fun s' a b => ⟨a,b⟩,rfl,?_⟩
  ·have hp : (pickOrder (w.params.setOrder S ep) es).size = es.size := by
    have := (pick_perm (w.params.setOrder S ep) es).length_eq
    simpa using this
   have hi' : i < (pickOrder (w.params.setOrder S ep) es).size := by omega
   simpa [hi'] using q
  ·have hp : (pickOrder (w.params.setOrder S ep) es).size = es.size := by
    have := (pick_perm (w.params.setOrder S ep) es).length_eq
    simpa using this
   simpa [hp] using q
  ·refine vals_of X (pick_perm (w.params.setOrder S ep) es) fun i hi => ?_
   have hi' : i < (pickOrder (w.params.setOrder S ep) es).size := by simpa using hi
   simp [hi']
 | false =>
  cases hp : (!t.plain && decide (es.size > 1)) with
  | false =>
   rw [if_neg (by simp)]
   refine wpAny_bind (wpAny_pure ?_)
   have hl : t.led = true := by
    have := X.tx.1
    rw [hb] at this
    exact this
   have hz := fits_size X.ft
   refine ends _ rfl fun I hne => ?_
   refine ⟨_,fun i => (es[i]?.map (·.2)).getD .none,_,fun B hB => walk_setI hB hne X.dt X.ft (slotOf t) _ (fun i s' A' E' Q' hi ho' q => next_place hb hp hl ho' X.dt X.ft ?_) (fun s' A' E' Q' ho' q => next_place hb hp hl ho' X.dt X.ft ?_),fun s' a b => ⟨a,b⟩,rfl,?_⟩
   ·rw [below_slot X.tx.2 i (by omega)]
    have hi' : i < t.place.size := by omega
    rw [Array.getElem?_eq_getElem hi,Array.getElem?_eq_getElem hi']
    have e : slotOf t (i + 1) = t.place[i] + 1 := by simp [slotOf,Array.getD,hi']
    rw [e] at q
    simpa [hi] using q
   ·rw [below_slot X.tx.2 es.size (by omega)]
    simpa using q
   ·refine vals_of X (List.Perm.refl _) fun i hi => ?_
    have hi' : i < es.size := by simpa using hi
    simp [hi']
  | true =>
   rw [if_pos (by simp)]
   refine wpAny_bind (draw_order es.size (List.range es.size) List.length_range fun ys d hy => ?_)
   have hyl : ys.length = es.size := by
    have := hy.length_eq
    simpa using this
   refine wpAny_bind (wpAny_newTuple ?_ (by rw [List.length_map,hyl]; exact hfit))
   have ho1 : (s.heap.push { cls := .type "tuple",data := .seq (ys.map fun (i : Nat) => rawInt i).toArray }).get? S = some o := Heap.get?_push_of_some _ ho
   unfold setEpoch
   refine wpAny_bind (wpAny_bind (wpAny_setState_of ho1 X.dt X.ft (wpAny_pure ?_)))
   unfold newFields
   refine wpAny_bind (wpAny_newObj_type ?_ (by size_fits))
   refine wpAny_pure ⟨_,rfl,"set_iterator",_,⟨_,Heap.get?_push_size _ rfl,rfl⟩,sl_sitNext.lookup,?_⟩
   have hz1 : (s.heap.push { cls := .type "tuple",data := .seq (ys.map fun (i : Nat) => rawInt i).toArray }).objs.size = s.heap.objs.size + 1 := Heap.size_push ..
   have hin : ∀ p ∈ ys,p < es.size := fun p hp => by
    have := hy.mem_iff.mp hp
    simpa using this
   refine h _ d _ [_,S,s.heap.objs.size] _ (fun i => (es.getD (ys.getD i 0) (0,.none)).2) _ hsz (fun B hB => walk_setT (T := s.heap.objs.size) (places := ys) hB ?_ ?_ X.dt X.ft rfl hyl hin _ fun i p e1 e e2 => by rw [List.getD_eq_getElem?_getD,e1,Option.getD_some,Array.getD_eq_getD_getElem?,e2,Option.getD_some]) ⟨Heap.get?_push_size _ rfl,Heap.get?_push_of_some _ ho1,Heap.get?_push_of_some _ (Heap.get?_push_size _ rfl)⟩ (fun b o e => Heap.get?_push_of_some _ (Heap.get?_push_of_some _ e)) (fun b hb => ?_) (fun b hb => ?_) (by rw [hz1]; omega) ?_
   ·intro z
    rw [hz1] at z
    exact absurd hlt (by rw [z]; exact Nat.not_lt.mpr (Nat.le_succ _))
   ·intro z
    rw [hz1] at z
    exact absurd z (Nat.ne_of_lt (Nat.lt_succ_self _))
   ·simp at hb
    rcases hb with rfl | rfl | rfl
    ·exact .inr (Nat.le_succ _)
    ·exact .inl rfl
    ·exact .inr (Nat.le_refl _)
   ·rw [Heap.size_push,hz1]
    simp at hb
    rcases hb with rfl | rfl | rfl
    ·exact Nat.lt_succ_self _
    ·exact Nat.lt_succ_of_lt (Nat.lt_succ_of_lt hlt)
    ·exact Nat.lt_succ_of_lt (Nat.lt_succ_self _)
   ·have hq : (ys.map fun p => es.getD p (0,.none)).Perm es.toList := by
     refine (hy.map fun p => es.getD p (0,.none)).trans ?_
     have e : (List.range es.size).map (fun p => es.getD p (0,.none)) = es.toList := by
      refine List.ext_getElem (by simp) fun i h1 h2 => ?_
      have hi : i < es.size := by simpa using h2
      simp [Array.getD,hi]
     rw [e]
    refine vals_of X hq fun i hi => ?_
    have hi' : i < ys.length := by simpa using hi
    simp [hi']
theorem ints_items : ∀ (vs : List Value) (ns : List Int),vs.length = ns.length → (∀ (j : Nat) (v : Value),vs[j]? = some v → ∃ tk,v = .int (ns.getD j 0) tk) → IntsAre vs ns
 | [],[],_,_ => .nil
 | [],_ :: _,h,_ => by cases h
 | _ :: _,[],h,_ => by cases h
 | v :: vs,n :: ns,h,hv => by
  obtain ⟨tk,e⟩ := hv 0 v rfl
  have e : v = .int n tk := e
  subst e
  exact .cons n tk (ints_items vs ns (by simpa using h) fun j v hj => hv (j + 1) v hj)
theorem len_setL : typeLookup (.type "set") "__len__" = pure (some (.builtin "set.__len__")) := by rw [typeLookup_type,builtinLookup_eq_fast]; kernel_rfl
theorem hint_set {S : Addr} (hT : s.TypeIs (.ref S) "set") {Q : Bool → Shared → Prop} (h : Q false s) : wpAny (model prog w) A (Builtin.List.listLengthHint (.ref S)) Q E s := by
 unfold Builtin.List.listLengthHint
 refine wpAny_bind (wpAny_specialOf hT len_setL ?_)
 generalize hid : ("set.__len__" : String) = id0
 wp_delta
 rw [show splitId id0 = some ("set","__len__") from by subst hid; decide +kernel]
 subst hid
 refine wpAny_bind (wpAny_isInstance (T := "set") (b := true) hT (by rw [isSubtype_type]; kernel_rfl) ?_)
 refine wpAny_ite_split (fun hab => absurd hab (by decide)) (fun _ => ?_)
 refine wpAny_ite_split (fun _ => ?_) (fun hab => absurd (by decide +kernel) hab)
 refine wpAny_bind (wpAny_typeOf hT ?_)
 exact wpAny_pure h
theorem collect_set {S : Addr} {ks : List Int} {Q : List Value → Shared → Prop} (hh : A.handled = none) (hS : SetX prog w s.heap S ks) (hn : ks.length ≤ sizeLine)
  (h : ∀ (h' : Heap) (d : Drawn) (tk : Nat) (vs : List Value) (ns : List Int),s.heap.objs.size < h'.objs.size → (∀ b o,s.heap.get? b = some o → h'.get? b = some o) → IntsAre vs ns → ns.Perm ks → Q vs { s with heap := h',drawn := d,toks := tk }) :
  wpAny (model prog w) A (collect (.ref S)) Q E s := by
 obtain ⟨o,ho,hc⟩ : ∃ o,s.heap.get? S = some o ∧ o.cls = .type "set" := by
  obtain ⟨o,es,ep,t,ho,X⟩ := id hS
  exact ⟨o,ho,X.ex.1⟩
 have hlt : S < s.heap.objs.size := Heap.lt_size ho
 unfold collect
 refine wpAny_bind (wpAny_runValue (codeAny_builtin entry_proto_collect' ?_))
 rw [Around.under_plainId PySem.F.plain_proto_collect _]
 show wpAny _ A.in1 (newList [] >>= fun l => again (.builtin "list.__iadd__" ⟨[l,.ref S],[]⟩)) _ _ s
 refine wpAny_bind (wpAny_newObj_type ?_)
 refine wpAny_pure ⟨plainId_quiet PySem.F.plain_list_iadd _,codeAny_builtin entry_list_iadd' ?_⟩
 rw [Around.under_plainId PySem.F.plain_list_iadd _]
 show wpAny _ A.in1 (Builtin.List.listExtendWith (.ref s.heap.objs.size) (.ref S) (.ref s.heap.objs.size)) _ _ _
 have ho1 : (s.heap.push { cls := .type "list",data := .seq ([] : List Value).toArray }).get? S = some o := Heap.get?_push_of_some _ ho
 have hL1 : (s.heap.push { cls := .type "list",data := .seq ([] : List Value).toArray }).get? s.heap.objs.size = some { cls := .type "list",data := .seq #[] } := Heap.get?_push_size _ rfl
 have hz1 : (s.heap.push { cls := .type "list",data := .seq ([] : List Value).toArray }).objs.size = s.heap.objs.size + 1 := Heap.size_push ..
 unfold Builtin.List.listExtendWith
 refine wpAny_bind (wpAny_typeOf (T := "set") ⟨o,ho1,hc⟩ ?_)
 have h1 : Builtin.List.listSameRef (.ref s.heap.objs.size) (.ref S) = false := by simp [Builtin.List.listSameRef,(Nat.ne_of_gt hlt : s.heap.objs.size ≠ S)]
 have h2 : (Value.type "set" == Value.type "list") = false := by decide
 have h3 : (Value.type "set" == Value.type "tuple") = false := by decide
 simp only [h1,h2,h3,Bool.or_false,Bool.false_eq_true,if_false]
 refine wpAny_bind (iter_set (s := { s with heap := s.heap.push { cls := .type "list",data := .seq ([] : List Value).toArray } }) (hS.moved fun o e => Heap.get?_push_of_some _ e) fun h' d I fp n val St en W st0 up inF szF lI vv => ?_)
 have hLf : s.heap.objs.size ∉ fp := fun z => by
  rcases inF _ z with e | e
  ·exact absurd e (Nat.ne_of_gt hlt)
  ·have e : (s.heap.push { cls := .type "list",data := .seq ([] : List Value).toArray }).objs.size ≤ s.heap.objs.size := e
   rw [hz1] at e
   exact absurd e (Nat.not_succ_le_self _)
 have key : ∀ (h2 : Heap) (c₁ tk : Nat),s.toks ≤ tk → (∀ b o,b ≠ s.heap.objs.size → h'.get? b = some o → h2.get? b = some o) → h2.get? s.heap.objs.size = some { cls := .type "list",data := .seq #[] c₁ } →
   codeAny (model prog w) A (.builtin "list.extend.loop" ⟨[.ref s.heap.objs.size,.ref I,.ref s.heap.objs.size],[]⟩) (wants (fun v s' => wpAny (model prog w) A (match v with
    | .ref a => do
     match (← load a).data with
     | .seq xs _ => pure xs.toList
     | _ => unsupported "internal:collect"
    | _ => unsupported "internal:collect") Q E s') E) { s with heap := h2,drawn := d,toks := tk } := by
  intro h2 c₁ tk htk k2 hL2
  refine codeAny_extend_loopS (W A.in1 hh) (by rw [en]; exact hn) _ hLf _ n 0 _ #[] c₁ (by omega) (Nat.zero_le _) (show St 0 _ from (W A.in1 hh).frame 0 { s with heap := h',drawn := d } h2 tk st0 htk fun b hb o e => k2 b o (fun z => hLf (z ▸ hb)) e) hL2 (ItemsOf.nil _) fun s' acc' c' hm hS' hacc => ?_
  show wpAny _ A (load s.heap.objs.size >>= _) _ _ s'
  refine wpAny_bind (wpAny_load hS' (wpAny_pure ?_))
  obtain ⟨h3,g3,d3,tk3,os3⟩ := s'
  have eg : s.gens = g3 := hm.gens
  have ed : d3 = d := hm.drawn
  have eo : os3 = s.os := hm.os
  subst eg ed eo
  obtain ⟨ns,hp,hv⟩ := vv
  have hnl := hp.length_eq
  refine h h3 d3 tk3 acc'.toList ns (Heap.lt_size hS') (fun b o e => ?_) (ints_items _ _ (by rw [Array.length_toList,hacc.1,en,hnl]) fun j v hj => ?_) hp
  ·have hb : b ≠ s.heap.objs.size := Nat.ne_of_lt (Heap.lt_size e)
   have hbI : b ≠ I := fun z => by
    have l1 := Heap.lt_size e
    have lI : (s.heap.push { cls := .type "list",data := .seq ([] : List Value).toArray }).objs.size ≤ I := lI
    rw [hz1,← z] at lI
    exact absurd (Nat.lt_of_lt_of_le (Nat.lt_succ_self _) lI) (Nat.not_lt.mpr (Nat.le_of_lt l1))
   exact hm.heap b o (by simp [hb,hbI]) (k2 b o hb (up b o (Heap.get?_push_of_some _ e)))
  ·rw [Array.getElem?_toList] at hj
   have hjn : j < ks.length := by
    have : j < acc'.size := by
     rcases Nat.lt_or_ge j acc'.size with a | a
     ·exact a
     ·rw [Array.getElem?_eq_none a] at hj
      cases hj
    rw [hacc.1] at this
    omega
   rw [hacc.2 j v hj]
   exact hv j hjn
 have hL2 : h'.get? s.heap.objs.size = some { cls := .type "list",data := .seq #[] } := up _ _ hL1
 refine wpAny_bind (wpAny_holding (hint_set ⟨o,up _ _ ho1,hc⟩ ?_))
 refine wpAny_ite_split (fun _ => ?_) (fun _ => wpAny_pure ⟨plainId_quiet PySem.F.plain_extend_loop _,key _ 0 _ (Nat.le_refl _) (fun b o _ e => e) hL2⟩)
 refine wpAny_bind (wpAny_rule ?_)
 refine wpAny_bind ?_
 show wpAny _ _ (updateSeq s.heap.objs.size (·.push .none) >>= fun _ => updateSeq s.heap.objs.size (·.pop)) _ _ _
 refine wpAny_bind (wpAny_updateSeq hL2 rfl ?_)
 have hS₂ := Heap.get?_update_self (Obj.mapSeq (·.push Value.none)) hL2 rfl
 refine wpAny_updateSeq (hz := by seq_fits) hS₂ rfl ?_
 have hS₃ := Heap.get?_update_self (Obj.mapSeq (·.pop)) hS₂ rfl
 refine wpAny_pure ⟨plainId_quiet PySem.F.plain_extend_loop _,key _ _ _ (Nat.le_refl _) (fun b o hb e => ?_) hS₃⟩
 exact (Heap.get?_update_other _ _ (Ne.symm hb)).trans ((Heap.get?_update_other _ _ (Ne.symm hb)).trans e)
theorem sorted_set {S : Addr} {ks : List Int} {Q : Value → Shared → Prop} (hh : A.handled = none) (hS : SetX prog w s.heap S ks) (h64 : ks.length < 64)
  (h : ∀ (h' : Heap) (d : Drawn) (tk : Nat) (D : Addr) (out : Array Value) (ns : List Int) (e : Nat),(∀ b o,s.heap.get? b = some o → h'.get? b = some o) → s.heap.objs.size ≤ D → h'.get? D = some (seqObj "list" out e) → IntsAre out.toList ns → ns.Perm ks → ns.Pairwise (· ≤ ·) → Q (.ref D) { s with heap := h',drawn := d,toks := tk }) :
  wpAny (model prog w) A (call (.builtin "sorted") [.ref S]) Q E s := by
 refine Calls.call_function_entry kind_sorted plain_sorted entry_sorted (args_sorted1 _) ?_
 unfold Builtin.«sorted»
 refine wpAny_bind (m := checkCount "sorted" 1 1 _) (wpAny_pure ?_)
 refine wpAny_bind (collect_set (A := A.in1) hh hS (by rw [sizeLine_eq]; omega) fun h' d tk vs ns lz up hi hp => ?_)
 have hl : vs.length < 64 := by
  have a := IntsAre.length hi
  have b := hp.length_eq
  omega
 refine wpAny_bind (wpAny_newList ?_ (by rw [sizeLine_eq]; omega))
 have hoL : (h'.push (seqObj "list" vs.toArray 0)).get? h'.objs.size = some (seqObj "list" vs.toArray 0) := Heap.get?_push_size _ rfl
 refine wpAny_bind (wpAny_holding (wpAny_call_entry slot_list_sort ⟨_,hoL,rfl⟩ entry_list_sort (list_sort_tree hoL hi hl fun out ns' a1 a2 a3 => ⟨_,rfl,?_⟩) (args_list_sort _)))
 obtain ⟨e,he⟩ : ∃ e,(sortedHeap (h'.push (seqObj "list" vs.toArray 0)) h'.objs.size vs out).get? h'.objs.size = some (seqObj "list" out e) := by
  exact sortedHeap_at hoL
 refine wpAny_pure ⟨_,rfl,h _ d tk h'.objs.size out ns' e (fun b o e => ?_) ?_ he a1 (a2.trans hp) a3⟩
 ·have e' := up b o e
  have hb := Heap.lt_size e'
  rw [sortedHeap_old (Nat.ne_of_lt hb) (by rw [Heap.size_push]; exact Nat.lt_succ_of_lt hb)]
  exact Heap.get?_push_of_some _ e'
 ·exact Nat.le_of_lt lz
end
end L2
namespace L2
open PySem PySem.Spec PyProof.Rows
section
def SetQ (P : Program) (w : World) (S : Addr) (ks : List Int) : Heap → Prop := fun h => SetX P w h S ks
theorem SetQ.ok {P : Program} {w : World} {H : Hp} {h : Heap} {S : Addr} {ks : List Int} (x : SetX P w h S ks) : ObjOk P w H h S (.ext (SetQ P w S ks)) := by
 refine ⟨x,?_,fun h1 h2 a b => SetX.moved a b⟩
 obtain ⟨o,_,_,_,ho,_⟩ := x
 exact ⟨o,ho⟩
theorem ints_vals : ∀ {ns : List Int} {us : List Value},Vals (ns.map V.int) us → IntsAre us ns
 | [],_,.nil => .nil
 | n :: ns,_,.cons r t => by
  obtain ⟨tk,rfl⟩ := (show ∃ tk,_ = Value.int n tk from r)
  exact .cons n tk (ints_vals t)
theorem vals_ofInts : ∀ {us : List Value} {ns : List Int},IntsAre us ns → Vals (ns.map V.int) us
 | _,_,.nil => .nil
 | _,_,.cons n t h => .cons ⟨t,rfl⟩ (vals_ofInts h)
end
section
variable {X : Cx}
theorem Inv.drew {pins : List (Addr × Obj)} {σ : St} {H : Hp} {s : Shared} (I : Inv X pins σ H s) (d : Drawn) : Inv X pins σ H { s with drawn := d } := ⟨I.ok,I.os,I.bare,I.base,I.loc,I.cell,I.free,I.freeC,I.pin,I.hok,I.len⟩
theorem call_set (hc : X.calm = true) : CallR X (.type "set") (fun xs H Q => ∃ (p : Addr) (ns : List Int),xs = [.ref p] ∧ SqL X.K H p (ns.map V.int) ∧ ns.length < 4000 ∧
  ∀ S,H S = none → Q (.ref S) (upd H S (.ext (SetQ X.prog X.w S (addAll (fun i => ns.getD i 0) ns.length))))) := by
 intro pins s σ H xs us Q I r h
 obtain ⟨p,ns,rfl,hS,hz,q⟩ := h
 obtain ⟨u,rfl,ru⟩ := vals1 r
 cases ru
 obtain ⟨its,rv,pl,_⟩ := I.list hS
 have hi := ints_vals rv
 have hl := IntsAre.length hi
 have hsz : its.toArray.size = ns.length := by rw [List.size_toArray,hl]
 refine call_set_x (I.ok.hd hc) pl.isList hi (by rw [hsz]; show ns.length + 1 < 4096; omega) fun h' tk x k => ?_
 rw [hsz] at x
 exact ⟨.ref s.heap.objs.size,_,I.laid (t' := tk) (fun b u e => k b u (Heap.lt_size e) e) (Nat.le_refl _) (SetQ.ok x),rfl,q _ I.fresh⟩
theorem call_sorted (hc : X.calm = true) : CallR X (.builtin "sorted") (fun xs H Q => ∃ (S : Addr) (ks : List Int),xs = [.ref S] ∧ H S = some (.ext (SetQ X.prog X.w S ks)) ∧ ks.length < 64 ∧
  ∀ (D : Addr) (ns : List Int),H D = none → ns.Perm ks → ns.Pairwise (· < ·) → Q (.ref D) (upd H D (.lst (ns.map V.int)))) := by
 intro pins s σ H xs us Q I r h
 obtain ⟨S,ks,rfl,hS,hz,q⟩ := h
 obtain ⟨u,rfl,ru⟩ := vals1 r
 cases ru
 obtain ⟨x,_⟩ := (show ObjOk X.prog X.w H s.heap S (.ext (SetQ X.prog X.w S ks)) from I.hok S _ hS)
 have nd : ks.Nodup := by
  obtain ⟨_,_,_,_,_,x⟩ := (show SetX X.prog X.w s.heap S ks from x)
  exact x.nd
 refine sorted_set (I.ok.hd hc) x hz fun h' d tk D out ns e up lD hD hi hp hs => ?_
 have I2 : Inv X pins σ H { s with drawn := d } := I.drew d
 have hln : ns.length < 64 := by rw [hp.length_eq]; exact hz
 refine ⟨.ref D,_,I2.laid (o := .lst (ns.map V.int)) (t' := tk) up lD ⟨by rw [List.length_map,sizeLine_eq]; omega,out.toList,e,vals_ofInts hi,by simpa using hD⟩,rfl,q D ns (I.hok.fresh lD) hp ?_⟩
 have nd2 : ns.Nodup := hp.nodup_iff.mpr nd
 exact (hs.and nd2).imp fun ⟨a,b⟩ => Int.lt_iff_le_and_ne.mpr ⟨a,b⟩
theorem bt_set : bootBuiltins "set" = some (.type "set") := by decide +kernel
theorem bt_sorted : bootBuiltins "sorted" = some (.builtin "sorted") := by decide +kernel
theorem qcall_set (hc : X.calm = true) : QCall X (.type "set") (fun xs H Q => ∃ (p : Addr) (ns : List Int),xs = [.ref p] ∧ SqL X.K H p (ns.map V.int) ∧ ns.length < 4000 ∧
  ∀ S,H S = none → Q (.ref S) (upd H S (.ext (SetQ X.prog X.w S (addAll (fun i => ns.getD i 0) ns.length))))) := ⟨call_set hc⟩
theorem qcall_sorted (hc : X.calm = true) : QCall X (.builtin "sorted") (fun xs H Q => ∃ (S : Addr) (ks : List Int),xs = [.ref S] ∧ H S = some (.ext (SetQ X.prog X.w S ks)) ∧ ks.length < 64 ∧
  ∀ (D : Addr) (ns : List Int),H D = none → ns.Perm ks → ns.Pairwise (· < ·) → Q (.ref D) (upd H D (.lst (ns.map V.int)))) := ⟨call_sorted hc⟩
end
end L2
namespace My
open PySem L2
open Ma (T3 T4 rA rB rC)
def top (i : Nat) : Stmt := PySem.Challenge.pw_fordbook_k34_the_sum_of_waits.main.body.getD i (.Pass ⟨0,0,0,0⟩)
abbrev st_stretches : Stmt := top 1
theorem sc_stretches : FnScope ["day","clock","rows","p","a","b","c"] ["day","clock"] (defScope st_stretches) := ⟨rfl,rfl,rfl,by decide +kernel,rfl,by decide +kernel,by decide +kernel⟩
abbrev st_first_told : Stmt := top 2
theorem sc_first_told : FnScope ["row"] ["row"] (defScope st_first_told) := ⟨rfl,rfl,rfl,by decide +kernel,rfl,by decide +kernel,by decide +kernel⟩
abbrev st_overlay : Stmt := top 3
theorem sc_overlay : FnScope ["day","one","other","ones","others","rows","k","j","p","q"] ["day","one","other"] (defScope st_overlay) := ⟨rfl,rfl,rfl,by decide +kernel,rfl,by decide +kernel,by decide +kernel⟩
abbrev st_put_window : Stmt := top 4
theorem sc_put_window : FnScope ["clock","a","b","c"] ["clock","a","b","c"] (defScope st_put_window) := ⟨rfl,rfl,rfl,by decide +kernel,rfl,by decide +kernel,by decide +kernel⟩
abbrev st_clock_from : Stmt := top 5
theorem sc_clock_from : FnScope ["day","rows","clock","k","row","following","q","v"] ["day","rows"] (defScope st_clock_from) := ⟨rfl,rfl,rfl,by decide +kernel,rfl,by decide +kernel,by decide +kernel⟩
abbrev st_sum_within : Stmt := top 7
theorem sc_sum_within : FnScope ["p","q","still","v","count"] ["p","q","still","v"] (defScope st_sum_within) := ⟨rfl,rfl,rfl,by decide +kernel,rfl,by decide +kernel,by decide +kernel⟩
abbrev st_sum_of : Stmt := top 8
theorem sc_sum_of : FnScope ["day","clock"] ["day","clock"] (defScope st_sum_of) := ⟨rfl,rfl,rfl,by decide +kernel,rfl,by decide +kernel,by decide +kernel⟩
abbrev st_is_whole : Stmt := top 10
theorem sc_is_whole : FnScope ["thing"] ["thing"] (defScope st_is_whole) := ⟨rfl,rfl,rfl,by decide +kernel,rfl,by decide +kernel,by decide +kernel⟩
abbrev st_is_window : Stmt := top 11
theorem sc_is_window : FnScope ["day","thing"] ["day","thing"] (defScope st_is_window) := ⟨rfl,rfl,rfl,by decide +kernel,rfl,by decide +kernel,by decide +kernel⟩
abbrev st_is_board : Stmt := top 12
theorem sc_is_board : FnScope ["day","thing"] ["day","thing"] (defScope st_is_board) := ⟨rfl,rfl,rfl,by decide +kernel,rfl,by decide +kernel,by decide +kernel⟩
abbrev st_picked : Stmt := top 17
theorem sc_picked : FnScope ["p","q","waiting","riding","late","cut","ahead","then"] ["p","q","waiting","riding","late"] (defScope st_picked) := ⟨rfl,rfl,rfl,by decide +kernel,rfl,by decide +kernel,by decide +kernel⟩
abbrev st_joined : Stmt := top 18
theorem sc_joined : FnScope ["day","one","other","late","rows","p","q","still","v","other_still","other_v"] ["day","one","other","late"] (defScope st_joined) := ⟨rfl,rfl,rfl,by decide +kernel,rfl,by decide +kernel,by decide +kernel⟩
abbrev st_sooner : Stmt := top 19
theorem sc_sooner : FnScope ["day","one","other"] ["day","one","other"] (defScope st_sooner) := ⟨rfl,rfl,rfl,by decide +kernel,rfl,by decide +kernel,by decide +kernel⟩
abbrev st_clock_within : Stmt := top 20
theorem sc_clock_within : FnScope ["day","board","half"] ["day","board"] (defScope st_clock_within) := ⟨rfl,rfl,rfl,by decide +kernel,rfl,by decide +kernel,by decide +kernel⟩
abbrev st_clock_of : Stmt := top 21
theorem sc_clock_of : FnScope ["day","board"] ["day","board"] (defScope st_clock_of) := ⟨rfl,rfl,rfl,by decide +kernel,rfl,by decide +kernel,by decide +kernel⟩
abbrev st__law_cell_at : Stmt := top 23
theorem sc__law_cell_at : FnScope ["script","k"] ["script","k"] (defScope st__law_cell_at) := ⟨rfl,rfl,rfl,by decide +kernel,rfl,by decide +kernel,by decide +kernel⟩
abbrev st__law_day : Stmt := top 24
theorem sc__law_day : FnScope ["cell"] ["cell"] (defScope st__law_day) := ⟨rfl,rfl,rfl,by decide +kernel,rfl,by decide +kernel,by decide +kernel⟩
abbrev st__law_stay : Stmt := top 25
theorem sc__law_stay : FnScope ["cell","room"] ["cell","room"] (defScope st__law_stay) := ⟨rfl,rfl,rfl,by decide +kernel,rfl,by decide +kernel,by decide +kernel⟩
abbrev st__law_ride : Stmt := top 26
theorem sc__law_ride : FnScope ["cell","day"] ["cell","day"] (defScope st__law_ride) := ⟨rfl,rfl,rfl,by decide +kernel,rfl,by decide +kernel,by decide +kernel⟩
abbrev st__law_many : Stmt := top 27
theorem sc__law_many : FnScope ["script","most","mixed"] ["script","most"] (defScope st__law_many) := ⟨rfl,rfl,rfl,by decide +kernel,rfl,by decide +kernel,by decide +kernel⟩
abbrev st__law_board : Stmt := top 28
theorem sc__law_board : FnScope ["script","start","most","day","board","k","a","b"] ["script","start","most","day"] (defScope st__law_board) := ⟨rfl,rfl,rfl,by decide +kernel,rfl,by decide +kernel,by decide +kernel⟩
abbrev st__law_whole : Stmt := top 29
theorem sc__law_whole : FnScope ["found"] ["found"] (defScope st__law_whole) := ⟨rfl,rfl,rfl,by decide +kernel,rfl,by decide +kernel,by decide +kernel⟩
abbrev st__law_piece : Stmt := top 30
theorem sc__law_piece : FnScope ["day","board","p","q","going","still","a","b","c","many","ride","early","first","rest"] ["day","board","p","q"] (defScope st__law_piece) := ⟨rfl,rfl,rfl,by decide +kernel,rfl,by decide +kernel,by decide +kernel⟩
abbrev st_law : Stmt := top 31
theorem sc_law : FnScope ["script","day","board","found","cuts","a","b","c","due","k"] ["script"] (defScope st_law) := ⟨rfl,rfl,rfl,by decide +kernel,rfl,by decide +kernel,by decide +kernel⟩
theorem cx_k {CX : CXT} {P : Program} {w : World} {K : PySem.W.Frag} {mg : Str → Option Value} {base : Heap} {N : List Str} {qual : Str} {scope : Scope} {f : Addr} {cd : Value} {A : Around} {outer : List Env} {s : Shared} {H : Hp} {E : XK} : (cxOf CX P w K mg base N qual scope f cd A outer s H E).K = K := rfl
theorem cx_kn {CX : CXT} {P : Program} {w : World} {K : PySem.W.Frag} {mg : Str → Option Value} {base : Heap} {N : List Str} {qual : Str} {scope : Scope} {f : Addr} {cd : Value} {A : Around} {outer : List Env} {s : Shared} {H : Hp} {E : XK} : (cxOf CX P w K mg base N qual scope f cd A outer s H E).nox.K = K := rfl
theorem bl_1 {us : List Value} (h : us.length = 1) : ∃ a0 : Value,us = [a0] := match us,h with | [_],_ => ⟨_,rfl⟩
theorem bl_2 {us : List Value} (h : us.length = 2) : ∃ a0 a1 : Value,us = [a0,a1] := match us,h with | [_,_],_ => ⟨_,_,rfl⟩
theorem bl_3 {us : List Value} (h : us.length = 3) : ∃ a0 a1 a2 : Value,us = [a0,a1,a2] := match us,h with | [_,_,_],_ => ⟨_,_,_,rfl⟩
theorem bl_4 {us : List Value} (h : us.length = 4) : ∃ a0 a1 a2 a3 : Value,us = [a0,a1,a2,a3] := match us,h with | [_,_,_,_],_ => ⟨_,_,_,_,rfl⟩
theorem bl_5 {us : List Value} (h : us.length = 5) : ∃ a0 a1 a2 a3 a4 : Value,us = [a0,a1,a2,a3,a4] := match us,h with | [_,_,_,_,_],_ => ⟨_,_,_,_,_,rfl⟩
theorem as_nil (env : Env) : (assignEach [] env).length = 0 := rfl
theorem as_name (x : Str) (p : Pos) (l : List Expr) (env : Env) : (assignEach (.Name x p :: l) env).length = (assignEach l env).length + 1 := rfl
def spLaw (K : PySem.W.Frag) : Sp := fun vs H Q _ => ∃ (a : Addr) (ns : List Int),vs = [.ref a] ∧ SqL K H a (ns.map V.int) ∧ ns.length ≤ 63 ∧ ∀ H',Q (.bl true) H'
theorem emod_b (x : Int) {m : Int} (h : 0 < m) : 0 ≤ x % m ∧ x % m < m := ⟨Int.emod_nonneg x (by omega),Int.emod_lt_of_pos x h⟩
structure Bl (mg : Str → Option Value) : Prop where
 len : mg "len" = none
 max : mg "max" = none
 min : mg "min" = none
 all : mg "all" = none
 sum : mg "sum" = none
 range : mg "range" = none
 enumerate : mg "enumerate" = none
 isinstance : mg "isinstance" = none
 bool_ : mg "bool" = none
 int_ : mg "int" = none
 tuple_ : mg "tuple" = none
 list_ : mg "list" = none
 set_ : mg "set" = none
 sorted : mg "sorted" = none
section
variable {P : Program} {w : World} {K : PySem.W.Frag} {mg : Str → Option Value} {base : Heap} {f : Addr} {fd : FuncData} {n : Nat}
theorem ok_is_whole (F : Fun K "is_whole" "is_whole" st_is_whole f fd) (B : Bl mg) : FnOk P w K mg base CX0 (n + 1) f fd ["thing"] spIsWhole := by
 refine F.okQ sc_is_whole (fun vs H Q E h => ?_) (fun cdv A outer s H vs Q E hr h => ?_)
 ·obtain ⟨_,rfl,_⟩ := h
  rfl
 obtain ⟨x,rfl,dv,q⟩ := h
 refine ⟨_,(qss_one (qs_ret (qe_and (qe_cb qcall_isi rfl B.isinstance bt_isinstance (qa_c (qv 0) (qa_c (qe_bltn (v := .ty "int") rfl B.int_ bt_int rfl) qa_nil))) (qe_one (qe_not (qe_cb qcall_isi rfl B.isinstance bt_isinstance (qa_c (qv 0) (qa_c (qe_bltn (v := .ty "bool") rfl B.bool_ bt_bool rfl) qa_nil)))))))),?_⟩
 try dsimp only [cx_k,cx_kn,as_nil,as_name,Nat.reduceAdd]
 cases dv with
 | non => exact ⟨_,rfl,_,"int",_,_,rfl,.non,rfl,_,rfl,iteF q⟩
 | bl b => exact ⟨_,rfl,_,"int",_,_,rfl,.bl _,rfl,_,rfl,iteT ⟨_,rfl,_,"bool",_,_,rfl,.bl _,rfl,_,rfl,q⟩⟩
 | int i => exact ⟨_,rfl,_,"int",_,_,rfl,.int _,rfl,_,rfl,iteT ⟨_,rfl,_,"bool",_,_,rfl,.int _,rfl,_,rfl,q⟩⟩
 | str z => exact ⟨_,rfl,_,"int",_,_,rfl,.str _,rfl,_,rfl,iteF q⟩
 | lst e => exact ⟨_,rfl,_,"int",_,_,rfl,.lst e,rfl,_,rfl,iteF q⟩
 | tup e => exact ⟨_,rfl,_,"int",_,_,rfl,.tup e,rfl,_,rfl,iteF q⟩
theorem ok_is_window (F : Fun K "is_window" "is_window" st_is_window f fd) (B : Bl mg) (C_is_whole : Callee P w K mg base n "is_whole" ["thing"] spIsWhole) : FnOk P w K mg base CX0 (n + 1) f fd ["day","thing"] spWindow := by
 refine F.okQ sc_is_window (fun vs H Q E h => ?_) (fun cdv A outer s H vs Q E hr h => ?_)
 ·obtain ⟨_,_,rfl,_⟩ := h
  rfl
 obtain ⟨day,x,rfl,dv,q⟩ := h
 refine ⟨_,(qss_cons (qs_if (QW.pt (qw_or (qt_not (qt_val (qe_cb qcall_isi rfl B.isinstance bt_isinstance (qa_c (qv 1) (qa_c (qe_bltn (v := .ty "tuple") rfl B.tuple_ bt_tuple rfl) qa_nil))))) (qw_or1 (qt_cmpR qop_ne (qe_cb qcall_len rfl B.len bt_len (qa_c (qv 1) qa_nil)) qe_int (nomark _))))) (qss_one (qs_ret qe_bl)) qss_nil) (qss_cons (qs_if (qt_not (qt_val (qe_cb (qcall_all rfl) rfl B.all bt_all (qa_c (qe_comp ["part"] [none] (BlkOk.of rfl rfl (SubL.to subN) rfl) rfl (qi_tup (qv 1)) (fun _ _ _ _ => (qg_name (i := 0) (show (["part"] : List Str).Nodup by decide) rfl (Or.inl rfl))) (fun _ _ _ _ => (qe_fn C_is_whole hr rfl (qa_c (qv 0) qa_nil)))) qa_nil)))) (qss_one (qs_ret qe_bl)) qss_nil) (qss_one (qs_ret (qe_and (qe_chain3 qop_le qop_le qop_lt qe_int (qe_ix qix_tup (qv 1) qe_int (fun _ _ => rfl)) (qe_ix qix_tup (qv 1) qe_int (fun _ _ => rfl)) (qv 0)) (qe_one (qe_cmpR qop_ge (qe_ix qix_tup (qv 1) qe_int (fun _ _ => rfl)) qe_int (nomark _)))))))),?_⟩
 try dsimp only [cx_k,cx_kn,as_nil,as_name,Nat.reduceAdd]
 obtain ⟨t,hty,hk⟩ := dv.1.isTup (K := K)
 have q0 : winV H day x = false → ∀ H',Same H H' → Q (.bl false) H' := fun e H' s => by
  have := q H' s
  rw [e] at this
  exact this
 cases ht : tupV H x with
 | none =>
  rw [ht] at hk
  have hw : winV H day x = false := by unfold winV; rw [ht]
  exact ⟨_,rfl,_,"tuple",t,_,rfl,hty,hk,_,rfl,iteT (iteT (q0 hw _ (Same.refl H)))⟩
 | some xs =>
  rw [ht] at hk
  have hwl : winV H day x = winL day xs := by unfold winV; rw [ht]
  have dz := dv.2 xs ht
  obtain ⟨r,rfl,er⟩ := tupV_at ht
  refine ⟨_,rfl,_,"tuple",t,_,rfl,hty,hk,_,rfl,iteF ?_⟩
  refine ⟨_,rfl,r,xs,rfl,.inr (SqT.of er),rfl,_,rfl,?_⟩
  by_cases hl : xs.length = 3
  ·obtain ⟨u,v,w',rfl⟩ := three hl
   refine iteN (by simp) ?_
   refine ⟨_,rfl,r,rfl,⟨_,SqT.of er⟩,?_⟩
   refine comp_tup0 (K := K) (a := r) (xs := [u,v,w']) (fun D i H' => Same H H' ∧ H' D = some (.lst ((([u,v,w'] : List V).take i).map fun y => V.bl (isWh y)))) (fun D hD => ⟨same_new hD _,upd_same⟩) (fun D i H' _ _ h => SqT.of (h.1 _ _ er)) ?_ ?_
   ·rintro D i y H' hD hi ⟨s2,hD2⟩
    refine ⟨fun k v' e => ?_,_,rfl,y,rfl,(dz y (List.mem_of_getElem? hi)).same s2,_,hD2,(by rw [List.length_map,List.length_take]; exact small1000 (by simp; omega)),fun b o eb => ?_,?_⟩
    ·match k,e with
     | 0,e => cases e
     | k + 1,e => cases e
    ·rw [upd_ne (ne_of_none eb hD)]
     exact s2 _ _ eb
    ·rw [upd_same,take_snoc _ hi]
   ·rintro D H' hD ⟨s2,hD2⟩
    have eD : H' D = some (.lst (([isWh u,isWh v,isWh w'] : List Bool).map V.bl)) := hD2
    refine ⟨D,_,rfl,SqL.of eD,_,rfl,?_⟩
    refine ite2 (fun c => ?_) (fun c => ?_)
    ·refine q0 ?_ H' s2
     rw [hwl]
     have c' : (isWh u && (isWh v && isWh w')) = false := by cases hu : isWh u <;> cases hv : isWh v <;> cases hw : isWh w' <;> simp [hu,hv,hw] at c ⊢
     unfold winL
     split
     ·rename_i a b c e
      cases e
      exact absurd c' (by simp [isWh])
     ·rfl
    ·have c' : isWh u = true ∧ isWh v = true ∧ isWh w' = true := by simpa using c
     obtain ⟨a,rfl⟩ := isWh_int c'.1
     obtain ⟨b,rfl⟩ := isWh_int c'.2.1
     obtain ⟨c3,rfl⟩ := isWh_int c'.2.2
     have q1 := q H' s2
     rw [hwl] at q1
     have er' := s2 _ _ er
     unfold winL at q1
     dsimp only at q1
     refine ⟨_,rfl,r,_,_,_,rfl,rfl,SqT.of er',rfl,_,_,rfl,rfl,_,rfl,?_⟩
     refine ite2 (fun c1 => ?_) (fun c1 => ?_)
     ·rw [c1,Bool.true_and] at q1
      refine ⟨_,rfl,r,_,_,_,rfl,rfl,SqT.of er',rfl,_,_,rfl,rfl,_,rfl,?_⟩
      refine ite2 (fun c2 => ?_) (fun c2 => ?_)
      ·rw [c2,Bool.true_and] at q1
       refine ⟨_,rfl,_,_,rfl,rfl,_,rfl,?_⟩
       refine ite2 (fun c3 => ?_) (fun c3 => ?_)
       ·rw [c3,Bool.true_and] at q1
        exact ⟨_,rfl,r,_,_,_,rfl,rfl,SqT.of er',rfl,_,_,rfl,rfl,q1⟩
       ·rw [Bool.eq_false_iff.mpr c3,Bool.false_and] at q1
        exact q1
      ·rw [Bool.eq_false_iff.mpr c2,Bool.false_and] at q1
       exact ⟨_,rfl,iteF q1⟩
     ·rw [Bool.eq_false_iff.mpr c1,Bool.false_and] at q1
      exact ⟨_,rfl,iteF q1⟩
  ·refine iteP (by simp; omega) (q0 ?_ _ (Same.refl H))
   rw [hwl]
   unfold winL
   split
   ·rename_i e
    exact absurd rfl hl
   ·rfl
theorem ok_is_board (F : Fun K "is_board" "is_board" st_is_board f fd) (B : Bl mg) (C_is_window : Callee P w K mg base n "is_window" ["day","thing"] spWindow) : FnOk P w K mg base CX0 (n + 1) f fd ["day","thing"] spBoard := by
 refine F.okQ sc_is_board (fun vs H Q E h => ?_) (fun cdv A outer s H vs Q E hr h => ?_)
 ·obtain ⟨_,_,rfl,_⟩ := h
  rfl
 obtain ⟨day,x,rfl,dv,q⟩ := h
 refine ⟨_,(qss_one (qs_ret (qe_and (qe_cb qcall_isi rfl B.isinstance bt_isinstance (qa_c (qv 1) (qa_c (qe_bltn (v := .ty "list") rfl B.list_ bt_list rfl) qa_nil))) (qe_one (qe_cb (qcall_all rfl) rfl B.all bt_all (qa_c (qe_comp ["part","day"] [none,some 0] (BlkOk.of rfl rfl (SubL.to (subC rfl subN)) rfl) rfl (qi_list (qv 1)) (fun _ _ _ _ => (qg_name (i := 0) (show (["part","day"] : List Str).Nodup by decide) rfl (Or.inl rfl))) (fun _ _ _ _ => (qe_fn C_is_window hr rfl (qa_c (qv 1) (qa_c (qv 0) qa_nil))))) qa_nil)))))),?_⟩
 try dsimp only [cx_k,cx_kn,as_nil,as_name,Nat.reduceAdd]
 obtain ⟨t,hty,hk⟩ := dv.1.isLst (K := K)
 unfold boardV at q
 cases ht : lstV H x with
 | none =>
  rw [ht] at hk q
  exact ⟨_,rfl,_,"list",t,_,rfl,hty,hk,_,rfl,iteF (q _ (Same.refl H))⟩
 | some xs =>
  rw [ht] at hk q
  obtain ⟨hlen,dz⟩ := dv.2 xs ht
  obtain ⟨p,rfl,ep⟩ := lstV_at ht
  refine ⟨_,rfl,_,"list",t,_,rfl,hty,hk,_,rfl,iteT ?_⟩
  refine ⟨_,rfl,p,rfl,⟨_,SqL.of ep⟩,?_⟩
  refine comp_list0 (K := K) (a := p) (xs := xs) (fun D i H' => Same H H' ∧ H' D = some (.lst ((xs.take i).map fun y => V.bl (winV H day y)))) (fun D hD => ⟨same_new hD _,upd_same⟩) (fun D i H' _ _ h => SqL.of (h.1 _ _ ep)) ?_ ?_
  ·rintro D i y H' hD hi ⟨s2,hD2⟩
   have d2 := dz y (List.mem_of_getElem? hi)
   refine ⟨fun k v' e => ?_,_,rfl,_,rfl,day,y,rfl,d2.same s2,fun H3 s3 => ⟨_,s3 _ _ hD2,(by rw [List.length_map,List.length_take]; exact small1000 (by omega)),fun b o eb => ?_,?_⟩⟩
   ·match k,e with
    | 0,e => cases e
    | 1,e => exact e
    | k + 2,e => cases e
   ·rw [upd_ne (ne_of_none eb hD)]
    exact s3 _ _ (s2 _ _ eb)
   ·rw [upd_same,take_snoc _ hi,d2.1.winV_same s2]
  ·rintro D H' hD ⟨s2,hD2⟩
   have eD : H' D = some (.lst ((xs.map (winV H day)).map V.bl)) := by
    rw [hD2,List.take_length,List.map_map]
    rfl
   refine ⟨D,_,rfl,SqL.of eD,?_⟩
   have e1 : (xs.map (winV H day)).all id = xs.all (winV H day) := by rw [List.all_map]; rfl
   rw [e1]
   exact q H' s2
end
def spStretches : Sp := fun vs H Q _ => ∃ (day : Int) (p : Addr) (R : List T3),vs = [.int day,.ref p] ∧ LA enc3 H p R ∧ R.length ≤ 4000000 ∧ ∀ (l : Addr) (H' : Hp),Same H H' → H l = none → LA enc4 H' l (Ma.strOf day R) → Q (.ref l) H'
section
variable {P : Program} {w : World} {K : PySem.W.Frag} {mg : Str → Option Value} {base : Heap} {f : Addr} {fd : FuncData} {n : Nat}
theorem ok_stretches (F : Fun K "stretches" "stretches" st_stretches f fd) (B : Bl mg) : FnOk P w K mg base CX0 (n + 1) f fd ["day","clock"] spStretches := by
 refine F.okQ sc_stretches (fun vs H Q E h => ?_) (fun cdv A outer s H vs Q E hr h => ?_)
 ·obtain ⟨_,_,_,rfl,_⟩ := h
  rfl
 obtain ⟨day,p,R,rfl,hR,hlen,q⟩ := h
 refine ⟨_,(qss_cons (qs_set (i := 2) sc_stretches.nd rfl (Or.inl rfl) (qe_lst qa_nil)) (qss_cons (qs_set (i := 3) sc_stretches.nd rfl (Or.inl rfl) qe_int) (qss_cons (qs_for PassesOwn.never rfl (qi_list (qv 1)) (qg_tup rfl (qgs_cons (qg_name (i := 4) sc_stretches.nd rfl (Or.inl rfl)) (qgs_cons (qg_name (i := 5) sc_stretches.nd rfl (Or.inl rfl)) (qgs_cons (qg_name (i := 6) sc_stretches.nd rfl (Or.inl rfl)) qgs_nil)))) (qss_cut (qs_if (qt_cmpR qop_lt (qv 3) (qv 4) (nomark _)) (qss_one (qs_expr (qe_append (qv 2) (qa_c (qe_tup (qa_c (qv 3) (qa_c (qe_op qop_sub (qv 4) qe_int) (qa_c qe_bl (qa_c (qe_op qop_add (qv 4) (qv 6)) qa_nil))))) qa_nil)))) qss_nil) (qss_cons (qs_expr (qe_append (qv 2) (qa_c (qe_tup (qa_c (qv 4) (qa_c (qv 5) (qa_c qe_bl (qa_c (qv 6) qa_nil))))) qa_nil))) (qss_one (qs_set (i := 3) sc_stretches.nd rfl (Or.inl rfl) (qe_op qop_add (qv 5) qe_int)))))) (qss_cut (qs_if (qt_cut (QW.pt (qw_and (qt_cmpR qop_gt (qe_cb qcall_len rfl B.len bt_len (qa_c (qv 2) qa_nil)) qe_int (nomark _)) (qw_and1 (qt_cmpR qop_lt (qv 3) (qv 0) (nomark _)))))) (qss_one (qs_expr (qe_append (qv 2) (qa_c (qe_tup (qa_c (qv 3) (qa_c (qe_op qop_sub (qv 0) qe_int) (qa_c qe_bl (qa_c (qe_op qop_add (qe_op qop_add (qv 0) (qe_ix qix_tup (qe_ix qix_list (qv 1) qe_int (fun _ _ => rfl)) qe_int (fun _ _ => rfl))) (qe_ix qix_tup (qe_ix qix_list (qv 1) qe_int (fun _ _ => rfl)) qe_int (fun _ _ => rfl))) qa_nil))))) qa_nil)))) qss_nil) (qss_one (qs_ret (qv 2))))))),?_⟩
 try dsimp only [cx_k,cx_kn,as_nil,as_name,Nat.reduceAdd]
 refine ⟨(by show 0 ≤ sizeLine; decide),fun pr hpr => ?_⟩
 have s0 : Same H (upd H pr (.lst [])) := same_new hpr _
 obtain ⟨ws,hw1,hw2,hw3⟩ := hR.lst
 refine ⟨_,rfl,p,rfl,⟨_,SqL.of (s0 _ _ hw1)⟩,for_list (K := K) (a := p) (xs := ws)
  (fun i σ H' => ∃ (v1 v2 v3 : Option V),σ = [some (.int day),some (.ref p),some (.ref pr),some (.int (Ma.stPre (R.take i)).2),v1,v2,v3] ∧ Same H H' ∧ LA enc4 H' pr (Ma.stPre (R.take i)).1)
  ⟨_,_,_,rfl,s0,LA.nil upd_same⟩ (fun i σ H' _ ⟨_,_,_,_,s1,_⟩ => SqL.of (s1 _ _ hw1)) ?_ ?_⟩
 ·rintro i y σ H1 hi ⟨v1,v2,v3,rfl,s1,hL⟩
  obtain ⟨r,x,rfl,ex,er⟩ := hw3 i y hi
  obtain ⟨a,b,c⟩ := x
  have er1 := s1 _ _ er
  have hi2 : i < R.length := (List.getElem?_eq_some_iff.mp ex).1
  have et : R.take (i + 1) = R.take i ++ [(a,b,c)] := by rw [List.take_add_one,ex]; rfl
  have ln : (Ma.stPre (R.take i)).1.length ≤ 2 * i := by
   have := (Ma.stPre_len (R.take i)).1
   rw [List.length_take] at this
   omega
  rw [et,Ma.stPre_snoc]
  unfold Ma.stStep
  generalize (Ma.stPre (R.take i)).1 = S at *
  generalize (Ma.stPre (R.take i)).2 = pp at *
  refine ⟨r,_,rfl,SqT.of er1,rfl,_,_,rfl,_,_,rfl,_,_,rfl,rfl,?_⟩
  refine ⟨fun σ' H2 => σ' = [some (.int day),some (.ref p),some (.ref pr),some (.int pp),some (.int a),some (.int b),some (.int c)] ∧ Same H H2 ∧ LA enc4 H2 pr (if pp < a then S ++ [(pp,a - 1,true,a + c)] else S),?_,?_⟩
  ·refine ⟨_,rfl,_,rfl,_,_,rfl,rfl,_,rfl,?_⟩
   refine ite2 (fun z => ?_) (fun z => ?_)
   ·rw [if_pos (of_decide_eq_true z)]
    obtain ⟨us,hu1,hu2,hu3⟩ := hL.lst
    refine ⟨_,rfl,.inl ⟨rfl,_,SqL.of hu1⟩,_,rfl,_,rfl,_,_,rfl,rfl,_,rfl,_,rfl,_,_,rfl,rfl,(by show 4 ≤ sizeLine; decide),fun r2 hr2 => ?_⟩
    have s2 := same_new hr2 (.tup [.int pp,.int (a - 1),.bl true,.int (a + c)])
    refine ⟨pr,us,.ref r2,rfl,rfl,s2 _ _ hu1,line_of (by omega),rfl,same_wr hpr (s1.trans s2),?_⟩
    exact (hL.same s2).append (x := (pp,a - 1,true,a + c)) (s2 _ _ hu1) upd_same
   ·rw [if_neg (fun y => z (decide_eq_true y))]
    exact ⟨rfl,s1,hL⟩
  rintro σ' H2 ⟨rfl,s2,hL2⟩
  have ln2 : (if pp < a then S ++ [(pp,a - 1,true,a + c)] else S).length ≤ 2 * i + 1 := by
   split
   ·simp; omega
   ·omega
  generalize (if pp < a then S ++ [(pp,a - 1,true,a + c)] else S) = S2 at *
  obtain ⟨us,hu1,hu2,hu3⟩ := hL2.lst
  refine ⟨_,rfl,.inl ⟨rfl,_,SqL.of hu1⟩,_,rfl,_,rfl,_,rfl,(by show 4 ≤ sizeLine; decide),fun r2 hr2 => ?_⟩
  have s3 := same_new hr2 (.tup [.int a,.int b,.bl false,.int c])
  refine ⟨pr,us,.ref r2,rfl,rfl,s3 _ _ hu1,line_of (by omega),?_⟩
  refine ⟨_,rfl,_,_,rfl,rfl,_,_,_,rfl,same_wr hpr (s2.trans s3),?_⟩
  exact (hL2.same s3).append (x := (a,b,false,c)) (s3 _ _ hu1) upd_same
 ·rintro σ H1 ⟨v1,v2,v3,rfl,s1,hL⟩
  rw [hw2,List.take_length] at hL ⊢
  have ln := Ma.stPre_len R
  obtain ⟨us,hu1,hu2,hu3⟩ := hL.lst
  refine ⟨fun σ' H2 => ∃ u1 u2 u3 u4,σ' = [some (.int day),some (.ref p),some (.ref pr),u1,u2,u3,u4] ∧ Same H H2 ∧ LA enc4 H2 pr (Ma.strOf day R),?_,?_⟩
  ·unfold Ma.strOf
   refine ⟨fun c H2 => H2 = H1 ∧ c = decide (0 < (Ma.stPre R).1.length ∧ (Ma.stPre R).2 < day),?_,?_⟩
   ·refine ⟨_,rfl,pr,_,rfl,.inl (SqL.of hu1),_,_,rfl,rfl,_,rfl,?_⟩
    refine ite2 (fun z => ?_) (fun z => ?_)
    ·have z' : (0 : Int) < ((us.length : Nat) : Int) := of_decide_eq_true z
     refine ⟨_,rfl,_,rfl,_,_,rfl,rfl,_,rfl,rfl,?_⟩
     have z2 : 0 < (Ma.stPre R).1.length := by omega
     by_cases c : (Ma.stPre R).2 < day <;> simp [c,z2]
    ·refine ⟨rfl,?_⟩
     have z' : ¬ (0 : Int) < ((us.length : Nat) : Int) := fun y => z (decide_eq_true y)
     exact (decide_eq_false (by omega)).symm
   rintro c H2 ⟨rfl,rfl⟩
   refine ite2 (fun z => ?_) (fun z => ?_)
   ·have z' := of_decide_eq_true z
    rw [if_pos z']
    have n0 : 0 < R.length := by
     rcases Nat.eq_zero_or_pos R.length with e | e
     ·have := ln.1
      omega
     ·exact e
    obtain ⟨ws',k1,k2,k3⟩ := (hR.same s1).at (K := K)
    obtain ⟨r0,ka,kb⟩ := k3 0 _ (Ma.r_at n0)
    refine ⟨_,rfl,.inl ⟨rfl,_,SqL.of hu1⟩,_,rfl,_,rfl,_,_,rfl,rfl,_,rfl,_,rfl,p,_,_,_,rfl,rfl,SqL.of k1,ka,r0,_,_,_,rfl,rfl,SqT.of kb,rfl,_,_,rfl,rfl,_,rfl,p,_,_,_,rfl,rfl,SqL.of k1,ka,r0,_,_,_,rfl,rfl,SqT.of kb,rfl,_,_,rfl,rfl,
     (by show 4 ≤ sizeLine; decide),fun r2 hr2 => ?_⟩
    have s3 := same_new hr2 (.tup [.int (Ma.stPre R).2,.int (day - 1),.bl true,.int (day + Ma.rA R 0 + Ma.rC R 0)])
    refine ⟨pr,us,.ref r2,rfl,rfl,s3 _ _ hu1,line_of (by omega),_,_,_,_,rfl,same_wr hpr (s1.trans s3),?_⟩
    exact (hL.same s3).append (x := ((Ma.stPre R).2,day - 1,true,day + Ma.rA R 0 + Ma.rC R 0)) (s3 _ _ hu1) upd_same
   ·rw [if_neg (fun y => z (decide_eq_true y))]
    exact ⟨_,_,_,_,rfl,s1,hL⟩
  rintro σ' H2 ⟨u1,u2,u3,u4,rfl,s2,hL2⟩
  exact ⟨_,rfl,q pr H2 s2 hpr hL2⟩
end
open Ma (T6)
def enc6 (r : T6) : List V := [.int r.1,.int r.2.1,.bl r.2.2.1,.int r.2.2.2.1,.bl r.2.2.2.2.1,.int r.2.2.2.2.2]
def spFirstTold : Sp := fun vs H Q _ => ∃ (r : Addr) (x : T4),vs = [.ref r] ∧ H r = some (.tup (enc4 x)) ∧ Q (.int (Ma.ftold x)) H
def spPut : Sp := fun vs H Q _ => ∃ (p : Addr) (a b c : Int) (R : List T3),vs = [.ref p,.int a,.int b,.int c] ∧ LA enc3 H p R ∧ R.length ≤ 16000000 ∧ ∀ H',SameT p H H' → LA enc3 H' p (Ma.putW R a b c) → Q .non H'
def spClockFrom : Sp := fun vs H Q _ => ∃ (day : Int) (p : Addr) (S : List T4) (g : Int → Int),vs = [.int day,.ref p] ∧ LA enc4 H p S ∧ S.length ≤ 16000000 ∧ 0 < day ∧ Ma.Rise day g ∧ Ma.Cov g 0 S day ∧
 ∀ (l : Addr) (R : List T3) (H' : Hp),Same H H' → H l = none → LA enc3 H' l R → R.length ≤ S.length → Ma.Can 0 day g R → Q (.ref l) H'
def spOverlay : Sp := fun vs H Q _ => ∃ (day : Int) (p1 p2 : Addr) (R1 R2 : List T3) (f1 f2 : Int → Int),vs = [.int day,.ref p1,.ref p2] ∧ LA enc3 H p1 R1 ∧ LA enc3 H p2 R2 ∧ R1.length ≤ 1900000 ∧ R2.length ≤ 1900000 ∧ Ma.CK day R1 ∧ Ma.CK day R2 ∧ Ma.Tells day R1 f1 ∧ Ma.Tells day R2 f2 ∧
 ∀ (l : Addr) (O : List T6) (H' : Hp),Same H H' → H l = none → LA enc6 H' l O → O.length ≤ 2 * R1.length + 2 * R2.length + 2 → Ma.Cov2 f1 f2 0 O day → Q (.ref l) H'
def spPicked : Sp := fun vs H Q _ => ∃ (p q wt rd : Int) (late : Bool),vs = [.int p,.int q,.int wt,.int rd,.bl late] ∧ ∀ (l : Addr) (H' : Hp),Same H H' → H l = none → LA enc4 H' l (Ma.pickL p q wt rd late) → Q (.ref l) H'
def spJoined : Sp := fun vs H Q _ => ∃ (day : Int) (p1 p2 : Addr) (late : Bool) (R1 R2 : List T3) (f1 f2 : Int → Int),vs = [.int day,.ref p1,.ref p2,.bl late] ∧ LA enc3 H p1 R1 ∧ LA enc3 H p2 R2 ∧ R1.length ≤ 1900000 ∧ R2.length ≤ 1900000 ∧ Ma.CK day R1 ∧ Ma.CK day R2 ∧ Ma.Tells day R1 f1 ∧ Ma.Tells day R2 f2 ∧
 ∀ (l : Addr) (R : List T3) (H' : Hp),Same H H' → H l = none → LA enc3 H' l R → R.length ≤ 4 * R1.length + 4 * R2.length + 4 → Ma.Can 0 day (fun x => Ma.jn late (f1 x) (f2 x)) R → Q (.ref l) H'
def spTwo (op : Option Int → Option Int → Option Int) : Sp := fun vs H Q _ => ∃ (day : Int) (p1 p2 : Addr) (R1 R2 : List T3),vs = [.int day,.ref p1,.ref p2] ∧ LA enc3 H p1 R1 ∧ LA enc3 H p2 R2 ∧ R1.length ≤ 1900000 ∧ R2.length ≤ 1900000 ∧ Ma.CK day R1 ∧ Ma.CK day R2 ∧
 ∀ (l : Addr) (R : List T3) (H' : Hp),Same H H' → H l = none → LA enc3 H' l R → R.length ≤ 4 * R1.length + 4 * R2.length + 4 → Ma.CK day R → (∀ t,Ma.bt day R t = op (Ma.bt day R1 t) (Ma.bt day R2 t)) → Q (.ref l) H'
section
variable {P : Program} {w : World} {K : PySem.W.Frag} {mg : Str → Option Value} {base : Heap} {f : Addr} {fd : FuncData} {n : Nat}
theorem ok_first_told (F : Fun K "first_told" "first_told" st_first_told f fd) : FnOk P w K mg base CX0 (n + 1) f fd ["row"] spFirstTold := by
 refine F.okQ sc_first_told (fun vs H Q E h => ?_) (fun cdv A outer s H vs Q E hr h => ?_)
 ·obtain ⟨_,_,rfl,_⟩ := h
  rfl
 obtain ⟨r,x,rfl,hx,q⟩ := h
 refine ⟨_,(qss_one (qs_ret (qe_ifExp (qt_val (qe_ix qix_tup (qv 0) qe_int (fun _ _ => rfl))) (qe_ix qix_tup (qv 0) qe_int (fun _ _ => rfl)) (qe_op qop_add (qe_ix qix_tup (qv 0) qe_int (fun _ _ => rfl)) (qe_ix qix_tup (qv 0) qe_int (fun _ _ => rfl)))))),?_⟩
 try dsimp only [cx_k,cx_kn,as_nil,as_name,Nat.reduceAdd]
 refine ⟨_,rfl,r,_,_,_,rfl,rfl,SqT.of hx,rfl,_,rfl,?_⟩
 unfold Ma.ftold at q
 refine ite2 (fun c => ?_) (fun c => ?_)
 ·rw [if_pos c] at q
  exact ⟨_,rfl,r,_,_,_,rfl,rfl,SqT.of hx,rfl,q⟩
 ·rw [if_neg c] at q
  exact ⟨_,rfl,r,_,_,_,rfl,rfl,SqT.of hx,rfl,_,rfl,r,_,_,_,rfl,rfl,SqT.of hx,rfl,_,_,rfl,rfl,q⟩
theorem ok_put (F : Fun K "put_window" "put_window" st_put_window f fd) (B : Bl mg) : FnOk P w K mg base CX0 (n + 1) f fd ["clock","a","b","c"] spPut := by
 refine F.okQ sc_put_window (fun vs H Q E h => ?_) (fun cdv A outer s H vs Q E hr h => ?_)
 ·obtain ⟨_,_,_,_,_,rfl,_⟩ := h
  rfl
 obtain ⟨p,a,b,c,R,rfl,hR,hlen,q⟩ := h
 refine ⟨_,(qss_cons (qs_if (qt_cmpR qop_gt (qv 1) (qv 2) (nomark _)) (qss_one qs_retN) qss_nil) (qss_one (qs_if (qt_cut (QW.pt (qw_and (qt_cmpR qop_gt (qe_cb qcall_len rfl B.len bt_len (qa_c (qv 0) qa_nil)) qe_int (nomark _)) (qw_and (qt_cmpR qop_eq (qe_op qop_add (qe_ix qix_tup (qe_ix qix_list (qv 0) (qe_neg qe_int) (fun _ _ => rfl)) qe_int (fun _ _ => rfl)) qe_int) (qv 1) (nomark _)) (qw_and1 (qt_cmpR qop_eq (qe_ix qix_tup (qe_ix qix_list (qv 0) (qe_neg qe_int) (fun _ _ => rfl)) qe_int (fun _ _ => rfl)) (qv 3) (nomark _))))))) (qss_one (qs_asg (qe_tup (qa_c (qe_ix qix_tup (qe_ix qix_list (qv 0) (qe_neg qe_int) (fun _ _ => rfl)) qe_int (fun _ _ => rfl)) (qa_c (qv 2) (qa_c (qv 3) qa_nil)))) (qg_sub (qv 0) (qe_neg qe_int) set_list))) (qss_one (qs_expr (qe_append (qv 0) (qa_c (qe_tup (qa_c (qv 1) (qa_c (qv 2) (qa_c (qv 3) qa_nil)))) qa_nil))))))),?_⟩
 try dsimp only [cx_k,cx_kn,as_nil,as_name,Nat.reduceAdd]
 obtain ⟨vs,hv1,hv2,hv3⟩ := hR.lst
 have neg1 : ∀ (i : Int) ,(-1 : Int) = -i → i = 1 := fun i e => by omega
 refine ⟨_,rfl,_,rfl,_,_,rfl,rfl,_,rfl,?_⟩
 unfold Ma.putW at q
 refine ite2 (fun z => ?_) (fun z => ?_)
 ·rw [if_pos (of_decide_eq_true z)] at q
  exact q H (fun b o e _ => e) hR
 rw [if_neg (fun y => z (decide_eq_true y))] at q
 have app : ∀ H1 : Hp,H1 = H → (∀ H',SameT p H H' → LA enc3 H' p (R ++ [(a,b,c)]) → Q .non H') → ∀ r2,H1 r2 = none → Q .non (upd (upd H1 r2 (.tup [.int a,.int b,.int c])) p (.lst (vs ++ [.ref r2]))) := by
  rintro H1 rfl q' r2 hr2
  have s2 := same_new hr2 (.tup [.int a,.int b,.int c])
  refine q' _ (fun x o e nx => ?_) ((hR.same s2).append (x := (a,b,c)) (s2 _ _ hv1) upd_same)
  rw [upd_ne nx]
  exact s2 _ _ e
 cases hl : R.getLast? with
 | none =>
  rw [hl] at q
  have e0 := List.getLast?_eq_none_iff.mp hl
  subst e0
  have v0 : vs = [] := List.length_eq_zero_iff.mp hv2
  subst v0
  refine ⟨fun k H' => k = false ∧ H' = H,?_,?_⟩
  ·exact ⟨_,rfl,p,_,rfl,.inl (SqL.of hv1),_,_,rfl,rfl,_,rfl,iteN (by simp) ⟨rfl,rfl⟩⟩
  rintro k H1 ⟨rfl,rfl⟩
  refine iteF ⟨_,rfl,.inl ⟨rfl,_,SqL.of hv1⟩,_,rfl,_,rfl,_,rfl,(by show 3 ≤ sizeLine; decide),fun r2 hr2 => ?_⟩
  refine ⟨p,_,.ref r2,rfl,rfl,(same_new hr2 _) _ _ hv1,line_of (by simp),app H1 rfl q r2 hr2⟩
 | some l =>
  rw [hl] at q
  obtain ⟨R0,rfl⟩ := List.getLast?_eq_some_iff.mp hl
  have vl : vs.length = R0.length + 1 := by rw [hv2]; simp
  have vne : vs ≠ [] := fun e => by rw [e] at vl; simp at vl
  obtain ⟨r,x,e1,e2,e3⟩ := hv3 R0.length _ (List.getElem?_eq_getElem (by omega))
  have e2' : l = x := by simpa using e2
  subst e2'
  have at1 : atI vs (-1) = some (.ref r) := by
   rw [atI_last vne,show vs.length - 1 = R0.length by omega,List.getElem?_eq_getElem (by omega),e1]
  obtain ⟨la,lb,lc⟩ := l
  refine ⟨fun k H' => k = decide (lb + 1 = a ∧ lc = c) ∧ H' = H,?_,?_⟩
  ·refine ⟨_,rfl,p,_,rfl,.inl (SqL.of hv1),_,_,rfl,rfl,_,rfl,iteP (decide_eq_true (by show (0 : Int) < ((vs.length : Nat) : Int); omega)) ?_⟩
   refine ⟨_,rfl,_,rfl,p,_,_,_,rfl,rfl,SqL.of hv1,at1,r,_,_,_,rfl,rfl,SqT.of e3,rfl,_,_,rfl,rfl,_,rfl,rfl,_,rfl,?_⟩
   refine ite2 (fun y => ?_) (fun y => ?_)
   ·have y' : lb + 1 = a := by
     have := of_decide_eq_true y
     simpa [enc3] using this
    refine ⟨_,rfl,_,rfl,p,_,_,_,rfl,rfl,SqL.of hv1,at1,r,_,_,_,rfl,rfl,SqT.of e3,rfl,_,rfl,rfl,_,rfl,?_,rfl⟩
    by_cases c0 : lc = c <;> simp [y',c0]
   ·have y' : ¬ lb + 1 = a := fun e => y (decide_eq_true (by rw [← e]))
    exact ⟨by simp [y'],rfl⟩
  rintro k H1 ⟨rfl,rfl⟩
  dsimp only at q
  refine ite2 (fun y => ?_) (fun y => ?_)
  ·have y' := of_decide_eq_true y
   rw [if_pos y',List.dropLast_concat] at q
   refine ⟨_,rfl,_,rfl,p,_,_,_,rfl,rfl,SqL.of hv1,at1,r,_,_,_,rfl,rfl,SqT.of e3,rfl,_,rfl,_,rfl,(by show 3 ≤ sizeLine; decide),fun r2 hr2 => ?_⟩
   have s2 := same_new hr2 (.tup [.int la,.int b,.int c])
   have ix : ixN vs.length (-1) = some R0.length := by
    unfold ixN
    rw [if_neg (by omega),if_pos (by omega)]
    congr 1
    omega
   refine ⟨_,rfl,_,rfl,p,vs,-1,R0.length,rfl,rfl,s2 _ _ hv1,ix,?_⟩
   refine q _ (fun x o e nx => ?_) ?_
   ·rw [upd_ne nx]
    exact s2 _ _ e
   ·have h := (hR.same s2).setAt (x := (la,b,c)) (j := R0.length) (s2 _ _ hv1) upd_same
    have e : (R0 ++ [(la,lb,lc)]).set R0.length (la,b,c) = R0 ++ [(la,b,c)] := by simp
    rw [e] at h
    exact h
  ·rw [if_neg (fun z => y (decide_eq_true z))] at q
   refine ⟨_,rfl,.inl ⟨rfl,_,SqL.of hv1⟩,_,rfl,_,rfl,_,rfl,(by show 3 ≤ sizeLine; decide),fun r2 hr2 => ?_⟩
   exact ⟨p,_,.ref r2,rfl,rfl,(same_new hr2 _) _ _ hv1,line_of (by omega),app H1 rfl q r2 hr2⟩
theorem ok_clock_from (F : Fun K "clock_from" "clock_from" st_clock_from f fd) (B : Bl mg) (C_first_told : Callee P w K mg base n "first_told" ["row"] spFirstTold) (C_put_window : Callee P w K mg base n "put_window" ["clock","a","b","c"] spPut) :
  FnOk P w K mg base CX0 (n + 1) f fd ["day","rows"] spClockFrom := by
 refine F.okQ sc_clock_from (fun vs H Q E h => ?_) (fun cdv A outer s H vs Q E hr h => ?_)
 ·obtain ⟨_,_,_,_,rfl,_⟩ := h
  rfl
 obtain ⟨day,p,S,g,rfl,hS,hlen,hd,rg,hC,q⟩ := h
 refine ⟨_,(qss_cons (qs_set (i := 2) sc_clock_from.nd rfl (Or.inl rfl) (qe_lst qa_nil)) (qss_cons (qs_for PassesOwn.never rfl (qi_enum rfl B.enumerate (qa_c (qv 1) qa_nil)) (qg_tup rfl (qgs_cons (qg_name (i := 3) sc_clock_from.nd rfl (Or.inl rfl)) (qgs_cons (qg_name (i := 4) sc_clock_from.nd rfl (Or.inl rfl)) qgs_nil))) (qss_cons (qs_set (i := 5) sc_clock_from.nd rfl (Or.inl rfl) (qe_cut (qe_ifExp (qt_cmpR qop_lt (qe_op qop_add (qv 3) qe_int) (qe_cb qcall_len rfl B.len bt_len (qa_c (qv 1) qa_nil)) (nomark _)) (qe_fn C_first_told hr rfl (qa_c (qe_ix qix_list (qv 1) (qe_op qop_add (qv 3) qe_int) (fun _ _ => rfl)) qa_nil)) (qe_op qop_add (qv 0) (qe_fn C_first_told hr rfl (qa_c (qe_ix qix_list (qv 1) qe_int (fun _ _ => rfl)) qa_nil)))))) (qss_cons (qs_set (i := 6) sc_clock_from.nd rfl (Or.inl rfl) (qe_ix qix_tup (qv 4) qe_int (fun _ _ => rfl))) (qss_cons (qs_set (i := 7) sc_clock_from.nd rfl (Or.inl rfl) (qe_ix qix_tup (qv 4) qe_int (fun _ _ => rfl))) (qss_one (qs_if (qt_val (qe_ix qix_tup (qv 4) qe_int (fun _ _ => rfl))) (qss_one (qs_expr (qe_fn C_put_window hr rfl (qa_c (qv 2) (qa_c (qv 6) (qa_c (qe_cut (qe_ifExp (qt_cmpR qop_lt (qv 7) (qv 5) (nomark _)) (qv 6) (qe_op qop_sub (qv 6) qe_int))) (qa_c (qe_op qop_sub (qv 7) (qv 6)) qa_nil))))))) (qss_one (qs_expr (qe_fn C_put_window hr rfl (qa_c (qv 2) (qa_c (qe_ix qix_tup (qv 4) qe_int (fun _ _ => rfl)) (qa_c (qe_cut (qe_ifExp (qt_cmpR qop_lt (qe_op qop_add (qv 6) (qv 7)) (qv 5) (nomark _)) (qv 6) (qe_op qop_sub (qv 6) qe_int))) (qa_c (qv 7) qa_nil))))))))))))) (qss_one (qs_ret (qv 2))))),?_⟩
 try dsimp only [cx_k,cx_kn,as_nil,as_name,Nat.reduceAdd]
 refine ⟨(by show 0 ≤ sizeLine; decide),fun pc hpc => ?_⟩
 have s0 : Same H (upd H pc (.lst [])) := same_new hpc _
 obtain ⟨ws,hw1,hw2,hw3⟩ := hS.lst
 refine ⟨_,rfl,p,rfl,⟨_,SqL.of (s0 _ _ hw1)⟩,for_enum (K := K) (a := p) (xs := ws)
  (fun i σ H' => ∃ (R : List T3) (at_ : Int) (v1 v2 v3 v4 v5 : Option V),σ = [some (.int day),some (.ref p),some (.ref pc),v1,v2,v3,v4,v5] ∧ Same H H' ∧ LA enc3 H' pc R ∧ R.length ≤ i ∧ 0 ≤ at_ ∧ Ma.Can 0 at_ g R ∧ (∀ r,S[i]? = some r → r.1 = at_) ∧ (i = S.length → at_ = day))
  ⟨[],0,_,_,_,_,_,rfl,s0,LA.nil upd_same,Nat.le_refl _,Int.le_refl _,⟨List.Pairwise.nil,(fun w hw => by cases hw),fun x x0 x1 => by omega⟩,fun r e => (hC.get e).2.2.2.2.1 rfl,fun e => ?_⟩
  (fun i σ H' _ ⟨_,_,_,_,_,_,_,_,s1,_⟩ => SqL.of (s1 _ _ hw1)) ?_ ?_⟩
 ·have : S = [] := List.length_eq_zero_iff.mp e.symm
  rw [this] at hC
  exact hC
 ·rintro i y pe σ H1 hi ⟨R,at_,v1,v2,v3,v4,v5,rfl,s1,hR,hRl,a0,hCan,hat,_⟩ hpe
  obtain ⟨r,x,rfl,ex,er⟩ := hw3 i y hi
  have e1 := hat x ex
  obtain ⟨g1,g2,g3,g4,g5,g6,g7⟩ := hC.get ex
  have hi2 : i < S.length := (List.getElem?_eq_some_iff.mp ex).1
  have s2 := same_new hpe (.tup [.int i,.ref r])
  generalize hg2 : upd H1 pe (.tup [.int i,.ref r]) = H2 at *
  have ep : H2 pe = some (.tup [.int i,.ref r]) := by rw [← hg2]; exact upd_same
  clear hg2
  have s02 := s1.trans s2
  have er2 := s02 _ _ er
  have hw12 := s02 _ _ hw1
  have fo := Ma.cfo_eq hC rg.per ex
  have step := hCan.row a0 x e1 g2 g4
  rw [← fo] at step
  refine ⟨pe,_,rfl,SqT.of ep,rfl,_,_,rfl,_,_,rfl,rfl,?_⟩
  refine ⟨fun v H' => H' = H2 ∧ v = .int (Ma.cfo day S i),?_,?_⟩
  ·refine ⟨_,rfl,_,_,rfl,rfl,_,rfl,p,_,rfl,.inl (SqL.of hw12),_,_,rfl,rfl,_,rfl,?_⟩
   obtain ⟨ws',k1,k2,k3⟩ := (hS.same s02).at (K := K)
   rw [hw12] at k1
   cases k1
   unfold Ma.cfo
   refine ite2 (fun c => ?_) (fun c => ?_)
   ·have c' : (i : Int) + 1 < ((ws.length : Nat) : Int) := of_decide_eq_true c
    have hi3 : i + 1 < S.length := by omega
    obtain ⟨r3,ka,kb⟩ := k3 (i + 1) _ (List.getElem?_eq_getElem hi3)
    rw [List.getElem?_eq_getElem hi3]
    exact ⟨_,rfl,_,rfl,_,_,rfl,rfl,p,_,_,_,rfl,rfl,SqL.of hw12,ka,r3,_,rfl,kb,rfl,rfl⟩
   ·have c' : ¬ (i : Int) + 1 < ((ws.length : Nat) : Int) := fun z => c (decide_eq_true z)
    have hi3 : S.length ≤ i + 1 := by omega
    obtain ⟨r3,ka,kb⟩ := k3 0 _ (List.getElem?_eq_getElem (by omega : 0 < S.length))
    rw [List.getElem?_eq_none_iff.mpr hi3,List.getElem?_eq_getElem (by omega : 0 < S.length)]
    exact ⟨_,rfl,_,rfl,p,_,_,_,rfl,rfl,SqL.of hw12,ka,r3,_,rfl,kb,_,_,rfl,rfl,rfl,rfl⟩
  rintro v H3 ⟨rfl,rfl⟩
  generalize Ma.cfo day S i = fol at *
  obtain ⟨xp,xq,xs,xv⟩ := x
  refine ⟨_,rfl,r,_,_,_,rfl,rfl,SqT.of er2,rfl,?_⟩
  refine ⟨_,rfl,r,_,_,_,rfl,rfl,SqT.of er2,rfl,?_⟩
  have hR2 := hR.same s2
  have fin : ∀ (H4 : Hp) (u1 u2 u3 u4 u5 : Option V),SameT pc H3 H4 → LA enc3 H4 pc (Ma.cfStep fol (xp,xq,xs,xv) R) → ∃ (R : List T3) (at_ : Int) (v1 v2 v3 v4 v5 : Option V),[some (.int day),some (.ref p),some (.ref pc),u1,u2,u3,u4,u5] = [some (.int day),some (.ref p),some (.ref pc),v1,v2,v3,v4,v5] ∧ Same H H4 ∧ LA enc3 H4 pc R ∧ R.length ≤ i + 1 ∧ 0 ≤ at_ ∧ Ma.Can 0 at_ g R ∧ (∀ r,S[i + 1]? = some r → r.1 = at_) ∧ (i + 1 = S.length → at_ = day) := by
   intro H4 u1 u2 u3 u4 u5 s4 h4
   refine ⟨_,xq + 1,u1,u2,u3,u4,u5,rfl,fun b o e => s4 b o (s02 _ _ e) (ne_of_none e hpc),h4,?_,?_,step,fun r' e' => g6 r' e',fun e => g7 e⟩
   ·have := Ma.cfStep_len fol (xp,xq,xs,xv) R
    omega
   ·have g1' : 0 ≤ xp := g1
    have g2' : xp ≤ xq := g2
    omega
  unfold Ma.cfStep at fin
  dsimp only at fin
  refine ⟨_,rfl,r,_,_,_,rfl,rfl,SqT.of er2,rfl,_,rfl,?_⟩
  refine ite2 (fun c => ?_) (fun c => ?_)
  ·have c' : xs = true := c
   rw [if_pos c'] at fin
   refine ⟨_,rfl,_,rfl,?_⟩
   refine ⟨fun v H' => H' = H3 ∧ v = .int (if xv < fol then xq else xq - 1),?_,?_⟩
   ·refine ⟨_,rfl,_,rfl,_,_,rfl,rfl,_,rfl,?_⟩
    refine ite2 (fun z => ?_) (fun z => ?_)
    ·exact ⟨_,rfl,rfl,by rw [if_pos (of_decide_eq_true z)]⟩
    ·exact ⟨_,rfl,_,_,rfl,rfl,rfl,by rw [if_neg (fun y => z (decide_eq_true y))]⟩
   rintro v H4 ⟨rfl,rfl⟩
   exact ⟨_,rfl,_,rfl,_,_,rfl,rfl,pc,_,_,_,R,rfl,hR2,by omega,fun H5 s5 h5 => fin H5 _ _ _ _ _ s5 h5⟩
  ·have c' : ¬ xs = true := c
   rw [if_neg c'] at fin
   refine ⟨_,rfl,_,rfl,r,_,_,_,rfl,rfl,SqT.of er2,rfl,?_⟩
   refine ⟨fun v H' => H' = H3 ∧ v = .int (if xq + xv < fol then xq else xq - 1),?_,?_⟩
   ·refine ⟨_,rfl,_,rfl,_,_,rfl,rfl,_,rfl,_,_,rfl,rfl,_,rfl,?_⟩
    refine ite2 (fun z => ?_) (fun z => ?_)
    ·exact ⟨_,rfl,rfl,by rw [if_pos (of_decide_eq_true z)]⟩
    ·exact ⟨_,rfl,_,_,rfl,rfl,rfl,by rw [if_neg (fun y => z (decide_eq_true y))]⟩
   rintro v H4 ⟨rfl,rfl⟩
   exact ⟨_,rfl,pc,_,_,_,R,rfl,hR2,by omega,fun H5 s5 h5 => fin H5 _ _ _ _ _ s5 h5⟩
 ·rintro σ H1 ⟨R,at_,v1,v2,v3,v4,v5,rfl,s1,hR,hRl,a0,hCan,hat,hend⟩
  have e := hend hw2
  subst e
  exact ⟨_,rfl,q pc R H1 s1 hpc hR (by omega) hCan⟩
theorem ok_overlay (F : Fun K "overlay" "overlay" st_overlay f fd) (B : Bl mg) (C_stretches : Callee P w K mg base n "stretches" ["day","clock"] spStretches) : FnOk P w K mg base CX0 (n + 1) f fd ["day","one","other"] spOverlay := by
 refine F.okQ sc_overlay (fun vs H Q E h => ?_) (fun cdv A outer s H vs Q E hr h => ?_)
 ·obtain ⟨_,_,_,_,_,_,_,rfl,_⟩ := h
  rfl
 obtain ⟨day,p1,p2,R1,R2,f1,f2,rfl,hR1,hR2,hl1,hl2,ck1,ck2,T1,T2,q⟩ := h
 refine ⟨_,(qss_cons (qs_set (i := 3) sc_overlay.nd rfl (Or.inl rfl) (qe_fn C_stretches hr rfl (qa_c (qv 0) (qa_c (qv 1) qa_nil)))) (qss_cons (qs_set (i := 4) sc_overlay.nd rfl (Or.inl rfl) (qe_fn C_stretches hr rfl (qa_c (qv 0) (qa_c (qv 2) qa_nil)))) (qss_cons (qs_set (i := 5) sc_overlay.nd rfl (Or.inl rfl) (qe_lst qa_nil)) (qss_cons (qs_set (i := 6) sc_overlay.nd rfl (Or.inl rfl) qe_int) (qss_cons (qs_set (i := 7) sc_overlay.nd rfl (Or.inl rfl) qe_int) (qss_cons (qs_set (i := 8) sc_overlay.nd rfl (Or.inl rfl) qe_int) (qss_cons (qs_while PassesOwn.never (qt_cmpR qop_lt (qv 8) (qv 0) (nomark _)) (qss_cons (qs_set (i := 9) sc_overlay.nd rfl (Or.inl rfl) (qe_cb (qcall_min rfl) rfl B.min bt_min (qa_c (qe_ix qix_tup (qe_ix qix_list (qv 3) (qv 6) (fun _ _ => rfl)) qe_int (fun _ _ => rfl)) (qa_c (qe_ix qix_tup (qe_ix qix_list (qv 4) (qv 7) (fun _ _ => rfl)) qe_int (fun _ _ => rfl)) qa_nil)))) (qss_cons (qs_expr (qe_append (qv 5) (qa_c (qe_tup (qa_c (qv 8) (qa_c (qv 9) (qa_c (qe_ix qix_tup (qe_ix qix_list (qv 3) (qv 6) (fun _ _ => rfl)) qe_int (fun _ _ => rfl)) (qa_c (qe_ix qix_tup (qe_ix qix_list (qv 3) (qv 6) (fun _ _ => rfl)) qe_int (fun _ _ => rfl)) (qa_c (qe_ix qix_tup (qe_ix qix_list (qv 4) (qv 7) (fun _ _ => rfl)) qe_int (fun _ _ => rfl)) (qa_c (qe_ix qix_tup (qe_ix qix_list (qv 4) (qv 7) (fun _ _ => rfl)) qe_int (fun _ _ => rfl)) qa_nil))))))) qa_nil))) (qss_cut (qs_if (qt_cmpR qop_eq (qe_ix qix_tup (qe_ix qix_list (qv 3) (qv 6) (fun _ _ => rfl)) qe_int (fun _ _ => rfl)) (qv 9) (nomark _)) (qss_one (qs_aug (i := 6) sc_overlay.nd rfl (Or.inl rfl) ip_add qe_int)) qss_nil) (qss_cut (qs_if (qt_cmpR qop_eq (qe_ix qix_tup (qe_ix qix_list (qv 4) (qv 7) (fun _ _ => rfl)) qe_int (fun _ _ => rfl)) (qv 9) (nomark _)) (qss_one (qs_aug (i := 7) sc_overlay.nd rfl (Or.inl rfl) ip_add qe_int)) qss_nil) (qss_one (qs_set (i := 8) sc_overlay.nd rfl (Or.inl rfl) (qe_op qop_add (qv 9) qe_int)))))))) (qss_one (qs_ret (qv 5)))))))))),?_⟩
 try dsimp only [cx_k,cx_kn,as_nil,as_name,Nat.reduceAdd]
 refine ⟨_,rfl,_,rfl,day,p1,R1,rfl,hR1,by omega,fun l1 H1 s1 fr1 hS1 => ?_⟩
 refine ⟨_,rfl,_,rfl,day,p2,R2,rfl,hR2.same s1,by omega,fun l2 H2 s2 fr2 hS2 => ?_⟩
 have C1 := Ma.str_cov ck1 T1
 have C2 := Ma.str_cov ck2 T2
 have b1 := Ma.strOf_len day R1
 have b2 := Ma.strOf_len day R2
 have hS1 := hS1.same s2
 generalize Ma.strOf day R1 = S1 at *
 generalize Ma.strOf day R2 = S2 at *
 have s02 := s1.trans s2
 have hd := ck1.d0
 refine ⟨(by show 0 ≤ sizeLine; decide),fun pr hpr => ?_⟩
 have sr : Same H2 (upd H2 pr (.lst [])) := same_new hpr _
 refine while_by (fun σ H' => ∃ (O : List T6) (k j : Nat) (p : Int) (v : Option V),σ = [some (.int day),some (.ref p1),some (.ref p2),some (.ref l1),some (.ref l2),some (.ref pr),some (.int k),some (.int j),some (.int p),v] ∧
   Same H2 H' ∧ LA enc6 H' pr O ∧ Ma.Cov2 f1 f2 0 O p ∧ 0 ≤ p ∧ p ≤ day ∧ O.length ≤ k + j ∧ k ≤ S1.length ∧ j ≤ S2.length ∧ (p < day → ∃ r1 r2,S1[k]? = some r1 ∧ r1.1 ≤ p ∧ p ≤ r1.2.1 ∧ S2[j]? = some r2 ∧ r2.1 ≤ p ∧ p ≤ r2.2.1))
  (fun σ _ => match σ with | [_,_,_,_,_,_,_,_,some (.int p),_] => (day - p).toNat | _ => 0) ?_ ?_ ?_
 ·refine ⟨[],0,0,0,none,rfl,sr,LA.nil upd_same,rfl,Int.le_refl _,by omega,by simp,Nat.zero_le _,Nat.zero_le _,fun h => ?_⟩
  have n1 : 0 < S1.length := by
   rcases Nat.eq_zero_or_pos S1.length with e | e
   ·rw [List.length_eq_zero_iff.mp e] at C1
    have : (0 : Int) = day := C1
    omega
   ·exact e
  have n2 : 0 < S2.length := by
   rcases Nat.eq_zero_or_pos S2.length with e | e
   ·rw [List.length_eq_zero_iff.mp e] at C2
    have : (0 : Int) = day := C2
    omega
   ·exact e
  have e1 := List.getElem?_eq_getElem n1
  have e2 := List.getElem?_eq_getElem n2
  obtain ⟨g1,g2,g3,g4,g5,g6,g7⟩ := C1.get e1
  obtain ⟨h1,h2,h3,h4,h5,h6,h7⟩ := C2.get e2
  have := g5 rfl
  have := h5 rfl
  exact ⟨_,_,e1,by omega,by omega,e2,by omega,by omega⟩
 ·rintro σ H3 ⟨O,k,j,p,v,rfl,s3,hO,cv,p0,pd,ol,kl,jl,hin⟩
  refine ⟨_,rfl,_,rfl,_,_,rfl,rfl,_,rfl,?_⟩
  refine ite2 (fun c => ?_) (fun c => ?_)
  ·have c' : p < day := of_decide_eq_true c
   obtain ⟨r1,r2,e1,x1,x2,e2,y1,y2⟩ := hin c'
   obtain ⟨g1,g2,g3,g4,g5,g6,g7⟩ := C1.get e1
   obtain ⟨h1,h2,h3,h4,h5,h6,h7⟩ := C2.get e2
   obtain ⟨us1,u1,u2,u3⟩ := (hS1.same s3).at (K := K)
   obtain ⟨us2,w1,w2,w3⟩ := (hS2.same s3).at (K := K)
   obtain ⟨a1,ua,ub⟩ := u3 k _ e1
   obtain ⟨a2,wa,wb⟩ := w3 j _ e2
   obtain ⟨q1p,q1q,q1s,q1v⟩ := r1
   obtain ⟨q2p,q2q,q2s,q2v⟩ := r2
   have x2' : p ≤ q1q := x2
   have y2' : p ≤ q2q := y2
   refine ⟨_,rfl,_,rfl,l1,_,_,_,rfl,rfl,SqL.of u1,ua,a1,_,_,_,rfl,rfl,SqT.of ub,rfl,_,rfl,_,rfl,l2,_,_,_,rfl,rfl,SqL.of w1,wa,a2,_,_,_,rfl,rfl,SqT.of wb,rfl,_,_,rfl,?_⟩
   generalize hq : (if q2q < q1q then q2q else q1q) = qq
   have qp : p ≤ qq := by rw [← hq]; split <;> omega
   have qa : qq ≤ q1q := by rw [← hq]; split <;> omega
   have qb : qq ≤ q2q := by rw [← hq]; split <;> omega
   have qe : qq = q1q ∨ qq = q2q := by rw [← hq]; split <;> simp
   obtain ⟨vs,v1,v2,v3⟩ := hO.lst
   refine ⟨_,rfl,.inl ⟨rfl,_,SqL.of v1⟩,_,rfl,_,rfl,_,rfl,_,rfl,l1,_,_,_,rfl,rfl,SqL.of u1,ua,a1,_,_,_,rfl,rfl,SqT.of ub,rfl,_,rfl,_,rfl,l1,_,_,_,rfl,rfl,SqL.of u1,ua,a1,_,_,_,rfl,rfl,SqT.of ub,rfl,
    _,rfl,_,rfl,l2,_,_,_,rfl,rfl,SqL.of w1,wa,a2,_,_,_,rfl,rfl,SqT.of wb,rfl,_,rfl,_,rfl,l2,_,_,_,rfl,rfl,SqL.of w1,wa,a2,_,_,_,rfl,rfl,SqT.of wb,rfl,(by show 6 ≤ sizeLine; decide),fun rn hrn => ?_⟩
   have s4 := same_new hrn (.tup [.int p,.int qq,.bl q1s,.int q1v,.bl q2s,.int q2v])
   refine ⟨pr,vs,.ref rn,rfl,rfl,s4 _ _ v1,line_of (by omega),?_⟩
   have hO5 := (hO.same s4).append (x := (p,qq,q1s,q1v,q2s,q2v)) (s4 _ _ v1) upd_same
   have s5 := same_wr (o := .lst (vs ++ [.ref rn])) hpr (s3.trans s4)
   have cv5 : Ma.Cov2 f1 f2 0 (O ++ [(p,qq,q1s,q1v,q2s,q2v)]) (qq + 1) := Ma.Cov2.snoc (r := (p,qq,q1s,q1v,q2s,q2v)) qp (fun x a b => by
    have a' : p ≤ x := a
    have b' : x ≤ qq := b
    exact ⟨g4 x (by show q1p ≤ x; have : q1p ≤ p := x1; omega) (by show x ≤ q1q; omega),h4 x (by show q2p ≤ x; have : q2p ≤ p := y1; omega) (by show x ≤ q2q; omega)⟩) cv
   generalize upd (upd H3 rn _) pr _ = H5 at *
   have hS15 := hS1.same s5
   have hS25 := hS2.same s5
   obtain ⟨us1,u1,u2,u3⟩ := hS15.at (K := K)
   obtain ⟨us2,w1,w2,w3⟩ := hS25.at (K := K)
   obtain ⟨a1,ua,ub⟩ := u3 k _ e1
   obtain ⟨a2,wa,wb⟩ := w3 j _ e2
   refine ⟨fun σ' H' => H' = H5 ∧ ∃ k' : Nat,σ' = [some (.int day),some (.ref p1),some (.ref p2),some (.ref l1),some (.ref l2),some (.ref pr),some (.int k'),some (.int j),some (.int p),some (.int qq)] ∧ ((qq = q1q ∧ k' = k + 1) ∨ (qq < q1q ∧ k' = k)),?_,?_⟩
   ·refine ⟨_,rfl,_,rfl,l1,_,_,_,rfl,rfl,SqL.of u1,ua,a1,_,_,_,rfl,rfl,SqT.of ub,rfl,_,rfl,rfl,_,rfl,?_⟩
    refine ite2 (fun z => ?_) (fun z => ?_)
    ·have z' := of_decide_eq_true z
     injection z' with z'
     exact ⟨_,rfl,_,_,rfl,rfl,rfl,k + 1,rfl,.inl ⟨z'.symm,rfl⟩⟩
    ·have z' : ¬ q1q = qq := fun e => z (decide_eq_true (by rw [e]))
     exact ⟨rfl,k,rfl,.inr ⟨by omega,rfl⟩⟩
   rintro σ' H6 ⟨rfl,k',rfl,hk'⟩
   refine ⟨fun σ' H' => H' = H6 ∧ ∃ j' : Nat,σ' = [some (.int day),some (.ref p1),some (.ref p2),some (.ref l1),some (.ref l2),some (.ref pr),some (.int k'),some (.int j'),some (.int p),some (.int qq)] ∧ ((qq = q2q ∧ j' = j + 1) ∨ (qq < q2q ∧ j' = j)),?_,?_⟩
   ·refine ⟨_,rfl,_,rfl,l2,_,_,_,rfl,rfl,SqL.of w1,wa,a2,_,_,_,rfl,rfl,SqT.of wb,rfl,_,rfl,rfl,_,rfl,?_⟩
    refine ite2 (fun z => ?_) (fun z => ?_)
    ·have z' := of_decide_eq_true z
     injection z' with z'
     exact ⟨_,rfl,_,_,rfl,rfl,rfl,j + 1,rfl,.inl ⟨z'.symm,rfl⟩⟩
    ·have z' : ¬ q2q = qq := fun e => z (decide_eq_true (by rw [e]))
     exact ⟨rfl,j,rfl,.inr ⟨by omega,rfl⟩⟩
   rintro σ' H7 ⟨rfl,j',rfl,hj'⟩
   have kS : k < S1.length := (List.getElem?_eq_some_iff.mp e1).1
   have jS : j < S2.length := (List.getElem?_eq_some_iff.mp e2).1
   refine ⟨_,rfl,_,_,rfl,rfl,⟨_,k',j',qq + 1,_,rfl,s5,hO5,cv5,by omega,?_,?_,by omega,by omega,fun lt => ?_⟩,?_⟩
   ·have : q1q < day := g3
    omega
   ·rw [List.length_append,List.length_singleton]
    omega
   ·have A : ∃ r1,S1[k']? = some r1 ∧ r1.1 ≤ qq + 1 ∧ qq + 1 ≤ r1.2.1 := by
     rcases hk' with ⟨z,rfl⟩ | ⟨z,rfl⟩
     ·have hk1 : k + 1 < S1.length := by
       rcases (by omega : k + 1 < S1.length ∨ k + 1 = S1.length) with y | y
       ·exact y
       ·have := g7 y
        have : q1q + 1 = day := this
        omega
      have e := List.getElem?_eq_getElem hk1
      have := g6 _ e
      have := (C1.get e).2.1
      have : (S1[k + 1]).1 = q1q + 1 := g6 _ e
      exact ⟨_,e,by omega,by omega⟩
     ·exact ⟨_,e1,by show q1p ≤ qq + 1; have : q1p ≤ p := x1; omega,by show qq + 1 ≤ q1q; omega⟩
    have A2 : ∃ r2,S2[j']? = some r2 ∧ r2.1 ≤ qq + 1 ∧ qq + 1 ≤ r2.2.1 := by
     rcases hj' with ⟨z,rfl⟩ | ⟨z,rfl⟩
     ·have hk1 : j + 1 < S2.length := by
       rcases (by omega : j + 1 < S2.length ∨ j + 1 = S2.length) with y | y
       ·exact y
       ·have := h7 y
        have : q2q + 1 = day := this
        omega
      have e := List.getElem?_eq_getElem hk1
      have := (C2.get e).2.1
      have : (S2[j + 1]).1 = q2q + 1 := h6 _ e
      exact ⟨_,e,by omega,by omega⟩
     ·exact ⟨_,e2,by show q2p ≤ qq + 1; have : q2p ≤ p := y1; omega,by show qq + 1 ≤ q2q; omega⟩
    obtain ⟨r1',b1,b2,b3⟩ := A
    obtain ⟨r2',d1,d2,d3⟩ := A2
    exact ⟨r1',r2',b1,b2,b3,d1,d2,d3⟩
   ·show (day - (qq + 1)).toNat < (day - p).toNat
    omega
  ·have c' : ¬ p < day := fun z => c (decide_eq_true z)
   have e : p = day := by omega
   subst e
   refine ⟨_,rfl,q pr O H3 (s02.trans s3) (s02.free hpr) hO (by omega) cv⟩
 ·rintro σ H' Q1 Q2 hq ⟨v,e1,v',e2,i,j,e3,e4,k,e5,q1⟩
  exact ⟨v,e1,v',e2,i,j,e3,e4,k,e5,hq _ _ q1⟩
end
section
variable {P : Program} {w : World} {K : PySem.W.Frag} {mg : Str → Option Value} {base : Heap} {f : Addr} {fd : FuncData} {n : Nat}
theorem ok_picked (F : Fun K "picked" "picked" st_picked f fd) (B : Bl mg) : FnOk P w K mg base CX0 (n + 1) f fd ["p","q","waiting","riding","late"] spPicked := by
 refine F.okQ sc_picked (fun vs H Q E h => ?_) (fun cdv A outer s H vs Q E hr h => ?_)
 ·obtain ⟨_,_,_,_,_,rfl,_⟩ := h
  rfl
 obtain ⟨p,qq,wt,rd,late,rfl,q⟩ := h
 refine ⟨_,(qss_cons (qs_set (i := 5) sc_picked.nd rfl (Or.inl rfl) (qe_op qop_sub (qv 2) (qv 3))) (qss_cons (qs_set (i := 6) sc_picked.nd rfl (Or.inl rfl) (qe_tup (qa_c (qv 0) (qa_c (qe_cb (qcall_min rfl) rfl B.min bt_min (qa_c (qv 1) (qa_c (qv 5) qa_nil))) (qa_c (qv 4) (qa_c (qe_cut (qe_ifExp (qt_val (qv 4)) (qv 2) (qv 3))) qa_nil)))))) (qss_cons (qs_set (i := 7) sc_picked.nd rfl (Or.inl rfl) (qe_tup (qa_c (qe_cb (qcall_max rfl) rfl B.max bt_max (qa_c (qv 0) (qa_c (qe_op qop_add (qv 5) qe_int) qa_nil))) (qa_c (qv 1) (qa_c (qe_not (qv 4)) (qa_c (qe_cut (qe_ifExp (qt_val (qv 4)) (qv 3) (qv 2))) qa_nil)))))) (qss_one (qs_ret (qe_compIf ["part"] [none] (BlkOk.of rfl rfl (SubL.to subN) rfl) rfl (qi_tup (qe_tup (qa_c (qv 6) (qa_c (qv 7) qa_nil)))) (fun _ _ _ _ => (qg_name (i := 0) (show (["part"] : List Str).Nodup by decide) rfl (Or.inl rfl))) (fun _ _ _ _ => (qt_cmpR qop_le (qe_ix (qix_tupK K rfl) (qv 0) qe_int (fun _ _ => rfl)) (qe_ix (qix_tupK K rfl) (qv 0) qe_int (fun _ _ => rfl)) (nomark _))) (fun _ _ _ _ => (qv 0)))))))),?_⟩
 try dsimp only [cx_k,cx_kn,as_nil,as_name,Nat.reduceAdd]
 refine ⟨_,rfl,_,rfl,_,_,rfl,rfl,?_⟩
 refine ⟨_,rfl,_,rfl,_,rfl,_,_,rfl,_,rfl,?_⟩
 refine ⟨fun v H' => H' = H ∧ v = .int (if late = true then wt else rd),?_,?_⟩
 ·refine ⟨_,rfl,_,rfl,?_⟩
  cases late
  ·exact iteF ⟨_,rfl,rfl,rfl⟩
  ·exact iteT ⟨_,rfl,rfl,rfl⟩
 rintro v H1 ⟨rfl,rfl⟩
 refine ⟨(by show 4 ≤ sizeLine; decide),fun ra hra => ?_⟩
 generalize hgH2 : upd _ ra _ = H2
 obtain ⟨s2,e2⟩ := fresh_of hra hgH2
 clear hgH2
 refine ⟨_,rfl,_,rfl,_,_,rfl,rfl,_,_,rfl,_,rfl,_,rfl,_,rfl,?_⟩
 refine ⟨fun v H' => H' = H2 ∧ v = .int (if late = true then rd else wt),?_,?_⟩
 ·refine ⟨_,rfl,_,rfl,?_⟩
  cases late
  ·exact iteF ⟨_,rfl,rfl,rfl⟩
  ·exact iteT ⟨_,rfl,rfl,rfl⟩
 rintro v H2 ⟨rfl,rfl⟩
 refine ⟨(by show 4 ≤ sizeLine; decide),fun rt hrt => ?_⟩
 generalize hgH3 : upd _ rt _ = H3
 obtain ⟨s3,e3⟩ := fresh_of hrt hgH3
 clear hgH3
 have e23 := s3 _ _ e2
 refine ⟨_,rfl,_,rfl,(by show 2 ≤ sizeLine; decide),fun rp hrp => ?_⟩
 generalize hgH4 : upd _ rp _ = H4
 obtain ⟨s4,e4⟩ := fresh_of hrp hgH4
 clear hgH4
 have e24 := s4 _ _ e23
 have e34 := s4 _ _ e3
 have s14 := (s2.trans s3).trans s4
 unfold Ma.pickL at q
 generalize hx1 : (if wt - rd < qq then wt - rd else qq) = x1 at *
 generalize hx2 : (if wt - rd + 1 > p then wt - rd + 1 else p) = x2 at *
 generalize (if late = true then wt else rd) = v1 at *
 generalize (if late = true then rd else wt) = v2 at *
 refine ⟨rp,rfl,⟨_,SqT.of e4⟩,?_⟩
 refine comp_tup (K := K) (a := rp) (xs := [.ref ra,.ref rt]) (fun D i H' => Same H4 H' ∧ LA enc4 H' D (if i = 0 then [] else if i = 1 then (if p ≤ x1 then [(p,x1,late,v1)] else []) else (if p ≤ x1 then [(p,x1,late,v1)] else []) ++ (if x2 ≤ qq then [(x2,qq,!late,v2)] else [])))
  (fun D hD => ⟨same_new hD _,LA.nil upd_same⟩) (fun D i H' _ _ h => SqT.of (h.1 _ _ e4)) ?_ ?_
 ·rintro D i y H' hD hi ⟨sD,hD2⟩
  obtain ⟨ds,hd1,hd2,hd3⟩ := hD2.lst
  refine ⟨fun k v e => ?_,?_⟩
  ·match k,e with
   | 0,e => cases e
   | k + 1,e => cases e
  match i,hi with
  | 0,hi =>
   have ey : y = .ref ra := by simpa using hi.symm
   subst ey
   have er := sD _ _ e24
   refine ⟨_,rfl,ra,_,_,_,rfl,rfl,SqT.of er,rfl,_,rfl,ra,_,_,_,rfl,rfl,SqT.of er,rfl,_,_,rfl,rfl,_,rfl,?_⟩
   refine ite2 (fun c => ?_) (fun c => ?_)
   ·refine ⟨_,rfl,ds,hd1,line_of (by rw [hd2]; simp),same_wr hD sD,?_⟩
    have c' : p ≤ x1 := of_decide_eq_true c
    have := hD2.append (x := (p,x1,late,v1)) hd1 er
    simpa [c'] using this
   ·have c' : ¬ p ≤ x1 := fun z => c (decide_eq_true z)
    exact ⟨sD,by simpa [c'] using hD2⟩
  | 1,hi =>
   have ey : y = .ref rt := by simpa using hi.symm
   subst ey
   have er := sD _ _ e34
   refine ⟨_,rfl,rt,_,_,_,rfl,rfl,SqT.of er,rfl,_,rfl,rt,_,_,_,rfl,rfl,SqT.of er,rfl,_,_,rfl,rfl,_,rfl,?_⟩
   refine ite2 (fun c => ?_) (fun c => ?_)
   ·refine ⟨_,rfl,ds,hd1,line_of (by rw [hd2]; simp; split <;> simp),same_wr hD sD,?_⟩
    have c' : x2 ≤ qq := of_decide_eq_true c
    have := hD2.append (x := (x2,qq,!late,v2)) hd1 er
    simpa [c'] using this
   ·have c' : ¬ x2 ≤ qq := fun z => c (decide_eq_true z)
    exact ⟨sD,by simpa [c'] using hD2⟩
  | k + 2,hi => simp at hi
 ·rintro D H' hD ⟨sD,hD2⟩
  exact q D H' (s14.trans sD) (s14.free hD) (by simpa using hD2)
theorem ok_joined (F : Fun K "joined" "joined" st_joined f fd) (B : Bl mg) (C_overlay : Callee P w K mg base n "overlay" ["day","one","other"] spOverlay) (C_picked : Callee P w K mg base n "picked" ["p","q","waiting","riding","late"] spPicked) (C_clock_from : Callee P w K mg base n "clock_from" ["day","rows"] spClockFrom) :
  FnOk P w K mg base CX0 (n + 1) f fd ["day","one","other","late"] spJoined := by
 refine F.okQ sc_joined (fun vs H Q E h => ?_) (fun cdv A outer s H vs Q E hr h => ?_)
 ·obtain ⟨_,_,_,_,_,_,_,_,rfl,_⟩ := h
  rfl
 obtain ⟨day,p1,p2,late,R1,R2,f1,f2,rfl,hR1,hR2,hl1,hl2,ck1,ck2,T1,T2,q⟩ := h
 refine ⟨_,(qss_cons (qs_set (i := 4) sc_joined.nd rfl (Or.inl rfl) (qe_lst qa_nil)) (qss_cons (qs_for PassesOwn.never rfl (qi_list (qe_fn C_overlay hr rfl (qa_c (qv 0) (qa_c (qv 1) (qa_c (qv 2) qa_nil))))) (qg_tup rfl (qgs_cons (qg_name (i := 5) sc_joined.nd rfl (Or.inl rfl)) (qgs_cons (qg_name (i := 6) sc_joined.nd rfl (Or.inl rfl)) (qgs_cons (qg_name (i := 7) sc_joined.nd rfl (Or.inl rfl)) (qgs_cons (qg_name (i := 8) sc_joined.nd rfl (Or.inl rfl)) (qgs_cons (qg_name (i := 9) sc_joined.nd rfl (Or.inl rfl)) (qgs_cons (qg_name (i := 10) sc_joined.nd rfl (Or.inl rfl)) qgs_nil))))))) (qss_one (qs_if (qt_cmpR qop_eq (qv 7) (qv 9) (nomark _)) (qss_one (qs_expr (qe_append (qv 4) (qa_c (qe_tup (qa_c (qv 5) (qa_c (qv 6) (qa_c (qv 7) (qa_c (qe_cut (qe_ifExp (qt_val (qv 3)) (qe_cb (qcall_max rfl) rfl B.max bt_max (qa_c (qv 8) (qa_c (qv 10) qa_nil))) (qe_cb (qcall_min rfl) rfl B.min bt_min (qa_c (qv 8) (qa_c (qv 10) qa_nil))))) qa_nil))))) qa_nil)))) (qss_one (qs_if (qt_val (qv 7)) (qss_one (qs_expr (qe_extend (qv 4) (qa_c (qe_fn C_picked hr rfl (qa_c (qv 5) (qa_c (qv 6) (qa_c (qv 8) (qa_c (qv 10) (qa_c (qv 3) qa_nil)))))) qa_nil)))) (qss_one (qs_expr (qe_extend (qv 4) (qa_c (qe_fn C_picked hr rfl (qa_c (qv 5) (qa_c (qv 6) (qa_c (qv 10) (qa_c (qv 8) (qa_c (qv 3) qa_nil)))))) qa_nil))))))))) (qss_one (qs_ret (qe_fn C_clock_from hr rfl (qa_c (qv 0) (qa_c (qv 4) qa_nil))))))),?_⟩
 try dsimp only [cx_k,cx_kn,as_nil,as_name,Nat.reduceAdd]
 refine ⟨(by show 0 ≤ sizeLine; decide),fun pr hpr => ?_⟩
 have s0 : Same H (upd H pr (.lst [])) := same_new hpr _
 refine ⟨_,rfl,_,rfl,_,rfl,day,p1,p2,R1,R2,f1,f2,rfl,hR1.same s0,hR2.same s0,hl1,hl2,ck1,ck2,T1,T2,fun lo O H1 s1 fr1 hO hOl cv => ?_⟩
 have er1 : H1 pr = some (.lst []) := s1 _ _ upd_same
 have nlo : lo ≠ pr := fun e => by rw [e,upd_same] at fr1; cases fr1
 have s01 := s0.trans s1
 clear fr1 s1
 obtain ⟨ws,hw1,hw2,hw3⟩ := hO.lst
 have nws : ∀ (i : Nat) r,ws[i]? = some (.ref r) → r ≠ pr := fun i r e z => by
  obtain ⟨r',x,e1,_,e2⟩ := hw3 i _ e
  cases e1
  rw [z,er1] at e2
  cases e2
 have rg := Ma.rise_jn late (ck1.rise T1) (ck2.rise T2)
 refine ⟨lo,rfl,⟨_,SqL.of hw1⟩,for_list (K := K) (a := lo) (xs := ws)
  (fun i σ H' => ∃ (S : List T4) (at_ : Int) (v1 v2 v3 v4 v5 v6 : Option V),σ = [some (.int day),some (.ref p1),some (.ref p2),some (.bl late),some (.ref pr),v1,v2,v3,v4,v5,v6] ∧ Same H H' ∧ SameT pr H1 H' ∧ LA enc4 H' pr S ∧ S.length ≤ 2 * i ∧ Ma.Cov (fun x => Ma.jn late (f1 x) (f2 x)) 0 S at_ ∧ (∀ r,O[i]? = some r → r.1 = at_) ∧ (i = O.length → at_ = day))
  ⟨[],0,_,_,_,_,_,_,rfl,s01,fun b o e _ => e,LA.nil er1,by simp,rfl,fun r e => (cv.get e).2.2.2.2.1 rfl,fun e => ?_⟩
  (fun i σ H' _ ⟨_,_,_,_,_,_,_,_,_,_,s1,_⟩ => SqL.of (s1 _ _ hw1 nlo)) ?_ ?_⟩
 ·rw [List.length_eq_zero_iff.mp e.symm] at cv
  exact cv
 ·rintro i y σ H2 hi ⟨S,at_,v1,v2,v3,v4,v5,v6,rfl,sH,s2,hS,hSl,hC,hat,_⟩
  obtain ⟨r,x,rfl,ex,er⟩ := hw3 i y hi
  have e1 := hat x ex
  obtain ⟨g1,g2,g3,g4,g5,g6,g7⟩ := cv.get ex
  have er2 := s2 _ _ er (nws i r hi)
  have hi2 : i < O.length := (List.getElem?_eq_some_iff.mp ex).1
  have jr := Ma.joinRow_cov (late := late) g2 g4
  rw [e1] at jr
  have hC2 := hC.append jr
  have jl := Ma.joinRow_len late x
  obtain ⟨us,hu1,hu2,hu3⟩ := hS.lst
  have fin : ∀ (H4 : Hp) (u1 u2 u3 u4 u5 u6 : Option V),SameT pr H2 H4 → LA enc4 H4 pr (S ++ Ma.joinRow late x) → ∃ (S : List T4) (at_ : Int) (v1 v2 v3 v4 v5 v6 : Option V),[some (.int day),some (.ref p1),some (.ref p2),some (.bl late),some (.ref pr),u1,u2,u3,u4,u5,u6] = [some (.int day),some (.ref p1),some (.ref p2),some (.bl late),some (.ref pr),v1,v2,v3,v4,v5,v6] ∧ Same H H4 ∧ SameT pr H1 H4 ∧ LA enc4 H4 pr S ∧ S.length ≤ 2 * (i + 1) ∧ Ma.Cov (fun x => Ma.jn late (f1 x) (f2 x)) 0 S at_ ∧ (∀ r,O[i + 1]? = some r → r.1 = at_) ∧ (i + 1 = O.length → at_ = day) := by
   intro H4 u1 u2 u3 u4 u5 u6 s4 h4
   refine ⟨_,_,u1,u2,u3,u4,u5,u6,rfl,fun b o e => s4 _ _ (sH _ _ e) (ne_of_none e hpr),fun b o e nb => s4 _ _ (s2 _ _ e nb) nb,h4,?_,hC2,fun r' e' => g6 r' e',fun e => g7 e⟩
   rw [List.length_append]
   omega
  obtain ⟨xp,xq,xs,xv,xs',xv'⟩ := x
  unfold Ma.joinRow at fin
  dsimp only at fin
  refine ⟨r,_,rfl,SqT.of er2,rfl,_,_,rfl,_,_,rfl,_,_,rfl,_,_,rfl,_,_,rfl,_,_,rfl,rfl,?_⟩
  refine ⟨_,rfl,_,rfl,rfl,_,rfl,?_⟩
  refine ite2 (fun c => ?_) (fun c => ?_)
  ·have c' : xs = xs' := by
    have := of_decide_eq_true c
    injection this
   rw [if_pos c'] at fin
   refine ⟨_,rfl,.inl ⟨rfl,_,SqL.of hu1⟩,_,rfl,_,rfl,_,rfl,?_⟩
   refine ⟨fun v H' => H' = H2 ∧ v = .int (Ma.jn late xv xv'),?_,?_⟩
   ·refine ⟨_,rfl,_,rfl,?_⟩
    unfold Ma.jn
    cases late
    ·exact iteF ⟨_,rfl,_,rfl,_,_,rfl,rfl,rfl⟩
    ·exact iteT ⟨_,rfl,_,rfl,_,_,rfl,rfl,rfl⟩
   rintro v H3 ⟨rfl,rfl⟩
   refine ⟨(by show 4 ≤ sizeLine; decide),fun rn hrn => ?_⟩
   have s4 := same_new hrn (.tup [.int xp,.int xq,.bl xs,.int (Ma.jn late xv xv')])
   refine ⟨pr,us,.ref rn,rfl,rfl,s4 _ _ hu1,line_of (by omega),?_⟩
   refine fin _ _ _ _ _ _ _ (fun b o e nb => ?_) ((hS.same s4).append (x := (xp,xq,xs,Ma.jn late xv xv')) (s4 _ _ hu1) upd_same)
   rw [upd_ne nb]
   exact s4 _ _ e
  ·have c' : ¬ xs = xs' := fun e => c (decide_eq_true (by rw [e]))
   rw [if_neg c'] at fin
   refine ⟨_,rfl,_,rfl,?_⟩
   have ext : ∀ (L : List T4),L.length ≤ 2 → (∀ (H4 : Hp) (u1 u2 u3 u4 u5 u6 : Option V),SameT pr H2 H4 → LA enc4 H4 pr (S ++ L) → ∃ (S : List T4) (at_ : Int) (v1 v2 v3 v4 v5 v6 : Option V),[some (.int day),some (.ref p1),some (.ref p2),some (.bl late),some (.ref pr),u1,u2,u3,u4,u5,u6] = [some (.int day),some (.ref p1),some (.ref p2),some (.bl late),some (.ref pr),v1,v2,v3,v4,v5,v6] ∧ Same H H4 ∧ SameT pr H1 H4 ∧ LA enc4 H4 pr S ∧ S.length ≤ 2 * (i + 1) ∧ Ma.Cov (fun x => Ma.jn late (f1 x) (f2 x)) 0 S at_ ∧ (∀ r,O[i + 1]? = some r → r.1 = at_) ∧ (i + 1 = O.length → at_ = day)) →
     ∀ (l : Addr) (H3 : Hp),Same H2 H3 → LA enc4 H3 l L → ∀ (u1 u2 u3 u4 u5 u6 : Option V),∃ (l2 b : Addr) (ys zs : List V),V.ref pr = .ref l2 ∧ [V.ref l] = [.ref b] ∧ H3 l2 = some (.lst ys) ∧ H3 b = some (.lst zs) ∧ ys.length + zs.length ≤ sizeLine ∧ ∃ (S : List T4) (at_ : Int) (v1 v2 v3 v4 v5 v6 : Option V),[some (.int day),some (.ref p1),some (.ref p2),some (.bl late),some (.ref pr),u1,u2,u3,u4,u5,u6] = [some (.int day),some (.ref p1),some (.ref p2),some (.bl late),some (.ref pr),v1,v2,v3,v4,v5,v6] ∧ Same H (upd H3 l2 (.lst (ys ++ zs))) ∧ SameT pr H1 (upd H3 l2 (.lst (ys ++ zs))) ∧ LA enc4 (upd H3 l2 (.lst (ys ++ zs))) pr S ∧ S.length ≤ 2 * (i + 1) ∧ Ma.Cov (fun x => Ma.jn late (f1 x) (f2 x)) 0 S at_ ∧ (∀ r,O[i + 1]? = some r → r.1 = at_) ∧ (i + 1 = O.length → at_ = day) := by
    intro L hL fin' l H3 s3 hl u1 u2 u3 u4 u5 u6
    obtain ⟨zs,z1,z2,z3⟩ := hl.lst
    refine ⟨pr,l,us,zs,rfl,rfl,s3 _ _ hu1,z1,?_,fin' _ _ _ _ _ _ _ (fun b o e nb => ?_) ((hS.same s3).extend hl (s3 _ _ hu1) z1)⟩
    ·have := line_of (n := us.length + zs.length) (by omega)
     omega
    ·rw [upd_ne nb]
     exact s3 _ _ e
   cases xs with
   | true =>
    rw [if_pos rfl] at fin
    refine iteT ⟨_,rfl,.inl ⟨rfl,_,SqL.of hu1⟩,_,rfl,_,rfl,_,rfl,_,rfl,_,rfl,xp,xq,xv,xv',late,rfl,fun l H3 s3 _ hl => ?_⟩
    exact ext _ (Ma.pick_len ..) fin l H3 s3 hl _ _ _ _ _ _
   | false =>
    rw [if_neg (by decide)] at fin
    refine iteF ⟨_,rfl,.inl ⟨rfl,_,SqL.of hu1⟩,_,rfl,_,rfl,_,rfl,_,rfl,_,rfl,xp,xq,xv',xv,late,rfl,fun l H3 s3 _ hl => ?_⟩
    exact ext _ (Ma.pick_len ..) fin l H3 s3 hl _ _ _ _ _ _
 ·rintro σ H2 ⟨S,at_,v1,v2,v3,v4,v5,v6,rfl,sH,s2,hS,hSl,hC,hat,hend⟩
  have e := hend hw2
  subst e
  refine ⟨_,rfl,_,rfl,at_,pr,S,_,rfl,hS,by omega,ck1.d0,rg,hC,fun l R H3 s3 fl hR hRl can => ?_⟩
  exact q l R H3 (sH.trans s3) (sH.free fl) hR (by omega) can
end
section
variable {P : Program} {w : World} {K : PySem.W.Frag} {mg : Str → Option Value} {base : Heap} {f : Addr} {fd : FuncData} {n : Nat}
theorem ok_sooner (F : Fun K "sooner" "sooner" st_sooner f fd) (B : Bl mg) (C_joined : Callee P w K mg base n "joined" ["day","one","other","late"] spJoined) : FnOk P w K mg base CX0 (n + 1) f fd ["day","one","other"] (spTwo Ma.omin) := by
 refine F.okQ sc_sooner (fun vs H Q E h => ?_) (fun cdv A outer s H vs Q E hr h => ?_)
 ·obtain ⟨_,_,_,_,_,rfl,_⟩ := h
  rfl
 obtain ⟨day,p1,p2,R1,R2,rfl,hR1,hR2,hl1,hl2,ck1,ck2,q⟩ := h
 refine ⟨_,(qss_cons (qs_if (qt_cut (QW.pt (qw_or (qt_cmpR qop_eq (qe_cb qcall_len rfl B.len bt_len (qa_c (qv 1) qa_nil)) qe_int (nomark _)) (qw_or1 (qt_cmpR qop_eq (qe_cb qcall_len rfl B.len bt_len (qa_c (qv 2) qa_nil)) qe_int (nomark _)))))) (qss_one (qs_ret (qe_op qop_cat (qv 1) (qv 2)))) qss_nil) (qss_one (qs_ret (qe_fn C_joined hr rfl (qa_c (qv 0) (qa_c (qv 1) (qa_c (qv 2) (qa_c qe_bl qa_nil)))))))),?_⟩
 try dsimp only [cx_k,cx_kn,as_nil,as_name,Nat.reduceAdd]
 obtain ⟨us,hu1,hu2,hu3⟩ := hR1.lst
 obtain ⟨ws,hw1,hw2,hw3⟩ := hR2.lst
 refine ⟨fun b H' => H' = H ∧ b = decide (R1 = [] ∨ R2 = []),?_,?_⟩
 ·refine ⟨_,rfl,p1,_,rfl,.inl (SqL.of hu1),rfl,_,rfl,?_⟩
  refine ite2 (fun c => ?_) (fun c => ?_)
  ·have c' := of_decide_eq_true c
   injection c' with c'
   have e : R1 = [] := List.length_eq_zero_iff.mp (by omega)
   exact ⟨rfl,by simp [e]⟩
  ·have n1 : R1 ≠ [] := fun e => c (decide_eq_true (by rw [hu2,e]; rfl))
   refine ⟨_,rfl,p2,_,rfl,.inl (SqL.of hw1),rfl,_,rfl,rfl,?_⟩
   rw [hw2]
   cases R2 with
   | nil => simp
   | cons x r => simp [n1]; omega
 rintro b H1 ⟨rfl,rfl⟩
 refine ite2 (fun c => ?_) (fun c => ?_)
 ·have c' := of_decide_eq_true c
  refine ⟨_,rfl,_,rfl,p1,p2,us,ws,rfl,rfl,hu1,hw1,?_,fun l hl => ?_⟩
  ·have := line_of (n := us.length + ws.length) (by omega)
   omega
  refine q l (R1 ++ R2) _ (same_new hl _) hl (hR1.cat hR2 hu1 hw1 hl) (by rw [List.length_append]; omega) ?_ (fun t => Ma.bt_append day R1 R2 t)
  rcases c' with e | e
  ·rw [e]; exact ck2
  ·rw [e,List.append_nil]; exact ck1
 ·have c' : ¬ (R1 = [] ∨ R2 = []) := fun z => c (decide_eq_true z)
  have n1 : R1 ≠ [] := fun e => c' (.inl e)
  have n2 : R2 ≠ [] := fun e => c' (.inr e)
  have T1 := Ma.tells_bf (d := day) n1
  have T2 := Ma.tells_bf (d := day) n2
  refine ⟨_,rfl,_,rfl,_,rfl,day,p1,p2,false,R1,R2,_,_,rfl,hR1,hR2,hl1,hl2,ck1,ck2,T1,T2,fun l R H2 s2 fl hR hRl can => ?_⟩
  have rg := Ma.rise_jn false (ck1.rise T1) (ck2.rise T2)
  exact q l R H2 s2 fl hR hRl (can.ck ck1.d0 rg) fun t => by rw [can.tells ck1.d0 rg t,T1.min T2 t]
end
def spWithin (m : Nat) : Sp := fun vs H Q _ => ∃ (day : Int) (p : Addr) (R : List T3),vs = [.int day,.ref p] ∧ LA enc3 H p R ∧ R.length ≤ 2 ^ m ∧ R.length ≤ 900000 ∧ 0 < day ∧ Ma.Wins day R ∧
 ∀ (l : Addr) (R' : List T3) (H' : Hp),Same H H' → H l = none → LA enc3 H' l R' → R'.length ≤ 2 * R.length + 1 → Ma.CK day R' → (∀ t,Ma.bt day R' t = Ma.bt day R t) → Q (.ref l) H'
section
variable {P : Program} {w : World} {K : PySem.W.Frag} {mg : Str → Option Value} {base : Heap} {f : Addr} {fd : FuncData} {n : Nat}
theorem ok_within (F : Fun K "clock_within" "clock_within" st_clock_within f fd) (B : Bl mg) (bd : Binds K fd ["day","board"] []) (kp : PySem.W.keepIn K (.ref f) = true) (mgf : mg "clock_within" = some (.ref f)) (C_s : Callee P w K mg base n "sooner" ["day","one","other"] (spTwo Ma.omin)) :
  ∀ m,FnOk P w K mg base CX0 (n + m + 1) f fd ["day","board"] (spWithin m)
 | 0 => by
  refine F.okQ sc_clock_within (fun vs H Q E h => ?_) (fun cdv A outer s H vs Q E hr h => ?_)
  ·obtain ⟨_,_,_,rfl,_⟩ := h
   rfl
  obtain ⟨day,p,R,rfl,hR,hl,hl9,hd,hW,q⟩ := h
  have C_sooner : Callee P w K mg base (n + 0) "sooner" ["day","one","other"] (fun _ _ _ _ => False) := by
   obtain ⟨f,fd,G,b,kp,m⟩ := C_s.ex
   exact ⟨f,fd,⟨fun _ _ _ _ h => h.elim,fun _ _ _ _ _ _ _ _ _ _ _ _ _ h => h.elim⟩,b,kp,m⟩
  have C_clock_within : Callee P w K mg base (n + 0) "clock_within" ["day","board"] (fun _ _ _ _ => False) := ⟨f,fd,⟨fun _ _ _ _ h => h.elim,fun _ _ _ _ _ _ _ _ _ _ _ _ _ h => h.elim⟩,bd,kp,mgf⟩
  refine ⟨_,(qss_cons (qs_if (qt_cmpR qop_lt (qe_cb qcall_len rfl B.len bt_len (qa_c (qv 1) qa_nil)) qe_int (nomark _)) (qss_one (qs_ret (qe_ct qcall_list rfl B.list_ bt_list (qa_c (qv 1) qa_nil)))) qss_nil) (qss_cons (qs_set (i := 2) sc_clock_within.nd rfl (Or.inl rfl) (qe_op qop_fdivB (qe_cb qcall_len rfl B.len bt_len (qa_c (qv 1) qa_nil)) qe_int)) (qss_one (qs_ret (qe_fn C_sooner hr rfl (qa_c (qv 0) (qa_c (qe_fn C_clock_within hr rfl (qa_c (qv 0) (qa_c (qe_slL (qv 1) qo_none (qo_some (qv 2))) qa_nil))) (qa_c (qe_fn C_clock_within hr rfl (qa_c (qv 0) (qa_c (qe_slL (qv 1) (qo_some (qv 2)) qo_none) qa_nil))) qa_nil)))))))),?_⟩
  try dsimp only [cx_k,cx_kn,as_nil,as_name,Nat.reduceAdd]
  obtain ⟨us,hu1,hu2,hu3⟩ := hR.lst
  have hl' : R.length ≤ 1 := hl
  refine ⟨_,rfl,p,_,rfl,.inl (SqL.of hu1),_,_,rfl,rfl,_,rfl,iteP (decide_eq_true (by show ((us.length : Nat) : Int) < 2; omega)) ?_⟩
  refine ⟨_,rfl,p,_,rfl,.inl (SqL.of hu1),fun pl hpl => ?_⟩
  generalize hgH1 : upd _ pl _ = H1
  obtain ⟨s1,e1⟩ := fresh_of hpl hgH1
  clear hgH1
  have hR1 := hR.copy s1 hu1 e1
  refine q pl R H1 s1 hpl hR1 (by omega) ?_ fun t => rfl
  match R,hl' with
  | [],_ => exact Ma.ck_nil hd
  | [x],_ => exact Ma.ck_one hd (hW x (List.mem_singleton.mpr rfl))
 | m + 1 => by
  have C_clock_within : Callee P w K mg base (n + m + 1) "clock_within" ["day","board"] (spWithin m) := Callee.mk' (ok_within F B bd kp mgf C_s m) bd kp mgf
  have C_sooner := C_s.up (show n ≤ n + m + 1 by omega)
  refine F.okQ sc_clock_within (fun vs H Q E h => ?_) (fun cdv A outer s H vs Q E hr h => ?_)
  ·obtain ⟨_,_,_,rfl,_⟩ := h
   rfl
  obtain ⟨day,p,R,rfl,hR,hl,hl9,hd,hW,q⟩ := h
  refine ⟨_,(qss_cons (qs_if (qt_cmpR qop_lt (qe_cb qcall_len rfl B.len bt_len (qa_c (qv 1) qa_nil)) qe_int (nomark _)) (qss_one (qs_ret (qe_ct qcall_list rfl B.list_ bt_list (qa_c (qv 1) qa_nil)))) qss_nil) (qss_cons (qs_set (i := 2) sc_clock_within.nd rfl (Or.inl rfl) (qe_op qop_fdivB (qe_cb qcall_len rfl B.len bt_len (qa_c (qv 1) qa_nil)) qe_int)) (qss_one (qs_ret (qe_fn C_sooner hr rfl (qa_c (qv 0) (qa_c (qe_fn C_clock_within hr rfl (qa_c (qv 0) (qa_c (qe_slL (qv 1) qo_none (qo_some (qv 2))) qa_nil))) (qa_c (qe_fn C_clock_within hr rfl (qa_c (qv 0) (qa_c (qe_slL (qv 1) (qo_some (qv 2)) qo_none) qa_nil))) qa_nil)))))))),?_⟩
  try dsimp only [cx_k,cx_kn,as_nil,as_name,Nat.reduceAdd]
  obtain ⟨us,hu1,hu2,hu3⟩ := hR.lst
  refine ⟨_,rfl,p,_,rfl,.inl (SqL.of hu1),_,_,rfl,rfl,_,rfl,?_⟩
  refine ite2 (fun c => ?_) (fun c => ?_)
  ·have c' : ((us.length : Nat) : Int) < 2 := of_decide_eq_true c
   refine ⟨_,rfl,p,_,rfl,.inl (SqL.of hu1),fun pl hpl => ?_⟩
   generalize hgH1 : upd _ pl _ = H1
   obtain ⟨s1,e1⟩ := fresh_of hpl hgH1
   clear hgH1
   have hR1 := hR.copy s1 hu1 e1
   have hl' : R.length ≤ 1 := by omega
   refine q pl R H1 s1 hpl hR1 (by omega) ?_ fun t => rfl
   match R,hl' with
   | [],_ => exact Ma.ck_nil hd
   | [x],_ => exact Ma.ck_one hd (hW x (List.mem_singleton.mpr rfl))
  have c' : ¬ ((us.length : Nat) : Int) < 2 := fun z => c (decide_eq_true z)
  refine ⟨_,rfl,p,_,rfl,.inl (SqL.of hu1),_,_,rfl,rfl,⟨by decide,by decide⟩,?_⟩
  have eh : ((us.length : Nat) : Int) / 2 = ((R.length / 2 : Nat) : Int) := by rw [hu2]; rfl
  dsimp only
  rw [eh]
  generalize hh : R.length / 2 = h
  have h1 : 0 < h := by omega
  have h2 : h ≤ us.length := by omega
  have pw : 2 ^ (m + 1) = 2 * 2 ^ m := by rw [Nat.pow_succ,Nat.mul_comm]
  refine ⟨_,rfl,_,rfl,_,rfl,_,rfl,_,rfl,p,us,rfl,SqL.of hu1,fun pa hpa => ?_⟩
  rw [cut_take us h h2]
  have ea : us.take h = (us.drop 0).take h := by simp
  rw [ea]
  generalize hgH1 : upd _ pa _ = H1
  obtain ⟨s1,e1⟩ := fresh_of hpa hgH1
  clear hgH1
  have hA := hR.part s1 hu1 0 h e1
  rw [List.drop_zero] at hA
  refine ⟨day,pa,R.take h,rfl,hA,by rw [List.length_take]; omega,by rw [List.length_take]; omega,hd,fun w hw => hW w (List.mem_of_mem_take hw),fun la Ra H2 s2 fa ha hal cka bta => ?_⟩
  have hu12 := s2 _ _ (s1 _ _ hu1)
  have hR2 := (hR.same s1).same s2
  refine ⟨_,rfl,_,rfl,_,rfl,_,rfl,p,us,rfl,SqL.of hu12,fun pb hpb => ?_⟩
  rw [cut_drop us h h2]
  have eb : us.drop h = (us.drop h).take us.length := by rw [List.take_of_length_le]; simp
  rw [eb]
  generalize hgH3 : upd _ pb _ = H3
  obtain ⟨s3,e3⟩ := fresh_of hpb hgH3
  clear hgH3
  have hB := hR2.part s3 hu12 h us.length e3
  rw [List.take_of_length_le (by rw [List.length_drop]; omega)] at hB
  refine ⟨day,pb,R.drop h,rfl,hB,by rw [List.length_drop]; omega,by rw [List.length_drop]; omega,hd,fun w hw => hW w (List.mem_of_mem_drop hw),fun lb Rb H4 s4 fb hb hbl ckb btb => ?_⟩
  have s34 := s3.trans s4
  rw [List.length_take] at hal
  rw [List.length_drop] at hbl
  refine ⟨day,la,lb,Ra,Rb,rfl,ha.same s34,hb,by omega,by omega,cka,ckb,fun l R' H5 s5 fl hR' hl' ck' bt' => ?_⟩
  have s05 := ((s1.trans s2).trans s34).trans s5
  have eb : ∀ t,Ma.bt day R' t = Ma.bt day R t := fun t => by rw [bt',bta,btb,← Ma.bt_append,List.take_append_drop]
  exact q l R' H5 s05 (((s1.trans s2).trans s34).free fl) hR' (Ma.ck_len ck' hW eb) ck' eb
end
def spClockOf : Sp := fun vs H Q _ => ∃ (day : Int) (p : Addr) (R : List T3),vs = [.int day,.ref p] ∧ LA enc3 H p R ∧ R.length ≤ 1000 ∧ 0 < day ∧ Ma.Wins day R ∧
 ∀ (l : Addr) (R' : List T3) (H' : Hp),Same H H' → H l = none → LA enc3 H' l R' → R'.length ≤ 2 * R.length + 1 → Ma.CK day R' → (∀ t,Ma.bt day R' t = Ma.bt day R t) → Q (.ref l) H'
section
variable {P : Program} {w : World} {K : PySem.W.Frag} {mg : Str → Option Value} {base : Heap} {f : Addr} {fd : FuncData} {n : Nat}
theorem ok_clock_of (F : Fun K "clock_of" "clock_of" st_clock_of f fd) (C_is_board : Callee P w K mg base n "is_board" ["day","thing"] spBoard) (C_clock_within : Callee P w K mg base n "clock_within" ["day","board"] (spWithin 10)) : FnOk P w K mg base CX0 (n + 1) f fd ["day","board"] spClockOf := by
 refine F.okQ sc_clock_of (fun vs H Q E h => ?_) (fun cdv A outer s H vs Q E hr h => ?_)
 ·obtain ⟨_,_,_,rfl,_⟩ := h
  rfl
 obtain ⟨day,p,R,rfl,hR,hl,hd,hW,q⟩ := h
 refine ⟨_,(qss_cons (qs_if (qt_not (qt_val (qe_fn C_is_board hr rfl (qa_c (qv 0) (qa_c (qv 1) qa_nil))))) (qss_one qs_never) qss_nil) (qss_one (qs_ret (qe_fn C_clock_within hr rfl (qa_c (qv 0) (qa_c (qv 1) qa_nil)))))),?_⟩
 try dsimp only [cx_k,cx_kn,as_nil,as_name,Nat.reduceAdd]
 refine ⟨_,rfl,_,rfl,day,.ref p,rfl,la_dv3 hR hl,fun H1 s1 => ?_⟩
 rw [la_board hR hW]
 refine ⟨_,rfl,iteF ?_⟩
 exact ⟨_,rfl,_,rfl,day,p,R,rfl,hR.same s1,(by show R.length ≤ 1024; omega),by omega,hd,hW,fun l R' H2 s2 fl h1 h2 h3 h4 => q l R' H2 (s1.trans s2) (s1.free fl) h1 h2 h3 h4⟩
end
section
variable {P : Program} {w : World} {K : PySem.W.Frag} {mg : Str → Option Value} {base : Heap} {f : Addr} {fd : FuncData} {n : Nat}
theorem ok_cell (F : Fun K "_law_cell_at" "_law_cell_at" st__law_cell_at f fd) (B : Bl mg) : FnOk P w K mg base CX0 (n + 1) f fd ["script","k"] (spCell K) := by
 refine F.okQ sc__law_cell_at (fun vs H Q E h => ?_) (fun cdv A outer s H vs Q E hr h => ?_)
 ·obtain ⟨_,_,_,rfl,_⟩ := h
  rfl
 obtain ⟨a,ns,k,rfl,hS,h0,q⟩ := h
 refine ⟨_,(qss_cons (qs_if (qt_cmpR qop_lt (qv 1) (qe_cb qcall_len rfl B.len bt_len (qa_c (qv 0) qa_nil)) (nomark _)) (qss_one (qs_ret (qe_ix qix_list (qv 0) (qv 1) (fun _ _ => rfl)))) qss_nil) (qss_one (qs_ret qe_int))),?_⟩
 try dsimp only [cx_k,cx_kn,as_nil,as_name,Nat.reduceAdd]
 have hl : (ns.map V.int).length = ns.length := List.length_map _
 refine ⟨_,rfl,_,rfl,a,_,rfl,.inl hS,_,_,rfl,rfl,_,rfl,?_⟩
 refine ite2 (fun c => ?_) (fun c => ?_)
 ·have c' : k < (((ns.map V.int).length : Nat) : Int) := of_decide_eq_true c
  rw [hl] at c'
  obtain ⟨v,hv⟩ := at_int (ns := ns) h0 (by omega)
  exact ⟨_,rfl,_,rfl,a,_,_,_,rfl,rfl,hS,hv,q v⟩
 ·exact q 0
theorem ok_whole (F : Fun K "_law_whole" "_law_whole" st__law_whole f fd) (B : Bl mg) : FnOk P w K mg base CX0 (n + 1) f fd ["found"] spIsWhole := by
 refine F.okQ sc__law_whole (fun vs H Q E h => ?_) (fun cdv A outer s H vs Q E hr h => ?_)
 ·obtain ⟨_,rfl,_⟩ := h
  rfl
 obtain ⟨x,rfl,dv,q⟩ := h
 refine ⟨_,(qss_one (qs_ret (qe_and (qe_cb qcall_isi rfl B.isinstance bt_isinstance (qa_c (qv 0) (qa_c (qe_bltn (v := .ty "int") rfl B.int_ bt_int rfl) qa_nil))) (qe_one (qe_not (qe_cb qcall_isi rfl B.isinstance bt_isinstance (qa_c (qv 0) (qa_c (qe_bltn (v := .ty "bool") rfl B.bool_ bt_bool rfl) qa_nil)))))))),?_⟩
 try dsimp only [cx_k,cx_kn,as_nil,as_name,Nat.reduceAdd]
 cases dv with
 | non => exact ⟨_,rfl,_,"int",_,_,rfl,.non,rfl,_,rfl,iteF q⟩
 | bl b => exact ⟨_,rfl,_,"int",_,_,rfl,.bl _,rfl,_,rfl,iteT ⟨_,rfl,_,"bool",_,_,rfl,.bl _,rfl,_,rfl,q⟩⟩
 | int i => exact ⟨_,rfl,_,"int",_,_,rfl,.int _,rfl,_,rfl,iteT ⟨_,rfl,_,"bool",_,_,rfl,.int _,rfl,_,rfl,q⟩⟩
 | str z => exact ⟨_,rfl,_,"int",_,_,rfl,.str _,rfl,_,rfl,iteF q⟩
 | lst e => exact ⟨_,rfl,_,"int",_,_,rfl,.lst e,rfl,_,rfl,iteF q⟩
 | tup e => exact ⟨_,rfl,_,"int",_,_,rfl,.tup e,rfl,_,rfl,iteF q⟩
end
def spStay : Sp := fun vs H Q _ => ∃ cell room : Int,vs = [.int cell,.int room] ∧ 0 < room ∧ ∀ s : Int,0 ≤ s → s < room → Q (.int s) H
def spRideB : Sp := fun vs H Q _ => ∃ cell day : Int,vs = [.int cell,.int day] ∧ 1 ≤ day ∧ day ≤ 1000000000000000 ∧ ∀ (c : Int) (H' : Hp),Same H H' → 0 ≤ c → Q (.int c) H'
def spMany (K : PySem.W.Frag) : Sp := fun vs H Q _ => ∃ (a : Addr) (ns : List Int) (most : Int),vs = [.ref a,.int most] ∧ SqL K H a (ns.map V.int) ∧ 0 ≤ most ∧ most ≤ 100 ∧ ∀ (m : Int) (H' : Hp),Same H H' → 0 ≤ m → m ≤ 100 → Q (.int m) H'
def spBoardB (K : PySem.W.Frag) : Sp := fun vs H Q _ => ∃ (a : Addr) (ns : List Int) (start most day : Int),vs = [.ref a,.int start,.int most,.int day] ∧ SqL K H a (ns.map V.int) ∧ ns.length ≤ 63 ∧ 0 ≤ start ∧ start ≤ 1000 ∧ 0 ≤ most ∧ most ≤ 100 ∧ 1 ≤ day ∧ day ≤ 1000000000000000 ∧
 ∀ (p : Addr) (R : List T3) (H' : Hp),Same H H' → H p = none → LA enc3 H' p R → Ma.Wins day R → R.length ≤ 21 → R.length ≤ most.toNat → Q (.ref p) H'
theorem menu7 {a b c d e f g j : Int} {ok : Int → Prop} (ha : ok a) (hb : ok b) (hc : ok c) (hd : ok d) (he : ok e) (hf : ok f) (hg : ok g) (h0 : 0 ≤ j) (h1 : j < 7) : ∃ v : Int,atI [V.int a,V.int b,V.int c,V.int d,V.int e,V.int f,V.int g] j = some (.int v) ∧ ok v := by
 rcases (by omega : j = 0 ∨ j = 1 ∨ j = 2 ∨ j = 3 ∨ j = 4 ∨ j = 5 ∨ j = 6) with rfl | rfl | rfl | rfl | rfl | rfl | rfl
 ·exact ⟨a,rfl,ha⟩
 ·exact ⟨b,rfl,hb⟩
 ·exact ⟨c,rfl,hc⟩
 ·exact ⟨d,rfl,hd⟩
 ·exact ⟨e,rfl,he⟩
 ·exact ⟨f,rfl,hf⟩
 ·exact ⟨g,rfl,hg⟩
theorem menu8b {a b c d e f g h j : Int} {ok : Int → Prop} (ha : ok a) (hb : ok b) (hc : ok c) (hd : ok d) (he : ok e) (hf : ok f) (hg : ok g) (hh : ok h) (h0 : 0 ≤ j) (h1 : j < 8) : ∃ v : Int,atI [V.int a,V.int b,V.int c,V.int d,V.int e,V.int f,V.int g,V.int h] j = some (.int v) ∧ ok v := by
 rcases (by omega : j = 0 ∨ j = 1 ∨ j = 2 ∨ j = 3 ∨ j = 4 ∨ j = 5 ∨ j = 6 ∨ j = 7) with rfl | rfl | rfl | rfl | rfl | rfl | rfl | rfl
 ·exact ⟨a,rfl,ha⟩
 ·exact ⟨b,rfl,hb⟩
 ·exact ⟨c,rfl,hc⟩
 ·exact ⟨d,rfl,hd⟩
 ·exact ⟨e,rfl,he⟩
 ·exact ⟨f,rfl,hf⟩
 ·exact ⟨g,rfl,hg⟩
 ·exact ⟨h,rfl,hh⟩
section
variable {P : Program} {w : World} {K : PySem.W.Frag} {mg : Str → Option Value} {base : Heap} {f : Addr} {fd : FuncData} {n : Nat}
theorem ok_dayB (F : Fun K "_law_day" "_law_day" st__law_day f fd) : FnOk P w K mg base CX0 (n + 1) f fd ["cell"] spDay := by
 refine F.okQ sc__law_day (fun vs H Q E h => ?_) (fun cdv A outer s H vs Q E hr h => ?_)
 ·obtain ⟨_,rfl,_⟩ := h
  rfl
 obtain ⟨c,rfl,q⟩ := h
 refine ⟨_,(qss_cons (qs_if (qt_cmpR qop_eq (qe_op qop_mod (qv 0) qe_int) qe_int (nomark _)) (qss_one (qs_ret (qe_op qop_add qe_int (qe_op qop_mod (qe_op qop_fdivB (qv 0) qe_int) (qe_op qop_pow qe_int qe_int))))) qss_nil) (qss_one (qs_ret (qe_ix qix_list (qe_lst (qa_c qe_int (qa_c qe_int (qa_c qe_int (qa_c qe_int (qa_c qe_int (qa_c (qe_op qop_add (qe_op qop_pow qe_int qe_int) qe_int) (qa_c (qe_op qop_pow qe_int qe_int) qa_nil)))))))) (qe_op qop_mod (qv 0) qe_int) (fun _ _ => rfl))))),?_⟩
 try dsimp only [cx_k,cx_kn,as_nil,as_name,Nat.reduceAdd]
 refine ⟨_,rfl,_,_,rfl,rfl,(by show (0 : Int) < 8; decide),rfl,_,rfl,?_⟩
 have em := emod_b c (show (0 : Int) < 8 by decide)
 refine ite2 (fun z => ?_) (fun z => ?_)
 ·refine ⟨_,rfl,_,_,rfl,rfl,⟨by decide,by decide⟩,_,_,rfl,rfl,⟨by decide,by decide,by decide⟩,_,_,rfl,rfl,(by show (0 : Int) < 10 ^ (15 : Int).toNat; rw [pow15]; decide),_,_,rfl,rfl,?_⟩
  have e15 := emod_b (c / 8) (show (0 : Int) < 10 ^ (15 : Int).toNat by rw [pow15]; decide)
  have e16 := e15.2
  rw [pow15] at e16
  refine q _ H (by omega) ?_ (Same.refl H)
  have : c / 8 % 10 ^ (15 : Int).toNat < 1000000000000000 := by
   have := e15.2
   generalize c / 8 % 10 ^ (15 : Int).toNat = u at *
   rw [pow15] at this
   exact this
  omega
 ·have z' : ¬ c % 8 = 7 := fun y => z (decide_eq_true (by show V.int (c % 8) = V.int 7; rw [y]))
  refine ⟨_,_,rfl,rfl,⟨by decide,by decide,by decide⟩,_,_,rfl,rfl,_,_,rfl,rfl,⟨by decide,by decide,by decide⟩,(by show 7 ≤ sizeLine; decide),fun p hp => ?_⟩
  generalize hgH1 : upd _ p _ = H1
  obtain ⟨s1,e1⟩ := fresh_of hp hgH1
  clear hgH1
  obtain ⟨v,hv,v1,v2⟩ := menu7 (ok := fun v => 1 ≤ v ∧ v ≤ 1000000000000000) (a := 1) (b := 2) (c := 24) (d := 12) (e := 1440) (f := 10 ^ (9 : Int).toNat + 7) (g := 10 ^ (15 : Int).toNat) (j := c % 8) (by decide) (by decide) (by decide) (by decide) (by decide) (by decide +kernel) (by decide +kernel) em.1 (by omega)
  exact ⟨_,rfl,_,_,rfl,rfl,(by show (0 : Int) < 8; decide),p,_,_,.int v,rfl,rfl,SqL.of e1,hv,q v H1 v1 v2 s1⟩
theorem ok_stay (F : Fun K "_law_stay" "_law_stay" st__law_stay f fd) (B : Bl mg) : FnOk P w K mg base CX0 (n + 1) f fd ["cell","room"] spStay := by
 refine F.okQ sc__law_stay (fun vs H Q E h => ?_) (fun cdv A outer s H vs Q E hr h => ?_)
 ·obtain ⟨_,_,rfl,_⟩ := h
  rfl
 obtain ⟨c,room,rfl,r0,q⟩ := h
 refine ⟨_,(qss_cons (qs_if (qt_cmpR qop_eq (qe_op qop_mod (qv 0) qe_int) qe_int (nomark _)) (qss_one (qs_ret qe_int)) qss_nil) (qss_cons (qs_if (qt_cmpR qop_eq (qe_op qop_mod (qv 0) qe_int) qe_int (nomark _)) (qss_one (qs_ret (qe_op qop_mod (qe_op qop_fdivB (qv 0) qe_int) (qe_cb (qcall_min rfl) rfl B.min bt_min (qa_c qe_int (qa_c (qv 1) qa_nil)))))) qss_nil) (qss_one (qs_ret (qe_op qop_mod (qe_op qop_fdivB (qv 0) qe_int) (qv 1)))))),?_⟩
 try dsimp only [cx_k,cx_kn,as_nil,as_name,Nat.reduceAdd]
 refine ⟨_,rfl,_,_,rfl,rfl,(by show (0 : Int) < 3; decide),rfl,_,rfl,?_⟩
 refine ite2 (fun z => q 0 (Int.le_refl _) r0) (fun z => ?_)
 refine ⟨_,rfl,_,_,rfl,rfl,(by show (0 : Int) < 3; decide),rfl,_,rfl,?_⟩
 refine ite2 (fun z => ?_) (fun z => ?_)
 ·have m0 : (0 : Int) < (if room < 4 then room else 4) := by split <;> omega
  have em := emod_b (c / 3) m0
  refine ⟨_,rfl,_,_,rfl,rfl,⟨by decide,by decide⟩,_,rfl,_,_,rfl,_,_,rfl,rfl,m0,q _ em.1 ?_⟩
  have : (if room < 4 then room else 4) ≤ room := by split <;> omega
  show c / 3 % (if room < 4 then room else 4) < room
  omega
 ·have em := emod_b (c / 3) r0
  exact ⟨_,rfl,_,_,rfl,rfl,⟨by decide,by decide⟩,_,rfl,_,_,rfl,rfl,r0,q _ em.1 em.2⟩
theorem ok_rideB (F : Fun K "_law_ride" "_law_ride" st__law_ride f fd) : FnOk P w K mg base CX0 (n + 1) f fd ["cell","day"] spRideB := by
 refine F.okQ sc__law_ride (fun vs H Q E h => ?_) (fun cdv A outer s H vs Q E hr h => ?_)
 ·obtain ⟨_,_,rfl,_⟩ := h
  rfl
 obtain ⟨c,day,rfl,d1,d2,q⟩ := h
 refine ⟨_,(qss_one (qs_ret (qe_op qop_mod (qe_op qop_fdivB (qv 0) qe_int) (qe_ix qix_list (qe_lst (qa_c qe_int (qa_c qe_int (qa_c (qe_op qop_add (qe_op qop_mul qe_int (qv 1)) qe_int) (qa_c (qe_op qop_pow qe_int qe_int) qa_nil))))) (qe_op qop_mod (qv 0) qe_int) (fun _ _ => rfl))))),?_⟩
 try dsimp only [cx_k,cx_kn,as_nil,as_name,Nat.reduceAdd]
 refine ⟨_,rfl,_,_,rfl,rfl,⟨by decide,by decide⟩,_,rfl,_,_,rfl,rfl,.inl ⟨by decide,by decide⟩,_,_,rfl,rfl,_,_,rfl,rfl,⟨by decide,by decide,by decide⟩,(by show 4 ≤ sizeLine; decide),fun p hp => ?_⟩
 generalize hgH1 : upd _ p _ = H1
 obtain ⟨s1,e1⟩ := fresh_of hp hgH1
 clear hgH1
 obtain ⟨v,hv,v0⟩ := ride4 (a := 3) (b := 8) (c := 2 * day + 1) (d := (10 : Int) ^ (15 : Int).toNat) (j := c % 4) (by decide) (by decide) (by omega) (by rw [pow15]; decide) (Int.emod_nonneg _ (by decide)) (Int.emod_lt_of_pos _ (by decide))
 exact ⟨_,rfl,_,_,rfl,rfl,(by show (0 : Int) < 4; decide),p,_,_,.int v,rfl,rfl,SqL.of e1,hv,_,_,rfl,rfl,v0,q _ H1 s1 (Int.emod_nonneg _ (by omega))⟩
theorem ok_many (F : Fun K "_law_many" "_law_many" st__law_many f fd) (C_law_cell_at : Callee P w K mg base n "_law_cell_at" ["script","k"] (spCell K)) : FnOk P w K mg base CX0 (n + 1) f fd ["script","most"] (spMany K) := by
 refine F.okQ sc__law_many (fun vs H Q E h => ?_) (fun cdv A outer s H vs Q E hr h => ?_)
 ·obtain ⟨_,_,_,rfl,_⟩ := h
  rfl
 obtain ⟨a,ns,most,rfl,hS,m0,m1,q⟩ := h
 refine ⟨_,(qss_cons (qs_set (i := 2) sc__law_many.nd rfl (Or.inl rfl) (qe_op qop_mod (qe_op qop_mul (qe_fn C_law_cell_at hr rfl (qa_c (qv 0) (qa_c qe_int qa_nil))) qe_int) qe_int)) (qss_one (qs_ret (qe_ix qix_list (qe_lst (qa_c (qv 1) (qa_c qe_int (qa_c (qv 1) (qa_c qe_int (qa_c (qv 1) (qa_c qe_int (qa_c qe_int (qa_c qe_int qa_nil))))))))) (qe_op qop_mod (qe_op qop_fdivB (qv 2) qe_int) qe_int) (fun _ _ => rfl))))),?_⟩
 try dsimp only [cx_k,cx_kn,as_nil,as_name,Nat.reduceAdd]
 refine ⟨_,rfl,a,ns,0,rfl,hS,by decide,fun c0 => ⟨_,_,rfl,rfl,.inr ⟨by decide,by decide⟩,_,_,rfl,rfl,(by show (0 : Int) < 65537; decide),?_⟩⟩
 refine ⟨_,rfl,_,rfl,_,rfl,(by show 8 ≤ sizeLine; decide),fun p hp => ?_⟩
 generalize hgH1 : upd _ p _ = H1
 obtain ⟨s1,e1⟩ := fresh_of hp hgH1
 clear hgH1
 have em := emod_b (c0 * 48271 % 65537 / 8) (show (0 : Int) < 8 by decide)
 obtain ⟨v,hv,v1,v2⟩ := menu8b (ok := fun v => 0 ≤ v ∧ v ≤ 100) (a := most) (b := 3) (c := most) (d := 1) (e := most) (f := 2) (g := 0) (h := 5) ⟨m0,m1⟩ (by decide) ⟨m0,m1⟩ (by decide) ⟨m0,m1⟩ (by decide) (by decide) (by decide) em.1 em.2
 exact ⟨_,rfl,_,_,rfl,rfl,⟨by decide,by decide⟩,_,_,rfl,rfl,(by show (0 : Int) < 8; decide),p,_,_,.int v,rfl,rfl,SqL.of e1,hv,q v H1 s1 v1 v2⟩
theorem ok_boardB (F : Fun K "_law_board" "_law_board" st__law_board f fd) (B : Bl mg) (C_law_stay : Callee P w K mg base n "_law_stay" ["cell","room"] spStay) (C_law_ride : Callee P w K mg base n "_law_ride" ["cell","day"] spRideB) : FnOk P w K mg base CX0 (n + 1) f fd ["script","start","most","day"] (spBoardB K) := by
 refine F.okQ sc__law_board (fun vs H Q E h => ?_) (fun cdv A outer s H vs Q E hr h => ?_)
 ·obtain ⟨_,_,_,_,_,rfl,_⟩ := h
  rfl
 obtain ⟨a,ns,start,most,day,rfl,hS,h63,st0,st1,mo0,mo1,d1,d2,q⟩ := h
 refine ⟨_,(qss_cons (qs_set (i := 4) sc__law_board.nd rfl (Or.inl rfl) (qe_lst qa_nil)) (qss_cons (qs_for PassesOwn.never rfl (qi_range3 rfl B.range (qa_c (qv 1) (qa_c (qe_cb (qcall_min rfl) rfl B.min bt_min (qa_c (qe_op qop_sub (qe_cb qcall_len rfl B.len bt_len (qa_c (qv 0) qa_nil)) qe_int) (qa_c (qe_op qop_add (qv 1) (qe_op qop_mul qe_int (qv 2))) qa_nil))) (qa_c qe_int qa_nil)))) (qg_name (i := 5) sc__law_board.nd rfl (Or.inl rfl)) (qss_cons (qs_set (i := 6) sc__law_board.nd rfl (Or.inl rfl) (qe_op qop_mod (qe_ix qix_list (qv 0) (qv 5) (fun _ _ => rfl)) (qv 3))) (qss_cons (qs_set (i := 7) sc__law_board.nd rfl (Or.inl rfl) (qe_op qop_add (qv 6) (qe_fn C_law_stay hr rfl (qa_c (qe_ix qix_list (qv 0) (qe_op qop_add (qv 5) qe_int) (fun _ _ => rfl)) (qa_c (qe_op qop_sub (qv 3) (qv 6)) qa_nil))))) (qss_one (qs_expr (qe_append (qv 4) (qa_c (qe_tup (qa_c (qv 6) (qa_c (qv 7) (qa_c (qe_fn C_law_ride hr rfl (qa_c (qe_ix qix_list (qv 0) (qe_op qop_add (qv 5) qe_int) (fun _ _ => rfl)) (qa_c (qv 3) qa_nil))) qa_nil)))) qa_nil))))))) (qss_one (qs_ret (qv 4))))),?_⟩
 try dsimp only [cx_k,cx_kn,as_nil,as_name,Nat.reduceAdd]
 refine ⟨(by show 0 ≤ sizeLine; decide),fun pb hpb => ?_⟩
 have s0 : Same H (upd H pb (.lst [])) := same_new hpb _
 have hl : (ns.map V.int).length = ns.length := List.length_map _
 refine ⟨_,rfl,_,rfl,a,_,rfl,.inl (s0.seq hS),_,_,rfl,rfl,_,rfl,_,rfl,_,_,rfl,rfl,.inl ⟨by decide,by decide⟩,_,_,rfl,rfl,_,_,rfl,?_⟩
 generalize hhi : (if start + 3 * most < (((ns.map V.int).length : Nat) : Int) - 2 then start + 3 * most else (((ns.map V.int).length : Nat) : Int) - 2) = hi
 have hh1 : hi ≤ (ns.length : Int) - 2 := by rw [← hhi]; split <;> omega
 have hh2 : -10 ≤ hi := by rw [← hhi]; split <;> omega
 have hh3 : hi ≤ start + 3 * most := by rw [← hhi]; split <;> omega
 have hcn : ∀ i,i < cnt3 start hi 3 → start + (i : Int) * 3 < hi := fun i hi' => cnt3_lt (by decide) hi'
 have hcl : cnt3 start hi 3 ≤ 21 ∧ cnt3 start hi 3 ≤ most.toNat := by
  rcases Nat.eq_zero_or_pos (cnt3 start hi 3) with z | z
  ·omega
  ·have := hcn (cnt3 start hi 3 - 1) (by omega)
   omega
 refine ⟨start,hi,3,rfl,⟨by omega,by omega,by omega,by omega,by decide,by decide⟩,for_range3 (lo := start) (st := 3) (n := cnt3 start hi 3)
  (fun i σ H' => ∃ (R : List T3) (v1 v2 v3 : Option V),σ = [some (.ref a),some (.int start),some (.int most),some (.int day),some (.ref pb),v1,v2,v3] ∧ Same H H' ∧ LA enc3 H' pb R ∧ Ma.Wins day R ∧ R.length = i)
  ⟨[],_,_,_,rfl,s0,LA.nil upd_same,(fun w hw => by cases hw),rfl⟩ ?_ ?_⟩
 ·rintro i σ H1 hi' ⟨R,v1,v2,v3,rfl,s1,hR,hW,hRl⟩
  have hk := hcn i hi'
  have k0 : 0 ≤ start + (i : Int) * 3 := by omega
  generalize start + (i : Int) * 3 = k at *
  have hS1 := s1.seq hS
  have at_ : ∀ j : Int,0 ≤ j → j < (ns.length : Int) → ∃ v : Int,atI (ns.map V.int) j = some (.int v) := fun j j0 j1 => at_int j0 j1
  obtain ⟨x1,hx1⟩ := at_ k k0 (by omega)
  obtain ⟨x2,hx2⟩ := at_ (k + 1) (by omega) (by omega)
  obtain ⟨x3,hx3⟩ := at_ (k + 2) (by omega) (by omega)
  have em := emod_b x1 (show 0 < day by omega)
  refine ⟨_,rfl,_,rfl,a,_,_,_,rfl,rfl,hS1,hx1,_,rfl,_,_,rfl,rfl,(by show 0 < day; omega),?_⟩
  dsimp only
  generalize x1 % day = ax at *
  refine ⟨_,rfl,_,rfl,_,rfl,_,_,rfl,rfl,a,_,_,_,rfl,rfl,hS1,hx2,_,rfl,_,rfl,_,_,rfl,rfl,x2,day - ax,rfl,by omega,fun sy y0 y1 => ⟨_,_,rfl,rfl,?_⟩⟩
  obtain ⟨us,hu1,hu2,hu3⟩ := hR.lst
  refine ⟨_,rfl,.inl ⟨rfl,_,SqL.of hu1⟩,_,rfl,_,rfl,_,rfl,_,rfl,_,_,rfl,rfl,a,_,_,_,rfl,rfl,hS1,hx3,_,rfl,x3,day,rfl,d1,d2,fun c H2 s2 c0 => ?_⟩
  refine ⟨(by show 3 ≤ sizeLine; decide),fun r hr' => ?_⟩
  have s3 := same_new hr' (.tup [.int ax,.int (ax + sy),.int c])
  refine ⟨pb,us,.ref r,rfl,rfl,s3 _ _ (s2 _ _ hu1),line_of (by omega),R ++ [(ax,ax + sy,c)],_,_,_,rfl,same_wr hpb ((s1.trans s2).trans s3),((hR.same s2).same s3).append (x := (ax,ax + sy,c)) (s3 _ _ (s2 _ _ hu1)) upd_same,fun w hw => ?_,by simp [hRl]⟩
  rcases List.mem_append.mp hw with hw | hw
  ·exact hW w hw
  ·rw [List.mem_singleton] at hw
   subst hw
   exact ⟨em.1,by show ax ≤ ax + sy; omega,by show ax + sy < day; omega,c0⟩
 ·rintro σ H1 ⟨R,v1,v2,v3,rfl,s1,hR,hW,hRl⟩
  exact ⟨_,rfl,q pb R H1 s1 hpb hR hW (by omega) (by omega)⟩
end
def spSumW : Sp := fun vs H Q _ => ∃ (p q : Int) (s : Bool) (v : Int),vs = [.int p,.int q,.bl s,.int v] ∧ p ≤ q ∧ q - p ≤ 1000000000000000 ∧ Q (.int (Ma.sw p q s v)) H
def spSumOf : Sp := fun vs H Q _ => ∃ (day : Int) (p : Addr) (R : List T3),vs = [.int day,.ref p] ∧ LA enc3 H p R ∧ R.length ≤ 1000000 ∧ day ≤ 1000000000000000 ∧ Ma.CK day R ∧ ∀ H',Same H H' → Q (optV (Ma.sumOf day R)) H'
theorem sumI_foldr : ∀ ns : List Int,sumI ns = ns.foldr (· + ·) 0 := by
 refine Ma.snoc_ind rfl fun l x ih => ?_
 rw [sumI_snoc,ih,List.foldr_append]
 have : ∀ (l : List Int) (z : Int),l.foldr (· + ·) z = l.foldr (· + ·) 0 + z := by
  intro l
  induction l with
  | nil => intro z; simp
  | cons y l ih => intro z; rw [List.foldr_cons,List.foldr_cons,ih z]; omega
 rw [this l ([x].foldr (· + ·) 0)]
 simp
section
variable {P : Program} {w : World} {K : PySem.W.Frag} {mg : Str → Option Value} {base : Heap} {f : Addr} {fd : FuncData} {n : Nat}
theorem ok_sumw (F : Fun K "sum_within" "sum_within" st_sum_within f fd) : FnOk P w K mg base CX0 (n + 1) f fd ["p","q","still","v"] spSumW := by
 refine F.okQ sc_sum_within (fun vs H Q E h => ?_) (fun cdv A outer s H vs Q E hr h => ?_)
 ·obtain ⟨_,_,_,_,rfl,_⟩ := h
  rfl
 obtain ⟨p,qq,s,v,rfl,pq,pd,q⟩ := h
 refine ⟨_,(qss_cons (qs_set (i := 4) sc_sum_within.nd rfl (Or.inl rfl) (qe_op qop_add (qe_op qop_sub (qv 1) (qv 0)) qe_int)) (qss_cons (qs_if (qt_val (qv 2)) (qss_one (qs_ret (qe_op qop_sub (qe_op qop_mul (qv 4) (qv 3)) (qe_op qop_fdivB (qe_op qop_mul (qv 4) (qe_op qop_add (qv 0) (qv 1))) qe_int)))) qss_nil) (qss_one (qs_ret (qe_op qop_mul (qv 4) (qv 3)))))),?_⟩
 try dsimp only [cx_k,cx_kn,as_nil,as_name,Nat.reduceAdd]
 refine ⟨_,rfl,_,rfl,_,_,rfl,rfl,_,_,rfl,rfl,?_⟩
 refine ⟨_,rfl,_,rfl,?_⟩
 unfold Ma.sw at q
 cases s with
 | true =>
  rw [if_pos rfl] at q
  exact iteT ⟨_,rfl,_,rfl,_,_,rfl,rfl,.inl ⟨by show _ < qq - p + 1; omega,by show qq - p + 1 < _; omega⟩,_,rfl,_,rfl,_,rfl,_,_,rfl,rfl,_,_,rfl,rfl,.inl ⟨by show _ < qq - p + 1; omega,by show qq - p + 1 < _; omega⟩,_,_,rfl,rfl,⟨by decide,by decide⟩,_,_,rfl,rfl,q⟩
 | false =>
  rw [if_neg (by decide)] at q
  exact iteF ⟨_,rfl,_,rfl,_,_,rfl,rfl,.inl ⟨by show _ < qq - p + 1; omega,by show qq - p + 1 < _; omega⟩,q⟩
theorem ok_sum_of (F : Fun K "sum_of" "sum_of" st_sum_of f fd) (B : Bl mg) (C_stretches : Callee P w K mg base n "stretches" ["day","clock"] spStretches) (C_sum_within : Callee P w K mg base n "sum_within" ["p","q","still","v"] spSumW) : FnOk P w K mg base CX0 (n + 1) f fd ["day","clock"] spSumOf := by
 refine F.okQ sc_sum_of (fun vs H Q E h => ?_) (fun cdv A outer s H vs Q E hr h => ?_)
 ·obtain ⟨_,_,_,rfl,_⟩ := h
  rfl
 obtain ⟨day,p,R,rfl,hR,hl,d2,ck,q⟩ := h
 refine ⟨_,(qss_cons (qs_if (qt_cmpR qop_eq (qe_cb qcall_len rfl B.len bt_len (qa_c (qv 1) qa_nil)) qe_int (nomark _)) (qss_one (qs_ret qe_non)) qss_nil) (qss_one (qs_ret (qe_cb (qcall_sum rfl) rfl B.sum bt_sum (qa_c (qe_comp ["p","q","still","v"] [none,none,none,none] (BlkOk.of rfl rfl (SubL.to subN) rfl) rfl (qi_list (qe_fn C_stretches hr rfl (qa_c (qv 0) (qa_c (qv 1) qa_nil)))) (fun _ _ _ _ => (qg_tupK (n := 4) K rfl rfl (qgs_cons (qg_name (i := 0) (show (["p","q","still","v"] : List Str).Nodup by decide) rfl (Or.inl rfl)) (qgs_cons (qg_name (i := 1) (show (["p","q","still","v"] : List Str).Nodup by decide) rfl (Or.inl rfl)) (qgs_cons (qg_name (i := 2) (show (["p","q","still","v"] : List Str).Nodup by decide) rfl (Or.inl rfl)) (qgs_cons (qg_name (i := 3) (show (["p","q","still","v"] : List Str).Nodup by decide) rfl (Or.inl rfl)) qgs_nil)))))) (fun _ _ _ _ => (qe_fn C_sum_within hr rfl (qa_c (qv 0) (qa_c (qv 1) (qa_c (qv 2) (qa_c (qv 3) qa_nil))))))) qa_nil))))),?_⟩
 try dsimp only [cx_k,cx_kn,as_nil,as_name,Nat.reduceAdd]
 obtain ⟨us,hu1,hu2,hu3⟩ := hR.lst
 refine ⟨_,rfl,p,_,rfl,.inl (SqL.of hu1),rfl,_,rfl,?_⟩
 unfold Ma.sumOf at q
 refine ite2 (fun c => ?_) (fun c => ?_)
 ·have c' := of_decide_eq_true c
  injection c' with c'
  have e : R = [] := List.length_eq_zero_iff.mp (by omega)
  rw [if_pos e] at q
  exact q H (Same.refl H)
 have n0 : R ≠ [] := fun e => c (decide_eq_true (by rw [hu2,e]; rfl))
 rw [if_neg n0] at q
 have T := Ma.tells_bf (d := day) n0
 have C := Ma.str_cov ck T
 have sl := Ma.strOf_len day R
 refine ⟨_,rfl,_,rfl,day,p,R,rfl,hR,by omega,fun l H1 s1 fl hS => ?_⟩
 generalize Ma.strOf day R = S at *
 obtain ⟨ws,hw1,hw2,hw3⟩ := hS.lst
 refine ⟨l,rfl,⟨_,SqL.of hw1⟩,?_⟩
 refine comp_list0 (K := K) (a := l) (xs := ws) (fun D i H' => Same H1 H' ∧ H' D = some (.lst (((S.take i).map fun r => Ma.sw r.1 r.2.1 r.2.2.1 r.2.2.2).map V.int))) (fun D hD => ⟨same_new hD _,upd_same⟩) (fun D i H' _ _ h => SqL.of (h.1 _ _ hw1)) ?_ ?_
 ·rintro D i y H' hD hi ⟨sD,hD2⟩
  obtain ⟨r,x,rfl,ex,er⟩ := hw3 i y hi
  have hi2 : i < S.length := (List.getElem?_eq_some_iff.mp ex).1
  obtain ⟨g1,g2,g3,g4,_⟩ := C.get ex
  refine ⟨r,_,rfl,SqT.of (sD _ _ er),rfl,_,_,rfl,_,_,rfl,_,_,rfl,_,_,rfl,rfl,fun k v e => ?_,?_⟩
  ·match k,e with
   | 0,e => cases e
   | 1,e => cases e
   | 2,e => cases e
   | 3,e => cases e
   | k + 4,e => cases e
  refine ⟨_,rfl,_,rfl,_,rfl,_,rfl,_,_,_,_,rfl,g2,by omega,_,hD2,line_of (by rw [List.length_map,List.length_map,List.length_take]; omega),same_wr hD sD,?_⟩
  rw [upd_same,List.take_add_one,ex,List.map_append,List.map_append]
  rfl
 ·rintro D H2 hD ⟨s2,hD2⟩
  rw [hw2,List.take_length] at hD2
  refine ⟨D,_,rfl,SqL.of hD2,?_⟩
  have := q H2 (s1.trans s2)
  rw [sumI_foldr,Ma.cov_tot C,Int.sub_zero]
  exact this
end
theorem hour_iff {d a b t : Int} (hd : 0 < d) (h0 : 0 ≤ a) (h2 : b < d) : (a ≤ t % d ∧ t % d ≤ b) ↔ ∃ k,d * k + a ≤ t ∧ t ≤ d * k + b := by
 obtain ⟨q,e,e0,e1⟩ := Ma.split d t hd
 constructor
 ·rintro ⟨h,h'⟩
  exact ⟨q,by omega,by omega⟩
 ·rintro ⟨k,k1,k2⟩
  have : k = q := by
   rcases (by omega : k < q ∨ k = q ∨ q < k) with z | z | z
   ·have := Ma.mul_lt_step hd z
    omega
   ·exact z
   ·have := Ma.mul_lt_step hd z
    omega
  subst this
  omega
theorem next_hour {d a b t : Int} (hd : 0 < d) (h0 : 0 ≤ a) (h1 : a ≤ b) (h2 : b < d) : Ma.nextO d a b t = if a ≤ t % d ∧ t % d ≤ b then t else t + (a - t) % d := by
 rw [Ma.first_law hd h0 h1 h2]
 by_cases c : a ≤ t % d ∧ t % d ≤ b
 ·rw [if_pos c,if_neg]
  have := (Ma.open_iff hd h0 h1 h2 t).mpr ((hour_iff hd h0 h2).mp c)
  omega
 ·rw [if_neg c,if_pos]
  have : ¬ (t - a) % d ≤ b - a := fun z => c ((hour_iff hd h0 h2).mpr ((Ma.open_iff hd h0 h1 h2 t).mp z))
  omega
def intsD (ks : List Int) : List PyData := ks.map PyData.int
theorem rd_ints {K : PySem.W.Frag} {H : Hp} : ∀ ks : List Int,RdAll K H (ks.map V.int) (intsD ks)
 | [] => .nil
 | k :: ks => .cons (.int k) (rd_ints ks)
theorem canLay_ints : ∀ ks : List Int,PyData.canLayAll0 (intsD ks) = true
 | [] => by simp [intsD,PyData.canLayAll0]
 | _ :: r => by
  have := canLay_ints r
  simp only [intsD,List.map_cons] at this ⊢
  simp [PyData.canLayAll0,PyData.canLay0,this]
theorem depth_ints : ∀ ks : List Int,PyData.depthAll (intsD ks) ≤ 2
 | [] => by simp [intsD,PyData.depthAll]
 | _ :: r => by
  have := depth_ints r
  simp only [intsD,List.map_cons] at this ⊢
  simp only [PyData.depthAll,PyData.depth]
  omega
theorem shaped_ints (ks : List Int) : SeqAt.shaped (.list (intsD ks)) = true := by
 have h1 := canLay_ints ks
 have h2 := depth_ints ks
 have h3 : PyData.depth (.list (intsD ks)) ≤ 64 := by simp only [PyData.depth]; omega
 show (PyData.canLay0 (.list (intsD ks)) && decide (PyData.depth (.list (intsD ks)) ≤ 64)) = true
 rw [Bool.and_eq_true]
 exact ⟨by simp only [PyData.canLay0]; exact h1,decide_eq_true h3⟩
theorem eqv_ints_nil (ks : List Int) : PyData.eqv (.list (intsD ks)) (.list []) = decide (ks.length = 0) := by
 cases ks with
 | nil => simp [intsD,PyData.eqv,PyData.eqvAll]
 | cons t r => simp [intsD,PyData.eqv,PyData.eqvAll]
def goOf (p : Int) (R : List T3) : List Int := (R.filter fun w => decide (w.1 ≤ p ∧ p ≤ w.2.1)).map fun w => w.2.2
def stOf (d p : Int) (R : List T3) : List Int := (R.filter fun w => !decide (w.1 ≤ p ∧ p ≤ w.2.1)).map fun w => p + (w.1 - p) % d + w.2.2
theorem go_snoc (p : Int) (R : List T3) (w : T3) : goOf p (R ++ [w]) = goOf p R ++ if w.1 ≤ p ∧ p ≤ w.2.1 then [w.2.2] else [] := by
 unfold goOf
 rw [List.filter_append,List.map_append]
 by_cases c : w.1 ≤ p ∧ p ≤ w.2.1 <;> simp [c]
theorem st_snoc (d p : Int) (R : List T3) (w : T3) : stOf d p (R ++ [w]) = stOf d p R ++ if w.1 ≤ p ∧ p ≤ w.2.1 then [] else [p + (w.1 - p) % d + w.2.2] := by
 unfold stOf
 rw [List.filter_append,List.map_append]
 by_cases c : w.1 ≤ p ∧ p ≤ w.2.1
 ·rw [if_pos c,List.filter_cons_of_neg (by simp only [decide_eq_true c]; decide),List.filter_nil]
  rfl
 ·rw [if_neg c,List.filter_cons_of_pos (by simp only [decide_eq_false c]; rfl),List.filter_nil]
  rfl
theorem go_len (p : Int) (R : List T3) : (goOf p R).length ≤ R.length := by
 unfold goOf
 rw [List.length_map]
 exact List.length_filter_le ..
theorem st_len (d p : Int) (R : List T3) : (stOf d p R).length ≤ R.length := by
 unfold stOf
 rw [List.length_map]
 exact List.length_filter_le ..
def Gap (p q : Int) (R : List T3) : Prop := ∀ w ∈ R,(w.1 ≤ p ∨ q ≤ w.1) ∧ (w.2.1 < p ∨ q ≤ w.2.1 + 1)
theorem mod_up {d a x : Int} (h0 : 0 ≤ a) (h1 : a < d) (h2 : 0 ≤ x) (h3 : x < d) : x + (a - x) % d = if x ≤ a then a else a + d := by
 split
 ·rw [Int.emod_eq_of_lt (by omega) (by omega)]
  omega
 ·have e : (a - x) % d = (a - x + d) % d := by rw [Int.add_emod_right]
  rw [e,Int.emod_eq_of_lt (by omega) (by omega)]
  omega
theorem gap_next {d p q x : Int} {w : T3} (hw : 0 ≤ w.1 ∧ w.1 ≤ w.2.1 ∧ w.2.1 < d ∧ 0 ≤ w.2.2) (g : (w.1 ≤ p ∨ q ≤ w.1) ∧ (w.2.1 < p ∨ q ≤ w.2.1 + 1)) (p0 : 0 ≤ p) (px : p ≤ x) (xq : x < q) (qd : q ≤ d) :
  Ma.nextO d w.1 w.2.1 x = if w.1 ≤ p ∧ p ≤ w.2.1 then x else p + (w.1 - p) % d := by
 obtain ⟨h0,h1,h2,h3⟩ := hw
 obtain ⟨g1,g2⟩ := g
 rw [next_hour (by omega) h0 h1 h2,Int.emod_eq_of_lt (by omega) (by omega),mod_up h0 (by omega) (by omega) (by omega),mod_up h0 (by omega) (by omega) (by omega)]
 split <;> split <;> first | omega | (split <;> split <;> omega)
theorem gap_at {d p q x : Int} {R : List T3} (hW : Ma.Wins d R) (n0 : R ≠ []) (G : Gap p q R) (p0 : 0 ≤ p) (px : p ≤ x) (xq : x < q) (qd : q ≤ d) :
  ((∃ c ∈ goOf p R,Ma.bf d R x = x + c) ∨ Ma.bf d R x ∈ stOf d p R) ∧ (∀ c ∈ goOf p R,Ma.bf d R x ≤ x + c) ∧ ∀ c ∈ stOf d p R,Ma.bf d R x ≤ c := by
 have m := Ma.bt_min (Ma.tells_bf (d := d) n0 x)
 have nx : ∀ w ∈ R,_ := fun w hw => gap_next (x := x) (hW w hw) (G w hw) p0 px xq qd
 refine ⟨?_,fun c hc => ?_,fun c hc => ?_⟩
 ·obtain ⟨w,hw,e⟩ := m.at_
  rw [nx w hw] at e
  by_cases c : w.1 ≤ p ∧ p ≤ w.2.1
  ·rw [if_pos c] at e
   exact .inl ⟨w.2.2,List.mem_map.mpr ⟨w,List.mem_filter.mpr ⟨hw,decide_eq_true c⟩,rfl⟩,e⟩
  ·rw [if_neg c] at e
   exact .inr (List.mem_map.mpr ⟨w,List.mem_filter.mpr ⟨hw,by simp only [decide_eq_false c]; rfl⟩,e.symm⟩)
 ·obtain ⟨w,hw,e⟩ := List.mem_map.mp hc
  obtain ⟨hw,hp⟩ := List.mem_filter.mp hw
  have := m.le w hw
  rw [nx w hw,if_pos (of_decide_eq_true hp)] at this
  omega
 ·obtain ⟨w,hw,e⟩ := List.mem_map.mp hc
  obtain ⟨hw,hp⟩ := List.mem_filter.mp hw
  have := m.le w hw
  rw [nx w hw,if_neg (fun z => by rw [decide_eq_true z] at hp; cases hp)] at this
  omega
def wt (d : Int) (R : List T3) (x : Int) : Int := Ma.bf d R x - x
section
variable {d p q : Int} {R : List T3}
theorem piece_still (hW : Ma.Wins d R) (n0 : R ≠ []) (G : Gap p q R) (p0 : 0 ≤ p) (pq : p < q) (qd : q ≤ d) (g0 : goOf p R = []) {m : Int} (hm : m ∈ stOf d p R) (hl : ∀ x ∈ stOf d p R,m ≤ x) :
  Ma.tot (wt d R) p (q - p).toNat = m * (q - p) - (p + q - 1) * (q - p) / 2 := by
 have en : (((q - p).toNat : Nat) : Int) = q - p := by omega
 rw [Ma.tot_congr (h := fun x => m - x) _ fun x a b => ?_,Ma.tot_still,en]
 ·have e : 2 * p + (q - p) - 1 = p + q - 1 := by omega
  rw [e,Int.mul_comm m,Int.mul_comm (p + q - 1)]
 ·obtain ⟨h1,h2,h3⟩ := gap_at hW n0 G p0 a (by omega) qd
  rw [g0] at h1
  have e : Ma.bf d R x ∈ stOf d p R := by
   rcases h1 with ⟨c,hc,_⟩ | h
   ·cases hc
   ·exact h
  have l1 := hl _ e
  have l2 := h3 _ hm
  unfold wt
  omega
theorem piece_ride (hW : Ma.Wins d R) (n0 : R ≠ []) (G : Gap p q R) (p0 : 0 ≤ p) (pq : p < q) (qd : q ≤ d) {r : Int} (hr : r ∈ goOf p R) (hl : ∀ x ∈ goOf p R,r ≤ x) (hs : ∀ x ∈ stOf d p R,q - 1 + r ≤ x) :
  Ma.tot (wt d R) p (q - p).toNat = r * (q - p) := by
 have en : (((q - p).toNat : Nat) : Int) = q - p := by omega
 rw [Ma.tot_congr (h := fun _ => r) _ fun x a b => ?_,Ma.tot_const,en,Int.mul_comm]
 obtain ⟨h1,h2,h3⟩ := gap_at hW n0 G p0 a (by omega) qd
 have l2 := h2 _ hr
 unfold wt
 rcases h1 with ⟨c,hc,e⟩ | h
 ·have := hl _ hc
  omega
 ·have := hs _ h
  omega
theorem piece_both (hW : Ma.Wins d R) (n0 : R ≠ []) (G : Gap p q R) (p0 : 0 ≤ p) (pq : p < q) (qd : q ≤ d) {r m e : Int} (hr : r ∈ goOf p R) (hl : ∀ x ∈ goOf p R,r ≤ x) (hm : m ∈ stOf d p R) (hs : ∀ x ∈ stOf d p R,m ≤ x) (big : ¬ q - 1 + r ≤ m) (he : e = if m - r + 1 - p > 0 then m - r + 1 - p else 0) :
  Ma.tot (wt d R) p (q - p).toNat = r * e + m * (q - (p + e)) - (p + e + q - 1) * (q - (p + e)) / 2 := by
 have e0 : 0 ≤ e ∧ p + e < q ∧ m - r + 1 ≤ p + e ∧ (e = 0 ∨ e = m - r + 1 - p) := by
  split at he <;> omega
 obtain ⟨e0,e1,e2,e3⟩ := e0
 have en : (q - p).toNat = e.toNat + (q - (p + e)).toNat := by omega
 have c1 : ((e.toNat : Nat) : Int) = e := by omega
 have c2 : (((q - (p + e)).toNat : Nat) : Int) = q - (p + e) := by omega
 rw [en,Ma.tot_add,c1]
 have t1 : Ma.tot (wt d R) p e.toNat = r * e := by
  rw [Ma.tot_congr (h := fun _ => r) _ fun x a b => ?_,Ma.tot_const,c1,Int.mul_comm]
  obtain ⟨h1,h2,h3⟩ := gap_at hW n0 G p0 a (by omega) qd
  have l2 := h2 _ hr
  unfold wt
  rcases h1 with ⟨c,hc,e'⟩ | h
  ·have := hl _ hc
   omega
  ·have := hs _ h
   omega
 have t2 : Ma.tot (wt d R) (p + e) (q - (p + e)).toNat = m * (q - (p + e)) - (p + e + q - 1) * (q - (p + e)) / 2 := by
  rw [Ma.tot_congr (h := fun x => m - x) _ fun x a b => ?_,Ma.tot_still,c2]
  ·have e : 2 * (p + e) + (q - (p + e)) - 1 = p + e + q - 1 := by omega
   rw [e,Int.mul_comm m,Int.mul_comm (p + _ + q - 1)]
  ·obtain ⟨h1,h2,h3⟩ := gap_at hW n0 G p0 (show p ≤ x by omega) (by omega) qd
   have l2 := h3 _ hm
   unfold wt
   rcases h1 with ⟨c,hc,e'⟩ | h
   ·have := hl _ hc
    omega
   ·have := hs _ h
    omega
 rw [t1,t2]
 omega
end
theorem cuts_gap {cs : List Int} (hs : cs.Pairwise (· < ·)) {k : Nat} {x y : Int} (hx : cs[k]? = some x) (hy : cs[k + 1]? = some y) : x < y ∧ ∀ z ∈ cs,z ≤ x ∨ y ≤ z := by
 obtain ⟨k1,e1⟩ := List.getElem?_eq_some_iff.mp hx
 obtain ⟨k2,e2⟩ := List.getElem?_eq_some_iff.mp hy
 have pw := List.pairwise_iff_getElem.mp hs
 refine ⟨by rw [← e1,← e2]; exact pw k (k + 1) k1 k2 (by omega),fun z hz => ?_⟩
 obtain ⟨i,hi,e⟩ := List.mem_iff_getElem.mp hz
 rcases (by omega : i < k ∨ i = k ∨ i = k + 1 ∨ k + 1 < i) with a | a | a | a
 ·have := pw i k hi k1 a
  omega
 ·subst a
  omega
 ·subst a
  omega
 ·have := pw (k + 1) i k2 hi a
  omega
theorem cuts_first {cs : List Int} {lo : Int} (hs : cs.Pairwise (· < ·)) (h : lo ∈ cs) (hl : ∀ z ∈ cs,lo ≤ z) : cs[0]? = some lo := by
 cases cs with
 | nil => cases h
 | cons x r =>
  rcases List.mem_cons.mp h with e | e
  ·rw [e]; rfl
  ·have := (List.pairwise_cons.mp hs).1 _ e
   have := hl x List.mem_cons_self
   omega
theorem cuts_last {cs : List Int} {hi : Int} (hs : cs.Pairwise (· < ·)) (h : hi ∈ cs) (hl : ∀ z ∈ cs,z ≤ hi) : cs[cs.length - 1]? = some hi := by
 obtain ⟨i,k,e⟩ := List.mem_iff_getElem.mp h
 have k2 : cs.length - 1 < cs.length := by omega
 rcases (by omega : i < cs.length - 1 ∨ i = cs.length - 1) with a | a
 ·have := List.pairwise_iff_getElem.mp hs i (cs.length - 1) k k2 a
  have := hl _ (List.getElem_mem k2)
  omega
 ·subst a
  rw [List.getElem?_eq_getElem k,e]
def cutL (d : Int) (R : List T3) : List Int := [0,d] ++ R.flatMap fun w => [w.1,w.2.1 + 1]
theorem cutL_snoc (d : Int) (R : List T3) (w : T3) : cutL d (R ++ [w]) = cutL d R ++ [w.1] ++ [w.2.1 + 1] := by simp [cutL]
theorem cutL_len (d : Int) (R : List T3) : (cutL d R).length = 2 + 2 * R.length := by
 induction R with
 | nil => rfl
 | cons w R ih =>
  simp only [cutL,List.flatMap_cons,List.length_append,List.length_cons,List.length_nil] at ih ⊢
  omega
theorem cutL_mem {d z : Int} {R : List T3} : z ∈ cutL d R ↔ z = 0 ∨ z = d ∨ ∃ w ∈ R,z = w.1 ∨ z = w.2.1 + 1 := by
 unfold cutL
 simp only [List.mem_append,List.mem_cons,List.not_mem_nil,or_false,List.mem_flatMap]
 constructor
 ·rintro ((h | h) | h)
  ·exact .inl h
  ·exact .inr (.inl h)
  ·exact .inr (.inr h)
 ·rintro (h | h | h)
  ·exact .inl (.inl h)
  ·exact .inl (.inr h)
  ·exact .inr h
theorem addAll_iff (ns : List Int) (z : Int) : z ∈ addAll (fun i => ns.getD i 0) ns.length ↔ z ∈ ns := by
 rw [addAll_mem]
 constructor
 ·rintro ⟨j,hj,e⟩
  have e' : ns.getD j 0 = ns[j] := by simp [hj]
  rw [← e,e']
  exact List.getElem_mem hj
 ·intro h
  obtain ⟨j,hj,e⟩ := List.mem_iff_getElem.mp h
  exact ⟨j,hj,by simp [hj,e]⟩
structure Cuts (d : Int) (R : List T3) (cs : List Int) : Prop where
 rise : cs.Pairwise (· < ·)
 all : ∀ z,z ∈ cs ↔ z ∈ cutL d R
theorem Cuts.bound {d : Int} {R : List T3} {cs : List Int} (h : Cuts d R cs) (hd : 0 < d) (hW : Ma.Wins d R) : ∀ z ∈ cs,0 ≤ z ∧ z ≤ d := fun z hz => by
 rcases cutL_mem.mp ((h.all z).mp hz) with e | e | ⟨w,hw,e⟩
 ·omega
 ·omega
 ·have := hW w hw
  omega
theorem Cuts.first {d : Int} {R : List T3} {cs : List Int} (h : Cuts d R cs) (hd : 0 < d) (hW : Ma.Wins d R) : cs[0]? = some 0 := cuts_first h.rise ((h.all 0).mpr (cutL_mem.mpr (.inl rfl))) fun z hz => (h.bound hd hW z hz).1
theorem Cuts.last {d : Int} {R : List T3} {cs : List Int} (h : Cuts d R cs) (hd : 0 < d) (hW : Ma.Wins d R) : cs[cs.length - 1]? = some d := cuts_last h.rise ((h.all d).mpr (cutL_mem.mpr (.inr (.inl rfl)))) fun z hz => (h.bound hd hW z hz).2
theorem Cuts.gap {d : Int} {R : List T3} {cs : List Int} (h : Cuts d R cs) {k : Nat} {x y : Int} (hx : cs[k]? = some x) (hy : cs[k + 1]? = some y) : x < y ∧ Gap x y R := by
 obtain ⟨l,g⟩ := cuts_gap h.rise hx hy
 refine ⟨l,fun w hw => ⟨?_,?_⟩⟩
 ·exact g _ ((h.all _).mpr (cutL_mem.mpr (.inr (.inr ⟨w,hw,.inl rfl⟩))))
 ·have := g _ ((h.all _).mpr (cutL_mem.mpr (.inr (.inr ⟨w,hw,.inr rfl⟩))))
  omega
theorem tot_cut {g : Int → Int} {x y : Int} (x0 : 0 ≤ x) (l : x < y) : Ma.tot g 0 x.toNat + Ma.tot g x (y - x).toNat = Ma.tot g 0 y.toNat := by
 have e : y.toNat = x.toNat + (y - x).toNat := by omega
 have e2 : (0 : Int) + ((x.toNat : Nat) : Int) = x := by omega
 rw [e,Ma.tot_add,e2]
def spPiece : Sp := fun vs H Q _ => ∃ (day : Int) (pb : Addr) (p q : Int) (R : List T3),vs = [.int day,.ref pb,.int p,.int q] ∧ LA enc3 H pb R ∧ R ≠ [] ∧ R.length ≤ 1000 ∧ Ma.Wins day R ∧ 0 ≤ p ∧ p < q ∧ q ≤ day ∧ day ≤ 1000000000000000 ∧ Gap p q R ∧
 ∀ H',Same H H' → Q (.int (Ma.tot (wt day R) p (q - p).toNat)) H'
section
variable {P : Program} {w : World} {K : PySem.W.Frag} {mg : Str → Option Value} {base : Heap} {f : Addr} {fd : FuncData} {n : Nat}
theorem ok_piece (F : Fun K "_law_piece" "_law_piece" st__law_piece f fd) (B : Bl mg) : FnOk P w K mg base CX0 (n + 1) f fd ["day","board","p","q"] spPiece := by
 refine F.okQ sc__law_piece (fun vs H Q E h => ?_) (fun cdv A outer s H vs Q E hr h => ?_)
 ·obtain ⟨_,_,_,_,_,rfl,_⟩ := h
  rfl
 obtain ⟨day,pb,p,q,R,rfl,hR,n0,hl,hW,p0,pq,qd,d2,G,k⟩ := h
 refine ⟨_,(qss_cons (qs_set (i := 4) sc__law_piece.nd rfl (Or.inl rfl) (qe_lst qa_nil)) (qss_cons (qs_set (i := 5) sc__law_piece.nd rfl (Or.inl rfl) (qe_lst qa_nil)) (qss_cons (qs_for PassesOwn.never rfl (qi_list (qv 1)) (qg_tup rfl (qgs_cons (qg_name (i := 6) sc__law_piece.nd rfl (Or.inl rfl)) (qgs_cons (qg_name (i := 7) sc__law_piece.nd rfl (Or.inl rfl)) (qgs_cons (qg_name (i := 8) sc__law_piece.nd rfl (Or.inl rfl)) qgs_nil)))) (qss_one (qs_if (qt_chain qop_le qop_le (qv 6) (qv 2) (qv 7)) (qss_one (qs_expr (qe_append (qv 4) (qa_c (qv 8) qa_nil)))) (qss_one (qs_expr (qe_append (qv 5) (qa_c (qe_op qop_add (qe_op qop_add (qv 2) (qe_op qop_mod (qe_op qop_sub (qv 6) (qv 2)) (qv 0))) (qv 8)) qa_nil))))))) (qss_cons (qs_set (i := 9) sc__law_piece.nd rfl (Or.inl rfl) (qe_op qop_sub (qv 3) (qv 2))) (qss_cons (qs_if (qt_cmpR (qop_eqD hr.units) (qv 4) (qe_lst qa_nil) (nomark _)) (qss_one (qs_ret (qe_op qop_sub (qe_op qop_mul (qe_cb (qcall_minL rfl) rfl B.min bt_min (qa_c (qv 5) qa_nil)) (qv 9)) (qe_op qop_fdivB (qe_op qop_mul (qe_op qop_sub (qe_op qop_add (qv 2) (qv 3)) qe_int) (qv 9)) qe_int)))) qss_nil) (qss_cons (qs_set (i := 10) sc__law_piece.nd rfl (Or.inl rfl) (qe_cb (qcall_minL rfl) rfl B.min bt_min (qa_c (qv 4) qa_nil))) (qss_cons (qs_if (QW.pt (qw_or (qt_cmpR (qop_eqD hr.units) (qv 5) (qe_lst qa_nil) (nomark _)) (qw_or1 (qt_cmpR qop_le (qe_op qop_add (qe_op qop_sub (qv 3) qe_int) (qv 10)) (qe_cb (qcall_minL rfl) rfl B.min bt_min (qa_c (qv 5) qa_nil)) (nomark _))))) (qss_one (qs_ret (qe_op qop_mul (qv 10) (qv 9)))) qss_nil) (qss_cons (qs_set (i := 11) sc__law_piece.nd rfl (Or.inl rfl) (qe_cb (qcall_max rfl) rfl B.max bt_max (qa_c qe_int (qa_c (qe_op qop_sub (qe_op qop_add (qe_op qop_sub (qe_cb (qcall_minL rfl) rfl B.min bt_min (qa_c (qv 5) qa_nil)) (qv 10)) qe_int) (qv 2)) qa_nil)))) (qss_cons (qs_set (i := 12) sc__law_piece.nd rfl (Or.inl rfl) (qe_op qop_add (qv 2) (qv 11))) (qss_cons (qs_set (i := 13) sc__law_piece.nd rfl (Or.inl rfl) (qe_op qop_sub (qv 3) (qv 12))) (qss_one (qs_ret (qe_op qop_sub (qe_op qop_add (qe_op qop_mul (qv 10) (qv 11)) (qe_op qop_mul (qe_cb (qcall_minL rfl) rfl B.min bt_min (qa_c (qv 5) qa_nil)) (qv 13))) (qe_op qop_fdivB (qe_op qop_mul (qe_op qop_sub (qe_op qop_add (qv 12) (qv 3)) qe_int) (qv 13)) qe_int)))))))))))))),?_⟩
 try dsimp only [cx_k,cx_kn,as_nil,as_name,Nat.reduceAdd]
 refine ⟨(by show 0 ≤ sizeLine; decide),fun pg hpg => ?_⟩
 generalize hgH1 : upd _ pg _ = H1
 obtain ⟨s1,e1⟩ := fresh_of hpg hgH1
 clear hgH1
 refine ⟨(by show 0 ≤ sizeLine; decide),fun ps hps => ?_⟩
 generalize hgH2 : upd _ ps _ = H2
 obtain ⟨s2,e2⟩ := fresh_of hps hgH2
 clear hgH2
 have ne : ps ≠ pg := fun z => by rw [z,e1] at hps; cases hps
 have hps0 : H ps = none := by
  cases e : H ps with
  | none => rfl
  | some o =>
   rw [s1 _ _ e] at hps
   cases hps
 have e1 := s2 _ _ e1
 have s02 := s1.trans s2
 obtain ⟨ws,hw1,hw2,hw3⟩ := hR.lst
 refine ⟨_,rfl,pb,rfl,⟨_,SqL.of (s02 _ _ hw1)⟩,for_list (K := K) (a := pb) (xs := ws)
  (fun i σ H' => ∃ (v1 v2 v3 v4 v5 v6 v7 v8 : Option V),σ = [some (.int day),some (.ref pb),some (.int p),some (.int q),some (.ref pg),some (.ref ps),v1,v2,v3,v4,v5,v6,v7,v8] ∧ Same H H' ∧ H' pg = some (.lst ((goOf p (R.take i)).map V.int)) ∧ H' ps = some (.lst ((stOf day p (R.take i)).map V.int)))
  ⟨_,_,_,_,_,_,_,_,rfl,s02,e1,e2⟩ (fun i σ H' _ ⟨_,_,_,_,_,_,_,_,_,s,_⟩ => SqL.of (s _ _ hw1)) ?_ ?_⟩
 ·rintro i y σ H3 hi ⟨v1,v2,v3,v4,v5,v6,v7,v8,rfl,s3,hG,hT⟩
  obtain ⟨r,x,rfl,ex,er⟩ := hw3 i y hi
  obtain ⟨a,b,c⟩ := x
  have hi2 : i < R.length := (List.getElem?_eq_some_iff.mp ex).1
  have et : R.take (i + 1) = R.take i ++ [(a,b,c)] := by rw [List.take_add_one,ex]; rfl
  have gl := go_len p (R.take i)
  have tl := st_len day p (R.take i)
  rw [List.length_take] at gl tl
  rw [et,go_snoc,st_snoc]
  refine ⟨r,_,rfl,SqT.of (s3 _ _ er),rfl,_,_,rfl,_,_,rfl,_,_,rfl,rfl,?_⟩
  have hd : 0 < day := by omega
  have lbG : ((goOf p (R.take i)).map V.int).length ≤ 16000000 := by
   rw [List.length_map]
   omega
  have lbT : ((stOf day p (R.take i)).map V.int).length ≤ 16000000 := by
   rw [List.length_map]
   omega
  have goin : a ≤ p ∧ p ≤ b → ∃ (l : Addr) (xs : List V) (y : V),V.ref pg = .ref l ∧ [V.int c] = [y] ∧ H3 l = some (.lst xs) ∧ xs.length < sizeLine ∧ ∃ (v1 v2 v3 v4' v5' v6' v7' v8' : Option V),[some (.int day),some (.ref pb),some (.int p),some (.int q),some (.ref pg),some (.ref ps),some (.int a),some (.int b),some (.int c),v4,v5,v6,v7,v8] = [some (.int day),some (.ref pb),some (.int p),some (.int q),some (.ref pg),some (.ref ps),v1,v2,v3,v4',v5',v6',v7',v8'] ∧ Same H (upd H3 l (.lst (xs ++ [y]))) ∧
    upd H3 l (.lst (xs ++ [y])) pg = some (.lst ((goOf p (R.take i) ++ if a ≤ p ∧ p ≤ b then [c] else []).map V.int)) ∧ upd H3 l (.lst (xs ++ [y])) ps = some (.lst ((stOf day p (R.take i) ++ if a ≤ p ∧ p ≤ b then [] else [p + (a - p) % day + c]).map V.int)) := by
   intro z
   refine ⟨pg,_,_,rfl,rfl,hG,line_of lbG,_,_,_,_,_,_,_,_,rfl,same_wr hpg s3,?_,?_⟩
   ·rw [upd_same,if_pos z,List.map_append]
    rfl
   ·rw [upd_ne ne,hT,if_pos z,List.append_nil]
  have stil : ¬ (a ≤ p ∧ p ≤ b) → ∃ (l : Addr) (xs : List V) (y : V),V.ref ps = .ref l ∧ [V.int (p + (a - p) % day + c)] = [y] ∧ H3 l = some (.lst xs) ∧ xs.length < sizeLine ∧ ∃ (v1 v2 v3 v4' v5' v6' v7' v8' : Option V),[some (.int day),some (.ref pb),some (.int p),some (.int q),some (.ref pg),some (.ref ps),some (.int a),some (.int b),some (.int c),v4,v5,v6,v7,v8] = [some (.int day),some (.ref pb),some (.int p),some (.int q),some (.ref pg),some (.ref ps),v1,v2,v3,v4',v5',v6',v7',v8'] ∧ Same H (upd H3 l (.lst (xs ++ [y]))) ∧
    upd H3 l (.lst (xs ++ [y])) pg = some (.lst ((goOf p (R.take i) ++ if a ≤ p ∧ p ≤ b then [c] else []).map V.int)) ∧ upd H3 l (.lst (xs ++ [y])) ps = some (.lst ((stOf day p (R.take i) ++ if a ≤ p ∧ p ≤ b then [] else [p + (a - p) % day + c]).map V.int)) := by
   intro z
   refine ⟨ps,_,_,rfl,rfl,hT,line_of lbT,_,_,_,_,_,_,_,_,rfl,same_wr hps0 s3,?_,?_⟩
   ·rw [upd_ne (Ne.symm ne),hG,if_neg z,List.append_nil]
   ·rw [upd_same,if_neg z,List.map_append]
    rfl
  refine ⟨_,rfl,_,rfl,_,_,rfl,rfl,_,rfl,?_⟩
  refine ite2 (fun c1 => ?_) (fun c1 => ?_)
  ·have c1' : a ≤ p := of_decide_eq_true c1
   refine ⟨_,rfl,_,_,rfl,rfl,_,rfl,?_⟩
   refine ite2 (fun c2 => ?_) (fun c2 => ?_)
   ·have c2' : p ≤ b := of_decide_eq_true c2
    exact ⟨_,rfl,.inl ⟨rfl,_,SqL.of hG⟩,_,rfl,goin ⟨c1',c2'⟩⟩
   ·have c2' : ¬ p ≤ b := fun z => c2 (decide_eq_true z)
    exact ⟨_,rfl,.inl ⟨rfl,_,SqL.of hT⟩,_,rfl,_,rfl,_,rfl,_,_,rfl,rfl,_,rfl,_,_,rfl,rfl,hd,_,_,rfl,rfl,_,rfl,_,_,rfl,rfl,stil fun z => c2' z.2⟩
  ·have c1' : ¬ a ≤ p := fun z => c1 (decide_eq_true z)
   exact ⟨_,rfl,iteF ⟨_,rfl,.inl ⟨rfl,_,SqL.of hT⟩,_,rfl,_,rfl,_,rfl,_,_,rfl,rfl,_,rfl,_,_,rfl,rfl,hd,_,_,rfl,rfl,_,rfl,_,_,rfl,rfl,stil fun z => c1' z.1⟩⟩
 rintro σ H3 ⟨v1,v2,v3,v4,v5,v6,v7,v8,rfl,s3,hG,hT⟩
 rw [hw2,List.take_length] at hG hT
 have en : -(2 ^ 64) < q - p ∧ q - p < 2 ^ 64 := ⟨by omega,by omega⟩
 have k := fun {H'} => k H'
 refine ⟨_,rfl,_,rfl,_,_,rfl,rfl,?_⟩
 refine ⟨_,rfl,(by show 0 ≤ sizeLine; decide),fun p4 hp4 => ?_⟩
 generalize hgH4 : upd _ p4 _ = H4
 obtain ⟨s4,e4⟩ := fresh_of hp4 hgH4
 clear hgH4
 have hG := s4 _ _ hG
 have hT := s4 _ _ hT
 have s04 := s3.trans s4
 refine ⟨_,_,.lst (SqL.of hG) (rd_ints _),.lst (SqL.of e4) (rd_ints []),shaped_ints _,shaped_ints [],_,rfl,?_⟩
 rw [show PyData.list (intsD []) = .list [] from rfl,eqv_ints_nil]
 refine ite2 (fun c => ?_) (fun c => ?_)
 ·have c1 : goOf p R = [] := List.length_eq_zero_iff.mp (of_decide_eq_true c)
  have sn : stOf day p R ≠ [] := fun z => by
   rcases (gap_at hW n0 G p0 (Int.le_refl p) pq qd).1 with ⟨_,h,_⟩ | h
   ·rw [c1] at h
    cases h
   ·rw [z] at h
    cases h
  refine ⟨_,rfl,ps,_,rfl,SqL.of hT,sn,fun m hm hl => ⟨_,rfl,_,_,rfl,rfl,.inr en,_,rfl,_,rfl,_,_,rfl,rfl,_,_,rfl,rfl,_,rfl,_,_,rfl,rfl,.inr en,_,_,rfl,rfl,⟨by decide,by decide⟩,_,_,rfl,rfl,?_⟩⟩
  have := k s04
  rw [piece_still hW n0 G p0 pq qd c1 hm hl] at this
  exact this
 have gn : goOf p R ≠ [] := fun z => c (decide_eq_true (by rw [z]; rfl))
 refine ⟨_,rfl,pg,_,rfl,SqL.of hG,gn,fun r hr2 hrl => ?_⟩
 have rideEnd : (∀ x ∈ stOf day p R,q - 1 + r ≤ x) → ∀ H',Same H H' → Q (.int (r * (q - p))) H' := fun z H' s' => by
  have := k s'
  rw [piece_ride hW n0 G p0 pq qd hr2 hrl z] at this
  exact this
 refine ⟨_,rfl,(by show 0 ≤ sizeLine; decide),fun p5 hp5 => ?_⟩
 generalize hgH5 : upd _ p5 _ = H5
 obtain ⟨s5,e5⟩ := fresh_of hp5 hgH5
 clear hgH5
 have hT := s5 _ _ hT
 have s05 := s04.trans s5
 refine ⟨_,_,.lst (SqL.of hT) (rd_ints _),.lst (SqL.of e5) (rd_ints []),shaped_ints _,shaped_ints [],_,rfl,?_⟩
 rw [show PyData.list (intsD []) = .list [] from rfl,eqv_ints_nil]
 refine ite2 (fun c2 => ?_) (fun c2 => ?_)
 ·have c2' : stOf day p R = [] := List.length_eq_zero_iff.mp (of_decide_eq_true c2)
  exact ⟨_,rfl,_,rfl,_,_,rfl,rfl,.inr en,rideEnd (by rw [c2']; intro x hx; cases hx) _ s05⟩
 have sn : stOf day p R ≠ [] := fun z => c2 (decide_eq_true (by rw [z]; rfl))
 refine ⟨_,rfl,_,_,rfl,rfl,_,rfl,_,_,rfl,rfl,_,rfl,ps,_,rfl,SqL.of hT,sn,fun m hm hml => ⟨_,_,rfl,rfl,_,rfl,?_⟩⟩
 refine ite2 (fun c3 => ?_) (fun c3 => ?_)
 ·have c3' : q - 1 + r ≤ m := of_decide_eq_true c3
  exact ⟨_,rfl,_,rfl,_,_,rfl,rfl,.inr en,rideEnd (fun x hx => Int.le_trans c3' (hml x hx)) _ s05⟩
 have c3' : ¬ q - 1 + r ≤ m := fun z => c3 (decide_eq_true z)
 have ee : ∀ e : Int,e = (if m - r + 1 - p > 0 then m - r + 1 - p else 0) → 0 ≤ e ∧ p + e < q := fun e he => by split at he <;> omega
 refine ⟨_,rfl,ps,_,rfl,SqL.of hT,sn,fun m2 hm2 hml2 => ?_⟩
 have em : m2 = m := Int.le_antisymm (hml2 _ hm) (hml _ hm2)
 subst em
 refine ⟨_,rfl,_,_,rfl,rfl,_,_,rfl,rfl,_,rfl,_,_,rfl,rfl,_,_,rfl,?_⟩
 generalize hE : (if m2 - r + 1 - p > 0 then m2 - r + 1 - p else 0) = e
 obtain ⟨e0,e1'⟩ := ee e hE.symm
 have en2 : -(2 ^ 64) < e ∧ e < 2 ^ 64 := ⟨by omega,by omega⟩
 have en3 : -(2 ^ 64) < q - (p + e) ∧ q - (p + e) < 2 ^ 64 := ⟨by omega,by omega⟩
 refine ⟨_,rfl,_,rfl,_,_,rfl,rfl,?_⟩
 refine ⟨_,rfl,_,rfl,_,_,rfl,rfl,?_⟩
 refine ⟨_,rfl,_,rfl,_,_,rfl,rfl,.inr en2,_,rfl,ps,_,rfl,SqL.of hT,sn,fun m3 hm3 hml3 => ?_⟩
 have em : m3 = m2 := Int.le_antisymm (hml3 _ hm) (hml _ hm3)
 subst em
 refine ⟨_,rfl,_,_,rfl,rfl,.inr en3,_,_,rfl,rfl,_,rfl,_,rfl,_,_,rfl,rfl,_,_,rfl,rfl,_,rfl,_,_,rfl,rfl,.inr en3,_,_,rfl,rfl,⟨by decide,by decide⟩,_,_,rfl,rfl,?_⟩
 have := k s05
 rw [piece_both hW n0 G p0 pq qd hr2 hrl hm hml c3' hE.symm] at this
 exact this
end
section
variable {P : Program} {w : World} {K : PySem.W.Frag} {mg : Str → Option Value} {base : Heap} {f : Addr} {fd : FuncData} {n : Nat}
theorem ok_law (F : Fun K "law" "law" st_law f fd) (B : Bl mg) (C_clock_of : Callee P w K mg base n "clock_of" ["day","board"] spClockOf) (C_sum_of : Callee P w K mg base n "sum_of" ["day","clock"] spSumOf)
  (C_law_cell_at : Callee P w K mg base n "_law_cell_at" ["script","k"] (spCell K)) (C_law_whole : Callee P w K mg base n "_law_whole" ["found"] spIsWhole) (C_law_day : Callee P w K mg base n "_law_day" ["cell"] spDay) (C_law_board : Callee P w K mg base n "_law_board" ["script","start","most","day"] (spBoardB K)) (C_law_many : Callee P w K mg base n "_law_many" ["script","most"] (spMany K)) (C_law_piece : Callee P w K mg base n "_law_piece" ["day","board","p","q"] spPiece) : FnOk P w K mg base CX0 (n + 1) f fd ["script"] (spLaw K) := by
 refine F.okQ sc_law (fun vs H Q E h => ?_) (fun cdv A outer s H vs Q E hr h => ?_)
 ·obtain ⟨_,_,rfl,_⟩ := h
  rfl
 obtain ⟨a,ns,rfl,hS,h63,q⟩ := h
 refine ⟨_,(qss_cons (qs_set (i := 1) sc_law.nd rfl (Or.inl rfl) (qe_fn C_law_day hr rfl (qa_c (qe_fn C_law_cell_at hr rfl (qa_c (qv 0) (qa_c qe_int qa_nil))) qa_nil))) (qss_cons (qs_set (i := 2) sc_law.nd rfl (Or.inl rfl) (qe_fn C_law_board hr rfl (qa_c (qv 0) (qa_c qe_int (qa_c (qe_fn C_law_many hr rfl (qa_c (qv 0) (qa_c qe_int qa_nil))) (qa_c (qv 1) qa_nil)))))) (qss_cons (qs_set (i := 3) sc_law.nd rfl (Or.inl rfl) (qe_fn C_sum_of hr rfl (qa_c (qv 1) (qa_c (qe_fn C_clock_of hr rfl (qa_c (qv 1) (qa_c (qe_ct qcall_list rfl B.list_ bt_list (qa_c (qv 2) qa_nil)) qa_nil))) qa_nil)))) (qss_cons (qs_if (qt_cmpR (qop_eqD hr.units) (qv 2) (qe_lst qa_nil) (nomark _)) (qss_one (qs_ret (qe_isN (qv 3)))) qss_nil) (qss_cons (qs_set (i := 4) sc_law.nd rfl (Or.inl rfl) (qe_lst (qa_c qe_int (qa_c (qv 1) qa_nil)))) (qss_cons (qs_for PassesOwn.never rfl (qi_list (qv 2)) (qg_tup rfl (qgs_cons (qg_name (i := 5) sc_law.nd rfl (Or.inl rfl)) (qgs_cons (qg_name (i := 6) sc_law.nd rfl (Or.inl rfl)) (qgs_cons (qg_name (i := 7) sc_law.nd rfl (Or.inl rfl)) qgs_nil)))) (qss_cons (qs_expr (qe_append (qv 4) (qa_c (qv 5) qa_nil))) (qss_one (qs_expr (qe_append (qv 4) (qa_c (qe_op qop_add (qv 6) qe_int) qa_nil)))))) (qss_cons (qs_set (i := 4) sc_law.nd rfl (Or.inl rfl) (qe_cb (qcall_sorted rfl) rfl B.sorted bt_sorted (qa_c (qe_ct (qcall_set rfl) rfl B.set_ bt_set (qa_c (qv 4) qa_nil)) qa_nil))) (qss_cons (qs_set (i := 8) sc_law.nd rfl (Or.inl rfl) qe_int) (qss_cons (qs_for PassesOwn.never rfl (qi_range2 rfl B.range (qa_c qe_int (qa_c (qe_cb qcall_len rfl B.len bt_len (qa_c (qv 4) qa_nil)) qa_nil))) (qg_name (i := 9) sc_law.nd rfl (Or.inl rfl)) (qss_one (qs_set (i := 8) sc_law.nd rfl (Or.inl rfl) (qe_op qop_add (qv 8) (qe_fn C_law_piece hr rfl (qa_c (qv 1) (qa_c (qv 2) (qa_c (qe_ix qix_list (qv 4) (qe_op qop_sub (qv 9) qe_int) (fun _ _ => rfl)) (qa_c (qe_ix qix_list (qv 4) (qv 9) (fun _ _ => rfl)) qa_nil))))))))) (qss_one (qs_ret (qe_and (qe_fn C_law_whole hr rfl (qa_c (qv 3) qa_nil)) (qe_one (qe_cmpR qop_eq (qv 3) (qv 8) (nomark _))))))))))))))),?_⟩
 try dsimp only [cx_k,cx_kn,as_nil,as_name,Nat.reduceAdd]
 refine ⟨_,rfl,a,ns,0,rfl,hS,by decide,fun c0 => ⟨c0,rfl,fun d H1 d1 d2 s1 => ?_⟩⟩
 have hd : 0 < d := by omega
 refine ⟨_,rfl,_,rfl,a,ns,12,rfl,s1.seq hS,by decide,by decide,fun m H2 s2 m0 m1 => ⟨_,rfl,a,ns,1,m,d,rfl,(s1.trans s2).seq hS,h63,by decide,by decide,m0,m1,d1,d2,fun pb R H3 s3 _ hR hW hl _ => ?_⟩⟩
 have s03 := (s1.trans s2).trans s3
 obtain ⟨us,hu1,hu2,hu3⟩ := hR.lst
 refine ⟨_,rfl,_,rfl,_,rfl,pb,_,rfl,.inl (SqL.of hu1),fun p4 hp4 => ?_⟩
 generalize hgH4 : upd _ p4 _ = H4
 obtain ⟨s4,e4⟩ := fresh_of hp4 hgH4
 clear hgH4
 refine ⟨d,p4,R,rfl,hR.copy s4 hu1 e4,by omega,hd,hW,fun pc C H5 s5 f5 hC hCl ck bt => ?_⟩
 have s35 := s4.trans s5
 refine ⟨d,pc,C,rfl,hC,by omega,d2,ck,fun H6 s6 => ?_⟩
 have s36 := s35.trans s6
 have hR := hR.same s36
 have nn : R = [] ↔ C = [] := ⟨fun e => bt_none (d := d) (t := 0) (by rw [bt,e]; rfl),fun e => bt_none (d := d) (t := 0) (by rw [← bt,e]; rfl)⟩
 refine ⟨_,rfl,(by show 0 ≤ sizeLine; decide),fun p7 hp7 => ?_⟩
 generalize hgH7 : upd _ p7 _ = H7
 obtain ⟨s7,e7⟩ := fresh_of hp7 hgH7
 clear hgH7
 have hR := hR.same s7
 refine ⟨_,_,rd3 hR,rd3 (R := []) (LA.nil e7),shaped3 _,shaped3 _,_,rfl,?_⟩
 rw [eqv_list eqv3]
 refine ite2 (fun c => ?_) (fun c => ?_)
 ·have c1 : R = [] := of_decide_eq_true c
  rw [show Ma.sumOf d C = none by unfold Ma.sumOf; rw [if_pos (nn.mp c1)]]
  exact ⟨_,rfl,q H7⟩
 have n1 : ¬ R = [] := fun z => c (decide_eq_true z)
 have n2 : ¬ C = [] := fun z => n1 (nn.mpr z)
 have es : Ma.sumOf d C = some (Ma.tot (wt d R) 0 d.toNat) := by
  unfold Ma.sumOf
  rw [if_neg n2]
  congr 1
  refine Ma.tot_congr _ fun x _ _ => ?_
  have TC := Ma.tells_bf (d := d) n2
  have TR : Ma.Tells d R (Ma.bf d C) := fun t => by rw [← bt]; exact TC t
  unfold wt
  rw [Ma.bf_eq TR]
 rw [es]
 have s07 := (s03.trans s36).trans s7
 refine ⟨_,rfl,(by show 2 ≤ sizeLine; decide),fun p8 hp8 => ?_⟩
 generalize hgH8 : upd _ p8 _ = H8
 obtain ⟨s8,e8⟩ := fresh_of hp8 hgH8
 clear hgH8
 obtain ⟨ws,hw1,hw2,hw3⟩ := hR.lst
 refine ⟨_,rfl,pb,rfl,⟨_,SqL.of (s8 _ _ hw1)⟩,for_list (K := K) (a := pb) (xs := ws)
  (fun i σ H' => ∃ (v1 v2 v3 v4 v5 : Option V),σ = [some (.ref a),some (.int d),some (.ref pb),some (optV (some (Ma.tot (wt d R) 0 d.toNat))),some (.ref p8),v1,v2,v3,v4,v5] ∧ Same H7 H' ∧ H' p8 = some (.lst ((cutL d (R.take i)).map V.int)))
  ⟨_,_,_,_,_,rfl,s8,e8⟩ (fun i σ H' _ ⟨_,_,_,_,_,_,s,_⟩ => SqL.of (s _ _ hw1)) ?_ ?_⟩
 ·rintro i y σ H9 hi ⟨v1,v2,v3,v4,v5,rfl,s9,e9⟩
  obtain ⟨r,x,rfl,ex,er⟩ := hw3 i y hi
  obtain ⟨wa,wb,wc⟩ := x
  have hi2 : i < R.length := (List.getElem?_eq_some_iff.mp ex).1
  have et : R.take (i + 1) = R.take i ++ [(wa,wb,wc)] := by rw [List.take_add_one,ex]; rfl
  have cl := cutL_len d (R.take i)
  rw [List.length_take] at cl
  have lb : ((cutL d (R.take i)).map V.int).length ≤ 1000 := by
   rw [List.length_map]
   omega
  rw [et,cutL_snoc]
  refine ⟨r,_,rfl,SqT.of (s9 _ _ er),rfl,_,_,rfl,_,_,rfl,_,_,rfl,rfl,?_⟩
  refine ⟨_,rfl,.inl ⟨rfl,_,SqL.of e9⟩,_,rfl,p8,_,_,rfl,rfl,e9,line_of (by omega),?_⟩
  refine ⟨_,rfl,.inl ⟨rfl,_,SqL.of upd_same⟩,_,rfl,_,_,rfl,rfl,p8,_,_,rfl,rfl,upd_same,line_of (by rw [List.length_append]; simp only [List.length_cons,List.length_nil]; omega),?_⟩
  refine ⟨_,_,_,_,_,rfl,same_wr hp8 (same_wr hp8 s9),?_⟩
  rw [upd_same,List.map_append,List.map_append]
  rfl
 rintro σ H9 ⟨v1,v2,v3,v4,v5,rfl,s9,e9⟩
 rw [hw2,List.take_length] at e9
 have cl := cutL_len d R
 refine ⟨_,rfl,p8,cutL d R,rfl,SqL.of e9,by omega,fun pS hpS => ?_⟩
 generalize hgH10 : upd _ pS _ = H10
 obtain ⟨s10,e10⟩ := fresh_of hpS hgH10
 clear hgH10
 have al := addAll_len (fun i => (cutL d R).getD i 0) (cutL d R).length
 refine ⟨pS,_,rfl,e10,by omega,fun pD cs hpD hp hs => ?_⟩
 generalize hgH11 : upd _ pD _ = H11
 obtain ⟨s11,e11⟩ := fresh_of hpD hgH11
 clear hgH11
 have CC : Cuts d R cs := ⟨hs,fun z => by rw [hp.mem_iff]; exact addAll_iff _ z⟩
 have csl : cs.length ≤ 100 := by
  rw [hp.length_eq]
  omega
 have c0 := CC.first hd hW
 have cl0 := CC.last hd hW
 have cb := CC.bound hd hW
 have s711 := (s9.trans s10).trans s11
 have hR11 := hR.same s711
 have sl : (((cs.map V.int).length : Nat) : Int) = (cs.length : Int) := by rw [List.length_map]
 refine ⟨_,rfl,pD,_,rfl,.inl (SqL.of e11),1,_,rfl,⟨by decide,by decide,by omega,by omega⟩,for_range (lo := 1) (n := ((((cs.map V.int).length : Nat) : Int) - 1).toNat)
  (fun i σ H' => ∃ (v1 v2 v3 v5 : Option V) (x : Int),cs[i]? = some x ∧ σ = [some (.ref a),some (.int d),some (.ref pb),some (optV (some (Ma.tot (wt d R) 0 d.toNat))),some (.ref pD),v1,v2,v3,some (.int (Ma.tot (wt d R) 0 x.toNat)),v5] ∧ Same H11 H')
  ⟨_,_,_,_,0,c0,rfl,Same.refl _⟩ ?_ ?_⟩
 ·rintro i σ H12 hi ⟨v1,v2,v3,v5,x,ex,rfl,s12⟩
  have hi2 : i + 1 < cs.length := by omega
  have ey : cs[i + 1]? = some cs[i + 1] := List.getElem?_eq_getElem hi2
  generalize cs[i + 1] = y at ey
  obtain ⟨xy,G⟩ := CC.gap ex ey
  have bx := cb x (List.mem_of_getElem? ex)
  have byy := cb y (List.mem_of_getElem? ey)
  have i1 : atI (cs.map V.int) ((1 : Int) + (i : Int) - 1) = some (.int x) := by
   rw [show (1 : Int) + (i : Int) - 1 = ((i : Nat) : Int) by omega]
   exact atI_nat (by rw [List.getElem?_map,ex]; rfl)
  have i2 : atI (cs.map V.int) ((1 : Int) + (i : Int)) = some (.int y) := by
   rw [show (1 : Int) + (i : Int) = ((i + 1 : Nat) : Int) by omega]
   exact atI_nat (by rw [List.getElem?_map,ey]; rfl)
  refine ⟨_,rfl,_,rfl,_,rfl,_,rfl,_,rfl,_,_,rfl,rfl,pD,_,_,_,rfl,rfl,SqL.of (s12 _ _ e11),i1,_,rfl,_,rfl,pD,_,_,_,rfl,rfl,SqL.of (s12 _ _ e11),i2,?_⟩
  refine ⟨d,pb,x,y,R,rfl,hR11.same s12,n1,by omega,hW,bx.1,xy,byy.2,d2,G,fun H13 s13 => ⟨_,_,rfl,rfl,?_⟩⟩
  refine ⟨v1,v2,v3,some (.int (1 + (i : Int))),y,ey,?_,s12.trans s13⟩
  rw [← tot_cut bx.1 xy]
  rfl
 rintro σ H12 ⟨v1,v2,v3,v5,x,ex,rfl,s12⟩
 have en : ((((cs.map V.int).length : Nat) : Int) - 1).toNat = cs.length - 1 := by omega
 rw [en,cl0] at ex
 injection ex with ex
 subst ex
 refine ⟨_,rfl,.int (Ma.tot (wt d R) 0 d.toNat),rfl,.int _,_,rfl,iteT ⟨_,rfl,_,rfl,rfl,?_⟩⟩
 have z : ∀ b : Bool,b = true → Q (.bl b) H12 := fun b e => by rw [e]; exact q H12
 exact z _ (by simp [optV])
end
theorem all_mk {l : PySem.W.OpenLaw} {w : World} {K : PySem.W.Frag} {h : Heap} {mg : Str → Option Value} {fa : Addr} (X : K.In h) (G : h.Ns mainGlobals mg) (hfa : mg "law" = some (.ref fa))
  {f0 f1 f2 f3 f4 f5 f6 f7 f8 f9 f10 f11 f12 f13 f14 f15 f16 f17 f18 f19 f20 f21 f22 f23 : Addr} {od0 an0 od1 an1 od2 an2 od3 an3 od4 an4 od5 an5 od6 an6 od7 an7 od8 an8 od9 an9 od10 an10 od11 an11 od12 an12 od13 an13 od14 an14 od15 an15 od16 an16 od17 an17 od18 an18 od19 an19 od20 an20 od21 an21 od22 an22 od23 an23 : Option Addr} {sl0 sl1 sl2 sl3 sl4 sl5 sl6 sl7 sl8 sl9 sl10 sl11 sl12 sl13 sl14 sl15 sl16 sl17 sl18 sl19 sl20 sl21 sl22 sl23 : Array (Option Value)} {oc0 kV0 dc0 pm0 cd0 ct0 oc1 kV1 dc1 pm1 cd1 ct1 oc2 kV2 dc2 pm2 cd2 ct2 oc3 kV3 dc3 pm3 cd3 ct3 oc4 kV4 dc4 pm4 cd4 ct4 oc5 kV5 dc5 pm5 cd5 ct5 oc6 kV6 dc6 pm6 cd6 ct6 oc7 kV7 dc7 pm7 cd7 ct7 oc8 kV8 dc8 pm8 cd8 ct8 oc9 kV9 dc9 pm9 cd9 ct9 oc10 kV10 dc10 pm10 cd10 ct10 oc11 kV11 dc11 pm11 cd11 ct11 oc12 kV12 dc12 pm12 cd12 ct12 oc13 kV13 dc13 pm13 cd13 ct13 oc14 kV14 dc14 pm14 cd14 ct14 oc15 kV15 dc15 pm15 cd15 ct15 oc16 kV16 dc16 pm16 cd16 ct16 oc17 kV17 dc17 pm17 cd17 ct17 oc18 kV18 dc18 pm18 cd18 ct18 oc19 kV19 dc19 pm19 cd19 ct19 oc20 kV20 dc20 pm20 cd20 ct20 oc21 kV21 dc21 pm21 cd21 ct21 oc22 kV22 dc22 pm22 cd22 ct22 oc23 kV23 dc23 pm23 cd23 ct23 : Value}
  (a0 : PySem.W.nsIn K mainGlobals "stretches" = some (some (.ref f0))) (l0 : K.lookup f0 = some ⟨oc0,od0,.func (PySem.W.fnOf "stretches" "stretches" (defArgs st_stretches) (defBody st_stretches) (defScope st_stretches) .none kV0 dc0 pm0 an0 cd0 ct0),sl0⟩) (c0 : PySem.W.codeIn K cd0 "stretches" = true) (k0 : PySem.W.keepIn K (.ref f0) = true)
  (a1 : PySem.W.nsIn K mainGlobals "first_told" = some (some (.ref f1))) (l1 : K.lookup f1 = some ⟨oc1,od1,.func (PySem.W.fnOf "first_told" "first_told" (defArgs st_first_told) (defBody st_first_told) (defScope st_first_told) .none kV1 dc1 pm1 an1 cd1 ct1),sl1⟩) (c1 : PySem.W.codeIn K cd1 "first_told" = true) (k1 : PySem.W.keepIn K (.ref f1) = true)
  (a2 : PySem.W.nsIn K mainGlobals "overlay" = some (some (.ref f2))) (l2 : K.lookup f2 = some ⟨oc2,od2,.func (PySem.W.fnOf "overlay" "overlay" (defArgs st_overlay) (defBody st_overlay) (defScope st_overlay) .none kV2 dc2 pm2 an2 cd2 ct2),sl2⟩) (c2 : PySem.W.codeIn K cd2 "overlay" = true) (k2 : PySem.W.keepIn K (.ref f2) = true)
  (a3 : PySem.W.nsIn K mainGlobals "put_window" = some (some (.ref f3))) (l3 : K.lookup f3 = some ⟨oc3,od3,.func (PySem.W.fnOf "put_window" "put_window" (defArgs st_put_window) (defBody st_put_window) (defScope st_put_window) .none kV3 dc3 pm3 an3 cd3 ct3),sl3⟩) (c3 : PySem.W.codeIn K cd3 "put_window" = true) (k3 : PySem.W.keepIn K (.ref f3) = true)
  (a4 : PySem.W.nsIn K mainGlobals "clock_from" = some (some (.ref f4))) (l4 : K.lookup f4 = some ⟨oc4,od4,.func (PySem.W.fnOf "clock_from" "clock_from" (defArgs st_clock_from) (defBody st_clock_from) (defScope st_clock_from) .none kV4 dc4 pm4 an4 cd4 ct4),sl4⟩) (c4 : PySem.W.codeIn K cd4 "clock_from" = true) (k4 : PySem.W.keepIn K (.ref f4) = true)
  (a5 : PySem.W.nsIn K mainGlobals "sum_within" = some (some (.ref f5))) (l5 : K.lookup f5 = some ⟨oc5,od5,.func (PySem.W.fnOf "sum_within" "sum_within" (defArgs st_sum_within) (defBody st_sum_within) (defScope st_sum_within) .none kV5 dc5 pm5 an5 cd5 ct5),sl5⟩) (c5 : PySem.W.codeIn K cd5 "sum_within" = true) (k5 : PySem.W.keepIn K (.ref f5) = true)
  (a6 : PySem.W.nsIn K mainGlobals "sum_of" = some (some (.ref f6))) (l6 : K.lookup f6 = some ⟨oc6,od6,.func (PySem.W.fnOf "sum_of" "sum_of" (defArgs st_sum_of) (defBody st_sum_of) (defScope st_sum_of) .none kV6 dc6 pm6 an6 cd6 ct6),sl6⟩) (c6 : PySem.W.codeIn K cd6 "sum_of" = true) (k6 : PySem.W.keepIn K (.ref f6) = true)
  (a7 : PySem.W.nsIn K mainGlobals "is_whole" = some (some (.ref f7))) (l7 : K.lookup f7 = some ⟨oc7,od7,.func (PySem.W.fnOf "is_whole" "is_whole" (defArgs st_is_whole) (defBody st_is_whole) (defScope st_is_whole) .none kV7 dc7 pm7 an7 cd7 ct7),sl7⟩) (c7 : PySem.W.codeIn K cd7 "is_whole" = true) (k7 : PySem.W.keepIn K (.ref f7) = true)
  (a8 : PySem.W.nsIn K mainGlobals "is_window" = some (some (.ref f8))) (l8 : K.lookup f8 = some ⟨oc8,od8,.func (PySem.W.fnOf "is_window" "is_window" (defArgs st_is_window) (defBody st_is_window) (defScope st_is_window) .none kV8 dc8 pm8 an8 cd8 ct8),sl8⟩) (c8 : PySem.W.codeIn K cd8 "is_window" = true) (k8 : PySem.W.keepIn K (.ref f8) = true)
  (a9 : PySem.W.nsIn K mainGlobals "is_board" = some (some (.ref f9))) (l9 : K.lookup f9 = some ⟨oc9,od9,.func (PySem.W.fnOf "is_board" "is_board" (defArgs st_is_board) (defBody st_is_board) (defScope st_is_board) .none kV9 dc9 pm9 an9 cd9 ct9),sl9⟩) (c9 : PySem.W.codeIn K cd9 "is_board" = true) (k9 : PySem.W.keepIn K (.ref f9) = true)
  (a10 : PySem.W.nsIn K mainGlobals "picked" = some (some (.ref f10))) (l10 : K.lookup f10 = some ⟨oc10,od10,.func (PySem.W.fnOf "picked" "picked" (defArgs st_picked) (defBody st_picked) (defScope st_picked) .none kV10 dc10 pm10 an10 cd10 ct10),sl10⟩) (c10 : PySem.W.codeIn K cd10 "picked" = true) (k10 : PySem.W.keepIn K (.ref f10) = true)
  (a11 : PySem.W.nsIn K mainGlobals "joined" = some (some (.ref f11))) (l11 : K.lookup f11 = some ⟨oc11,od11,.func (PySem.W.fnOf "joined" "joined" (defArgs st_joined) (defBody st_joined) (defScope st_joined) .none kV11 dc11 pm11 an11 cd11 ct11),sl11⟩) (c11 : PySem.W.codeIn K cd11 "joined" = true) (k11 : PySem.W.keepIn K (.ref f11) = true)
  (a12 : PySem.W.nsIn K mainGlobals "sooner" = some (some (.ref f12))) (l12 : K.lookup f12 = some ⟨oc12,od12,.func (PySem.W.fnOf "sooner" "sooner" (defArgs st_sooner) (defBody st_sooner) (defScope st_sooner) .none kV12 dc12 pm12 an12 cd12 ct12),sl12⟩) (c12 : PySem.W.codeIn K cd12 "sooner" = true) (k12 : PySem.W.keepIn K (.ref f12) = true)
  (a13 : PySem.W.nsIn K mainGlobals "clock_within" = some (some (.ref f13))) (l13 : K.lookup f13 = some ⟨oc13,od13,.func (PySem.W.fnOf "clock_within" "clock_within" (defArgs st_clock_within) (defBody st_clock_within) (defScope st_clock_within) .none kV13 dc13 pm13 an13 cd13 ct13),sl13⟩) (c13 : PySem.W.codeIn K cd13 "clock_within" = true) (k13 : PySem.W.keepIn K (.ref f13) = true)
  (a14 : PySem.W.nsIn K mainGlobals "clock_of" = some (some (.ref f14))) (l14 : K.lookup f14 = some ⟨oc14,od14,.func (PySem.W.fnOf "clock_of" "clock_of" (defArgs st_clock_of) (defBody st_clock_of) (defScope st_clock_of) .none kV14 dc14 pm14 an14 cd14 ct14),sl14⟩) (c14 : PySem.W.codeIn K cd14 "clock_of" = true) (k14 : PySem.W.keepIn K (.ref f14) = true)
  (a15 : PySem.W.nsIn K mainGlobals "_law_cell_at" = some (some (.ref f15))) (l15 : K.lookup f15 = some ⟨oc15,od15,.func (PySem.W.fnOf "_law_cell_at" "_law_cell_at" (defArgs st__law_cell_at) (defBody st__law_cell_at) (defScope st__law_cell_at) .none kV15 dc15 pm15 an15 cd15 ct15),sl15⟩) (c15 : PySem.W.codeIn K cd15 "_law_cell_at" = true) (k15 : PySem.W.keepIn K (.ref f15) = true)
  (a16 : PySem.W.nsIn K mainGlobals "_law_day" = some (some (.ref f16))) (l16 : K.lookup f16 = some ⟨oc16,od16,.func (PySem.W.fnOf "_law_day" "_law_day" (defArgs st__law_day) (defBody st__law_day) (defScope st__law_day) .none kV16 dc16 pm16 an16 cd16 ct16),sl16⟩) (c16 : PySem.W.codeIn K cd16 "_law_day" = true) (k16 : PySem.W.keepIn K (.ref f16) = true)
  (a17 : PySem.W.nsIn K mainGlobals "_law_stay" = some (some (.ref f17))) (l17 : K.lookup f17 = some ⟨oc17,od17,.func (PySem.W.fnOf "_law_stay" "_law_stay" (defArgs st__law_stay) (defBody st__law_stay) (defScope st__law_stay) .none kV17 dc17 pm17 an17 cd17 ct17),sl17⟩) (c17 : PySem.W.codeIn K cd17 "_law_stay" = true) (k17 : PySem.W.keepIn K (.ref f17) = true)
  (a18 : PySem.W.nsIn K mainGlobals "_law_ride" = some (some (.ref f18))) (l18 : K.lookup f18 = some ⟨oc18,od18,.func (PySem.W.fnOf "_law_ride" "_law_ride" (defArgs st__law_ride) (defBody st__law_ride) (defScope st__law_ride) .none kV18 dc18 pm18 an18 cd18 ct18),sl18⟩) (c18 : PySem.W.codeIn K cd18 "_law_ride" = true) (k18 : PySem.W.keepIn K (.ref f18) = true)
  (a19 : PySem.W.nsIn K mainGlobals "_law_many" = some (some (.ref f19))) (l19 : K.lookup f19 = some ⟨oc19,od19,.func (PySem.W.fnOf "_law_many" "_law_many" (defArgs st__law_many) (defBody st__law_many) (defScope st__law_many) .none kV19 dc19 pm19 an19 cd19 ct19),sl19⟩) (c19 : PySem.W.codeIn K cd19 "_law_many" = true) (k19 : PySem.W.keepIn K (.ref f19) = true)
  (a20 : PySem.W.nsIn K mainGlobals "_law_board" = some (some (.ref f20))) (l20 : K.lookup f20 = some ⟨oc20,od20,.func (PySem.W.fnOf "_law_board" "_law_board" (defArgs st__law_board) (defBody st__law_board) (defScope st__law_board) .none kV20 dc20 pm20 an20 cd20 ct20),sl20⟩) (c20 : PySem.W.codeIn K cd20 "_law_board" = true) (k20 : PySem.W.keepIn K (.ref f20) = true)
  (a21 : PySem.W.nsIn K mainGlobals "_law_whole" = some (some (.ref f21))) (l21 : K.lookup f21 = some ⟨oc21,od21,.func (PySem.W.fnOf "_law_whole" "_law_whole" (defArgs st__law_whole) (defBody st__law_whole) (defScope st__law_whole) .none kV21 dc21 pm21 an21 cd21 ct21),sl21⟩) (c21 : PySem.W.codeIn K cd21 "_law_whole" = true) (k21 : PySem.W.keepIn K (.ref f21) = true)
  (a22 : PySem.W.nsIn K mainGlobals "_law_piece" = some (some (.ref f22))) (l22 : K.lookup f22 = some ⟨oc22,od22,.func (PySem.W.fnOf "_law_piece" "_law_piece" (defArgs st__law_piece) (defBody st__law_piece) (defScope st__law_piece) .none kV22 dc22 pm22 an22 cd22 ct22),sl22⟩) (c22 : PySem.W.codeIn K cd22 "_law_piece" = true) (k22 : PySem.W.keepIn K (.ref f22) = true)
  (a23 : PySem.W.nsIn K mainGlobals "law" = some (some (.ref f23))) (l23 : K.lookup f23 = some ⟨oc23,od23,.func (PySem.W.fnOf "law" "law" (defArgs st_law) (defBody st_law) (defScope st_law) .none kV23 dc23 pm23 an23 cd23 ct23),sl23⟩) (c23 : PySem.W.codeIn K cd23 "law" = true) (k23 : PySem.W.keepIn K (.ref f23) = true)
  (z0 : PySem.W.nsIn K mainGlobals "len" = some none) (z1 : PySem.W.nsIn K mainGlobals "max" = some none) (z2 : PySem.W.nsIn K mainGlobals "min" = some none) (z3 : PySem.W.nsIn K mainGlobals "all" = some none) (z4 : PySem.W.nsIn K mainGlobals "sum" = some none) (z5 : PySem.W.nsIn K mainGlobals "range" = some none) (z6 : PySem.W.nsIn K mainGlobals "enumerate" = some none) (z7 : PySem.W.nsIn K mainGlobals "isinstance" = some none) (z8 : PySem.W.nsIn K mainGlobals "bool" = some none) (z9 : PySem.W.nsIn K mainGlobals "int" = some none) (z10 : PySem.W.nsIn K mainGlobals "tuple" = some none) (z11 : PySem.W.nsIn K mainGlobals "list" = some none) (z12 : PySem.W.nsIn K mainGlobals "set" = some none) (z13 : PySem.W.nsIn K mainGlobals "sorted" = some none) :
  ∃ fd : FuncData,(∀ (s : Shared) (v : Value),BindsTo s fd ⟨[v],[]⟩ [("script",v)]) ∧ ∀ base : Heap,K.In base → base.Ns mainGlobals mg → FnOk l.prog w K mg base CX0 20 fa fd ["script"] (spLaw K) := by
 have e := hfa.symm.trans (PySem.W.mg_of X G a23)
 cases e
 have F0 := fun_mk (st := st_stretches) l0 c0 k0
 have b0 := F0.binds (ps := ["day","clock"]) fun _ _ _ _ _ _ us hl => by
  obtain ⟨_,_,rfl⟩ := bl_2 hl
  rfl
 have m0 := PySem.W.mg_of X G a0
 have F1 := fun_mk (st := st_first_told) l1 c1 k1
 have b1 := F1.binds (ps := ["row"]) fun _ _ _ _ _ _ us hl => by
  obtain ⟨_,rfl⟩ := bl_1 hl
  rfl
 have m1 := PySem.W.mg_of X G a1
 have F2 := fun_mk (st := st_overlay) l2 c2 k2
 have b2 := F2.binds (ps := ["day","one","other"]) fun _ _ _ _ _ _ us hl => by
  obtain ⟨_,_,_,rfl⟩ := bl_3 hl
  rfl
 have m2 := PySem.W.mg_of X G a2
 have F3 := fun_mk (st := st_put_window) l3 c3 k3
 have b3 := F3.binds (ps := ["clock","a","b","c"]) fun _ _ _ _ _ _ us hl => by
  obtain ⟨_,_,_,_,rfl⟩ := bl_4 hl
  rfl
 have m3 := PySem.W.mg_of X G a3
 have F4 := fun_mk (st := st_clock_from) l4 c4 k4
 have b4 := F4.binds (ps := ["day","rows"]) fun _ _ _ _ _ _ us hl => by
  obtain ⟨_,_,rfl⟩ := bl_2 hl
  rfl
 have m4 := PySem.W.mg_of X G a4
 have F5 := fun_mk (st := st_sum_within) l5 c5 k5
 have b5 := F5.binds (ps := ["p","q","still","v"]) fun _ _ _ _ _ _ us hl => by
  obtain ⟨_,_,_,_,rfl⟩ := bl_4 hl
  rfl
 have m5 := PySem.W.mg_of X G a5
 have F6 := fun_mk (st := st_sum_of) l6 c6 k6
 have b6 := F6.binds (ps := ["day","clock"]) fun _ _ _ _ _ _ us hl => by
  obtain ⟨_,_,rfl⟩ := bl_2 hl
  rfl
 have m6 := PySem.W.mg_of X G a6
 have F7 := fun_mk (st := st_is_whole) l7 c7 k7
 have b7 := F7.binds (ps := ["thing"]) fun _ _ _ _ _ _ us hl => by
  obtain ⟨_,rfl⟩ := bl_1 hl
  rfl
 have m7 := PySem.W.mg_of X G a7
 have F8 := fun_mk (st := st_is_window) l8 c8 k8
 have b8 := F8.binds (ps := ["day","thing"]) fun _ _ _ _ _ _ us hl => by
  obtain ⟨_,_,rfl⟩ := bl_2 hl
  rfl
 have m8 := PySem.W.mg_of X G a8
 have F9 := fun_mk (st := st_is_board) l9 c9 k9
 have b9 := F9.binds (ps := ["day","thing"]) fun _ _ _ _ _ _ us hl => by
  obtain ⟨_,_,rfl⟩ := bl_2 hl
  rfl
 have m9 := PySem.W.mg_of X G a9
 have F10 := fun_mk (st := st_picked) l10 c10 k10
 have b10 := F10.binds (ps := ["p","q","waiting","riding","late"]) fun _ _ _ _ _ _ us hl => by
  obtain ⟨_,_,_,_,_,rfl⟩ := bl_5 hl
  rfl
 have m10 := PySem.W.mg_of X G a10
 have F11 := fun_mk (st := st_joined) l11 c11 k11
 have b11 := F11.binds (ps := ["day","one","other","late"]) fun _ _ _ _ _ _ us hl => by
  obtain ⟨_,_,_,_,rfl⟩ := bl_4 hl
  rfl
 have m11 := PySem.W.mg_of X G a11
 have F12 := fun_mk (st := st_sooner) l12 c12 k12
 have b12 := F12.binds (ps := ["day","one","other"]) fun _ _ _ _ _ _ us hl => by
  obtain ⟨_,_,_,rfl⟩ := bl_3 hl
  rfl
 have m12 := PySem.W.mg_of X G a12
 have F13 := fun_mk (st := st_clock_within) l13 c13 k13
 have b13 := F13.binds (ps := ["day","board"]) fun _ _ _ _ _ _ us hl => by
  obtain ⟨_,_,rfl⟩ := bl_2 hl
  rfl
 have m13 := PySem.W.mg_of X G a13
 have F14 := fun_mk (st := st_clock_of) l14 c14 k14
 have b14 := F14.binds (ps := ["day","board"]) fun _ _ _ _ _ _ us hl => by
  obtain ⟨_,_,rfl⟩ := bl_2 hl
  rfl
 have m14 := PySem.W.mg_of X G a14
 have F15 := fun_mk (st := st__law_cell_at) l15 c15 k15
 have b15 := F15.binds (ps := ["script","k"]) fun _ _ _ _ _ _ us hl => by
  obtain ⟨_,_,rfl⟩ := bl_2 hl
  rfl
 have m15 := PySem.W.mg_of X G a15
 have F16 := fun_mk (st := st__law_day) l16 c16 k16
 have b16 := F16.binds (ps := ["cell"]) fun _ _ _ _ _ _ us hl => by
  obtain ⟨_,rfl⟩ := bl_1 hl
  rfl
 have m16 := PySem.W.mg_of X G a16
 have F17 := fun_mk (st := st__law_stay) l17 c17 k17
 have b17 := F17.binds (ps := ["cell","room"]) fun _ _ _ _ _ _ us hl => by
  obtain ⟨_,_,rfl⟩ := bl_2 hl
  rfl
 have m17 := PySem.W.mg_of X G a17
 have F18 := fun_mk (st := st__law_ride) l18 c18 k18
 have b18 := F18.binds (ps := ["cell","day"]) fun _ _ _ _ _ _ us hl => by
  obtain ⟨_,_,rfl⟩ := bl_2 hl
  rfl
 have m18 := PySem.W.mg_of X G a18
 have F19 := fun_mk (st := st__law_many) l19 c19 k19
 have b19 := F19.binds (ps := ["script","most"]) fun _ _ _ _ _ _ us hl => by
  obtain ⟨_,_,rfl⟩ := bl_2 hl
  rfl
 have m19 := PySem.W.mg_of X G a19
 have F20 := fun_mk (st := st__law_board) l20 c20 k20
 have b20 := F20.binds (ps := ["script","start","most","day"]) fun _ _ _ _ _ _ us hl => by
  obtain ⟨_,_,_,_,rfl⟩ := bl_4 hl
  rfl
 have m20 := PySem.W.mg_of X G a20
 have F21 := fun_mk (st := st__law_whole) l21 c21 k21
 have b21 := F21.binds (ps := ["found"]) fun _ _ _ _ _ _ us hl => by
  obtain ⟨_,rfl⟩ := bl_1 hl
  rfl
 have m21 := PySem.W.mg_of X G a21
 have F22 := fun_mk (st := st__law_piece) l22 c22 k22
 have b22 := F22.binds (ps := ["day","board","p","q"]) fun _ _ _ _ _ _ us hl => by
  obtain ⟨_,_,_,_,rfl⟩ := bl_4 hl
  rfl
 have m22 := PySem.W.mg_of X G a22
 have F23 := fun_mk (st := st_law) l23 c23 k23
 have b23 := F23.binds (ps := ["script"]) fun _ _ _ _ _ _ us hl => by
  obtain ⟨_,rfl⟩ := bl_1 hl
  rfl
 have m23 := PySem.W.mg_of X G a23
 have B : Bl mg := ⟨PySem.W.mg_none_of X G z0,PySem.W.mg_none_of X G z1,PySem.W.mg_none_of X G z2,PySem.W.mg_none_of X G z3,PySem.W.mg_none_of X G z4,PySem.W.mg_none_of X G z5,PySem.W.mg_none_of X G z6,PySem.W.mg_none_of X G z7,PySem.W.mg_none_of X G z8,PySem.W.mg_none_of X G z9,PySem.W.mg_none_of X G z10,PySem.W.mg_none_of X G z11,PySem.W.mg_none_of X G z12,PySem.W.mg_none_of X G z13⟩
 refine ⟨PySem.W.fnOf "law" "law" (defArgs st_law) (defBody st_law) (defScope st_law) .none kV23 dc23 pm23 an23 cd23 ct23,fun s v => .of_eq rfl,fun base _ _ => ?_⟩
 have C_is_whole := Callee.mk' (P := l.prog) (w := w) (base := base) (ok_is_whole (n := 0) F7 B) b7 k7 m7
 have C_is_window := Callee.mk' (P := l.prog) (w := w) (base := base) (ok_is_window (n := 1) F8 B C_is_whole) b8 k8 m8
 have C_is_board := Callee.mk' (P := l.prog) (w := w) (base := base) (ok_is_board (n := 2) F9 B C_is_window) b9 k9 m9
 have C_stretches := Callee.mk' (P := l.prog) (w := w) (base := base) (ok_stretches (n := 3) F0 B) b0 k0 m0
 have C_first_told := Callee.mk' (P := l.prog) (w := w) (base := base) (ok_first_told (n := 3) F1) b1 k1 m1
 have C_overlay := Callee.mk' (P := l.prog) (w := w) (base := base) (ok_overlay (n := 4) F2 B C_stretches) b2 k2 m2
 have C_put_window := Callee.mk' (P := l.prog) (w := w) (base := base) (ok_put (n := 3) F3 B) b3 k3 m3
 have C_clock_from := Callee.mk' (P := l.prog) (w := w) (base := base) (ok_clock_from (n := 4) F4 B C_first_told C_put_window) b4 k4 m4
 have C_picked := Callee.mk' (P := l.prog) (w := w) (base := base) (ok_picked (n := 4) F10 B) b10 k10 m10
 have C_joined := Callee.mk' (P := l.prog) (w := w) (base := base) (ok_joined (n := 5) F11 B C_overlay C_picked C_clock_from) b11 k11 m11
 have C_sooner := Callee.mk' (P := l.prog) (w := w) (base := base) (ok_sooner (n := 6) F12 B C_joined) b12 k12 m12
 have C_clock_within := Callee.mk' (P := l.prog) (w := w) (base := base) (ok_within F13 B b13 k13 m13 C_sooner 10) b13 k13 m13
 have C_clock_of := Callee.mk' (P := l.prog) (w := w) (base := base) (ok_clock_of (n := 18) F14 (C_is_board.up (by decide)) C_clock_within) b14 k14 m14
 have C_sum_within := Callee.mk' (P := l.prog) (w := w) (base := base) (ok_sumw (n := 3) F5) b5 k5 m5
 have C_sum_of := Callee.mk' (P := l.prog) (w := w) (base := base) (ok_sum_of (n := 4) F6 B C_stretches C_sum_within) b6 k6 m6
 have C__law_cell_at := Callee.mk' (P := l.prog) (w := w) (base := base) (ok_cell (n := 17) F15 B) b15 k15 m15
 have C__law_whole := Callee.mk' (P := l.prog) (w := w) (base := base) (ok_whole (n := 17) F21 B) b21 k21 m21
 have C__law_day := Callee.mk' (P := l.prog) (w := w) (base := base) (ok_dayB (n := 18) F16) b16 k16 m16
 have C__law_stay := Callee.mk' (P := l.prog) (w := w) (base := base) (ok_stay (n := 17) F17 B) b17 k17 m17
 have C__law_ride := Callee.mk' (P := l.prog) (w := w) (base := base) (ok_rideB (n := 17) F18) b18 k18 m18
 have C__law_many := Callee.mk' (P := l.prog) (w := w) (base := base) (ok_many (n := 18) F19 C__law_cell_at) b19 k19 m19
 have C__law_board := Callee.mk' (P := l.prog) (w := w) (base := base) (ok_boardB (n := 18) F20 B C__law_stay C__law_ride) b20 k20 m20
 have C__law_piece := Callee.mk' (P := l.prog) (w := w) (base := base) (ok_piece (n := 18) F22 B) b22 k22 m22
 exact ok_law (n := 19) F23 B C_clock_of (C_sum_of.up (by decide)) (C__law_cell_at.up (by decide)) (C__law_whole.up (by decide)) C__law_day C__law_board C__law_many C__law_piece
theorem walk {l : PySem.W.OpenLaw} {q : Program} {loose : List Str} {XP : (Str → Option Value) → Heap → Prop} {YP : World → Heap → Prop} {d : DefRec} {K : Params → PySem.W.Frag} (hn : l.most = some 63) (hdf : d.params.defaults = [])
  (hY : ∀ (w : World) (h : Heap),YP w h → (K w.params).In h)
  (F : ∀ (w : World) (mg : Str → Option Value) (fa : Addr) (h : Heap),(K w.params).In h → h.Ns mainGlobals mg → mg d.name = some (.ref fa) →
   ∃ fd : FuncData,(∀ (s : Shared) (u : Value),BindsTo s fd ⟨[u],[]⟩ [("script",u)]) ∧ ∀ base : Heap,(K w.params).In base → base.Ns mainGlobals mg → FnOk l.prog w (K w.params) mg base CX0 20 fa fd ["script"] (spLaw (K w.params))) :
  PySem.W.WalkO q loose XP YP l.row.toRowW d [] (fun f vs => PySem.call f vs) :=
 L2.walk_of (n := 63) (k := 20) (x := "script") (CX := fun _ => CX0) (sp := fun w => spLaw (K w.params)) hn (by decide) hdf ⟨rfl,by decide,by decide⟩ hY F (fun _ _ a ns hl _ hS => ⟨a,ns,rfl,hS,hl,fun _ => rfl⟩) fun _ _ _ _ _ z => z
end My
open PySem PySem.W PyProof.Rows
set_option maxRecDepth 100000 in
set_option maxHeartbeats 0 in
theorem PySem.Challenge.cw_fordbook_k34_the_sum_of_waits_holds : PySem.Challenge.rw_fordbook_k34_the_sum_of_waits.Holds := by
 w_on; o_law; k_head; (case hw => w_witness2)
 k_fill
 refine My.walk (l := PySem.Challenge.rw_fordbook_k34_the_sum_of_waits) rfl rfl (fun w h Y => PySem.W.kIn_of Y) ?F
 case F =>
  intro w mg fa h KX G hmg
  refine' My.all_mk KX G hmg ?a0 ?l0 ?c0 ?k0 ?a1 ?l1 ?c1 ?k1 ?a2 ?l2 ?c2 ?k2 ?a3 ?l3 ?c3 ?k3 ?a4 ?l4 ?c4 ?k4 ?a5 ?l5 ?c5 ?k5 ?a6 ?l6 ?c6 ?k6 ?a7 ?l7 ?c7 ?k7 ?a8 ?l8 ?c8 ?k8 ?a9 ?l9 ?c9 ?k9 ?a10 ?l10 ?c10 ?k10 ?a11 ?l11 ?c11 ?k11 ?a12 ?l12 ?c12 ?k12 ?a13 ?l13 ?c13 ?k13 ?a14 ?l14 ?c14 ?k14 ?a15 ?l15 ?c15 ?k15 ?a16 ?l16 ?c16 ?k16 ?a17 ?l17 ?c17 ?k17 ?a18 ?l18 ?c18 ?k18 ?a19 ?l19 ?c19 ?k19 ?a20 ?l20 ?c20 ?k20 ?a21 ?l21 ?c21 ?k21 ?a22 ?l22 ?c22 ?k22 ?a23 ?l23 ?c23 ?k23 ?z0 ?z1 ?z2 ?z3 ?z4 ?z5 ?z6 ?z7 ?z8 ?z9 ?z10 ?z11 ?z12 ?z13
  (case a0 => k_is)
  (case l0 => k_is)
  (case c0 => k_is)
  (case k0 => k_is)
  (case a1 => k_is)
  (case l1 => k_is)
  (case c1 => k_is)
  (case k1 => k_is)
  (case a2 => k_is)
  (case l2 => k_is)
  (case c2 => k_is)
  (case k2 => k_is)
  (case a3 => k_is)
  (case l3 => k_is)
  (case c3 => k_is)
  (case k3 => k_is)
  (case a4 => k_is)
  (case l4 => k_is)
  (case c4 => k_is)
  (case k4 => k_is)
  (case a5 => k_is)
  (case l5 => k_is)
  (case c5 => k_is)
  (case k5 => k_is)
  (case a6 => k_is)
  (case l6 => k_is)
  (case c6 => k_is)
  (case k6 => k_is)
  (case a7 => k_is)
  (case l7 => k_is)
  (case c7 => k_is)
  (case k7 => k_is)
  (case a8 => k_is)
  (case l8 => k_is)
  (case c8 => k_is)
  (case k8 => k_is)
  (case a9 => k_is)
  (case l9 => k_is)
  (case c9 => k_is)
  (case k9 => k_is)
  (case a10 => k_is)
  (case l10 => k_is)
  (case c10 => k_is)
  (case k10 => k_is)
  (case a11 => k_is)
  (case l11 => k_is)
  (case c11 => k_is)
  (case k11 => k_is)
  (case a12 => k_is)
  (case l12 => k_is)
  (case c12 => k_is)
  (case k12 => k_is)
  (case a13 => k_is)
  (case l13 => k_is)
  (case c13 => k_is)
  (case k13 => k_is)
  (case a14 => k_is)
  (case l14 => k_is)
  (case c14 => k_is)
  (case k14 => k_is)
  (case a15 => k_is)
  (case l15 => k_is)
  (case c15 => k_is)
  (case k15 => k_is)
  (case a16 => k_is)
  (case l16 => k_is)
  (case c16 => k_is)
  (case k16 => k_is)
  (case a17 => k_is)
  (case l17 => k_is)
  (case c17 => k_is)
  (case k17 => k_is)
  (case a18 => k_is)
  (case l18 => k_is)
  (case c18 => k_is)
  (case k18 => k_is)
  (case a19 => k_is)
  (case l19 => k_is)
  (case c19 => k_is)
  (case k19 => k_is)
  (case a20 => k_is)
  (case l20 => k_is)
  (case c20 => k_is)
  (case k20 => k_is)
  (case a21 => k_is)
  (case l21 => k_is)
  (case c21 => k_is)
  (case k21 => k_is)
  (case a22 => k_is)
  (case l22 => k_is)
  (case c22 => k_is)
  (case k22 => k_is)
  (case a23 => k_is)
  (case l23 => k_is)
  (case c23 => k_is)
  (case k23 => k_is)
  (case z0 => k_is)
  (case z1 => k_is)
  (case z2 => k_is)
  (case z3 => k_is)
  (case z4 => k_is)
  (case z5 => k_is)
  (case z6 => k_is)
  (case z7 => k_is)
  (case z8 => k_is)
  (case z9 => k_is)
  (case z10 => k_is)
  (case z11 => k_is)
  (case z12 => k_is)
  (case z13 => k_is)
