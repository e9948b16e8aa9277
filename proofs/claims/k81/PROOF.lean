import PyProof.Rows.All
import Wide.All
import OpenK.AllK
import Wide.FinOn
import PyProof.EqAt
import PyProof.EqKinds
import PyProof.TupleCall
import PySem.Challenge.RW_fordbook_k81_a_shown_net_read
set_option Elab.async false
set_option linter.all false
set_option maxRecDepth 100000
namespace L2
open PySem PySem.Spec PyProof.Rows
abbrev Key := Sum Int Str
def keyIs : Key → Value → Bool
 | .inl k,v => Value.isInt k v
 | .inr x,v => Value.isStrOf x v
def keyH (w : World) : Key → Int
 | .inl k => hashInt k
 | .inr x => hashStr w x
theorem keyIs_shape : ∀ {k : Key} {v : Value},keyIs k v = true → (∃ i t,k = Sum.inl i ∧ v = Value.int i t) ∨ (∃ x t,k = Sum.inr x ∧ v = Value.str x t)
 | .inl i,v,h => by
  obtain ⟨t,e⟩ := Value.isInt_shape (k := i) (v := v) h
  exact .inl ⟨i,t,rfl,e⟩
 | .inr x,v,h => by
  obtain ⟨t,e⟩ := Value.isStrOf_shape (x := x) (v := v) h
  exact .inr ⟨x,t,rfl,e⟩
theorem key_ll (a b : Int) : decide ((Sum.inl a : Key) = Sum.inl b) = (a == b) := by
 by_cases e : a = b
 ·subst e; simp
 ·have h : ¬ (Sum.inl a : Key) = Sum.inl b := fun q => e (Sum.inl.inj q)
  rw [decide_eq_false h]
  exact (beq_eq_false_iff_ne.mpr e).symm
theorem key_rr (a b : Str) : decide ((Sum.inr a : Key) = Sum.inr b) = decide (a = b) := by
 by_cases e : a = b
 ·subst e; simp
 ·have h : ¬ (Sum.inr a : Key) = Sum.inr b := fun q => e (Sum.inr.inj q)
  rw [decide_eq_false h,decide_eq_false e]
theorem key_lr (a : Int) (b : Str) : decide ((Sum.inl a : Key) = Sum.inr b) = false := decide_eq_false (fun q => nomatch q)
theorem key_rl (a : Str) (b : Int) : decide ((Sum.inr a : Key) = Sum.inl b) = false := decide_eq_false (fun q => nomatch q)
def mixKind (prog : Program) (w : World) : PySem.KeyKind prog w Key where
 is := keyIs
 hash := keyH w
 inj := fun v a b ha hb => by
  rcases keyIs_shape ha with ⟨i,t,rfl,rfl⟩ | ⟨x,t,rfl,rfl⟩
  ·rcases keyIs_shape hb with ⟨j,u,rfl,e⟩ | ⟨y,u,rfl,e⟩
   ·injection e with e1 _; rw [e1]
   ·exact nomatch e
  ·rcases keyIs_shape hb with ⟨j,u,rfl,e⟩ | ⟨y,u,rfl,e⟩
   ·exact nomatch e
   ·injection e with e1 _; rw [e1]
 byValue := fun k v h => by
  rcases keyIs_shape h with ⟨i,t,rfl,rfl⟩ | ⟨x,t,rfl,rfl⟩ <;> rfl
 pyHash := fun hv h => by
  rcases keyIs_shape hv with ⟨i,t,rfl,rfl⟩ | ⟨x,t,rfl,rfl⟩
  ·exact wpAny_pyHash_int h
  ·exact wpAny_pyHash_str h
 eqBool := fun hu hv h => by
  rcases keyIs_shape hu with ⟨i,t,rfl,rfl⟩ | ⟨x,t,rfl,rfl⟩
  ·rcases keyIs_shape hv with ⟨j,u,rfl,rfl⟩ | ⟨y,u,rfl,rfl⟩
   ·rw [key_ll] at h; exact wpAny_eqBool_int h
   ·rw [key_lr] at h; exact SeqAt.EqAt.int_str i t y u _ _ _ _ h
  ·rcases keyIs_shape hv with ⟨j,u,rfl,rfl⟩ | ⟨y,u,rfl,rfl⟩
   ·rw [key_rl] at h; exact SeqAt.EqAt.str_int x t j u _ _ _ _ h
   ·rw [key_rr] at h; exact wpAny_eqBool_str h
 «strs» := fun k x t v h => by
  rcases keyIs_shape h with ⟨i,u,rfl,e⟩ | ⟨y,u,rfl,e⟩
  ·exact nomatch e
  ·injection e with e1 _
   subst e1
   cases v <;> rfl
end L2
namespace L2
open PySem PySem.Spec PyProof.Rows
inductive V where
 | non | bl (b : Bool) | int (i : Int) | str (x : Str) | byt (b : Array UInt8) | flt (b : UInt64) | ref (a : Addr) | ty (n : String)
 deriving DecidableEq
def RelV : V → Value → Prop
 | .non,u => u = Value.none
 | .bl b,u => u = Value.bool b
 | .int i,u => ∃ t,u = Value.int i t
 | .str x,u => ∃ t,u = Value.str x t
 | .byt b,u => ∃ t,u = Value.bytes b t
 | .flt b,u => ∃ t,u = Value.float b t
 | .ref a,u => u = Value.ref a
 | .ty n,u => u = Value.type n
abbrev Vals : List V → List Value → Prop := Paired RelV
theorem Vals.length {xs : List V} {us : List Value} (r : Vals xs us) : xs.length = us.length := Paired.length r
theorem Vals.get : ∀ {xs : List V} {us : List Value} {i : Nat} {x : V},Vals xs us → xs[i]? = some x → ∃ u,us[i]? = some u ∧ RelV x u
 | _,_,_,_,.nil,e => by simp at e
 | _,_,0,_,.cons r _,e => by simp at e; subst e; exact ⟨_,rfl,r⟩
 | _,_,i + 1,x,.cons _ t,e => by
  obtain ⟨u,h1,h2⟩ := Vals.get (i := i) (x := x) t (by simpa using e)
  exact ⟨u,by simpa using h1,h2⟩
theorem Vals.set {x : V} {u : Value} (r : RelV x u) : ∀ {xs : List V} {us : List Value} (i : Nat),Vals xs us → Vals (xs.set i x) (us.set i u)
 | _,_,_,.nil => .nil
 | _,_,0,.cons _ t => .cons r t
 | _,_,i + 1,.cons q t => .cons q (Vals.set r i t)
theorem Vals.append : ∀ {xs ys : List V} {us ws : List Value},Vals xs us → Vals ys ws → Vals (xs ++ ys) (us ++ ws)
 | _,_,_,_,.nil,s => s
 | _,_,_,_,.cons r t,s => .cons r (Vals.append t s)
theorem Vals.take : ∀ {xs : List V} {us : List Value} (n : Nat),Vals xs us → Vals (xs.take n) (us.take n)
 | _,_,0,_ => .nil
 | _,_,_ + 1,.nil => .nil
 | _,_,n + 1,.cons r t => .cons r (Vals.take n t)
theorem Vals.drop : ∀ {xs : List V} {us : List Value} (n : Nat),Vals xs us → Vals (xs.drop n) (us.drop n)
 | _,_,0,r => r
 | _,_,_ + 1,.nil => .nil
 | _,_,n + 1,.cons _ t => Vals.drop n t
def RelO : Option V → Option Value → Prop
 | some v,some u => RelV v u
 | none,none => True
 | _,_ => False
def KV {κ : Type} : List (κ × V) → List (κ × Value) → Prop := Paired fun (p : κ × V) (q : κ × Value) => p.1 = q.1 ∧ RelV p.2 q.2
def kV : Key → V
 | .inl i => .int i
 | .inr x => .str x
inductive HO where
  | lst (xs : List V)
  | tup (xs : List V)
  | dK (kvs : List (Key × V)) | dT (kvs : List (List Key × V))
  | set (S : Int → Bool) (n : Nat)
  | ins (C dx : Addr) (fs : List (Str × V))
  | own (x : Addr)
  | xd (fs : List (Str × V))
  | met (f x : Addr)
  | rng (lo hi : Int)
  | frz (o : Obj) (u : HO)
  | tbl (ps : Array Value)
  | ext (φ : Heap → Prop)
abbrev Hp := Addr → Option HO
def upd (H : Hp) (a : Addr) (o : HO) : Hp := fun b => if b = a then some o else H b
theorem upd_same {H : Hp} {a : Addr} {o : HO} : upd H a o a = some o := by unfold upd; rw [if_pos rfl]
theorem upd_ne {H : Hp} {a b : Addr} {o : HO} (h : b ≠ a) : upd H a o b = H b := by unfold upd; rw [if_neg h]
theorem ne_of_none {H : Hp} {a b : Addr} {o : HO} (h : H a = some o) (h' : H b = none) : a ≠ b := by
 intro e; subst e; rw [h] at h'; cases h'
section
variable (P : Program) (w : World)
def ObjOk (H : Hp) (h : Heap) (a : Addr) : HO → Prop
 | .lst xs => xs.length ≤ sizeLine ∧ ∃ (its : List Value) (n : Nat),Vals xs its ∧ h.get? a = some { cls := .type "list",data := .seq its.toArray n }
 | .tup xs => xs.length ≤ sizeLine ∧ ∃ its : List Value,Vals xs its ∧ IsTup h a its.toArray
 | .dK kvs => kvs.length ≤ sizeLine ∧ (a == sysModules) = false ∧ ∃ vs,KV kvs vs ∧ h.DictOf (mixKind P w) a vs
 | .dT kvs => kvs.length ≤ sizeLine ∧ (a == sysModules) = false ∧ ∃ xs : List (List Key × Addr × Value),
   Paired (fun (p : List Key × V) (q : List Key × Addr × Value) => p.1 = q.1 ∧ H q.2.1 = some (.tup (p.1.map kV)) ∧ RelV p.2 q.2.2) kvs xs ∧
   ∃ o es ep,h.get? a = some o ∧ o.ExactDict ∧ o.data = .dict es ep ∧ es.toList = xs.map (entryOfKey (tupleKind (mixKind P w))) ∧ (xs.map (·.1)).Nodup
 | .set S n => h.SetOf (intKind P w) a S n
 | .ins C dx fs => H dx = some (.own a) ∧ fs.length ≤ 1000 ∧ dx ≠ a ∧ h.get? a = some (PySem.W.instObj C dx) ∧
   ∃ mA,h.Ns1 dx mA ∧ (∀ f,RelO (fs.lookup f) (mA f)) ∧ PySem.Within mA (fs.map (·.1))
 | .own _ => ∃ o,h.get? a = some o
 | .xd fs => ∃ mA,h.Ns1 a mA ∧ ∀ f,RelO (fs.lookup f) (mA f)
 | .rng lo hi => ∃ t u v,h.get? a = some { cls := .type "range",data := .fields #[.int lo t,.int hi u,.int 1 v] }
 | .frz o u => h.get? a = some o ∧ ObjOk H h a u
 | .tbl ps => h.get? a = some { cls := .none,data := .fields ps }
 | .met f x => h.get? a = some (PySem.W.methodObj (.ref f) (.ref x))
 | .ext φ => φ h ∧ (∃ o,h.get? a = some o) ∧ ∀ h1 h2 : Heap,φ h1 → (∀ o,h1.get? a = some o → h2.get? a = some o) → φ h2
def HOk (H : Hp) (h : Heap) : Prop := ∀ a o,H a = some o → ObjOk P w H h a o
end
section
variable {P : Program} {w : World} {H H' : Hp} {h h' : Heap} {a : Addr} {o : HO}
theorem ObjOk.lt (x : ObjOk P w H h a o) : a < h.objs.size := by
 cases o with
 | lst xs => obtain ⟨_,_,_,_,e⟩ := x; exact Heap.lt_size e
 | tup xs => obtain ⟨_,_,_,p⟩ := x; exact p.lt
 | dK kvs => obtain ⟨_,_,_,_,o,_,_,e,_⟩ := x; exact Heap.lt_size e
 | dT kvs => obtain ⟨_,_,_,_,o,_,_,e,_⟩ := x; exact Heap.lt_size e
 | set S n => obtain ⟨o,_,_,_,e,_⟩ := x; exact Heap.lt_size e
 | ins C dx fs => obtain ⟨_,_,_,e,_⟩ := x; exact Heap.lt_size e
 | own y => obtain ⟨_,e⟩ := x; exact Heap.lt_size e
 | xd fs => obtain ⟨_,⟨_,_,_,e,_⟩,_⟩ := x; exact Heap.lt_size e
 | rng lo hi => obtain ⟨_,_,_,e⟩ := x; exact Heap.lt_size e
 | frz ob u => obtain ⟨e,_⟩ := x; exact Heap.lt_size e
 | tbl ps => exact Heap.lt_size (show h.get? a = some _ from x)
 | met f y => exact Heap.lt_size (show h.get? a = some _ from x)
 | ext φ => obtain ⟨_,⟨_,e⟩,_⟩ := x; exact Heap.lt_size e
theorem Paired.mapP {α β : Type} {F G : α → β → Prop} : ∀ {l₁ : List α} {l₂ : List β},Paired F l₁ l₂ → (∀ a b,F a b → G a b) → Paired G l₁ l₂
 | _,_,.nil,_ => .nil
 | _,_,.cons r t,f => .cons (f _ _ r) (Paired.mapP t f)
theorem ObjOk.stay (x : ObjOk P w H h a o) (k : ∀ b u,(b = a ∨ H b = some (.own a)) → h.get? b = some u → h'.get? b = some u)
  (ho : ∀ b,H b = some (.own a) → H' b = some (.own a)) (ht : ∀ b xs,H b = some (.tup xs) → H' b = some (.tup xs)) : ObjOk P w H' h' a o := by
 induction o with
 | lst xs => obtain ⟨z,its,n,r,e⟩ := x; exact ⟨z,its,n,r,k _ _ (.inl rfl) e⟩
 | tup xs => obtain ⟨z,its,r,ob,e,c⟩ := x; exact ⟨z,its,r,ob,k _ _ (.inl rfl) e,c⟩
 | dK kvs => obtain ⟨z,y,vs,r,ob,es,ep,e,c⟩ := x; exact ⟨z,y,vs,r,ob,es,ep,k _ _ (.inl rfl) e,c⟩
 | dT kvs =>
  obtain ⟨z,y,xs,r,ob,es,ep,e,c⟩ := x
  exact ⟨z,y,xs,Paired.mapP r fun p q z => ⟨z.1,ht _ _ z.2.1,z.2.2⟩,ob,es,ep,k _ _ (.inl rfl) e,c⟩
 | set S n => obtain ⟨ob,es,ep,t,e,c⟩ := x; exact ⟨ob,es,ep,t,k _ _ (.inl rfl) e,c⟩
 | ins C dx fs =>
  obtain ⟨d,z,ne,e,mA,⟨od,es,ep,e2,c⟩,r⟩ := x
  exact ⟨ho _ d,z,ne,k _ _ (.inl rfl) e,mA,⟨od,es,ep,k _ _ (.inr d) e2,c⟩,r⟩
 | own y => obtain ⟨ob,e⟩ := x; exact ⟨ob,k _ _ (.inl rfl) e⟩
 | xd fs => obtain ⟨mA,⟨od,es,ep,e,c⟩,r⟩ := x; exact ⟨mA,⟨od,es,ep,k _ _ (.inl rfl) e,c⟩,r⟩
 | rng lo hi => obtain ⟨t,u,v,e⟩ := x; exact ⟨t,u,v,k _ _ (.inl rfl) e⟩
 | frz ob u ih => obtain ⟨e,q⟩ := x; exact ⟨k _ _ (.inl rfl) e,ih q⟩
 | tbl ps =>
  have e : h.get? a = some { cls := .none,data := .fields ps } := x
  show h'.get? a = some { cls := .none,data := .fields ps }
  exact k a _ (.inl rfl) e
 | met f y =>
  have e : h.get? a = some (PySem.W.methodObj (.ref f) (.ref y)) := x
  show h'.get? a = some (PySem.W.methodObj (.ref f) (.ref y))
  exact k a _ (.inl rfl) e
 | ext φ => obtain ⟨p,⟨o,e⟩,st⟩ := x; exact ⟨st _ _ p fun o q => k _ _ (.inl rfl) q,⟨o,k _ _ (.inl rfl) e⟩,st⟩
theorem HOk.lt (x : HOk P w H h) (e : H a = some o) : a < h.objs.size := (x a o e).lt
theorem HOk.fresh (x : HOk P w H h) (e : h.objs.size ≤ a) : H a = none := by
 cases q : H a with
 | none => rfl
 | some u => exact absurd (Nat.lt_of_lt_of_le (x.lt q) e) (Nat.lt_irrefl _)
theorem HOk.kept (x : HOk P w H h) (k : ∀ b u,h.get? b = some u → h'.get? b = some u) : HOk P w H h' := fun a o e =>
 (x a o e).stay (fun b u _ q => k b u q) (fun _ q => q) fun _ _ q => q
theorem HOk.laid (x : HOk P w H h) (k : ∀ b u,h.get? b = some u → h'.get? b = some u) (hp : h.objs.size ≤ a) (new : ObjOk P w (upd H a o) h' a o) : HOk P w (upd H a o) h' := fun b u e => by
 have hn := x.fresh hp
 by_cases hb : b = a
 ·subst hb; rw [upd_same] at e; cases e; exact new
 ·rw [upd_ne hb] at e
  exact (x b u e).stay (fun c v _ q => k c v q) (fun c q => by rw [upd_ne (ne_of_none q hn)]; exact q) fun c xs q => by rw [upd_ne (ne_of_none q hn)]; exact q
end
def Rd (H : Hp) (a : Addr) (u : HO) : Prop := H a = some u ∨ ∃ o,H a = some (.frz o u)
theorem Rd.of {H : Hp} {a : Addr} {u : HO} (h : H a = some u) : Rd H a u := .inl h
theorem Rd.ok {P : Program} {w : World} {H : Hp} {h : Heap} {a : Addr} {u : HO} (r : Rd H a u) (x : HOk P w H h) : ObjOk P w H h a u := by
 rcases r with r | ⟨o,r⟩
 ·exact x a u r
 ·obtain ⟨_,q⟩ := x a _ r
  exact q
def Mut : Option HO → Prop
 | some (.lst _) => True
 | some (.dK _) => True
 | some (.dT _) => True
 | some (.set _ _) => True
 | some (.ins _ _ _) => True
 | some (.ext _) => True
 | _ => False
section
variable {P : Program} {w : World} {H : Hp} {h h' : Heap} {x e : Addr} {o' : HO}
theorem HOk.write (ok : HOk P w H h) (mu : Mut (H x)) (he : e = x ∨ H e = some (.own x)) (k : ∀ b u,b ≠ e → h.get? b = some u → h'.get? b = some u) (heo : ∃ u,h'.get? e = some u)
  (new : ObjOk P w (upd H x o') h' x o') : HOk P w (upd H x o') h' := fun b u q => by
 have nown : ∀ c y,H c = some (.own y) → c ≠ x := fun c y r z => by subst z; rw [r] at mu; exact mu
 have ntup : ∀ c xs,H c = some (.tup xs) → c ≠ x := fun c xs r z => by subst z; rw [r] at mu; exact mu
 by_cases hb : b = x
 ·subst hb; rw [upd_same] at q; cases q; exact new
 ·rw [upd_ne hb] at q
  by_cases hbe : b = e
  ·have q' : H b = some (.own x) := by
    rcases he with z | z
    ·exact absurd (hbe.trans z) hb
    ·rw [hbe]; exact z
   rw [q] at q'; cases q'
   obtain ⟨v,hv⟩ := heo
   exact ⟨v,by rw [hbe]; exact hv⟩
  ·refine (ok b u q).stay (fun c v hc r => k c v ?_ r) (fun c r => by rw [upd_ne (nown c b r)]; exact r) fun c xs r => by rw [upd_ne (ntup c xs r)]; exact r
   rcases hc with rfl | hc
   ·exact hbe
   ·rintro rfl
    rcases he with z | z
    ·exact nown c b hc z
    ·rw [hc] at z; cases z; exact hb rfl
end
structure Un (fs ex : List Addr) (H H' : Hp) (h h' : Heap) : Prop where
 keep : ∀ b o,h.get? b = some o → H b = none → b ∉ fs → b ∉ ex → h'.get? b = some o
 slot : ∀ b o,h.get? b = some o → H b = none → b ∈ fs → b ∉ ex → ∃ sl,h'.get? b = some { o with slots := sl }
 free : ∀ b o,h.get? b = some o → H b = none → b ∉ ex → H' b = none
 there : ∀ b o,h.get? b = some o → b ∉ ex → ∃ o',h'.get? b = some o'
 tups : ∀ b xs,H b = some (.tup xs) → H' b = some (.tup xs)
 frzs : ∀ b o u,H b = some (.frz o u) → H' b = some (.frz o u)
 tbls : ∀ b ps,H b = some (.tbl ps) → ∃ more,H' b = some (.tbl (ps ++ more))
section
variable {fs fs' ex ex' : List Addr} {H H1 H2 : Hp} {h h1 h2 h' : Heap} {a x e : Addr} {o : HO}
theorem Un.any (u : Un fs ex H H1 h h1) {b : Addr} {ob : Obj} (q : h.get? b = some ob) (n : H b = none) (hx : b ∉ ex) : ∃ sl,h1.get? b = some { ob with slots := sl } := by
 by_cases hb : b ∈ fs
 ·exact u.slot b ob q n hb hx
 ·exact ⟨ob.slots,u.keep b ob q n hb hx⟩
theorem Un.trans (a : Un fs ex H H1 h h1) (b : Un fs ex H1 H2 h1 h2) : Un fs ex H H2 h h2 where
 keep := fun c ob q n hc hx => b.keep c ob (a.keep c ob q n hc hx) (a.free c ob q n hx) hc hx
 slot := fun c ob q n hc hx => by
  obtain ⟨sl,e1⟩ := a.slot c ob q n hc hx
  obtain ⟨sl',e2⟩ := b.slot c _ e1 (a.free c ob q n hx) hc hx
  exact ⟨sl',e2⟩
 free := fun c ob q n hx => by
  obtain ⟨o',e1⟩ := a.there c ob q hx
  exact b.free c o' e1 (a.free c ob q n hx) hx
 there := fun c ob q hx => by
  obtain ⟨o',e1⟩ := a.there c ob q hx
  exact b.there c o' e1 hx
 tups := fun c xs q => b.tups c xs (a.tups c xs q)
 frzs := fun c ob xs q => b.frzs c ob xs (a.frzs c ob xs q)
 tbls := fun c ps q => by
  obtain ⟨m1,e1⟩ := a.tbls c ps q
  obtain ⟨m2,e2⟩ := b.tbls c _ e1
  exact ⟨m1 ++ m2,by rw [e2,Array.append_assoc]⟩
theorem Un.kept (k : ∀ b u,h.get? b = some u → h'.get? b = some u) : Un fs ex H H h h' :=
 ⟨fun b ob q _ _ _ => k b ob q,fun b ob q _ _ _ => ⟨ob.slots,k b ob q⟩,fun _ _ _ n _ => n,fun b ob q _ => ⟨ob,k b ob q⟩,fun _ _ q => q,fun _ _ _ q => q,fun _ ps q => ⟨#[],by rw [q]; simp⟩⟩
theorem Un.refl : Un fs ex H H h h := Un.kept fun _ _ q => q
theorem Un.laid (k : ∀ b u,h.get? b = some u → h'.get? b = some u) (hp : h.objs.size ≤ a) (hn : H a = none) : Un fs ex H (upd H a o) h h' where
 keep := fun b u q _ _ _ => k b u q
 slot := fun b u q _ _ _ => ⟨u.slots,k b u q⟩
 free := fun b u q n _ => by rw [upd_ne (Nat.ne_of_lt (Nat.lt_of_lt_of_le (Heap.lt_size q) hp))]; exact n
 there := fun b u q _ => ⟨u,k b u q⟩
 tups := fun b xs q => by rw [upd_ne (ne_of_none q hn)]; exact q
 frzs := fun b u xs q => by rw [upd_ne (ne_of_none q hn)]; exact q
 tbls := fun b ps q => ⟨#[],by rw [upd_ne (ne_of_none q hn),q]; simp⟩
theorem Un.write (mu : Mut (H x)) (he : e = x ∨ H e = some (.own x)) (k : ∀ b u,b ≠ e → h.get? b = some u → h'.get? b = some u) (heo : ∃ u,h'.get? e = some u) : Un fs ex H (upd H x o) h h' := by
 have hx : ∀ b,H b = none → b ≠ x := fun b n z => by subst z; rw [n] at mu; exact mu
 have hb : ∀ b,H b = none → b ≠ e := fun b n z => by
  subst z
  rcases he with r | r
  ·exact hx b n r
  ·rw [n] at r; cases r
 have hm : ∀ b u,H b = some u → ¬ Mut (some u) → b ≠ x := fun b u q nm z => by subst z; rw [q] at mu; exact nm mu
 refine ⟨fun b u q n _ _ => k b u (hb b n) q,fun b u q n _ _ => ⟨u.slots,k b u (hb b n) q⟩,fun b u q n _ => by rw [upd_ne (hx b n)]; exact n,fun b u q _ => ?_,
  fun b xs q => by rw [upd_ne (hm b _ q fun z => z)]; exact q,fun b u xs q => by rw [upd_ne (hm b _ q fun z => z)]; exact q,fun b ps q => ⟨#[],by rw [upd_ne (hm b _ q fun z => z),q]; simp⟩⟩
 by_cases hbe : b = e
 ·subst hbe; exact heo
 ·exact ⟨u,k b u hbe q⟩
theorem Un.mono (u : Un fs ex H H1 h h1) (hs : ∀ b ∈ fs,b ∈ fs') (hx : ∀ b ∈ ex,b ∈ ex') : Un fs' ex' H H1 h h1 :=
 ⟨fun b ob q n hb he => u.keep b ob q n (fun z => hb (hs b z)) fun z => he (hx b z),fun _ _ q n _ he => u.any q n fun z => he (hx _ z),fun b ob q n he => u.free b ob q n fun z => he (hx b z),fun b ob q he => u.there b ob q fun z => he (hx b z),u.tups,u.frzs,u.tbls⟩
end
def trk (h : Heap) (H : Hp) : List Addr := (List.range h.objs.size).filter fun a => (H a).isSome
def hidT (h : Heap) (H : Hp) : Heap := PySem.W.hideAll h (trk h H)
theorem hidT_size (h : Heap) (H : Hp) : (hidT h H).objs.size = h.objs.size := PySem.W.hideAll_size _ _
theorem hidT_get {h : Heap} {H : Hp} {b : Addr} {o : Obj} (e : h.get? b = some o) (n : H b = none) : (hidT h H).get? b = some o :=
 PySem.W.hideAll_get _ e fun hm => by
  have q : (H b).isSome = true := (List.mem_filter.mp hm).2
  rw [n] at q; simp at q
theorem of_hidT {h : Heap} {H : Hp} {b : Addr} {o : Obj} (e : (hidT h H).get? b = some o) : h.get? b = some o ∧ H b = none := by
 have e' : h.get? b = some o := PySem.W.of_hideAll (trk h H) e
 refine ⟨e',?_⟩
 cases q : H b with
 | none => rfl
 | some x =>
  have hm : b ∈ trk h H := List.mem_filter.mpr ⟨List.mem_range.mpr (Heap.lt_size e'),by simp [q]⟩
  have z : (hidT h H).get? b = none := PySem.W.hideAll_none (trk h H) hm
  rw [z] at e; cases e
def allNews (g h : Heap) (L : Addr) : List (Addr × Obj) := (List.range h.objs.size).filterMap fun a => if a = L ∨ (g.get? a).isSome = true then none else (h.get? a).map fun o => (a,o)
def rest (g h : Heap) (L d : Addr) : List (Addr × Obj) := (allNews g h L).filter fun p => decide (p.1 ≠ d)
end L2
namespace L2
open PySem PySem.Spec PyProof.Rows
structure Mod (K : PySem.W.Frag) (mg : Str → Option Value) (base : Heap) : Prop where
 kin : K.In base
 glob : base.Ns mainGlobals mg
 blt : ∃ mb,base.Ns builtinsNs mb ∧ ∀ x : Str,x ≠ "__name__" → mb x = bootBuiltins x
 nolimit : base.NoLimit
structure Cx where
 prog : Program
 w : World
 K : PySem.W.Frag
 mg : Str → Option Value
 base : Heap
 A : Around
 N : List Str
 s₀ : Shared
 H₀ : Hp
 env : Env
 outer : List Env
 stack : List Env
 ex : List Addr
 fn : Str → Bool
 calm : Bool
 pn : List (Addr × Obj)
 xe : Value → Shared → Prop
def frs (l : List Env) : List Addr := l.filterMap (·.frame)
abbrev Cx.fs (X : Cx) : List Addr := frs X.outer
def Vis (sc : Scope) (x : Str) : Prop := sc.names.lookup x = some .local ∨ sc.names.lookup x = some .cell ∨ sc.names.lookup x = some .free
def Loc (sc : Scope) (x : Str) : Prop := sc.names.lookup x = some .local ∨ sc.names.lookup x = some .cell
def Look (env : Env) (h : Heap) (m : Str → Option Value) (x : Str) (u : Value) : Prop :=
 (env.kindOf x = some .local ∧ m x = some u) ∨ ((env.kindOf x = some .cell ∨ env.kindOf x = some .free) ∧ ∃ c,env.cells.lookup x = some c ∧ h.IsCell c (some u))
structure Cx.Ok (X : Cx) : Prop where
 mod : Mod X.K X.mg X.base
 kind : X.env.scope.kind = .function
 glob : X.env.globals = mainGlobals
 blt : X.env.builtins = builtinsNs
 above : X.s₀.heap.objs.size ≤ X.env.locals
 inj : ∀ x y c,X.env.cells.lookup x = some c → X.env.cells.lookup y = some c → x = y
 has : ∀ x,(X.env.kindOf x = some .cell ∨ X.env.kindOf x = some .free) → ∃ c,X.env.cells.lookup x = some c
 cab : ∀ x c,X.fn x = true → X.env.cells.lookup x = some c → X.s₀.heap.objs.size ≤ c
 hd : X.calm = true → X.A.handled = none
 frames : X.A.frames = some X.stack
 stk : X.stack = X.outer ∨ (X.stack = X.env :: X.outer ∧ X.env.frame = some X.env.locals)
 exf : ∀ b ∈ X.ex,b ≠ X.env.locals ∧ ∀ x c,X.env.cells.lookup x = some c → c ≠ b
 bs : ∀ b o,X.base.get? b = some o → X.s₀.heap.get? b = some o ∧ X.H₀ b = none
 bsz : X.base.objs.size ≤ X.s₀.heap.objs.size
 noex : ∀ b o,X.base.get? b = some o → b ∉ X.ex
 exfs : ∀ b ∈ X.ex,b ∉ X.fs
 funs : X.s₀.heap.FunFrames X.base X.outer
 frf : ∀ b ∈ X.fs,X.H₀ b = none
structure Inv (X : Cx) (pins : List (Addr × Obj)) (σ : List (Option V)) (H : Hp) (s : Shared) : Prop where
 ok : X.Ok
 os : s.os = X.s₀.os
 bare : AllBare s.gens
 base : Un X.fs X.ex X.H₀ H X.s₀.heap s.heap
 loc : ∃ m,s.heap.Ns X.env.locals m ∧ ∀ (i : Nat) (x : Str) (v : V),X.N[i]? = some x → σ[i]? = some (some v) → Vis X.env.scope x → ∃ u,RelV v u ∧ Look X.env s.heap m x u
 cell : ∀ x c,X.env.cells.lookup x = some c → ∃ v,s.heap.IsCell c v
 free : H X.env.locals = none
 freeC : ∀ x c,X.env.cells.lookup x = some c → H c = none
 pin : ∀ p ∈ X.pn ++ pins,s.heap.get? p.1 = some p.2 ∧ H p.1 = none ∧ p.1 ≠ X.env.locals ∧ p.1 ∉ X.fs ∧ ∀ v,p.2.data ≠ .cell v
 hok : HOk X.prog X.w H s.heap
 len : σ.length = X.N.length
section
variable {X : Cx} {pins : List (Addr × Obj)} {σ : List (Option V)} {H H' : Hp} {s : Shared} {h' : Heap}
theorem Cx.Ok.nofr (ok : X.Ok) {b : Addr} {o : Obj} (e : X.base.get? b = some o) : b ∉ X.fs := fun hb => by
 have := (ok.funs.mem hb).1
 rw [e] at this; cases this
theorem Inv.bs (I : Inv X pins σ H s) : ∀ b o,X.base.get? b = some o → s.heap.get? b = some o ∧ H b = none := fun b o e =>
 ⟨I.base.keep b o (I.ok.bs b o e).1 (I.ok.bs b o e).2 (I.ok.nofr e) (I.ok.noex b o e),I.base.free b o (I.ok.bs b o e).1 (I.ok.bs b o e).2 (I.ok.noex b o e)⟩
theorem Inv.bk (I : Inv X pins σ H s) : ∀ b o,X.base.get? b = some o → s.heap.get? b = some o := fun b o e => (I.bs b o e).1
theorem Inv.mod (I : Inv X pins σ H s) : Mod X.K X.mg X.base := I.ok.mod
theorem Inv.kIn (I : Inv X pins σ H s) : X.K.In s.heap := I.ok.mod.kin.keeps I.bk
theorem Inv.nolimit (I : Inv X pins σ H s) : s.heap.NoLimit := I.ok.mod.nolimit.keeps I.bk
theorem Inv.fr (I : Inv X pins σ H s) : ∃ m,Fr X.base X.env.locals s.heap m :=
 let ⟨m,hn,_⟩ := I.loc
 ⟨m,hn,I.bk,Nat.le_trans I.ok.bsz I.ok.above⟩
theorem Inv.lt (I : Inv X pins σ H s) : X.env.locals < s.heap.objs.size := let ⟨_,hn,_⟩ := I.loc; hn.lt
theorem Inv.sz (I : Inv X pins σ H s) : X.s₀.heap.objs.size ≤ s.heap.objs.size := Nat.le_trans I.ok.above (Nat.le_of_lt I.lt)
theorem Inv.nofs (I : Inv X pins σ H s) {a : Addr} (h : s.heap.objs.size ≤ a) : a ∉ X.fs := fun hb => by
 obtain ⟨_,o,ho,_⟩ := I.ok.funs.mem hb
 exact absurd (Nat.lt_of_lt_of_le (Heap.lt_size ho) (Nat.le_trans I.sz h)) (Nat.lt_irrefl _)
theorem Inv.cne (I : Inv X pins σ H s) : ∀ x c,X.env.cells.lookup x = some c → c ≠ X.env.locals := fun x c e z => by
 obtain ⟨v,o,ho,hd⟩ := I.cell x c e
 obtain ⟨m,⟨o',es,ep,ho',hd',_⟩,_⟩ := I.loc
 rw [z,ho'] at ho; cases ho; rw [hd'] at hd; cases hd
theorem Inv.funs (I : Inv X pins σ H s) : s.heap.FunFrames X.base X.outer := by
 have all : ∀ (l : List Env),(∀ b ∈ frs l,b ∈ X.fs) → X.s₀.heap.FunFrames X.base l → s.heap.FunFrames X.base l := by
  intro l
  induction l with
  | nil => intro _ _; trivial
  | cons env r ih =>
   intro hs hl
   obtain ⟨hk,⟨L,o,hf,hn,ho,hd⟩,hr⟩ := hl
   have hL : L ∈ X.fs := hs L (by unfold frs; rw [List.filterMap_cons,hf]; exact List.mem_cons_self)
   obtain ⟨sl,e⟩ := I.base.slot L o ho (I.ok.frf L hL) hL fun z => I.ok.exfs L z hL
   exact ⟨hk,⟨L,_,hf,hn,e,hd⟩,ih (fun b hb => hs b (by unfold frs; rw [List.filterMap_cons,hf]; exact List.mem_cons_of_mem _ hb)) hr⟩
 exact all X.outer (fun _ hb => hb) I.ok.funs
theorem Inv.stack (I : Inv X pins σ H s) : s.heap.FunFrames X.base X.stack := by
 rcases I.ok.stk with e | ⟨e,hf⟩
 ·rw [e]; exact I.funs
 ·rw [e]
  obtain ⟨m,hn,_⟩ := I.loc
  refine .cons (by rw [I.ok.kind]; decide) hf hn ?_ I.funs
  exact Heap.get?_none_of_le (Nat.le_trans I.ok.bsz I.ok.above)
theorem Inv.stkSub (I : Inv X pins σ H s) : ∀ b ∈ frs X.stack,b ∈ X.env.locals :: X.fs := fun b hb => by
 rcases I.ok.stk with e | ⟨e,hf⟩
 ·rw [e] at hb; exact List.mem_cons_of_mem _ hb
 ·rw [e] at hb
  unfold frs at hb
  rw [List.filterMap_cons,hf] at hb
  exact hb
theorem Inv.stkFree (I : Inv X pins σ H s) : ∀ b ∈ frs X.stack,H b = none := fun b hb => by
 rcases List.mem_cons.mp (I.stkSub b hb) with e | hb
 ·rw [e]; exact I.free
 ·obtain ⟨_,o,ho,_⟩ := I.ok.funs.mem hb
  exact I.base.free b o ho (I.ok.frf b hb) fun z => I.ok.exfs b z hb
theorem Inv.step {g' : Array GenState} {t' : Nat} {d' : Drawn} {ch : List Addr} (I : Inv X pins σ H s)
  (hch : ∀ b ∈ ch,(b ∈ X.ex ∨ X.s₀.heap.objs.size ≤ b) ∧ b ≠ X.env.locals ∧ (∀ x c,X.env.cells.lookup x = some c → c ≠ b) ∧ ∀ p ∈ X.pn ++ pins,p.1 ≠ b)
  (keep : ∀ b o,b ≠ X.env.locals → b ∉ X.fs → b ∉ ch → s.heap.get? b = some o → H b = none → h'.get? b = some o)
  (slot : ∀ b o,b ≠ X.env.locals → b ∈ X.fs → b ∉ ch → s.heap.get? b = some o → H b = none → ∃ sl,h'.get? b = some { o with slots := sl }) (free : ∀ b o,b ∉ ch → s.heap.get? b = some o → H b = none → H' b = none)
  (there : ∀ b o,b ∉ ch → s.heap.get? b = some o → ∃ o',h'.get? b = some o')
  (tups : ∀ b xs,H b = some (.tup xs) → H' b = some (.tup xs)) (frzs : ∀ b o u,H b = some (.frz o u) → H' b = some (.frz o u)) (tbls : ∀ b ps,H b = some (.tbl ps) → ∃ more,H' b = some (.tbl (ps ++ more)))
  (ns : ∀ m,s.heap.Ns X.env.locals m → h'.Ns X.env.locals m) (hok : HOk X.prog X.w H' h') (hg : AllBare g') :
  Inv X pins σ H' { s with heap := h',gens := g',drawn := d',toks := t' } := by
 have neL : ∀ b o,X.s₀.heap.get? b = some o → b ≠ X.env.locals := fun b o e => Nat.ne_of_lt (Nat.lt_of_lt_of_le (Heap.lt_size e) I.ok.above)
 have neC : ∀ b o,X.s₀.heap.get? b = some o → b ∉ X.ex → b ∉ ch := fun b o e hx hb => by
  rcases (hch b hb).1 with z | z
  ·exact hx z
  ·exact absurd (Nat.lt_of_lt_of_le (Heap.lt_size e) z) (Nat.lt_irrefl _)
 have cellK : ∀ x c,X.env.cells.lookup x = some c → ∀ v,s.heap.IsCell c v → h'.IsCell c v := fun x c e v ⟨o,ho,hd⟩ => by
  have nch : c ∉ ch := fun z => (hch c z).2.2.1 x c e rfl
  by_cases hc : c ∈ X.fs
  ·obtain ⟨sl,q⟩ := slot c o (I.cne x c e) hc nch ho (I.freeC x c e)
   exact ⟨_,q,hd⟩
  ·exact ⟨o,keep c o (I.cne x c e) hc nch ho (I.freeC x c e),hd⟩
 refine ⟨I.ok,I.os,hg,⟨fun b o e n hb hx => ?_,fun b o e n hb hx => ?_,fun b o e n hx => ?_,fun b o e hx => ?_,fun b xs e => tups b xs (I.base.tups b xs e),fun b o xs e => frzs b o xs (I.base.frzs b o xs e),fun b ps e => ?_⟩,?_,fun x c e => ?_,?_,fun x c e => ?_,fun p hp => ?_,hok,I.len⟩
 ·exact keep b o (neL b o e) hb (neC b o e hx) (I.base.keep b o e n hb hx) (I.base.free b o e n hx)
 ·obtain ⟨sl,e1⟩ := I.base.slot b o e n hb hx
  obtain ⟨sl',e2⟩ := slot b _ (neL b o e) hb (neC b o e hx) e1 (I.base.free b o e n hx)
  exact ⟨sl',e2⟩
 ·obtain ⟨o',e1⟩ := I.base.there b o e hx
  exact free b o' (neC b o e hx) e1 (I.base.free b o e n hx)
 ·obtain ⟨o',e1⟩ := I.base.there b o e hx
  exact there b o' (neC b o e hx) e1
 ·obtain ⟨m1,e1⟩ := I.base.tbls b ps e
  obtain ⟨m2,e2⟩ := tbls b _ e1
  exact ⟨m1 ++ m2,by rw [e2,Array.append_assoc]⟩
 ·obtain ⟨m,hn,hl⟩ := I.loc
  refine ⟨m,ns m hn,fun i x v e1 e2 e3 => ?_⟩
  obtain ⟨u,r,l⟩ := hl i x v e1 e2 e3
  refine ⟨u,r,?_⟩
  rcases l with l | ⟨k,c,e,z⟩
  ·exact .inl l
  ·exact .inr ⟨k,c,e,cellK x c e _ z⟩
 ·obtain ⟨v,z⟩ := I.cell x c e
  exact ⟨v,cellK x c e v z⟩
 ·obtain ⟨m,⟨o,_,_,ho,_⟩,_⟩ := I.loc
  exact free _ o (fun z => (hch _ z).2.1 rfl) ho I.free
 ·obtain ⟨v,o,ho,hd⟩ := I.cell x c e
  exact free c o (fun z => (hch c z).2.2.1 x c e rfl) ho (I.freeC x c e)
 ·obtain ⟨e,n,ne,nf,d⟩ := I.pin p hp
  have nch : p.1 ∉ ch := fun z => (hch p.1 z).2.2.2 p hp rfl
  exact ⟨keep p.1 p.2 ne nf nch e n,free p.1 p.2 nch e n,ne,nf,d⟩
theorem Inv.un {t' : Nat} (I : Inv X pins σ H s) (u : Un X.fs [] H H' s.heap h') (hok : HOk X.prog X.w H' h') : Inv X pins σ H' { s with heap := h',toks := t' } := by
 obtain ⟨m,⟨o,es,ep,ho,r⟩,_⟩ := id I.loc
 obtain ⟨sl,hL⟩ := u.any ho I.free (by simp)
 exact I.step (g' := s.gens) (d' := s.drawn) (ch := []) (fun _ z => nomatch z) (fun b o _ hb _ e n => u.keep b o e n hb (by simp)) (fun b o _ hb _ e n => u.slot b o e n hb (by simp)) (fun b o _ e n => u.free b o e n (by simp)) (fun b o _ e => u.there b o e (by simp)) u.tups u.frzs u.tbls (fun m' hm => by
  obtain ⟨o',es',ep',ho',r'⟩ := hm
  rw [ho] at ho'; cases ho'
  exact ⟨_,es',ep',hL,r'⟩) hok I.bare
theorem Inv.call {g' : Array GenState} {t' : Nat} {d' : Drawn} {ch : List Addr} (I : Inv X pins σ H s) (u : Un (frs X.stack) ch H H' s.heap h') (hok : HOk X.prog X.w H' h') (hg : AllBare g')
  (hch : ∀ b ∈ ch,(b ∈ X.ex ∨ X.s₀.heap.objs.size ≤ b) ∧ b ≠ X.env.locals ∧ (∀ x c,X.env.cells.lookup x = some c → c ≠ b) ∧ ∀ p ∈ X.pn ++ pins,p.1 ≠ b) :
  Inv X pins σ H' { s with heap := h',gens := g',drawn := d',toks := t' } := by
 obtain ⟨m,⟨o,es,ep,ho,r⟩,_⟩ := id I.loc
 obtain ⟨sl,hL⟩ := u.any ho I.free fun z => (hch _ z).2.1 rfl
 exact I.step (ch := ch) hch (fun b o hL hb hc e n => u.keep b o e n (fun z => (List.mem_cons.mp (I.stkSub b z)).elim hL hb) hc) (fun b o _ _ hc e n => u.any e n hc) (fun b o hc e n => u.free b o e n hc) (fun b o hc e => u.there b o e hc) u.tups u.frzs u.tbls (fun m' hm => by
  obtain ⟨o',es',ep',ho',r'⟩ := hm
  rw [ho] at ho'; cases ho'
  exact ⟨_,es',ep',hL,r'⟩) hok hg
theorem Inv.turned {t' : Nat} {it : Addr} (I : Inv X pins σ H s) (k : ∀ b o,b ≠ it → s.heap.get? b = some o → h'.get? b = some o) (hn : H it = none) (hL : it ≠ X.env.locals)
  (h1 : it ∈ X.ex ∨ X.s₀.heap.objs.size ≤ it) (h2 : ∀ x c,X.env.cells.lookup x = some c → c ≠ it) (h3 : ∀ p ∈ X.pn ++ pins,p.1 ≠ it) : Inv X pins σ H { s with heap := h',toks := t' } := by
 have nit : ∀ b u,H b = some u → b ≠ it := fun b u e z => by rw [z,hn] at e; cases e
 refine I.step (g' := s.gens) (d' := s.drawn) (ch := [it]) (fun b hb => ?_) (fun b o _ _ hc e _ => k b o (fun z => hc (by simp [z])) e) (fun b o _ _ hc e _ => ⟨o.slots,k b o (fun z => hc (by simp [z])) e⟩) (fun _ _ _ _ n => n)
  (fun b o hc e => ⟨o,k b o (fun z => hc (by simp [z])) e⟩) (fun _ _ e => e) (fun _ _ _ e => e) (fun b ps e => ⟨#[],by rw [e]; simp⟩) (fun m hm => ?_) (fun b u e => ?_) I.bare
 ·have e : b = it := by simpa using hb
  subst e
  exact ⟨h1,hL,h2,h3⟩
 ·obtain ⟨o,es,ep,ho,r⟩ := hm
  exact ⟨o,es,ep,k _ o (Ne.symm hL) ho,r⟩
 ·refine (I.hok b u e).stay (fun c v hc q => k c v ?_ q) (fun _ q => q) fun _ _ q => q
  rcases hc with z | z
  ·rw [z]; exact nit b u e
  ·exact nit c _ z
theorem Inv.tok (I : Inv X pins σ H s) (t : Nat) : Inv X pins σ H { s with toks := t } := I.un (h' := s.heap) (t' := t) Un.refl I.hok
theorem Inv.kept {t' : Nat} (I : Inv X pins σ H s) (k : ∀ b u,s.heap.get? b = some u → h'.get? b = some u) : Inv X pins σ H { s with heap := h',toks := t' } := I.un (Un.kept k) (I.hok.kept k)
theorem Inv.laid {a : Addr} {o : HO} {t' : Nat} (I : Inv X pins σ H s) (k : ∀ b u,s.heap.get? b = some u → h'.get? b = some u) (hp : s.heap.objs.size ≤ a) (new : ObjOk X.prog X.w (upd H a o) h' a o) :
  Inv X pins σ (upd H a o) { s with heap := h',toks := t' } := I.un (Un.laid k hp (I.hok.fresh hp)) (I.hok.laid k hp new)
theorem Inv.write {x e : Addr} {o : HO} {t' : Nat} (I : Inv X pins σ H s) (mu : Mut (H x)) (he : e = x ∨ H e = some (.own x)) (k : ∀ b u,b ≠ e → s.heap.get? b = some u → h'.get? b = some u) (heo : ∃ u,h'.get? e = some u)
  (new : ObjOk X.prog X.w (upd H x o) h' x o) : Inv X pins σ (upd H x o) { s with heap := h',toks := t' } := I.un (Un.write mu he k heo) (I.hok.write mu he k heo new)
theorem Inv.weak {σ' : List (Option V)} (I : Inv X pins σ H s) (hl : σ'.length = σ.length) (w : ∀ (i : Nat) v,σ'[i]? = some (some v) → σ[i]? = some (some v)) : Inv X pins σ' H s :=
 ⟨I.ok,I.os,I.bare,I.base,let ⟨m,hn,hl'⟩ := I.loc; ⟨m,hn,fun i x v e1 e2 e3 => hl' i x v e1 (w i v e2) e3⟩,I.cell,I.free,I.freeC,I.pin,I.hok,hl.trans I.len⟩
theorem Inv.pins_of {pins' : List (Addr × Obj)} (I : Inv X pins σ H s) (h : ∀ p ∈ pins',s.heap.get? p.1 = some p.2 ∧ H p.1 = none ∧ p.1 ≠ X.env.locals ∧ p.1 ∉ X.fs ∧ ∀ v,p.2.data ≠ .cell v) : Inv X pins' σ H s :=
 ⟨I.ok,I.os,I.bare,I.base,I.loc,I.cell,I.free,I.freeC,fun p hp => (List.mem_append.mp hp).elim (fun z => I.pin p (List.mem_append_left _ z)) (h p),I.hok,I.len⟩
theorem nodup_ix {N : List Str} (hN : N.Nodup) {i j : Nat} {x : Str} (a : N[i]? = some x) (b : N[j]? = some x) : i = j := by
 obtain ⟨h1,e1⟩ := List.getElem?_eq_some_iff.mp a
 obtain ⟨h2,e2⟩ := List.getElem?_eq_some_iff.mp b
 exact (List.getElem_inj hN).mp (e1.trans e2.symm)
theorem store_ok2 {M : Model} {A : Around} {E : Value → Shared → Prop} {i : Nat} {x : Str} {v : V} {u : Value} {Q : Unit → Shared → Prop} (I : Inv X pins σ H s) (hN : X.N.Nodup) (hi : X.N[i]? = some x) (hx : Loc X.env.scope x) (r : RelV v u)
  (h : ∀ s',Inv X pins (σ.set i (some v)) H s' → (∃ a,Heap.SameBut a s.heap s'.heap ∧ (a = X.env.locals ∨ X.env.cells.lookup x = some a)) → Q () s') (hf : X.fn x = true ∨ X.env.scope.names.lookup x = some .local := by first | exact .inl rfl | exact .inr rfl | assumption) : wpAny M A (storeName X.env x u) Q E s := by
 obtain ⟨m,hn,hl⟩ := id I.loc
 have hcls : (X.env.scope.kind == .class || (X.env.scope.kind == .module && X.env.locals != X.env.globals)) = false := by rw [I.ok.kind]; rfl
 have hiσ : i < σ.length := by rw [I.len]; exact (List.getElem?_eq_some_iff.mp hi).1
 have cne := I.cne
 have tracked : ∀ {a : Addr} {h' : Heap},(∃ o,s.heap.get? a = some o ∧ H a = none) → Heap.SameBut a s.heap h' → HOk X.prog X.w H h' := fun {a h'} ha hs b ob e => by
  obtain ⟨_,_,hfree⟩ := ha
  refine (I.hok b ob e).stay (fun c w' hc q => (hs.2 c ?_).trans q) (fun _ q => q) fun _ _ q => q
  rintro rfl
  rcases hc with rfl | hc
  ·rw [hfree] at e; cases e
  ·rw [hfree] at hc; cases hc
 rcases hx with hk | hk
 ·refine wpAny_storeName_local hk hn (fun h' hn' hs => ?_) hcls
  obtain ⟨oL,_,_,hoL,_⟩ := id hn
  refine h _ ⟨I.ok,I.os,I.bare,⟨fun b o e n hb hx => ?_,fun b o e n hb hx => ?_,I.base.free,fun b o e hx => ?_,I.base.tups,I.base.frzs,I.base.tbls⟩,⟨_,hn',fun j y v' e1 e2 e3 => ?_⟩,fun y c e => ?_,I.free,I.freeC,fun p hp => ?_,tracked ⟨oL,hoL,I.free⟩ hs,by simpa using I.len⟩ ⟨_,hs,.inl rfl⟩
  ·exact (hs.2 b (Nat.ne_of_lt (Nat.lt_of_lt_of_le (Heap.lt_size e) I.ok.above))).trans (I.base.keep b o e n hb hx)
  ·obtain ⟨sl,e1⟩ := I.base.slot b o e n hb hx
   exact ⟨sl,(hs.2 b (Nat.ne_of_lt (Nat.lt_of_lt_of_le (Heap.lt_size e) I.ok.above))).trans e1⟩
  ·obtain ⟨o',e1⟩ := I.base.there b o e hx
   exact ⟨o',(hs.2 b (Nat.ne_of_lt (Nat.lt_of_lt_of_le (Heap.lt_size e) I.ok.above))).trans e1⟩
  ·by_cases hj : j = i
   ·subst hj
    rw [hi] at e1; cases e1
    rw [List.getElem?_set_self hiσ] at e2
    cases e2
    exact ⟨u,r,.inl ⟨hk,by simp⟩⟩
   ·rw [List.getElem?_set_ne (Ne.symm hj)] at e2
    obtain ⟨u',r',q⟩ := hl j y v' e1 e2 e3
    refine ⟨u',r',?_⟩
    rcases q with ⟨k,e⟩ | ⟨k,c,e,z⟩
    ·refine .inl ⟨k,?_⟩
     have : y ≠ x := fun e => hj (nodup_ix hN e1 (e ▸ hi))
     simp [this,e]
    ·exact .inr ⟨k,c,e,z.sameBut hs (cne y c e)⟩
  ·obtain ⟨w',z⟩ := I.cell y c e
   exact ⟨w',z.sameBut hs (cne y c e)⟩
  ·obtain ⟨e,n,ne,nf,d⟩ := I.pin p hp
   exact ⟨(hs.2 p.1 ne).trans e,n,ne,nf,d⟩
 ·have hfn : X.fn x = true := by
   rcases hf with z | z
   ·exact z
   ·rw [z] at hk; cases hk
  obtain ⟨c,hc⟩ := I.ok.has x (.inl hk)
  obtain ⟨w',z⟩ := I.cell x c hc
  refine wpAny_storeName_cell I.ok.kind hk hc z (fun h' hc' hs => ?_)
  obtain ⟨oc,hoc,hocd⟩ := id z
  refine h { s with heap := h' } ⟨I.ok,I.os,I.bare,⟨fun b o e n hb hx => ?_,fun b o e n hb hx => ?_,I.base.free,fun b o e hx => ?_,I.base.tups,I.base.frzs,I.base.tbls⟩,⟨m,hn.sameBut hs (Ne.symm (cne x c hc)),fun j y v' e1 e2 e3 => ?_⟩,fun y c' e => ?_,I.free,I.freeC,fun p hp => ?_,tracked ⟨oc,hoc,I.freeC x c hc⟩ hs,by simpa using I.len⟩ ⟨c,hs,.inr hc⟩
  ·exact (hs.2 b (Nat.ne_of_lt (Nat.lt_of_lt_of_le (Heap.lt_size e) (I.ok.cab x c hfn hc)))).trans (I.base.keep b o e n hb hx)
  ·obtain ⟨sl,e1⟩ := I.base.slot b o e n hb hx
   exact ⟨sl,(hs.2 b (Nat.ne_of_lt (Nat.lt_of_lt_of_le (Heap.lt_size e) (I.ok.cab x c hfn hc)))).trans e1⟩
  ·obtain ⟨o',e1⟩ := I.base.there b o e hx
   exact ⟨o',(hs.2 b (Nat.ne_of_lt (Nat.lt_of_lt_of_le (Heap.lt_size e) (I.ok.cab x c hfn hc)))).trans e1⟩
  ·by_cases hj : j = i
   ·subst hj
    rw [hi] at e1; cases e1
    rw [List.getElem?_set_self hiσ] at e2
    cases e2
    exact ⟨u,r,.inr ⟨.inl hk,c,hc,hc'⟩⟩
   ·rw [List.getElem?_set_ne (Ne.symm hj)] at e2
    obtain ⟨u',r',q⟩ := hl j y v' e1 e2 e3
    refine ⟨u',r',?_⟩
    rcases q with q | ⟨k,c',e,z'⟩
    ·exact .inl q
    ·refine .inr ⟨k,c',e,z'.sameBut hs ?_⟩
     rintro rfl
     exact hj (nodup_ix hN e1 (I.ok.inj _ _ _ e hc ▸ hi))
  ·by_cases hcc : c' = c
   ·subst hcc; exact ⟨_,hc'⟩
   ·obtain ⟨w2,z2⟩ := I.cell y c' e
    exact ⟨w2,z2.sameBut hs hcc⟩
  ·obtain ⟨e,n,ne,nf,d⟩ := I.pin p hp
   refine ⟨(hs.2 p.1 ?_).trans e,n,ne,nf,d⟩
   intro q
   rw [q,hoc] at e
   have q' : oc = p.2 := Option.some.inj e
   exact d w' (by rw [← q']; exact hocd)
theorem store_ok {M : Model} {A : Around} {E : Value → Shared → Prop} {i : Nat} {x : Str} {v : V} {u : Value} {Q : Unit → Shared → Prop} (I : Inv X pins σ H s) (hN : X.N.Nodup) (hi : X.N[i]? = some x) (hx : Loc X.env.scope x) (r : RelV v u)
  (h : ∀ s',Inv X pins (σ.set i (some v)) H s' → Q () s') (hf : X.fn x = true ∨ X.env.scope.names.lookup x = some .local := by first | exact .inl rfl | exact .inr rfl | assumption) : wpAny M A (storeName X.env x u) Q E s :=
 store_ok2 I hN hi hx r (fun s' I' _ => h s' I') hf
end
abbrev XK := Value → Option Addr → Hp → Prop
abbrev St := List (Option V)
abbrev VK := V → Hp → Prop
abbrev TE := St → Hp → VK → Prop
abbrev TT := St → Hp → (Bool → Hp → Prop) → Prop
abbrev TA := St → Hp → (List V → Hp → Prop) → Prop
structure Ends where
 nx : St → Hp → Prop
 rt : VK
 bk : St → Hp → Prop := fun _ _ => False
 ct : St → Hp → Prop := fun _ _ => False
abbrev TS := Ends → St → Hp → Prop
def EP (X : Cx) (pins : List (Addr × Obj)) (σ : St) (Q : VK) (u : Value) (s' : Shared) : Prop := ∃ v H',Inv X pins σ H' s' ∧ RelV v u ∧ Q v H'
def TP (X : Cx) (pins : List (Addr × Obj)) (σ : St) (Q : Bool → Hp → Prop) (b : Bool) (s' : Shared) : Prop := ∃ H',Inv X pins σ H' s' ∧ Q b H'
def AP (X : Cx) (pins : List (Addr × Obj)) (σ : St) (Q : List V → Hp → Prop) (us : List Value) (s' : Shared) : Prop := ∃ vs H',Inv X pins σ H' s' ∧ Vals vs us ∧ Q vs H'
def SP (X : Cx) (pins : List (Addr × Obj)) (D : Ends) (f : Flow) (s' : Shared) : Prop :=
 match f with
 | .next => ∃ σ' H',Inv X pins σ' H' s' ∧ D.nx σ' H'
 | .brk => ∃ σ' H',Inv X pins σ' H' s' ∧ D.bk σ' H'
 | .cont => ∃ σ' H',Inv X pins σ' H' s' ∧ D.ct σ' H'
 | .ret u => ∃ v σ' H',Inv X pins σ' H' s' ∧ RelV v u ∧ D.rt v H'
def PE (X : Cx) (e : Expr) (t : TE) : Prop :=
 ∀ (pins : List (Addr × Obj)) (s : Shared) (σ : St) (H : Hp) (Q : VK),Inv X pins σ H s → t σ H Q → wpAny (model X.prog X.w) X.A (eval e X.env) (EP X pins σ Q) X.xe s
def PT (X : Cx) (e : Expr) (t : TT) : Prop :=
 ∀ (pins : List (Addr × Obj)) (s : Shared) (σ : St) (H : Hp) (Q : Bool → Hp → Prop),Inv X pins σ H s → t σ H Q → wpAny (model X.prog X.w) X.A (isTrue e X.env (eval e X.env)) (TP X pins σ Q) X.xe s
def PW (X : Cx) (e : Expr) (t : TT) : Prop :=
 ∀ (whole : Sem Value) (pins : List (Addr × Obj)) (s : Shared) (σ : St) (H : Hp) (Q : Bool → Hp → Prop),Inv X pins σ H s → t σ H Q → wpAny (model X.prog X.w) X.A (isTrue e X.env whole) (TP X pins σ Q) X.xe s
theorem PW.pt {X : Cx} {e : Expr} {t : TT} (h : PW X e t) : PT X e t := h _
def PA (X : Cx) (es : List Expr) (t : TA) : Prop :=
 ∀ (pos : Pos) (pins : List (Addr × Obj)) (s : Shared) (σ : St) (H : Hp) (Q : List V → Hp → Prop),Inv X pins σ H s → t σ H Q → wpAny (model X.prog X.w) X.A (spliced (backTo pos (starEach es X.env))) (AP X pins σ Q) X.xe s
def PS (X : Cx) (st : Stmt) (t : TS) : Prop :=
 ∀ (pins : List (Addr × Obj)) (s : Shared) (σ : St) (H : Hp) (D : Ends),Inv X pins σ H s → t D σ H → wpAny (model X.prog X.w) X.A (exec st X.env) (SP X pins D) X.xe s
def PSs (X : Cx) (st : List Stmt) (t : TS) : Prop :=
 ∀ (pins : List (Addr × Obj)) (s : Shared) (σ : St) (H : Hp) (D : Ends),Inv X pins σ H s → t D σ H → wpAny (model X.prog X.w) X.A (execs st X.env) (SP X pins D) X.xe s
theorem thn {α : Type} {t : Sem α} {Q Q' : α → Shared → Prop} {M : Model} {A : Around} {E : Value → Shared → Prop} {s : Shared} (h : wpAny M A t Q E s) (hQ : ∀ a s,Q a s → Q' a s) : wpAny M A t Q' E s := wpAny_mono h hQ fun _ _ x => x
end L2
namespace L2
open PySem PySem.Spec PyProof.Rows
section
variable {X : Cx}
def tVar (i : Nat) : TE := fun σ H Q => ∃ v,σ[i]? = some (some v) ∧ Q v H
def tC (v : V) : TE := fun _ H Q => Q v H
theorem pe_var {i : Nat} {x : Str} {pos : Pos} (hN : X.N[i]? = some x) (hv : Vis X.env.scope x) (hd : (x == ("__debug__" : Str)) = false := by decide) (hcd : (x == ("__classdict__" : Str)) = false := by decide) : PE X (.Name x pos) (tVar i) := by
 intro pins s σ H Q I h
 obtain ⟨v,e,h⟩ := h
 obtain ⟨m,hn,hl⟩ := I.loc
 obtain ⟨u,r,l⟩ := hl i x v hN e hv
 have fin : EP X pins σ Q u s := ⟨v,H,I,r,h⟩
 rcases l with ⟨hk,hm⟩ | ⟨hk,c,hc,hcell⟩
 ·exact wpAny_Name (wpAny_loadName_local I.ok.kind hk hn hm fin) hd
 ·rcases hk with hk | hk
  ·exact wpAny_Name (wpAny_loadName_cell I.ok.kind hk hc hcell fin) hd
  ·exact wpAny_Name (wpAny_loadName_free I.ok.kind hk hc hcell fin hcd) hd
theorem pe_int {i j pos} : PE X (.Constant (.int i) j pos) (tC (.int i)) := fun _ _ _ H _ I h => wpAny_Constant_int ⟨.int i,H,I.tok _,⟨_,rfl⟩,h⟩
theorem pe_bl {b j pos} : PE X (.Constant (.bool b) j pos) (tC (.bl b)) := fun _ _ _ H _ I h => Constant_bool ⟨.bl b,H,I,rfl,h⟩
theorem pe_non {j pos} : PE X (.Constant .none j pos) (tC .non) := fun _ _ _ H _ I h => Constant_none ⟨.non,H,I,rfl,h⟩
theorem pe_str {x j pos} : PE X (.Constant (.str x) j pos) (tC (.str x)) := fun _ _ _ H _ I h => Calls.Constant_str ⟨.str x,H,I.tok _,⟨_,rfl⟩,h⟩
def Gl (X : Cx) (x : Str) : Prop := X.env.kindOf x = some .globalImplicit
theorem ld_glob {E : Value → Shared → Prop} {pins : List (Addr × Obj)} {s : Shared} {σ : St} {H : Hp} {x : Str} {u : Value} {pos : Pos} {Q : Value → Shared → Prop} (I : Inv X pins σ H s) (hg : Gl X x) (hm : X.mg x = some u) (h : Q u s)
  (hd : (x == ("__debug__" : Str)) = false := by decide) : wpAny (model X.prog X.w) X.A (eval (.Name x pos) X.env) Q E s :=
 Calls.Name_function_global I.ok.kind hg (Calls.loadGlobal_global (by rw [I.ok.glob]; exact I.mod.glob.keeps I.bk) hm h) hd
theorem ld_blt {E : Value → Shared → Prop} {pins : List (Addr × Obj)} {s : Shared} {σ : St} {H : Hp} {x : Str} {u : Value} {pos : Pos} {Q : Value → Shared → Prop} (I : Inv X pins σ H s) (hg : Gl X x) (hm : X.mg x = none) (hv : bootBuiltins x = some u) (h : Q u s)
  (hn : x ≠ "__name__" := by decide) (hd : (x == ("__debug__" : Str)) = false := by decide) : wpAny (model X.prog X.w) X.A (eval (.Name x pos) X.env) Q E s := by
 obtain ⟨mb,h1,h2⟩ := I.mod.blt
 exact Calls.Name_function_global I.ok.kind hg (Calls.loadGlobal_builtin (by rw [I.ok.glob]; exact I.mod.glob.keeps I.bk) hm (by rw [I.ok.blt]; exact h1.keeps I.bk) ((h2 x hn).trans hv) h) hd
theorem pe_glob {x : Str} {v : V} {u : Value} {pos : Pos} (hg : Gl X x) (hm : X.mg x = some u) (r : RelV v u) (hd : (x == ("__debug__" : Str)) = false := by decide) : PE X (.Name x pos) (tC v) :=
 fun _ _ _ H _ I h => ld_glob I hg hm ⟨v,H,I,r,h⟩ hd
theorem pe_bltn {x : Str} {v : V} {u : Value} {pos : Pos} (hg : Gl X x) (hm : X.mg x = none) (hv : bootBuiltins x = some u) (r : RelV v u) (hn : x ≠ "__name__" := by decide) (hd : (x == ("__debug__" : Str)) = false := by decide) : PE X (.Name x pos) (tC v) :=
 fun _ _ _ H _ I h => ld_blt I hg hm hv ⟨v,H,I,r,h⟩ hn hd
variable {a b : Expr} {ta tb : TE} {pos : Pos}
def PC (X : Cx) (op : CmpOp) (a b : Expr) (t : TE) : Prop :=
 ∀ (pins : List (Addr × Obj)) (s : Shared) (σ : St) (H : Hp) (Q : VK),Inv X pins σ H s → t σ H Q →
  wpAny (model X.prog X.w) X.A (eval a X.env) (fun v s₁ => wpAny (model X.prog X.w) X.A (eval b X.env) (fun u s₂ => wpAny (model X.prog X.w) X.A (compareOp op v u) (EP X pins σ Q) X.xe s₂) X.xe s₁) X.xe s
theorem nobehind (b : Expr) {op : CmpOp} (h : op ≠ .In) (h2 : op ≠ .NotIn) : behindInMarks op b = false := by
 have e1 : (op == CmpOp.In) = false := by cases op <;> first | rfl | exact absurd rfl h
 have e2 : (op == CmpOp.NotIn) = false := by cases op <;> first | rfl | exact absurd rfl h2
 cases b <;> simp [behindInMarks,e1,e2]
def tIsN (ta : TE) : TE := fun σ H Q => ta σ H fun x H1 => Q (.bl (decide (x = .non))) H1
theorem RelV.none_iff {x : V} {v : Value} (r : RelV x v) : (v == Value.none) = decide (x = .non) := by
 cases x with
 | non => cases r; rfl
 | bl _ => cases r; rfl
 | int _ => obtain ⟨t,rfl⟩ := r; rfl
 | str _ => obtain ⟨t,rfl⟩ := r; rfl
 | byt _ => obtain ⟨t,rfl⟩ := r; rfl
 | flt _ => obtain ⟨t,rfl⟩ := r; rfl
 | ref _ => cases r; rfl
 | ty _ => cases r; rfl
theorem pc_isN {j pos'} (ha : PE X a ta) : PC X .Is a (.Constant .none j pos') (tIsN ta) := by
 intro pins s σ H Q I h
 refine thn (ha pins s σ H _ I h) fun v s1 ⟨x,H1,I1,r1,q1⟩ => ?_
 exact Constant_none (is_none_gen ⟨.bl _,H1,I1,by rw [r1.none_iff]; rfl,q1⟩)
def tB (t : TE) : TT := fun σ H Q => t σ H fun x H1 => ∃ c,x = .bl c ∧ Q c H1
theorem pe_cmp {op : CmpOp} {t : TE} (h : PC X op a b t) (h1 : behindInMarks op b = false := by first | exact nobehind _ (by decide) (by decide) | rfl) : PE X (.Compare a [op] [b] pos) t := fun pins s σ H Q I hw => wpAny_Compare1 (h pins s σ H Q I hw) h1
theorem pt_cmp {op : CmpOp} {t : TE} (h : PC X op a b t) (h1 : behindInMarks op b = false := by first | exact nobehind _ (by decide) (by decide) | rfl) : PT X (.Compare a [op] [b] pos) (tB t) := by
 intro pins s σ H Q I hw
 refine wpAny_isTrue_Compare1 (thn (h pins s σ H _ I hw) fun v s1 h1 => thn h1 fun u s2 h2 => thn h2 fun c s3 ⟨x,H1,I1,r1,q1⟩ => ?_) h1
 obtain ⟨d,rfl,q⟩ := q1
 cases r1
 exact wpAny_truthy_bool ⟨H1,I1,q⟩
theorem pt_val {e : Expr} {t : TE} (h : PE X e t) (he : ∀ whole,isTrue e X.env whole = (do let v ← whole; standAt e.pos; holding [v] (truthy v)) := by intro _; rfl) : PT X e (tB t) := by
 intro pins s σ H Q I hw
 refine isTrue_plain (thn (h pins s σ H _ I hw) fun v s1 ⟨x,H1,I1,r1,q1⟩ => ?_) (he _)
 obtain ⟨d,rfl,q⟩ := q1
 cases r1
 exact wpAny_truthy_bool ⟨H1,I1,q⟩
variable {tA tB' : TT} {rest : List Expr}
def tAnd (t u : TT) : TT := fun σ H Q => t σ H fun c H1 => if c = true then u σ H1 Q else Q false H1
def tOr (t u : TT) : TT := fun σ H Q => t σ H fun c H1 => if c = true then Q true H1 else u σ H1 Q
def tNot (t : TT) : TT := fun σ H Q => t σ H fun c H1 => Q (!c) H1
theorem pw_and1 (ha : PT X a tA) : PW X (.BoolOp .And [a] pos) tA := by
 intro wh pins s σ H Q I h
 refine isTrue_and (thn (ha pins s σ H Q I h) fun c s1 e => ?_)
 cases c with
 | true => exact isTrue_and_nil e
 | false => exact e
theorem pw_or1 (ha : PT X a tA) : PW X (.BoolOp .Or [a] pos) tA := by
 intro wh pins s σ H Q I h
 refine isTrue_or (thn (ha pins s σ H Q I h) fun c s1 e => ?_)
 cases c with
 | false => exact isTrue_or_nil e
 | true => exact e
theorem pw_and (ha : PT X a tA) (hb : PW X (.BoolOp .And (b :: rest) pos) tB') : PW X (.BoolOp .And (a :: b :: rest) pos) (tAnd tA tB') := by
 intro wh pins s σ H Q I h
 refine isTrue_and (thn (ha pins s σ H _ I h) fun c s1 ⟨H1,I1,q1⟩ => ?_)
 cases c with
 | true => exact hb wh pins s1 σ H1 Q I1 q1
 | false => exact ⟨H1,I1,q1⟩
theorem pw_or (ha : PT X a tA) (hb : PW X (.BoolOp .Or (b :: rest) pos) tB') : PW X (.BoolOp .Or (a :: b :: rest) pos) (tOr tA tB') := by
 intro wh pins s σ H Q I h
 refine isTrue_or (thn (ha pins s σ H _ I h) fun c s1 ⟨H1,I1,q1⟩ => ?_)
 cases c with
 | true => exact ⟨H1,I1,q1⟩
 | false => exact hb wh pins s1 σ H1 Q I1 q1
theorem pt_not (ha : PT X a tA) : PT X (.UnaryOp .Not a pos) (tNot tA) := by
 intro pins s σ H Q I h
 exact isTrue_not (ha pins s σ H (fun c H1 => Q (!c) H1) I h)
def tAndV (ta tb : TE) : TE := fun σ H Q => ta σ H fun x H1 => ∃ c,x = .bl c ∧ if c = true then tb σ H1 Q else Q (.bl false) H1
def tNotV (ta : TE) : TE := fun σ H Q => ta σ H fun x H1 => ∃ c,x = .bl c ∧ Q (.bl (!c)) H1
theorem pe_one {op} {t : TE} (h : PE X a t) : PE X (.BoolOp op [a] pos) t := fun pins s σ H Q I hw => BoolOp_one (h pins s σ H Q I hw)
theorem pe_and (ha : PE X a ta) (hb : PE X (.BoolOp .And (b :: rest) pos) tb) : PE X (.BoolOp .And (a :: b :: rest) pos) (tAndV ta tb) := by
 intro pins s σ H Q I h
 refine BoolOp_and (thn (ha pins s σ H _ I h) fun v s1 ⟨x,H1,I1,r1,q1⟩ => ?_)
 obtain ⟨c,rfl,q1⟩ := q1
 cases r1
 refine wpAny_truthy_bool ?_
 cases c with
 | true => exact hb pins s1 σ H1 Q I1 q1
 | false => exact ⟨.bl false,H1,I1,rfl,q1⟩
theorem pe_not (ha : PE X a ta) : PE X (.UnaryOp .Not a pos) (tNotV ta) := by
 intro pins s σ H Q I h
 refine UnaryOp_ (thn (ha pins s σ H _ I h) fun v s1 ⟨x,H1,I1,r1,q1⟩ => ?_)
 obtain ⟨c,rfl,q1⟩ := q1
 cases r1
 exact not_of (wpAny_truthy_bool ⟨.bl (!c),H1,I1,rfl,q1⟩)
def tIf (t : TT) (ta tb : TE) : TE := fun σ H Q => t σ H fun c H1 => if c = true then ta σ H1 Q else tb σ H1 Q
theorem pe_ifExp {c : Expr} (hc : PT X c tA) (ha : PE X a ta) (hb : PE X b tb) : PE X (.IfExp c a b pos) (tIf tA ta tb) := by
 intro pins s σ H Q I h
 refine wpAny_IfExp (thn (hc pins s σ H _ I h) fun d s1 ⟨H1,I1,q1⟩ => ?_)
 cases d with
 | true => exact ha pins s1 σ H1 Q I1 q1
 | false => exact hb pins s1 σ H1 Q I1 q1
end
end L2
namespace L2
open PySem PySem.Spec PyProof.Rows
def SqL (K : PySem.W.Frag) (H : Hp) (a : Addr) (xs : List V) : Prop :=
 Rd H a (.lst xs) ∨
  ∃ (o : Obj) (its : Array Value) (n : Nat),K.lookup a = some o ∧ o.cls = .type "list" ∧ o.dict = none ∧ o.data = .seq its n ∧ its.size ≤ sizeLine ∧ Vals xs its.toList
def SqT (K : PySem.W.Frag) (H : Hp) (a : Addr) (xs : List V) : Prop :=
 Rd H a (.tup xs) ∨
  ∃ (o : Obj) (its : Array Value) (n : Nat),K.lookup a = some o ∧ o.cls = .type "tuple" ∧ o.data = .seq its n ∧ its.size ≤ sizeLine ∧ Vals xs its.toList
def absV : Value → Option V
 | .none => some .non
 | .bool b => some (.bl b)
 | .int i _ => some (.int i)
 | .str x _ => some (.str x)
 | .bytes b _ => some (.byt b)
 | .float b _ => some (.flt b)
 | .ref a => some (.ref a)
 | .type n => some (.ty n)
 | _ => none
theorem RelV.abs {x : V} {u : Value} (r : RelV x u) : absV u = some x := by
 cases x with
 | non => cases r; rfl
 | bl _ => cases r; rfl
 | int _ => obtain ⟨t,rfl⟩ := r; rfl
 | str _ => obtain ⟨t,rfl⟩ := r; rfl
 | byt _ => obtain ⟨t,rfl⟩ := r; rfl
 | flt _ => obtain ⟨t,rfl⟩ := r; rfl
 | ref _ => cases r; rfl
 | ty _ => cases r; rfl
theorem RelV.inj {x y : V} {u : Value} (r : RelV x u) (q : RelV y u) : x = y := Option.some.inj (r.abs.symm.trans q.abs)
theorem Vals.inj : ∀ {xs ys : List V} {us : List Value},Vals xs us → Vals ys us → xs = ys
 | _,_,_,.nil,.nil => rfl
 | _,_,_,.cons r t,.cons r' t' => by rw [r.inj r',Vals.inj t t']
section
variable {X : Cx} {pins : List (Addr × Obj)} {σ : St} {H : Hp} {s : Shared} {a : Addr} {xs ys : List V}
theorem SqL.of {K : PySem.W.Frag} (h : H a = some (.lst xs)) : SqL K H a xs := .inl (.inl h)
theorem SqT.of {K : PySem.W.Frag} (h : H a = some (.tup xs)) : SqT K H a xs := .inl (.inl h)
theorem Inv.list (I : Inv X pins σ H s) (h : SqL X.K H a xs) : ∃ its : List Value,Vals xs its ∧ PlainL s.heap a its.toArray ∧ xs.length ≤ sizeLine := by
 rcases h with h | ⟨o,its,n,hk,hc,hd,hs,hz,r⟩
 ·obtain ⟨z,its,n,r,e⟩ := h.ok I.hok
  exact ⟨its,r,⟨_,n,e,rfl,rfl,rfl⟩,z⟩
 ·refine ⟨its.toList,r,⟨o,n,I.kIn a o hk,hc,hd,by simpa using hs⟩,?_⟩
  have e := r.length
  simp only [Array.length_toList] at e
  omega
theorem Inv.tuple (I : Inv X pins σ H s) (h : SqT X.K H a xs) : ∃ its : List Value,Vals xs its ∧ IsTup s.heap a its.toArray ∧ xs.length ≤ sizeLine := by
 rcases h with h | ⟨o,its,n,hk,hc,hs,hz,r⟩
 ·obtain ⟨z,its,r,p⟩ := h.ok I.hok
  exact ⟨its,r,p,z⟩
 ·refine ⟨its.toList,r,⟨o,I.kIn a o hk,hc,n,by simpa using hs⟩,?_⟩
  have e := r.length
  simp only [Array.length_toList] at e
  omega
theorem Inv.list_inj (I : Inv X pins σ H s) (h : SqL X.K H a xs) (h' : SqL X.K H a ys) : xs = ys := by
 obtain ⟨its,r,⟨o,n,e,_,_,d⟩,_⟩ := I.list h
 obtain ⟨its',r',⟨o',n',e',_,_,d'⟩,_⟩ := I.list h'
 rw [e] at e'; cases e'
 rw [d] at d'
 injection d' with d1 _
 have : its = its' := by simpa using congrArg Array.toList d1
 subst this
 exact r.inj r'
theorem Inv.tuple_inj (I : Inv X pins σ H s) (h : SqT X.K H a xs) (h' : SqT X.K H a ys) : xs = ys := by
 obtain ⟨its,r,⟨o,e,_,n,d⟩,_⟩ := I.tuple h
 obtain ⟨its',r',⟨o',e',_,n',d'⟩,_⟩ := I.tuple h'
 rw [e] at e'; cases e'
 rw [d] at d'
 injection d' with d1 _
 have : its = its' := by simpa using congrArg Array.toList d1
 subst this
 exact r.inj r'
end
abbrev Cx.wish (X : Cx) (E : Value → Shared → Prop) : Cx := { X with xe := E }
abbrev Cx.nox (X : Cx) : Cx := X.wish fun _ _ => False
theorem Cx.Ok.wish {X : Cx} (ok : X.Ok) (E : Value → Shared → Prop) : (X.wish E).Ok :=
 ⟨ok.mod,ok.kind,ok.glob,ok.blt,ok.above,ok.inj,ok.has,ok.cab,ok.hd,ok.frames,ok.stk,ok.exf,ok.bs,ok.bsz,ok.noex,ok.exfs,ok.funs,ok.frf⟩
theorem Cx.Ok.unwish {X : Cx} {E : Value → Shared → Prop} (ok : (X.wish E).Ok) : X.Ok :=
 ⟨ok.mod,ok.kind,ok.glob,ok.blt,ok.above,ok.inj,ok.has,ok.cab,ok.hd,ok.frames,ok.stk,ok.exf,ok.bs,ok.bsz,ok.noex,ok.exfs,ok.funs,ok.frf⟩
section
variable {X : Cx} {pins : List (Addr × Obj)} {σ : St} {H : Hp} {s : Shared} {E : Value → Shared → Prop}
theorem Inv.wish (I : Inv X pins σ H s) (E : Value → Shared → Prop) : Inv (X.wish E) pins σ H s := ⟨I.ok.wish E,I.os,I.bare,I.base,I.loc,I.cell,I.free,I.freeC,I.pin,I.hok,I.len⟩
theorem Inv.unwish (I : Inv (X.wish E) pins σ H s) : Inv X pins σ H s := ⟨I.ok.unwish,I.os,I.bare,I.base,I.loc,I.cell,I.free,I.freeC,I.pin,I.hok,I.len⟩
theorem SP.unwish {D : Ends} {f : Flow} {s' : Shared} (h : SP (X.wish E) pins D f s') : SP X pins D f s' := by
 cases f with
 | next => obtain ⟨σ',H',I,q⟩ := h; exact ⟨σ',H',I.unwish,q⟩
 | brk => obtain ⟨σ',H',I,q⟩ := h; exact ⟨σ',H',I.unwish,q⟩
 | cont => obtain ⟨σ',H',I,q⟩ := h; exact ⟨σ',H',I.unwish,q⟩
 | ret u => obtain ⟨v,σ',H',I,r,q⟩ := h; exact ⟨v,σ',H',I.unwish,r,q⟩
theorem PE.nox {e : Expr} {t : TE} (h : PE X.nox e t) : PE X e t := fun pins s σ H Q I hw =>
 wpAny_mono (h pins s σ H Q (I.wish _) hw) (fun _ _ ⟨v,H',I',r,q⟩ => ⟨v,H',I'.unwish,r,q⟩) fun _ _ z => False.elim z
theorem PT.nox {e : Expr} {t : TT} (h : PT X.nox e t) : PT X e t := fun pins s σ H Q I hw =>
 wpAny_mono (h pins s σ H Q (I.wish _) hw) (fun _ _ ⟨H',I',q⟩ => ⟨H',I'.unwish,q⟩) fun _ _ z => False.elim z
theorem PSs.nox {st : List Stmt} {t : TS} (h : PSs X.nox st t) : PSs X st t := fun pins s σ H D I hw =>
 wpAny_mono (h pins s σ H D (I.wish _) hw) (fun _ _ q => q.unwish) fun _ _ z => False.elim z
end
section
variable {X : Cx} {st : Stmt} {rest : List Stmt} {t u : TS} {e : Expr} {te : TE} {pos : Pos}
def tNext : TS := fun D σ H => D.nx σ H
def tSeq (t u : TS) : TS := fun D σ H => t { D with nx := u D } σ H
theorem pss_nil : PSs X [] tNext := fun _ _ σ H _ I h => wpAny_execs_nil ⟨σ,H,I,h⟩
theorem pss_cons (h1 : PS X st t) (h2 : PSs X rest u) : PSs X (st :: rest) (tSeq t u) := by
 intro pins s σ H D I h
 refine wpAny_execs_cons (thn (h1 pins s σ H { D with nx := u D } I h) fun f s1 q => ?_)
 cases f with
 | next =>
  obtain ⟨σ',H',I',q⟩ := q
  exact h2 pins s1 σ' H' D I' q
 | ret v => exact q
 | brk => exact q
 | cont => exact q
theorem pss_one (h1 : PS X st t) : PSs X [st] t := by
 intro pins s σ H D I h
 refine wpAny_execs_cons (thn (h1 pins s σ H D I h) fun f s1 q => ?_)
 cases f with
 | next => exact wpAny_execs_nil q
 | ret v => exact q
 | brk => exact q
 | cont => exact q
theorem Inv.quiet {pins : List (Addr × Obj)} {σ : St} {H : Hp} {s : Shared} (I : Inv X pins σ H s) : interactive X.env = false := by simp [interactive,I.ok.kind]
def tDrop (te : TE) : TS := fun D σ H => te σ H fun _ H1 => D.nx σ H1
theorem ps_expr (he : PE X e te) (hs : swapsWith e none pos.line X.env = pure false := by rfl) : PS X (.Expr e pos) (tDrop te) := by
 intro pins s σ H D I h
 exact wpAny_Expr_any (thn (he pins s σ H _ I h) fun v s1 ⟨x,H1,I1,r1,q1⟩ => ⟨σ,H1,I1,q1⟩) I.quiet hs
def tRet (te : TE) : TS := fun D σ H => te σ H D.rt
theorem ps_ret (he : PE X e te) : PS X (.Return (some e) pos) (tRet te) := by
 intro pins s σ H D I h
 exact wpAny_Return_some (thn (he pins s σ H _ I h) fun v s1 ⟨x,H1,I1,r1,q1⟩ => ⟨x,σ,H1,I1,r1,q1⟩)
def tIfS (c : TT) (t u : TS) : TS := fun D σ H => c σ H fun b H1 => if b = true then t D σ H1 else u D σ H1
theorem ps_if {c : Expr} {a b : List Stmt} {tc : TT} (hc : PT X c tc) (ha : PSs X a t) (hb : PSs X b u) : PS X (.If c a b pos) (tIfS tc t u) := by
 intro pins s σ H D I h
 refine wpAny_If (thn (hc pins s σ H _ I h) fun d s1 ⟨H1,I1,q1⟩ => ?_)
 cases d with
 | true => exact ha pins s1 σ H1 D I1 q1
 | false => exact hb pins s1 σ H1 D I1 q1
def tNever : TS := fun _ _ _ => False
theorem ps_never : PS X st tNever := fun _ _ _ _ _ _ h => h.elim
end
abbrev TG := V → St → Hp → (St → Hp → Prop) → Prop
abbrev TGs := List V → St → Hp → (St → Hp → Prop) → Prop
def PG (X : Cx) (target : Expr) (t : TG) : Prop :=
 ∀ (pins : List (Addr × Obj)) (s : Shared) (σ : St) (H : Hp) (v : V) (u : Value) (Q : St → Hp → Prop),Inv X pins σ H s → RelV v u → t v σ H Q →
  wpAny (model X.prog X.w) X.A (assign target X.env u) (fun _ s' => ∃ σ' H',Inv X pins σ' H' s' ∧ Q σ' H') X.xe s
def PGs (X : Cx) (ts : List Expr) (t : TGs) : Prop :=
 ∀ (pins : List (Addr × Obj)) (s : Shared) (σ : St) (H : Hp) (vs : List V) (us : List Value) (Q : St → Hp → Prop),Inv X pins σ H s → Vals vs us → t vs σ H Q →
  wpAny (model X.prog X.w) X.A (assignInOrder ((assignEach ts X.env).map (·.2)) us) (fun _ s' => ∃ σ' H',Inv X pins σ' H' s' ∧ Q σ' H') X.xe s
section
variable {X : Cx} {pos : Pos}
def gName (i : Nat) : TG := fun v σ H Q => Q (σ.set i (some v)) H
theorem pg_name {i : Nat} {x : Str} (hN : X.N.Nodup) (hi : X.N[i]? = some x) (hx : Loc X.env.scope x) (hf : X.fn x = true ∨ X.env.scope.names.lookup x = some .local := by first | exact .inl rfl | exact .inr rfl | assumption) : PG X (.Name x pos) (gName i) := by
 intro pins s σ H v u Q I r h
 exact wpAny_assign_Name (store_ok I hN hi hx r (fun s' I' => ⟨_,H,I',h⟩) hf)
def gNil : TGs := fun vs σ H Q => vs = [] ∧ Q σ H
def gCons (t : TG) (u : TGs) : TGs := fun vs σ H Q => ∃ v r,vs = v :: r ∧ t v σ H fun σ' H' => u r σ' H' Q
theorem pgs_nil : PGs X [] gNil := by
 intro pins s σ H vs us Q I r h
 obtain ⟨e,h⟩ := h
 subst e
 cases r
 exact assignInOrder_nil ⟨σ,H,I,h⟩
theorem pgs_cons {e : Expr} {es : List Expr} {t : TG} {u : TGs} (h1 : PG X e t) (h2 : PGs X es u)
  (hs : (assignEach (e :: es) X.env).map (·.2) = assign e X.env :: (assignEach es X.env).map (·.2) := by rfl) : PGs X (e :: es) (gCons t u) := by
 intro pins s σ H vs us Q I r h
 obtain ⟨v,vr,e1,h⟩ := h
 subst e1
 cases r with
 | cons r rr =>
  rw [hs]
  refine assignInOrder_cons (thn (h1 pins s σ H _ _ _ I r h) fun _ s1 ⟨σ1,H1,I1,q1⟩ => ?_)
  exact h2 pins s1 σ1 H1 _ _ Q I1 rr q1
def gTup (K : PySem.W.Frag) (n : Nat) (t : TGs) : TG := fun v σ H Q => ∃ a xs,v = .ref a ∧ SqT K H a xs ∧ xs.length = n ∧ t xs σ H Q
theorem pg_tup {es : List Expr} {k : Nat} {t : TGs} {n : Nat} (hc : X.calm = true) (h : PGs X es t)
  (hn : (assignEach es X.env).length = n := by rfl) (hst : (assignEach es X.env).findIdx? (·.1) = none := by rfl) : PG X (.Tuple es k pos) (gTup X.K n t) := by
 intro pins s σ H v u Q I r hw
 obtain ⟨a,xs,e1,hq,hl,hw⟩ := hw
 subst e1
 cases r
 obtain ⟨its,rv,ht,hz⟩ := I.tuple hq
 refine assign_Tuple_tuple (I.ok.hd hc) ht (by simp [hn,← hl,rv.length]) hst fun h' hx => ?_
 have I1 : Inv X pins σ H { s with heap := h' } := I.kept (t' := s.toks) fun b o e => hx b o (Nat.ne_of_lt (Heap.lt_size e)) e
 exact h pins _ σ H xs _ Q I1 (by simpa using rv) hw
def tAsg (te : TE) (g : TG) : TS := fun D σ H => te σ H fun x H1 => g x σ H1 D.nx
theorem ps_set {i : Nat} {x : Str} {e : Expr} {te : TE} {pos' : Pos} (hN : X.N.Nodup) (hi : X.N[i]? = some x) (hx : Loc X.env.scope x) (he : PE X e te) (hs : swapsWith e (some (.Name x pos')) pos.line X.env = pure false := by rfl) (hf : X.fn x = true ∨ X.env.scope.names.lookup x = some .local := by first | exact .inl rfl | exact .inr rfl | assumption) :
  PS X (.Assign [.Name x pos'] e pos) (tAsg te (gName i)) := by
 intro pins s σ H D I h
 refine wpAny_Assign_Name (thn (he pins s σ H _ I h) fun v s1 ⟨y,H1,I1,r1,q1⟩ => ?_) hs
 exact store_ok I1 hN hi hx r1 (fun s2 I2 => ⟨_,H1,I2,q1⟩) hf
end
section
variable {X : Cx} {pos : Pos}
end
structure It where
 go : Nat → Hp → Prop
 yld : Nat → Hp → V → Hp → Prop
 stop : Nat → Hp → Prop
def FpOk (X : Cx) (pins : List (Addr × Obj)) (H : Hp) (b : Addr) : Prop :=
 H b = none ∧ b ≠ X.env.locals ∧ b ∉ X.fs ∧ (b ∈ X.ex ∨ X.s₀.heap.objs.size ≤ b) ∧ (∀ x c,X.env.cells.lookup x = some c → c ≠ b) ∧ ∀ p ∈ X.pn ++ pins,p.1 ≠ b
theorem Inv.fpOk {X : Cx} {pins : List (Addr × Obj)} {σ : St} {H H' : Hp} {s : Shared} {b : Addr} (I : Inv X pins σ H s) (hb : s.heap.objs.size ≤ b) (hn : H' b = none) : FpOk X pins H' b := by
 refine ⟨hn,Nat.ne_of_gt (Nat.lt_of_lt_of_le I.lt hb),I.nofs hb,.inr (Nat.le_trans I.sz hb),fun x c e z => ?_,fun p hp z => ?_⟩
 ·obtain ⟨v,q⟩ := I.cell x c e
  exact absurd (Nat.lt_of_lt_of_le q.lt (by rw [z]; exact hb)) (Nat.lt_irrefl _)
 ·exact absurd (Nat.lt_of_lt_of_le (Heap.lt_size (I.pin p hp).1) (by rw [z]; exact hb)) (Nat.lt_irrefl _)
structure Turn (P : Program) (w : World) (K : PySem.W.Frag) (tg : Expr) (J : It) (fp : List Addr) (it : Addr) (tn : Nat → Heap → Prop) : Prop where
 mem : it ∈ fp
 obj : ∀ i h,tn i h → ∀ b ∈ fp,∃ o,h.get? b = some o ∧ ∀ v,o.data ≠ .cell v
 keep : ∀ i h h',tn i h → (∀ b ∈ fp,∀ o,h.get? b = some o → h'.get? b = some o) → tn i h'
 item : ∀ (X : Cx),X.prog = P → X.w = w → X.K = K → X.calm = true → ∀ (i : Nat) (pins : List (Addr × Obj)) (s : Shared) (σ : St) (H : Hp) (E : Value → Shared → Prop),Inv X pins σ H s → (∀ b ∈ fp,FpOk X pins H b) → tn i s.heap → J.go i H →
  wpAny (model P w) X.A (pyNext (.ref it)) (fun r s1 => ∃ u,r = some u ∧
   wpAny (model P w) X.A (letOwnedTupleGo tg (.ref it) u) (fun _ s2 => ∃ x H',Inv X pins σ H' s2 ∧ RelV x u ∧ J.yld i H x H' ∧ tn (i + 1) s2.heap ∧ ∀ b ∈ fp,H' b = none) E s1) E s
 done : ∀ (X : Cx),X.prog = P → X.w = w → X.K = K → X.calm = true → ∀ (i : Nat) (pins : List (Addr × Obj)) (s : Shared) (σ : St) (H : Hp) (E : Value → Shared → Prop),Inv X pins σ H s → (∀ b ∈ fp,FpOk X pins H b) → tn i s.heap → J.stop i H →
  wpAny (model P w) X.A (pyNext (.ref it)) (fun r s1 => r = none ∧ Inv X pins σ H s1) E s
 self : ∀ (A : Around) (i : Nat) (s : Shared) (Q : Value → Shared → Prop) (E : Value → Shared → Prop),tn i s.heap → Q (.ref it) s → wpAny (model P w) A (pyIter (.ref it)) Q E s
abbrev TI := St → Hp → (It → Hp → Prop) → Prop
def PIE (X : Cx) (pins : List (Addr × Obj)) (σ : St) (tg : Expr) (R : It → Hp → Prop) (itv : Value) (s2 : Shared) : Prop :=
 ∃ (it : Addr) (fp : List Addr) (tn : Nat → Heap → Prop) (J : It) (H' : Hp),itv = .ref it ∧ Inv X pins σ H' s2 ∧ Turn X.prog X.w X.K tg J fp it tn ∧ tn 0 s2.heap ∧ (∀ b ∈ fp,FpOk X pins H' b) ∧ R J H'
def PI (X : Cx) (tg iter : Expr) (wi : TI) : Prop :=
 ∀ (pins : List (Addr × Obj)) (s : Shared) (σ : St) (H : Hp) (R : It → Hp → Prop),Inv X pins σ H s → wi σ H R →
  wpAny (model X.prog X.w) X.A (eval iter X.env) (fun v s1 => wpAny (model X.prog X.w) X.A (pyIter v) (PIE X pins σ tg R) X.xe s1) X.xe s
theorem go_of {M : Model} {A : Around} {E : Value → Shared → Prop} {s : Shared} {tg : Expr} {it : Addr} {u : Value} {o : Obj} {n : String} {vs : Array Value} {Q : Unit → Shared → Prop} (ho : s.heap.get? it = some o) (hc : o.cls = .type n) (hd : o.data = .fields vs)
  (hn : ["enumerate","zip","dict_itemiterator","dict_reverseitemiterator","odict_iterator","itertools.zip_longest","itertools.pairwise"].contains n = false) (hQ : Q () s) : wpAny M A (letOwnedTupleGo tg (.ref it) u) Q E s := by
 unfold letOwnedTupleGo
 cases tg <;> first
  | exact wpAny_pure hQ
  | (cases u <;> first
    | exact wpAny_pure hQ
    | (refine wpAny_bind (wpAny_load ho ?_)
       rw [hc,hd]
       show wpAny M A (if (["enumerate","zip","dict_itemiterator","dict_reverseitemiterator","odict_iterator","itertools.zip_longest","itertools.pairwise"].contains n && vs[0]? == some (rawInt _)) = true then _ else _) Q E s
       rw [if_neg (by intro h; rw [hn,Bool.false_and] at h; cases h)]
       exact wpAny_pure hQ))
def Itl (K : PySem.W.Frag) (a : Addr) : It :=
 ⟨fun i H => ∃ xs x,SqL K H a xs ∧ xs[i]? = some x,fun i H x H' => H' = H ∧ ∀ xs,SqL K H a xs → xs[i]? = some x,fun i H => ∃ xs,SqL K H a xs ∧ xs.length ≤ i⟩
def Itt (K : PySem.W.Frag) (a : Addr) : It :=
 ⟨fun i H => ∃ xs x,SqT K H a xs ∧ xs[i]? = some x,fun i H x H' => H' = H ∧ ∀ xs,SqT K H a xs → xs[i]? = some x,fun i H => ∃ xs,SqT K H a xs ∧ xs.length ≤ i⟩
def Itr (lo : Int) (n : Nat) : It := ⟨fun i _ => i < n,fun i H x H' => H' = H ∧ x = .int (lo + i),fun i _ => n ≤ i⟩
theorem turn_list {P : Program} {w : World} {K : PySem.W.Frag} {tg : Expr} (a it : Addr) : Turn P w K tg (Itl K a) [it] it (fun i h => h.IsListIter it a i) where
 mem := by simp
 obj := fun i h st b hb => by
  have e : b = it := by simpa using hb
  subst e
  obtain ⟨o,e,c,d⟩ := st
  exact ⟨o,e,fun v z => by rw [d] at z; cases z⟩
 keep := fun i h h' st k => st.at fun o e => k it (by simp) o e
 item := by
  intro X hP hw hK hc i pins s σ H E I hf st hg
  subst hP hw hK
  obtain ⟨xs,x,hq,hx⟩ := hg
  obtain ⟨its,rv,p,hz⟩ := I.list hq
  obtain ⟨u,hu,ru⟩ := rv.get hx
  obtain ⟨f0,f1,f2,f3,f4,f5⟩ := hf it (by simp)
  refine wpAny_pyNext_list_item st p.isList (x := u) (by simpa using hu) fun h' st' sb => ?_
  have I1 : Inv X pins σ H { s with heap := h' } := I.turned (t' := s.toks) (fun b o hb e => (sb.2 b hb).trans e) f0 f1 f3 f4 f5
  obtain ⟨o,e,c,d⟩ := id st'
  exact ⟨u,rfl,go_of (s := { s with heap := h' }) e c d (by decide) ⟨x,H,I1,ru,⟨rfl,fun ys hy => by rw [I.list_inj hy hq]; exact hx⟩,st',fun b hb => (hf b hb).1⟩⟩
 done := by
  intro X hP hw hK hc i pins s σ H E I hf st hg
  subst hP hw hK
  obtain ⟨xs,hq,hx⟩ := hg
  obtain ⟨its,rv,p,hz⟩ := I.list hq
  obtain ⟨f0,f1,f2,f3,f4,f5⟩ := hf it (by simp)
  have hl := rv.length
  exact wpAny_pyNext_list_end (I.ok.hd hc) st p.isList (by simp; omega) fun h' eb => ⟨rfl,I.turned (t' := s.toks) (fun b o hb e => eb b o hb e) f0 f1 f3 f4 f5⟩
 self := fun _ _ _ _ _ st h => wpAny_pyIter_listiter st h
theorem turn_tuple {P : Program} {w : World} {K : PySem.W.Frag} {tg : Expr} (a it : Addr) : Turn P w K tg (Itt K a) [it] it (fun i h => h.IsTupleIter it a i) where
 mem := by simp
 obj := fun i h st b hb => by
  have e : b = it := by simpa using hb
  subst e
  obtain ⟨o,e,c,d⟩ := st
  exact ⟨o,e,fun v z => by rw [d] at z; cases z⟩
 keep := fun i h h' st k => st.at fun o e => k it (by simp) o e
 item := by
  intro X hP hw hK hc i pins s σ H E I hf st hg
  subst hP hw hK
  obtain ⟨xs,x,hq,hx⟩ := hg
  obtain ⟨its,rv,p,hz⟩ := I.tuple hq
  obtain ⟨u,hu,ru⟩ := rv.get hx
  obtain ⟨f0,f1,f2,f3,f4,f5⟩ := hf it (by simp)
  refine wpAny_pyNext_tuple_item st (show s.heap.IsTuple a its.toArray from p) (x := u) (by simpa using hu) fun h' st' sb => ?_
  have I1 : Inv X pins σ H { s with heap := h' } := I.turned (t' := s.toks) (fun b o hb e => (sb.2 b hb).trans e) f0 f1 f3 f4 f5
  obtain ⟨o,e,c,d⟩ := id st'
  exact ⟨u,rfl,go_of (s := { s with heap := h' }) e c d (by decide) ⟨x,H,I1,ru,⟨rfl,fun ys hy => by rw [I.tuple_inj hy hq]; exact hx⟩,st',fun b hb => (hf b hb).1⟩⟩
 done := by
  intro X hP hw hK hc i pins s σ H E I hf st hg
  subst hP hw hK
  obtain ⟨xs,hq,hx⟩ := hg
  obtain ⟨its,rv,p,hz⟩ := I.tuple hq
  obtain ⟨f0,f1,f2,f3,f4,f5⟩ := hf it (by simp)
  have hl := rv.length
  exact wpAny_pyNext_tuple_end (I.ok.hd hc) st (show s.heap.IsTuple a its.toArray from p) (by simp; omega) fun h' eb => ⟨rfl,I.turned (t' := s.toks) (fun b o hb e => eb b o hb e) f0 f1 f3 f4 f5⟩
 self := fun _ _ _ _ _ st h => wpAny_pyIter_tupleiter st h
theorem turn_range {P : Program} {w : World} {K : PySem.W.Frag} {tg : Expr} (it : Addr) (lo : Int) (n : Nat) : Turn P w K tg (Itr lo n) [it] it (fun i h => IsRangeIter h it (lo + (i : Nat) * 1) ((n : Int) - (i : Nat)) 1) where
 mem := by simp
 obj := fun i h st b hb => by
  have e : b = it := by simpa using hb
  subst e
  exact ⟨_,st,fun v z => by
   have z' : Data.fields _ = Data.cell v := z
   cases z'⟩
 keep := fun i h h' st k => k it (by simp) _ st
 item := by
  intro X hP hw hK hc i pins s σ H E I hf st hg
  subst hP hw hK
  obtain ⟨f0,f1,f2,f3,f4,f5⟩ := hf it (by simp)
  have W := Walks.range (prog := X.prog) (w := X.w) (I.ok.hd hc) it lo 1 n
  refine W.item i s _ _ hg st fun v h' tk hv st' kk => ?_
  obtain ⟨t,rfl⟩ := hv
  have I1 : Inv X pins σ H { s with heap := h',toks := tk } := I.turned (fun b o hb e => kk b o (by simpa using hb) e) f0 f1 f3 f4 f5
  refine ⟨_,rfl,go_of (s := { s with heap := h',toks := tk }) (n := "range_iterator") st' rfl rfl (by decide) ⟨.int (lo + i),H,I1,⟨t,?_⟩,⟨rfl,rfl⟩,st',fun b hb => (hf b hb).1⟩⟩
  rw [Int.mul_one]
 done := by
  intro X hP hw hK hc i pins s σ H E I hf st hg
  subst hP hw hK
  obtain ⟨f0,f1,f2,f3,f4,f5⟩ := hf it (by simp)
  exact wpAny_pyNext_range_end (I.ok.hd hc) st (by have : n ≤ i := hg; omega) fun h' eb => ⟨rfl,I.turned (t' := s.toks) (fun b o hb e => eb b o hb e) f0 f1 f3 f4 f5⟩
 self := fun _ _ _ _ _ st h => wpAny_pyIter_rangeiter st h
end L2
namespace L2
open PySem PySem.Spec PyProof.Rows
section
variable {X : Cx} {tg : Expr}
def iList (K : PySem.W.Frag) (tl : TE) : TI := fun σ H R => tl σ H fun x H1 => ∃ a,x = .ref a ∧ (∃ xs,SqL K H1 a xs) ∧ R (Itl K a) H1
def iTup (K : PySem.W.Frag) (tl : TE) : TI := fun σ H R => tl σ H fun x H1 => ∃ a,x = .ref a ∧ (∃ xs,SqT K H1 a xs) ∧ R (Itt K a) H1
theorem pi_list {l : Expr} {tl : TE} (hl : PE X l tl) : PI X tg l (iList X.K tl) := by
 intro pins s σ H R I h
 refine thn (hl pins s σ H _ I h) fun v s1 ⟨x,H1,I1,r1,q1⟩ => ?_
 obtain ⟨a,e,⟨xs,hq⟩,q⟩ := q1
 subst e
 cases r1
 obtain ⟨its,rv,p,hz⟩ := I1.list hq
 refine wpAny_pyIter_list p.isList ?_
 refine ⟨s1.heap.objs.size,[s1.heap.objs.size],_,_,H1,rfl,I1.kept (t' := s1.toks) fun b o e => Heap.get?_push_of_some _ e,turn_list a _,⟨_,Heap.get?_push_size _ rfl,rfl,rfl⟩,fun b hb => ?_,q⟩
 have e : b = s1.heap.objs.size := by simpa using hb
 subst e
 exact I1.fpOk (Nat.le_refl _) (I1.hok.fresh (Nat.le_refl _))
theorem pi_tup {l : Expr} {tl : TE} (hl : PE X l tl) : PI X tg l (iTup X.K tl) := by
 intro pins s σ H R I h
 refine thn (hl pins s σ H _ I h) fun v s1 ⟨x,H1,I1,r1,q1⟩ => ?_
 obtain ⟨a,e,⟨xs,hq⟩,q⟩ := q1
 subst e
 cases r1
 obtain ⟨its,rv,p,hz⟩ := I1.tuple hq
 refine wpAny_pyIter_tuple (show s1.heap.IsTuple a its.toArray from p) ?_
 refine ⟨s1.heap.objs.size,[s1.heap.objs.size],_,_,H1,rfl,I1.kept (t' := s1.toks) fun b o e => Heap.get?_push_of_some _ e,turn_tuple a _,⟨_,Heap.get?_push_size _ rfl,rfl,rfl⟩,fun b hb => ?_,q⟩
 have e : b = s1.heap.objs.size := by simpa using hb
 subst e
 exact I1.fpOk (Nat.le_refl _) (I1.hok.fresh (Nat.le_refl _))
theorem range_it {pins : List (Addr × Obj)} {σ : St} {H : Hp} {s : Shared} {R : It → Hp → Prop} {E : Value → Shared → Prop} {lo hi : Int} {t u v : Tok} {tk : Nat} (I : Inv X pins σ H s) (h1 : -(2 ^ 62) ≤ lo) (h2 : lo < 2 ^ 62) (h3 : -(2 ^ 62) ≤ hi) (h4 : hi < 2 ^ 62)
  (q : R (Itr lo (hi - lo).toNat) H) : wpAny (model X.prog X.w) X.A (pyIter (.ref s.heap.objs.size)) (PIE X pins σ tg R) E { s with heap := s.heap.push { cls := .type "range",data := .fields #[.int lo t,.int hi u,.int 1 v] },toks := tk } := by
 refine wpAny_pyIter_range (IsRange.new ..) (small_one h1 h2 h3 h4) ?_
 have I1 : Inv X pins σ H { s with heap := s.heap.push { cls := .type "range",data := .fields #[.int lo t,.int hi u,.int 1 v] },toks := tk } := I.kept fun b o e => Heap.get?_push_of_some _ e
 refine ⟨(s.heap.push { cls := .type "range",data := .fields #[.int lo t,.int hi u,.int 1 v] }).objs.size,[(s.heap.push { cls := .type "range",data := .fields #[.int lo t,.int hi u,.int 1 v] }).objs.size],_,_,H,rfl,
  I1.kept (t' := tk) fun b o e => Heap.get?_push_of_some _ e,turn_range _ lo (hi - lo).toNat,?_,fun b hb => ?_,q⟩
 ·have e1 : lo + ((0 : Nat) : Int) * 1 = lo := by simp
  have e2 : (((hi - lo).toNat : Nat) : Int) - ((0 : Nat) : Int) = Builtin.Range.rangeSize lo hi 1 := by rw [rangeSize_one]; split <;> omega
  show IsRangeIter _ _ (lo + ((0 : Nat) : Int) * 1) ((((hi - lo).toNat : Nat) : Int) - ((0 : Nat) : Int)) 1
  rw [e1,e2]
  exact Heap.get?_push_size _ rfl
 ·have e : b = (s.heap.push { cls := .type "range",data := .fields #[.int lo t,.int hi u,.int 1 v] }).objs.size := by simpa using hb
  subst e
  exact I1.fpOk (Nat.le_refl _) (I1.hok.fresh (Nat.le_refl _))
def iRng1 (ta : TA) : TI := fun σ H R => ta σ H fun vs H1 => ∃ j : Int,vs = [.int j] ∧ -(2 ^ 62) ≤ j ∧ j < 2 ^ 62 ∧ R (Itr 0 j.toNat) H1
theorem pi_range1 {a : Expr} {ta : TA} {p pos : Pos} (hg : Gl X "range") (hm : X.mg "range" = none) (ha : PA X [a] ta) (hs : starEach [a] X.env = [(false,eval a X.env)] := by rfl) : PI X tg (.Call (.Name "range" p) [a] [] pos) (iRng1 ta) := by
 intro pins s σ H R I h
 refine Call_ (ld_blt I hg hm boot_range (PyProof.Rows.callWith_type1 (thn (ha pos pins s σ H _ I h) fun us s1 ⟨vs,H1,I1,r1,q1⟩ => ?_) hs rfl))
 obtain ⟨j,e,q1,q2,q⟩ := q1
 subst e
 cases r1 with
 | cons r rr =>
  cases rr
  obtain ⟨t,rfl⟩ := r
  exact call_range_1 (range_it I1 (by omega) (by omega) q1 q2 (by simpa using q))
def tFor (wi : TI) (g : TG) (tb : TS) : TS := fun D σ H => wi σ H fun J H1 => ∃ W : Nat → Nat → St → Hp → Prop,(∃ m,W 0 m σ H1) ∧ ∀ i m σ H,W i m σ H →
 (J.stop i H ∧ D.nx σ H) ∨ (J.go i H ∧ ∃ N : St → Hp → Prop,(∀ σ' H',N σ' H' → ∃ m',m' < m ∧ W (i + 1) m' σ' H') ∧ ∀ x H',J.yld i H x H' → g x σ H' fun σ2 H2 => tb { D with nx := N,ct := N,bk := D.nx } σ2 H2)
def pinsAt (fp : List Addr) (h : Heap) : List (Addr × Obj) := fp.filterMap fun b => (h.get? b).map fun o => (b,o)
theorem mem_pinsAt {fp : List Addr} {h : Heap} {b : Addr} {o : Obj} (hb : b ∈ fp) (e : h.get? b = some o) : (b,o) ∈ pinsAt fp h := List.mem_filterMap.mpr ⟨b,hb,by rw [e]; rfl⟩
theorem of_pinsAt {fp : List Addr} {h : Heap} {p : Addr × Obj} (hp : p ∈ pinsAt fp h) : p.1 ∈ fp ∧ h.get? p.1 = some p.2 := by
 obtain ⟨b,hb,e⟩ := List.mem_filterMap.mp hp
 cases q : h.get? b with
 | none => rw [q] at e; cases e
 | some o =>
  rw [q] at e
  have e' : (b,o) = p := Option.some.inj e
  subst e'
  exact ⟨hb,q⟩
theorem Inv.pinned {pins : List (Addr × Obj)} {σ : St} {H : Hp} {s : Shared} {fp : List Addr} (I : Inv X pins σ H s) (hf : ∀ b ∈ fp,FpOk X pins H b) (ho : ∀ b ∈ fp,∃ o,s.heap.get? b = some o ∧ ∀ v,o.data ≠ .cell v) : Inv X (pins ++ pinsAt fp s.heap) σ H s :=
 I.pins_of fun p hp => (List.mem_append.mp hp).elim (fun z => I.pin p (List.mem_append_right _ z)) fun z => by
  obtain ⟨hb,e⟩ := of_pinsAt z
  obtain ⟨f0,f1,f2,_⟩ := hf p.1 hb
  obtain ⟨o,e',d⟩ := ho p.1 hb
  rw [e] at e'; cases e'
  exact ⟨e,f0,f1,f2,d⟩
theorem Inv.unpinned {pins pl : List (Addr × Obj)} {σ : St} {H : Hp} {s : Shared} (I : Inv X (pins ++ pl) σ H s) : Inv X pins σ H s := I.pins_of fun p hp => I.pin p (List.mem_append_right _ (List.mem_append_left _ hp))
theorem ps_for {iter : Expr} {body : List Stmt} {wi : TI} {g : TG} {tb : TS} {pos : Pos} (hp : PassesOwn (model X.prog X.w) X.A X.env X.xe) (hc : X.calm = true) (hi : PI X tg iter wi) (hg : PG X tg g) (hb : PSs X body tb)
  (hs : ∀ x,foldedSetIterable iter X.env x = pure x := by intro _; rfl) : PS X (.For tg iter body [] pos) (tFor wi g tb) := by
 intro pins s σ H D I h
 refine wpAny_For (thn (hi pins s σ H _ I h) fun v s1 h1 => thn h1 fun itv s2 h2 => ?_) hs
 obtain ⟨it,fp,tn,J,H2,e,I2,T,st2,f2,W,⟨m0,w0⟩,turn⟩ := h2
 subst e
 have stat : ∀ {H' : Hp},(∀ b ∈ fp,H' b = none) → ∀ b ∈ fp,FpOk X pins H' b := fun hn b hb => ⟨hn b hb,(f2 b hb).2⟩
 refine codeAny_forLoop_any (fun n s' => ∃ i σ' H',Inv X pins σ' H' s' ∧ tn i s'.heap ∧ (∀ b ∈ fp,H' b = none) ∧ W i n σ' H') ?_ m0 ⟨0,σ,H2,I2,st2,fun b hb => (f2 b hb).1,w0⟩
 rintro n s3 ⟨i,σ3,H3,I3,st3,fr3,w3⟩
 rcases turn i n σ3 H3 w3 with ⟨stop,qn⟩ | ⟨go,N,hN,step⟩
 ·refine wpAny_passesOwn hp (thn (T.done X rfl rfl rfl hc i pins s3 σ3 H3 X.xe I3 (stat fr3) st3 stop) fun r s4 ⟨hr,I4⟩ => ?_)
  subst hr
  exact wpAny_execs_nil ⟨σ3,H3,I4,qn⟩
 ·refine wpAny_passesOwn hp (thn (T.item X rfl rfl rfl hc i pins s3 σ3 H3 X.xe I3 (stat fr3) st3 go) fun r s4 ⟨u,hr,h4⟩ => ?_)
  subst hr
  refine wpAny_passesOwn hp (thn h4 fun _ s5 ⟨x,H5,I5,r5,y5,st5,fr5⟩ => ?_)
  have I5' := I5.pinned (stat fr5) (T.obj _ _ st5)
  refine wpAny_passesOwn hp (thn (hg _ s5 σ3 H5 x u _ I5' r5 (step x H5 y5)) fun _ s6 ⟨σ6,H6,I6,q6⟩ => ?_)
  refine wpAny_passesOwn hp (thn (hb _ s6 σ6 H6 _ I6 q6) fun f s7 q7 => ?_)
  have again : ∀ {σ7 : St} {H7 : Hp},Inv X (pins ++ pinsAt fp s5.heap) σ7 H7 s7 → N σ7 H7 → ∃ m,m < n ∧ ∃ i σ' H',Inv X pins σ' H' s7 ∧ tn i s7.heap ∧ (∀ b ∈ fp,H' b = none) ∧ W i m σ' H' := fun {σ7 H7} I7 n7 => by
   obtain ⟨m',hm,w7⟩ := hN σ7 H7 n7
   refine ⟨m',hm,i + 1,σ7,H7,I7.unpinned,T.keep _ _ _ st5 fun b hb o e => (I7.pin (b,o) (List.mem_append_right _ (List.mem_append_right _ (mem_pinsAt hb e)))).1,fun b hb => ?_,w7⟩
   obtain ⟨o,e,d⟩ := T.obj _ _ st5 b hb
   exact (I7.pin (b,o) (List.mem_append_right _ (List.mem_append_right _ (mem_pinsAt hb e)))).2.1
  cases f with
  | next => obtain ⟨σ7,H7,I7,n7⟩ := q7; exact again I7 n7
  | cont => obtain ⟨σ7,H7,I7,n7⟩ := q7; exact again I7 n7
  | brk => obtain ⟨σ7,H7,I7,q7⟩ := q7; exact ⟨σ7,H7,I7.unpinned,q7⟩
  | ret v => obtain ⟨x7,σ7,H7,I7,r7,q7⟩ := q7; exact ⟨x7,σ7,H7,I7.unpinned,r7,q7⟩
end
theorem for_list {K : PySem.W.Frag} {a : Addr} {xs : List V} {g : TG} {tb : TS} {D : Ends} {σ : St} {H : Hp} (Pv : Nat → St → Hp → Prop) (h0 : Pv 0 σ H) (hl : ∀ i σ H,i ≤ xs.length → Pv i σ H → SqL K H a xs)
  (hs : ∀ i x σ H,xs[i]? = some x → Pv i σ H → g x σ H fun σ2 H2 => tb { D with nx := Pv (i + 1),ct := Pv (i + 1),bk := D.nx } σ2 H2) (hd : ∀ σ H,Pv xs.length σ H → D.nx σ H) :
  ∃ W : Nat → Nat → St → Hp → Prop,(∃ m,W 0 m σ H) ∧ ∀ i m σ H,W i m σ H →
   ((Itl K a).stop i H ∧ D.nx σ H) ∨ ((Itl K a).go i H ∧ ∃ N : St → Hp → Prop,(∀ σ' H',N σ' H' → ∃ m',m' < m ∧ W (i + 1) m' σ' H') ∧ ∀ x H',(Itl K a).yld i H x H' → g x σ H' fun σ2 H2 => tb { D with nx := N,ct := N,bk := D.nx } σ2 H2) := by
 refine ⟨fun i m σ H => m = xs.length - i ∧ i ≤ xs.length ∧ Pv i σ H,⟨xs.length,by simp,Nat.zero_le _,h0⟩,?_⟩
 rintro i m σ H ⟨rfl,hi,p⟩
 have q := hl i σ H hi p
 by_cases hlt : i < xs.length
 ·refine .inr ⟨⟨xs,xs[i],q,by simp [hlt]⟩,Pv (i + 1),fun σ' H' p' => ⟨xs.length - (i + 1),by omega,rfl,hlt,p'⟩,fun x H' y => ?_⟩
  obtain ⟨e,y⟩ := y
  subst e
  exact hs i x σ _ (y xs q) p
 ·have e : i = xs.length := by omega
  subst e
  exact .inl ⟨⟨xs,q,Nat.le_refl _⟩,hd σ H p⟩
theorem for_tup {K : PySem.W.Frag} {a : Addr} {xs : List V} {g : TG} {tb : TS} {D : Ends} {σ : St} {H : Hp} (Pv : Nat → St → Hp → Prop) (h0 : Pv 0 σ H) (hl : ∀ i σ H,i ≤ xs.length → Pv i σ H → SqT K H a xs)
  (hs : ∀ i x σ H,xs[i]? = some x → Pv i σ H → g x σ H fun σ2 H2 => tb { D with nx := Pv (i + 1),ct := Pv (i + 1),bk := D.nx } σ2 H2) (hd : ∀ σ H,Pv xs.length σ H → D.nx σ H) :
  ∃ W : Nat → Nat → St → Hp → Prop,(∃ m,W 0 m σ H) ∧ ∀ i m σ H,W i m σ H →
   ((Itt K a).stop i H ∧ D.nx σ H) ∨ ((Itt K a).go i H ∧ ∃ N : St → Hp → Prop,(∀ σ' H',N σ' H' → ∃ m',m' < m ∧ W (i + 1) m' σ' H') ∧ ∀ x H',(Itt K a).yld i H x H' → g x σ H' fun σ2 H2 => tb { D with nx := N,ct := N,bk := D.nx } σ2 H2) := by
 refine ⟨fun i m σ H => m = xs.length - i ∧ i ≤ xs.length ∧ Pv i σ H,⟨xs.length,by simp,Nat.zero_le _,h0⟩,?_⟩
 rintro i m σ H ⟨rfl,hi,p⟩
 have q := hl i σ H hi p
 by_cases hlt : i < xs.length
 ·refine .inr ⟨⟨xs,xs[i],q,by simp [hlt]⟩,Pv (i + 1),fun σ' H' p' => ⟨xs.length - (i + 1),by omega,rfl,hlt,p'⟩,fun x H' y => ?_⟩
  obtain ⟨e,y⟩ := y
  subst e
  exact hs i x σ _ (y xs q) p
 ·have e : i = xs.length := by omega
  subst e
  exact .inl ⟨⟨xs,q,Nat.le_refl _⟩,hd σ H p⟩
theorem for_range {lo : Int} {n : Nat} {g : TG} {tb : TS} {D : Ends} {σ : St} {H : Hp} (Pv : Nat → St → Hp → Prop) (h0 : Pv 0 σ H)
  (hs : ∀ i σ H,i < n → Pv i σ H → g (.int (lo + i)) σ H fun σ2 H2 => tb { D with nx := Pv (i + 1),ct := Pv (i + 1),bk := D.nx } σ2 H2) (hd : ∀ σ H,Pv n σ H → D.nx σ H) :
  ∃ W : Nat → Nat → St → Hp → Prop,(∃ m,W 0 m σ H) ∧ ∀ i m σ H,W i m σ H →
   ((Itr lo n).stop i H ∧ D.nx σ H) ∨ ((Itr lo n).go i H ∧ ∃ N : St → Hp → Prop,(∀ σ' H',N σ' H' → ∃ m',m' < m ∧ W (i + 1) m' σ' H') ∧ ∀ x H',(Itr lo n).yld i H x H' → g x σ H' fun σ2 H2 => tb { D with nx := N,ct := N,bk := D.nx } σ2 H2) := by
 refine ⟨fun i m σ H => m = n - i ∧ i ≤ n ∧ Pv i σ H,⟨n,by simp,Nat.zero_le _,h0⟩,?_⟩
 rintro i m σ H ⟨rfl,hi,p⟩
 by_cases hlt : i < n
 ·refine .inr ⟨hlt,Pv (i + 1),fun σ' H' p' => ⟨n - (i + 1),by omega,rfl,hlt,p'⟩,fun x H' y => ?_⟩
  obtain ⟨e,y⟩ := y
  subst e y
  exact hs i σ _ hlt p
 ·have e : i = n := by omega
  subst e
  exact .inl ⟨Nat.le_refl _,hd σ H p⟩
end L2
namespace L2
open PySem PySem.Spec PyProof.Rows
abbrev R2 := V → V → Hp → VK → Prop
def OpR (X : Cx) (f : Value → Value → Sem Value) (r : R2) : Prop :=
 ∀ (pins : List (Addr × Obj)) (s : Shared) (σ : St) (H : Hp) (x y : V) (v u : Value) (Q : VK),Inv X pins σ H s → RelV x v → RelV y u → r x y H Q →
  wpAny (model X.prog X.w) X.A (f v u) (EP X pins σ Q) X.xe s
def UnR (X : Cx) (f : Value → Sem Value) (r : V → Hp → VK → Prop) : Prop :=
 ∀ (pins : List (Addr × Obj)) (s : Shared) (σ : St) (H : Hp) (x : V) (v : Value) (Q : VK),Inv X pins σ H s → RelV x v → r x H Q →
  wpAny (model X.prog X.w) X.A (f v) (EP X pins σ Q) X.xe s
def CallR (X : Cx) (f : Value) (r : List V → Hp → VK → Prop) : Prop :=
 ∀ (pins : List (Addr × Obj)) (s : Shared) (σ : St) (H : Hp) (xs : List V) (us : List Value) (Q : VK),Inv X pins σ H s → Vals xs us → r xs H Q →
  wpAny (model X.prog X.w) X.A (call f us) (EP X pins σ Q) X.xe s
def tOp (r : R2) (ta tb : TE) : TE := fun σ H Q => ta σ H fun x H1 => tb σ H1 fun y H2 => r x y H2 Q
def tUn (r : V → Hp → VK → Prop) (ta : TE) : TE := fun σ H Q => ta σ H fun x H1 => r x H1 Q
def rI (C : Int → Int → Prop) (g : Int → Int → V) : R2 := fun x y H Q => ∃ i j,x = .int i ∧ y = .int j ∧ C i j ∧ Q (g i j) H
def rI0 (g : Int → Int → V) : R2 := fun x y H Q => ∃ i j,x = .int i ∧ y = .int j ∧ Q (g i j) H
def rU (g : Int → V) : V → Hp → VK → Prop := fun x H Q => ∃ i,x = .int i ∧ Q (g i) H
section
variable {X : Cx} {a b c : Expr} {ta tb tc : TE} {pos : Pos}
theorem binT (ha : PE X a ta) (hb : PE X b tb) {pins : List (Addr × Obj)} {s : Shared} {σ : St} {H : Hp} {R : V → V → Hp → Prop} (I : Inv X pins σ H s)
  (h : ta σ H fun x H1 => tb σ H1 fun y H2 => R x y H2) {Q : Value → Shared → Prop} {f : Value → Value → Sem Value}
  (hf : ∀ v u s2 x y H2,Inv X pins σ H2 s2 → RelV x v → RelV y u → R x y H2 → wpAny (model X.prog X.w) X.A (f v u) Q X.xe s2) :
  wpAny (model X.prog X.w) X.A (eval a X.env) (fun v s₁ => wpAny (model X.prog X.w) X.A (eval b X.env) (fun u s₂ => wpAny (model X.prog X.w) X.A (f v u) Q X.xe s₂) X.xe s₁) X.xe s := by
 refine thn (ha pins s σ H _ I h) fun v s1 ⟨x,H1,I1,r1,q1⟩ => ?_
 refine thn (hb pins s1 σ H1 _ I1 q1) fun u s2 ⟨y,H2,I2,r2,q2⟩ => ?_
 exact hf v u s2 x y H2 I2 r1 r2 q2
theorem pe_op {op : Operator} {r : R2} (ho : OpR X (binaryOp op) r) (ha : PE X a ta) (hb : PE X b tb) : PE X (.BinOp a op b pos) (tOp r ta tb) := by
 intro pins s σ H Q I h
 exact wpAny_BinOp (binT ha hb I h fun v u s2 x y H2 I2 rx ry q => ho pins s2 σ H2 x y v u Q I2 rx ry q)
theorem pe_un {op : UnaryOp} {r : V → Hp → VK → Prop} (ho : UnR X (unaryOp op) r) (ha : PE X a ta) : PE X (.UnaryOp op a pos) (tUn r ta) := by
 intro pins s σ H Q I h
 exact UnaryOp_ (thn (ha pins s σ H _ I h) fun v s1 ⟨x,H1,I1,r1,q1⟩ => ho pins s1 σ H1 x v Q I1 r1 q1)
theorem opI {f : Value → Value → Sem Value} {C : Int → Int → Prop} {g : Int → Int → Int}
  (rule : ∀ (i j : Int) (t u : Tok) (s : Shared) (Q : Value → Shared → Prop) (E : Value → Shared → Prop),C i j → Q (.int (g i j) s.toks) { s with toks := s.toks + 1 } → wpAny (model X.prog X.w) X.A (f (.int i t) (.int j u)) Q E s) :
  OpR X f (rI C fun i j => .int (g i j)) := by
 intro pins s σ H x y v u Q I rx ry h
 obtain ⟨i,j,rfl,rfl,hc,q⟩ := h
 obtain ⟨t,rfl⟩ := rx
 obtain ⟨t',rfl⟩ := ry
 exact rule i j t t' s _ _ hc ⟨.int (g i j),H,I.tok _,⟨_,rfl⟩,q⟩
theorem opI0 {f : Value → Value → Sem Value} {g : Int → Int → Int}
  (rule : ∀ (i j : Int) (t u : Tok) (s : Shared) (Q : Value → Shared → Prop) (E : Value → Shared → Prop),Q (.int (g i j) s.toks) { s with toks := s.toks + 1 } → wpAny (model X.prog X.w) X.A (f (.int i t) (.int j u)) Q E s) :
  OpR X f (rI0 fun i j => .int (g i j)) := by
 intro pins s σ H x y v u Q I rx ry h
 obtain ⟨i,j,rfl,rfl,q⟩ := h
 obtain ⟨t,rfl⟩ := rx
 obtain ⟨t',rfl⟩ := ry
 exact rule i j t t' s _ _ ⟨.int (g i j),H,I.tok _,⟨_,rfl⟩,q⟩
theorem opB0 {f : Value → Value → Sem Value} {g : Int → Int → Bool}
  (rule : ∀ (i j : Int) (t u : Tok) (s : Shared) (Q : Value → Shared → Prop) (E : Value → Shared → Prop),Q (.bool (g i j)) s → wpAny (model X.prog X.w) X.A (f (.int i t) (.int j u)) Q E s) :
  OpR X f (rI0 fun i j => .bl (g i j)) := by
 intro pins s σ H x y v u Q I rx ry h
 obtain ⟨i,j,rfl,rfl,q⟩ := h
 obtain ⟨t,rfl⟩ := rx
 obtain ⟨t',rfl⟩ := ry
 exact rule i j t t' s _ _ ⟨.bl (g i j),H,I,rfl,q⟩
def CPow (i j : Int) : Prop := 0 ≤ j ∧ j ≤ 1000000 ∧ i.natAbs < 2 ^ 64
def CMul (i j : Int) : Prop := (-(2 ^ 64) < i ∧ i < 2 ^ 64) ∨ (-(2 ^ 64) < j ∧ j < 2 ^ 64)
theorem CMul.ok {i j : Int} (h : CMul i j) : IntMulOk i j := by
 rcases h with ⟨h1,h2⟩ | ⟨h1,h2⟩
 ·exact .of_left (intBits_le_64 h1 h2)
 ·exact .of_right (intBits_le_64 h1 h2)
theorem op_add : OpR X (binaryOp .Add) (rI0 fun i j => .int (i + j)) := opI0 fun _ _ _ _ _ _ _ q => add_int q
theorem op_sub : OpR X (binaryOp .Sub) (rI0 fun i j => .int (i - j)) := opI0 fun _ _ _ _ _ _ _ q => sub_int q
theorem op_mul : OpR X (binaryOp .Mult) (rI CMul fun i j => .int (i * j)) := opI fun _ _ _ _ _ _ _ hc q => mul_int q hc.ok
theorem op_mod : OpR X (binaryOp .Mod) (rI (fun _ j => 0 < j) fun i j => .int (i % j)) := opI fun i j _ _ _ _ _ hc q => by
 have h1 : (0 : Int) < j := hc
 exact mod_int' (by omega) (by rw [Int.fmod_eq_emod_of_nonneg i (by omega)]; exact q)
theorem op_pow : OpR X (binaryOp .Pow) (rI CPow fun i j => .int (i ^ j.toNat)) := opI fun _ _ _ _ _ _ _ hc q => pow_int_small hc.1 hc.2.1 hc.2.2 q
theorem unI {f : Value → Sem Value} {g : Int → Int}
  (rule : ∀ (i : Int) (t : Tok) (s : Shared) (Q : Value → Shared → Prop) (E : Value → Shared → Prop),Q (.int (g i) s.toks) { s with toks := s.toks + 1 } → wpAny (model X.prog X.w) X.A (f (.int i t)) Q E s) :
  UnR X f (rU fun i => .int (g i)) := by
 intro pins s σ H x v Q I rx h
 obtain ⟨i,rfl,q⟩ := h
 obtain ⟨t,rfl⟩ := rx
 exact rule i t s _ _ ⟨.int (g i),H,I.tok _,⟨_,rfl⟩,q⟩
theorem un_neg : UnR X (unaryOp .USub) (rU fun i => .int (-i)) := unI fun _ _ _ _ _ q => neg_int q
end
def scal : V → V → Bool
 | .non,.non => true | .non,.int _ => true | .int _,.non => true | .non,.bl _ => true | .bl _,.non => true | .non,.str _ => true | .str _,.non => true
 | .int _,.int _ => true | .bl _,.bl _ => true | .str _,.str _ => true | .byt _,.byt _ => true
 | .int _,.str _ => true | .str _,.int _ => true | .bl _,.str _ => true | .str _,.bl _ => true
 | _,_ => false
def rEq : R2 := fun x y H Q => scal x y = true ∧ Q (.bl (decide (x = y))) H
def rNe : R2 := fun x y H Q => scal x y = true ∧ Q (.bl (!decide (x = y))) H
theorem dec_int {i j : Int} : decide (V.int i = V.int j) = (i == j) := by
 rw [Bool.eq_iff_iff]
 simp
theorem dec_bl {i j : Bool} : decide (V.bl i = V.bl j) = (i == j) := by
 rw [Bool.eq_iff_iff]
 simp
theorem dec_str {i j : Str} : decide (V.str i = V.str j) = (i == j) := by
 rw [Bool.eq_iff_iff]
 simp
theorem dec_byt {i j : Array UInt8} : decide (V.byt i = V.byt j) = (i.toList == j.toList) := by
 rw [Bool.eq_iff_iff]
 cases i
 cases j
 simp
section
variable {X : Cx} {a b c : Expr} {ta tb tc : TE} {pos : Pos}
theorem fin_bl {pins : List (Addr × Obj)} {σ : St} {H : Hp} {s : Shared} {Q : VK} {k k' : Bool} (I : Inv X pins σ H s) (q : Q (.bl k) H) (e : k = k') : EP X pins σ Q (.bool k') s := by
 subst e
 exact ⟨.bl k,H,I,rfl,q⟩
theorem op_eq : OpR X (compareOp .Eq) rEq := by
 intro pins s σ H x y v u Q I rx ry h
 obtain ⟨hs,q⟩ := h
 cases x with
 | non =>
  cases rx
  cases y with
  | non => cases ry; exact PySem.EqNone.eq_none_none (fin_bl I q (by simp))
  | bl j => cases ry; exact PySem.EqNone.eq_none_bool (fin_bl I q (by simp))
  | int j => obtain ⟨t',rfl⟩ := ry; exact PySem.EqNone.eq_none_int (fin_bl I q (by simp))
  | str j => obtain ⟨t',rfl⟩ := ry; exact PySem.EqNone.eq_none_str (fin_bl I q (by simp))
  | _ => exact absurd (show false = true from hs) Bool.false_ne_true
 | bl i =>
  cases rx
  cases y with
  | non => cases ry; exact PySem.EqNone.eq_bool_none (fin_bl I q (by simp))
  | bl j => cases ry; exact eq_bool (fin_bl I q dec_bl)
  | str j => obtain ⟨t',rfl⟩ := ry; exact PySem.EqMixed.eq_bool_str (fin_bl I q (by simp))
  | _ => exact absurd (show false = true from hs) Bool.false_ne_true
 | int i =>
  obtain ⟨t,rfl⟩ := rx
  cases y with
  | non => cases ry; exact PySem.EqNone.eq_int_none (fin_bl I q (by simp))
  | int j => obtain ⟨t',rfl⟩ := ry; exact eq_int (fin_bl I q dec_int)
  | str j => obtain ⟨t',rfl⟩ := ry; exact PySem.EqMixed.eq_int_str (fin_bl I q (by simp))
  | _ => exact absurd (show false = true from hs) Bool.false_ne_true
 | str i =>
  obtain ⟨t,rfl⟩ := rx
  cases y with
  | non => cases ry; exact PySem.EqNone.eq_str_none (fin_bl I q (by simp))
  | bl j => cases ry; exact PySem.EqMixed.eq_str_bool (fin_bl I q (by simp))
  | int j => obtain ⟨t',rfl⟩ := ry; exact PySem.EqMixed.eq_str_int (fin_bl I q (by simp))
  | str j => obtain ⟨t',rfl⟩ := ry; exact eq_str (fin_bl I q dec_str)
  | _ => exact absurd (show false = true from hs) Bool.false_ne_true
 | byt i =>
  obtain ⟨t,rfl⟩ := rx
  cases y with
  | byt j => obtain ⟨t',rfl⟩ := ry; exact PySem.W.eq_bytes (fin_bl I q dec_byt)
  | _ => exact absurd (show false = true from hs) Bool.false_ne_true
 | _ => cases y <;> exact absurd (show false = true from hs) Bool.false_ne_true
theorem op_ne : OpR X (compareOp .NotEq) rNe := by
 intro pins s σ H x y v u Q I rx ry h
 obtain ⟨hs,q⟩ := h
 cases x with
 | non =>
  cases rx
  cases y with
  | non => cases ry; exact PySem.EqNone.ne_none_none (fin_bl I q (by simp))
  | bl j => cases ry; exact PySem.EqNone.ne_none_bool (fin_bl I q (by simp))
  | int j => obtain ⟨t',rfl⟩ := ry; exact PySem.EqNone.ne_none_int (fin_bl I q (by simp))
  | str j => obtain ⟨t',rfl⟩ := ry; exact PySem.EqNone.ne_none_str (fin_bl I q (by simp))
  | _ => exact absurd (show false = true from hs) Bool.false_ne_true
 | bl i =>
  cases rx
  cases y with
  | non => cases ry; exact PySem.EqNone.ne_bool_none (fin_bl I q (by simp))
  | bl j => cases ry; exact ne_bool (fin_bl I q (congrArg not dec_bl))
  | str j => obtain ⟨t',rfl⟩ := ry; exact PySem.EqMixed.ne_bool_str (fin_bl I q (by simp))
  | _ => exact absurd (show false = true from hs) Bool.false_ne_true
 | int i =>
  obtain ⟨t,rfl⟩ := rx
  cases y with
  | non => cases ry; exact PySem.EqNone.ne_int_none (fin_bl I q (by simp))
  | int j => obtain ⟨t',rfl⟩ := ry; exact ne_int (fin_bl I q (congrArg not dec_int))
  | str j => obtain ⟨t',rfl⟩ := ry; exact PySem.EqMixed.ne_int_str (fin_bl I q (by simp))
  | _ => exact absurd (show false = true from hs) Bool.false_ne_true
 | str i =>
  obtain ⟨t,rfl⟩ := rx
  cases y with
  | non => cases ry; exact PySem.EqNone.ne_str_none (fin_bl I q (by simp))
  | bl j => cases ry; exact PySem.EqMixed.ne_str_bool (fin_bl I q (by simp))
  | int j => obtain ⟨t',rfl⟩ := ry; exact PySem.EqMixed.ne_str_int (fin_bl I q (by simp))
  | str j => obtain ⟨t',rfl⟩ := ry; exact ne_str (fin_bl I q (congrArg not dec_str))
  | _ => exact absurd (show false = true from hs) Bool.false_ne_true
 | byt i =>
  obtain ⟨t,rfl⟩ := rx
  cases y with
  | byt j => obtain ⟨t',rfl⟩ := ry; exact PySem.W.ne_bytes (fin_bl I q (congrArg not dec_byt))
  | _ => exact absurd (show false = true from hs) Bool.false_ne_true
 | _ => cases y <;> exact absurd (show false = true from hs) Bool.false_ne_true
theorem op_lt : OpR X (compareOp .Lt) (rI0 fun i j => .bl (decide (i < j))) := opB0 fun _ _ _ _ _ _ _ q => lt_int q
theorem op_le : OpR X (compareOp .LtE) (rI0 fun i j => .bl (decide (i ≤ j))) := opB0 fun _ _ _ _ _ _ _ q => le_int q
theorem op_gt : OpR X (compareOp .Gt) (rI0 fun i j => .bl (decide (j < i))) := opB0 fun _ _ _ _ _ _ _ q => gt_int q
theorem op_ge : OpR X (compareOp .GtE) (rI0 fun i j => .bl (decide (j ≤ i))) := opB0 fun _ _ _ _ _ _ _ q => ge_int q
theorem OpR.or {f : Value → Value → Sem Value} {r r' : R2} (h : OpR X f r) (h' : OpR X f r') : OpR X f (fun x y H Q => r x y H Q ∨ r' x y H Q) := by
 intro pins s σ H x y v u Q I rx ry q
 rcases q with q | q
 ·exact h pins s σ H x y v u Q I rx ry q
 ·exact h' pins s σ H x y v u Q I rx ry q
theorem nomark (b : Expr) {op : CmpOp} (h : op ≠ .In := by decide) (h2 : op ≠ .NotIn := by decide) : behindInMarks op b = false := by
 have e1 : (op == CmpOp.In) = false := by cases op <;> first | rfl | exact absurd rfl h
 have e2 : (op == CmpOp.NotIn) = false := by cases op <;> first | rfl | exact absurd rfl h2
 cases b <;> simp [behindInMarks,e1,e2]
theorem pe_cmpR {op : CmpOp} {r : R2} (ho : OpR X (compareOp op) r) (ha : PE X a ta) (hb : PE X b tb) (hm : behindInMarks op b = false) : PE X (.Compare a [op] [b] pos) (tOp r ta tb) := by
 intro pins s σ H Q I h
 exact wpAny_Compare1 (binT ha hb I h fun v u s2 x y H2 I2 rx ry q => ho pins s2 σ H2 x y v u Q I2 rx ry q) hm
def tTest (t : TE) : TT := fun σ H Q => t σ H fun x H' => ∃ k,x = .bl k ∧ Q k H'
theorem pt_cmpR {op : CmpOp} {r : R2} (ho : OpR X (compareOp op) r) (ha : PE X a ta) (hb : PE X b tb) (hm : behindInMarks op b = false) : PT X (.Compare a [op] [b] pos) (tTest (tOp r ta tb)) := by
 intro pins s σ H Q I h
 refine wpAny_isTrue_Compare1 (thn (ha pins s σ H _ I h) fun v s1 ⟨x,H1,I1,r1,q1⟩ => thn (hb pins s1 σ H1 _ I1 q1) fun u s2 ⟨y,H2,I2,r2,q2⟩ =>
  thn (ho pins s2 σ H2 x y v u _ I2 r1 r2 q2) fun c s3 ⟨z,H3,I3,r3,k,e,q3⟩ => ?_) hm
 subst e
 cases r3
 exact wpAny_truthy_bool ⟨H3,I3,q3⟩
def tChain (r r' : R2) (ta tb tc : TE) : TE := fun σ H Q => ta σ H fun x H1 => tb σ H1 fun y H2 => r x y H2 fun z H3 => ∃ k,z = .bl k ∧
 (if k = true then tc σ H3 fun w' H4 => r' y w' H4 Q else Q (.bl false) H3)
theorem pe_chain {op op' : CmpOp} {r r' : R2} (ho : OpR X (compareOp op) r) (ho' : OpR X (compareOp op') r') (ha : PE X a ta) (hb : PE X b tb) (hc : PE X c tc)
  (hm : lastMarks [op,op'] [b,c] = false := by with_unfolding_all rfl) : PE X (.Compare a [op,op'] [b,c] pos) (tChain r r' ta tb tc) := by
 intro pins s σ H Q I h
 refine Compare_chain (thn (ha pins s σ H _ I h) fun v s1 ⟨x,H1,I1,r1,q1⟩ => chain_link (thn (hb pins s1 σ H1 _ I1 q1) fun u s2 ⟨y,H2,I2,r2,q2⟩ =>
  thn (ho pins s2 σ H2 x y v u _ I2 r1 r2 q2) fun d s3 ⟨z,H3,I3,r3,k,e,q3⟩ => ?_)) hm
 subst e
 cases r3
 refine wpAny_truthy_bool ?_
 cases k with
 | false => exact ite_ff ⟨.bl false,H3,I3,rfl,q3⟩
 | true => exact ite_tt (chain_last (thn (hc pins s3 σ H3 _ I3 q3) fun w' s4 ⟨z',H4,I4,r4,q4⟩ => ho' pins s4 σ H4 y z' u w' Q I4 r2 r4 q4))
theorem pt_chain {op op' : CmpOp} {r r' : R2} (ho : OpR X (compareOp op) r) (ho' : OpR X (compareOp op') r') (ha : PE X a ta) (hb : PE X b tb) (hc : PE X c tc)
  (hm : lastMarks [op,op'] [b,c] = false := by with_unfolding_all rfl) : PT X (.Compare a [op,op'] [b,c] pos) (tTest (tChain r r' ta tb tc)) := by
 intro pins s σ H Q I h
 refine isTrue_chain (thn (ha pins s σ H _ I h) fun v s1 ⟨x,H1,I1,r1,q1⟩ => test_link (thn (hb pins s1 σ H1 _ I1 q1) fun u s2 ⟨y,H2,I2,r2,q2⟩ =>
  thn (ho pins s2 σ H2 x y v u _ I2 r1 r2 q2) fun d s3 ⟨z,H3,I3,r3,k,e,q3⟩ => ?_)) hm
 subst e
 cases r3
 refine wpAny_truthy_bool ?_
 cases k with
 | false =>
  obtain ⟨k',e',q'⟩ := q3
  cases e'
  exact ite_ff ⟨H3,I3,q'⟩
 | true =>
  refine ite_tt (test_last (thn (hc pins s3 σ H3 _ I3 q3) fun w' s4 ⟨z',H4,I4,r4,q4⟩ => thn (ho' pins s4 σ H4 y z' u w' _ I4 r2 r4 q4) fun d' s5 ⟨z2,H5,I5,r5,k2,e2,q5⟩ => ?_))
  subst e2
  cases r5
  exact wpAny_truthy_bool ⟨H5,I5,q5⟩
theorem line63 : (sizeLine : Nat) < 2 ^ 63 := by rw [sizeLine_eq]; decide
theorem op_add_str : OpR X (binaryOp .Add) (fun x y H Q => ∃ i j,x = .str i ∧ y = .str j ∧ i.length + j.length ≤ sizeLine ∧ Q (.str (i ++ j)) H) := by
 intro pins s σ H x y v u Q I rx ry h
 obtain ⟨i,j,rfl,rfl,hz,q⟩ := h
 obtain ⟨t,rfl⟩ := rx
 obtain ⟨t',rfl⟩ := ry
 exact add_str (fun t' tk => ⟨.str (i ++ j),H,I.tok _,⟨_,rfl⟩,q⟩) hz
theorem vals1 {x : V} {us : List Value} (r : Vals [x] us) : ∃ u,us = [u] ∧ RelV x u := by
 cases r with
 | cons r1 r2 => cases r2; exact ⟨_,rfl,r1⟩
theorem vals2 {x y : V} {us : List Value} (r : Vals [x,y] us) : ∃ u w',us = [u,w'] ∧ RelV x u ∧ RelV y w' := by
 cases r with
 | cons r1 r2 =>
  cases r2 with
  | cons r3 r4 => cases r4; exact ⟨_,_,rfl,r1,r3⟩
theorem call_min2 (hc : X.calm = true) : CallR X (.builtin "min") (fun xs H Q => ∃ i j,xs = [.int i,.int j] ∧ Q (.int (if j < i then j else i)) H) := by
 intro pins s σ H xs us Q I r h
 obtain ⟨i,j,rfl,q⟩ := h
 obtain ⟨u,w',rfl,⟨t,rfl⟩,⟨t',rfl⟩⟩ := vals2 r
 refine min_two_ints (I.ok.hd hc) fun h' tk k => ⟨_,H,I.kept k,?_,q⟩
 by_cases hj : j < i
 ·rw [if_pos hj,if_pos hj]; exact ⟨_,rfl⟩
 ·rw [if_neg hj,if_neg hj]; exact ⟨_,rfl⟩
theorem call_str_int : CallR X (.type "str") (fun xs H Q => ∃ i,xs = [.int i] ∧ i.natAbs.log2 < 1920 ∧ Q (.str (toString i)) H) := by
 intro pins s σ H xs us Q I r h
 obtain ⟨i,rfl,hz,q⟩ := h
 obtain ⟨u,rfl,t,rfl⟩ := vals1 r
 exact PySem.P.str_of_int hz ⟨.str _,H,I.tok _,⟨_,rfl⟩,q⟩
end
end L2
namespace L2
open PySem PySem.Spec PyProof.Rows
structure ObjM (h : Heap) (x dx C : Addr) (mA : Str → Option Value) : Prop where
 obj : h.get? x = some (PySem.W.instObj C dx)
 ns : h.Ns1 dx mA
 ne : dx ≠ x
theorem lookIn_ns {h : Heap} {dx : Addr} {mA : Str → Option Value} (n : h.Ns1 dx mA) : ∃ od,h.get? dx = some od ∧ ∀ name,PySem.W.lookIn name od = some (mA name) := by
 obtain ⟨o,es,ep,ho,hd,hk,_,hm⟩ := n
 refine ⟨o,ho,fun name => ?_⟩
 have e := hm name
 unfold nsFind findBy at e
 rw [← Array.find?_toList] at e
 unfold PySem.W.lookIn
 rw [hd]
 dsimp only
 split
 ·rename_i y q
  rw [q] at e
  exact congrArg some e
 ·rename_i q
  rw [q] at e
  have a : es.toList.any (·.refKey) = false := by
   rw [List.any_eq_false]
   intro y hy
   obtain ⟨z,t,hkey⟩ := hk y (Array.mem_toList_iff.mp hy)
   simp [DictEntry.refKey,hkey]
  have a' : ¬ es.toList.any (·.refKey) = true := by rw [a]; exact Bool.false_ne_true
  rw [if_neg a']
  exact congrArg some e
theorem ObjM.look {h : Heap} {x dx C : Addr} {mA : Str → Option Value} (I : ObjM h x dx C mA) : ∃ od,PySem.W.InstAt h x (PySem.W.instObj C dx) C (some od) ∧ ∀ name,PySem.W.lookIn name od = some (mA name) :=
 let ⟨od,ho,hl⟩ := lookIn_ns I.ns
 ⟨od,⟨I.obj,rfl,rfl,ho⟩,hl⟩
section
variable {prog : Program} {w : World} {A : Around} {E : Value → Shared → Prop} {s : Shared} {K : PySem.W.Frag} {x dx C f : Addr} {mA : Str → Option Value} {name : Str} {v : Value}
end
section
variable {P : Program} {w : World} {H H' : Hp} {h h' : Heap} {a C dx : Addr} {fs fs' : List (Str × V)}
theorem ins_get (hok : HOk P w H h) (e : H a = some (.ins C dx fs)) : ∃ mA,ObjM h a dx C mA ∧ (∀ f,RelO (fs.lookup f) (mA f)) ∧ PySem.Within mA (fs.map (·.1)) ∧ fs.length ≤ 1000 ∧ H dx = some (.own a) := by
 obtain ⟨d,z,ne,ob,mA,n,r,q⟩ := (show ObjOk P w H h a (.ins C dx fs) from hok a _ e)
 exact ⟨mA,⟨ob,n,ne⟩,r,q,z,d⟩
end
structure Cls (K : PySem.W.Frag) (C : Addr) : Prop where
 pg : PySem.W.plainGet K C Str.empty = true
 hd : PySem.W.hasDictIn K C = true
 po : PySem.W.plainOver K C = true
 sa : PySem.W.findIn K (.ref C) "__setattr__" = some (some (.builtin "object.__setattr__"))
theorem Cls.get {K : PySem.W.Frag} {C : Addr} (c : Cls K C) (f : Str) : PySem.W.plainGet K C f = true := c.pg
structure Con (K : PySem.W.Frag) (C : Addr) (f : Str) (v : V) (u : Value) : Prop where
 at_ : PySem.W.findIn K (.ref C) f = some (some u)
 rel : RelV v u
 get : PySem.W.specialIn K u "__get__" = some none
 cp : PySem.W.copiedNames.contains f = false
structure Meth (K : PySem.W.Frag) (C : Addr) (m : Str) (f : Addr) : Prop where
 at_ : PySem.W.findIn K (.ref C) m = some (some (.ref f))
 fn : PySem.W.isFn K (.ref f) = true
 kp : PySem.W.keepIn K (.ref f) = true
section
variable {X : Cx} {pins : List (Addr × Obj)} {σ : St} {H : Hp} {s : Shared} {a C dx : Addr} {fs : List (Str × V)} {f : Str} {v : V} {A : Around} {E : Value → Shared → Prop}
theorem Inv.made (I : Inv X pins σ H s) : Inv X pins σ (upd (upd H s.heap.objs.size (.own (s.heap.objs.size + 1))) (s.heap.objs.size + 1) (.ins C s.heap.objs.size []))
  { s with heap := (s.heap.push PySem.W.emptyDict).push (PySem.W.instObj C s.heap.objs.size) } := by
 have e1 : (s.heap.push PySem.W.emptyDict).get? s.heap.objs.size = some PySem.W.emptyDict := Heap.get?_push_size s.heap rfl
 have e2 : ((s.heap.push PySem.W.emptyDict).push (PySem.W.instObj C s.heap.objs.size)).get? (s.heap.objs.size + 1) = some (PySem.W.instObj C s.heap.objs.size) := by
  have := Heap.get?_push_size (s.heap.push PySem.W.emptyDict) (o := PySem.W.instObj C s.heap.objs.size) rfl
  rwa [Heap.size_push] at this
 have e3 : (s.heap.push PySem.W.emptyDict).Ns s.heap.objs.size (fun _ => none) := ⟨PySem.W.emptyDict,#[],_,e1,rfl,(fun e he => absurd he (by simp)),fun _ => rfl⟩
 have I1 := I.laid (a := s.heap.objs.size) (o := .own (s.heap.objs.size + 1)) (h' := s.heap.push PySem.W.emptyDict) (t' := s.toks) (fun b u q => Heap.get?_push_of_some _ q) (Nat.le_refl _) ⟨_,e1⟩
 refine I1.laid (a := s.heap.objs.size + 1) (o := .ins C s.heap.objs.size []) (t' := s.toks) (fun b u q => Heap.get?_push_of_some _ q) (Nat.le_of_eq (Heap.size_push _ _)) ?_
 have ne : s.heap.objs.size ≠ s.heap.objs.size + 1 := Nat.ne_of_lt (Nat.lt_succ_self _)
 refine ⟨by rw [upd_ne ne,upd_same],Nat.zero_le _,ne,e2,fun _ => none,(Heap.Ns1.of_empty e3).at fun o q => Heap.get?_push_of_some _ q,fun _ => True.intro,fun y hy => absurd rfl hy⟩
end
section
variable {X : Cx} {o e value : Expr} {f : Str} {pos pos' tpos : Pos} {ta tv : TE}
end
section
variable {X : Cx} {pins : List (Addr × Obj)} {σ : St} {H : Hp} {s : Shared} {A : Around} {E : Value → Shared → Prop} {Q : Value → Shared → Prop} {c : Value} {b : Bool}
inductive TyOf (K : PySem.W.Frag) (H : Hp) : V → Value → Prop where
 | non : TyOf K H .non (.type "NoneType")
 | bl (x : Bool) : TyOf K H (.bl x) (.type "bool")
 | int (i : Int) : TyOf K H (.int i) (.type "int")
 | str (x : Str) : TyOf K H (.str x) (.type "str")
 | flt (x : UInt64) : TyOf K H (.flt x) (.type "float")
 | lst {a : Addr} {xs : List V} (e : H a = some (.lst xs)) : TyOf K H (.ref a) (.type "list")
 | frz {a : Addr} {o : Obj} {xs : List V} (e : H a = some (.frz o (.lst xs))) : TyOf K H (.ref a) (.type "list")
 | tup {a : Addr} {xs : List V} (e : H a = some (.tup xs)) : TyOf K H (.ref a) (.type "tuple")
 | dK {a : Addr} {kvs : List (Key × V)} (e : H a = some (.dK kvs)) : TyOf K H (.ref a) (.type "dict")
 | dT {a : Addr} {kvs : List (List Key × V)} (e : H a = some (.dT kvs)) : TyOf K H (.ref a) (.type "dict")
 | ins {a C dx : Addr} {fs : List (Str × V)} (e : H a = some (.ins C dx fs)) (cl : Cls K C) (ha : PySem.W.findIn K (.ref C) "__class__" = some (some (.builtin "object.__class__")))
   (hn : PySem.W.specialIn K (.builtin "object.__class__") "__get__" = some (some (.builtin "getset_descriptor.__get__"))) (htk : PySem.W.takesIn K (.builtin "object.__class__") = some true)
   (hm : PySem.W.mroIn K C (.type "object") = some true) : TyOf K H (.ref a) (.ref C)
theorem isinst_ok {x : V} {u t : Value} (I : Inv X pins σ H s) (rx : RelV x u) (ty : TyOf X.K H x t) (e : PySem.W.kitOne X.K t c = some b) (h : ∀ tk,Q (.bool b) { s with toks := tk }) :
  wpAny (model X.prog X.w) A (call (.builtin "isinstance") [u,c]) Q E s := by
 cases ty with
 | non => cases (show u = Value.none from rx); exact PySem.W.kia_one PySem.W.kitx_none I.kIn True.intro e (fun z => nomatch z) h
 | bl y => cases (show u = Value.bool y from rx); exact PySem.W.kia_one PySem.W.kitx_bool I.kIn True.intro e (fun z => nomatch z) h
 | int i => obtain ⟨t,q⟩ := (show ∃ t,u = Value.int i t from rx); cases q; exact PySem.W.kia_one PySem.W.kitx_int I.kIn True.intro e (fun z => nomatch z) h
 | str y => obtain ⟨t,q⟩ := (show ∃ t,u = Value.str y t from rx); cases q; exact PySem.W.kia_one PySem.W.kitx_str I.kIn True.intro e (fun z => nomatch z) h
 | flt y => obtain ⟨t,q⟩ := (show ∃ t,u = Value.float y t from rx); cases q; exact PySem.W.kia_one PySem.W.kitx_float I.kIn True.intro e (fun z => nomatch z) h
 | @lst a xs ea =>
  cases (show u = Value.ref a from rx)
  obtain ⟨_,_,n,_,h1⟩ := (show ObjOk X.prog X.w H s.heap a (.lst xs) from I.hok a _ ea)
  exact PySem.W.kia_one PySem.W.kitx_list I.kIn ⟨_,h1,rfl⟩ e (fun z => nomatch z) h
 | @frz a ob xs ea =>
  cases (show u = Value.ref a from rx)
  obtain ⟨_,_,_,n,_,h1⟩ := (show ObjOk X.prog X.w H s.heap a (.frz ob (.lst xs)) from I.hok a _ ea)
  exact PySem.W.kia_one PySem.W.kitx_list I.kIn ⟨_,h1,rfl⟩ e (fun z => nomatch z) h
 | @tup a xs ea =>
  cases (show u = Value.ref a from rx)
  obtain ⟨_,_,_,p⟩ := (show ObjOk X.prog X.w H s.heap a (.tup xs) from I.hok a _ ea)
  obtain ⟨o,h1,h2,_⟩ := p
  exact PySem.W.kia_one PySem.W.kitx_tuple I.kIn ⟨o,h1,h2⟩ e (fun z => nomatch z) h
 | @dK a kvs ea =>
  cases (show u = Value.ref a from rx)
  obtain ⟨_,_,vs,_,p⟩ := (show ObjOk X.prog X.w H s.heap a (.dK kvs) from I.hok a _ ea)
  obtain ⟨o,es,ep,h1,h2,_⟩ := p
  exact PySem.W.kia_one PySem.W.kitx_dict I.kIn ⟨o,h1,h2.1⟩ e (fun z => nomatch z) h
 | @dT a kvs ea =>
  cases (show u = Value.ref a from rx)
  obtain ⟨_,_,xs,_,o,es,ep,h1,h2,_⟩ := (show ObjOk X.prog X.w H s.heap a (.dT kvs) from I.hok a _ ea)
  exact PySem.W.kia_one PySem.W.kitx_dict I.kIn ⟨o,h1,h2.1⟩ e (fun z => nomatch z) h
 | @ins a C dx fs ea cl ha hn htk hm =>
  cases (show u = Value.ref a from rx)
  obtain ⟨mA,O,_⟩ := ins_get I.hok ea
  obtain ⟨od,J,_⟩ := O.look
  exact PySem.W.kia_one (PySem.W.kitx_own (cl.get _) cl.hd ha hn htk hm) I.kIn J e (fun z => nomatch z) h
end
end L2
namespace L2
open PySem PySem.Spec PyProof.Rows
structure Room (k : Nat) (A : Around) : Prop where
 hd : A.handled = none
 dp : A.depth + 3 * k + 5 < recursionLimit
 un : A.units + 16 * k + 200 < cLine
theorem Room.mono {j k : Nat} {A : Around} (r : Room k A) (h : j ≤ k) : Room j A := ⟨r.hd,by have := r.dp; omega,by have := r.un; omega⟩
theorem Room.deeper {k : Nat} {A : Around} (r : Room (k + 1) A) (env : Env) : Room k (A.deeper env) :=
 ⟨r.hd,by have := r.dp; show A.depth + 1 + 3 * k + 5 < _; omega,by have := r.un; show A.units + 3 + 16 * k + 200 < _; omega⟩
theorem Room.in1 {k : Nat} {A : Around} (r : Room (k + 1) A) : Room k A.in1 :=
 ⟨r.hd,by have := r.dp; show A.depth + 3 * k + 5 < _; omega,by have := r.un; show A.units + 1 + 16 * k + 200 < _; omega⟩
theorem Room.depth {k : Nat} {A : Around} (r : Room k A) : A.depth < recursionLimit := by have := r.dp; omega
theorem Room.units {k : Nat} {A : Around} (r : Room k A) : A.units + 64 < cLine := by have := r.un; omega
def tNil : TA := fun _ H Q => Q [] H
def tCons (ta : TE) (tr : TA) : TA := fun σ H Q => ta σ H fun x H1 => tr σ H1 fun xs H2 => Q (x :: xs) H2
section
variable {X : Cx} {e : Expr} {es : List Expr} {te : TE} {t : TA} {pos : Pos}
theorem pa_nil : PA X [] tNil := fun _ _ _ _ H Q I h => Calls.spliced_nil ⟨[],H,I,.nil,h⟩
theorem pa_cons (ha : PE X e te) (hr : PA X es t) (hs : starEach (e :: es) X.env = (false,eval e X.env) :: starEach es X.env := by rfl) : PA X (e :: es) (tCons te t) := by
 intro pos pins s σ H Q I h
 rw [hs]
 show wpAny _ _ (spliced ((false,eval e X.env) :: backTo pos (starEach es X.env))) _ _ s
 refine Calls.spliced_cons (thn (ha pins s σ H _ I h) fun u s1 ⟨x,H1,I1,r1,q1⟩ => ?_)
 exact thn (hr pos pins s1 σ H1 _ I1 q1) fun us s2 ⟨xs,H2,I2,r2,q2⟩ => ⟨x :: xs,H2,I2,.cons r1 r2,q2⟩
def tTup (t : TA) : TE := fun σ H Q => t σ H fun xs H1 => xs.length ≤ sizeLine ∧ ∀ p,H1 p = none → Q (.ref p) (upd H1 p (.tup xs))
def tLst (t : TA) : TE := fun σ H Q => t σ H fun xs H1 => xs.length ≤ sizeLine ∧ ∀ p,H1 p = none → Q (.ref p) (upd H1 p (.lst xs))
theorem pe_tup {x1} (h : PA X es t) : PE X (.Tuple es x1 pos) (tTup t) := by
 intro pins s σ H Q I hq
 refine wpAny_Tuple_spliced (thn (h pos pins s σ H _ I hq) fun us s1 ⟨xs,H1,I1,r,z,q⟩ => ⟨by rw [← r.length]; exact z,?_⟩)
 have hf : H1 s1.heap.objs.size = none := I1.hok.fresh (Nat.le_refl _)
 refine ⟨.ref s1.heap.objs.size,upd H1 s1.heap.objs.size (.tup xs),I1.laid (t' := s1.toks) (fun b u e => Heap.get?_push_of_some _ e) (Nat.le_refl _) ?_,rfl,q _ hf⟩
 exact ⟨z,us,r,⟨_,Heap.get?_push_size _ rfl,rfl,_,rfl⟩⟩
theorem pe_lst (h : PA X es t) : PE X (.List es pos) (tLst t) := by
 intro pins s σ H Q I hq
 refine wpAny_List_spliced (thn (h pos pins s σ H _ I hq) fun us s1 ⟨xs,H1,I1,r,z,q⟩ => ⟨by rw [← r.length]; exact z,?_⟩)
 have hf : H1 s1.heap.objs.size = none := I1.hok.fresh (Nat.le_refl _)
 refine ⟨.ref s1.heap.objs.size,upd H1 s1.heap.objs.size (.lst xs),I1.laid (t' := s1.toks) (fun b u e => Heap.get?_push_of_some _ e) (Nat.le_refl _) ?_,rfl,q _ hf⟩
 exact ⟨z,us,0,r,Heap.get?_push_size _ rfl⟩
end
abbrev Sp := List V → Hp → VK → XK → Prop
abbrev CXT := List Env → Hp → Shared → XK → Value → Shared → Prop
structure Env0 (P : Program) (w : World) (K : PySem.W.Frag) (mg : Str → Option Value) (base : Heap) (A : Around) (outer : List Env) (s : Shared) (H : Hp) : Prop where
 frames : A.frames = some outer
 mod : Mod K mg base
 bs : ∀ b o,base.get? b = some o → s.heap.get? b = some o ∧ H b = none
 bsz : base.objs.size ≤ s.heap.objs.size
 funs : s.heap.FunFrames base outer
 frf : ∀ b ∈ frs outer,H b = none
 hok : HOk P w H s.heap
 bare : AllBare s.gens
def CE (outer : List Env) (P : Program) (w : World) (H : Hp) (s : Shared) (Q : VK) (u : Value) (s' : Shared) : Prop :=
 ∃ v H',s'.os = s.os ∧ AllBare s'.gens ∧ Un (frs outer) [] H H' s.heap s'.heap ∧ HOk P w H' s'.heap ∧ RelV v u ∧ Q v H'
def CR (CX : CXT) (outer : List Env) (P : Program) (w : World) (H : Hp) (s : Shared) (Q : VK) (E : XK) (r : Result) (s' : Shared) : Prop :=
 match r with
 | .ok (.ret u) => CE outer P w H s Q u s'
 | .ok _ => False
 | .error e => CX outer H s E e s'
structure FnOk (P : Program) (w : World) (K : PySem.W.Frag) (mg : Str → Option Value) (base : Heap) (CX : CXT) (k : Nat) (f : Addr) (fd : FuncData) (ps : List Str) (sp : Sp) : Prop where
 len : ∀ vs H Q E,sp vs H Q E → vs.length = ps.length
 run : ∀ (A : Around) (outer : List Env) (s : Shared) (H : Hp) (args : Args) (us : List Value) (vs : List V) (Q : VK) (E : XK),Room k A → Env0 P w K mg base A outer s H → BindsTo s fd args (ps.zip us) → Vals vs us → sp vs H Q E →
  codeAny (model P w) A (.call (.ref f) args) (CR CX outer P w H s Q E) s
theorem FnOk.mono {P : Program} {w : World} {K : PySem.W.Frag} {mg : Str → Option Value} {base : Heap} {CX : CXT} {j k : Nat} {f : Addr} {fd : FuncData} {ps : List Str} {sp : Sp} (F : FnOk P w K mg base CX j f fd ps sp) (h : j ≤ k) :
  FnOk P w K mg base CX k f fd ps sp := ⟨F.len,fun A outer s H args us vs Q E hr => F.run A outer s H args us vs Q E (hr.mono h)⟩
theorem FnOk.imp {P : Program} {w : World} {K : PySem.W.Frag} {mg : Str → Option Value} {base : Heap} {CX : CXT} {k : Nat} {f : Addr} {fd : FuncData} {ps : List Str} {sp sp' : Sp} (F : FnOk P w K mg base CX k f fd ps sp)
  (h : ∀ vs H Q E,sp' vs H Q E → sp vs H Q E) : FnOk P w K mg base CX k f fd ps sp' :=
 ⟨fun vs H Q E q => F.len vs H Q E (h _ _ _ _ q),fun A outer s H args us vs Q E hr he hb hv hs => F.run A outer s H args us vs Q E hr he hb hv (h _ _ _ _ hs)⟩
theorem Env0.in1 {P : Program} {w : World} {K : PySem.W.Frag} {mg : Str → Option Value} {base : Heap} {A : Around} {outer : List Env} {s : Shared} {H : Hp} (e : Env0 P w K mg base A outer s H) :
  Env0 P w K mg base A.in1 outer s H := ⟨e.frames,e.mod,e.bs,e.bsz,e.funs,e.frf,e.hok,e.bare⟩
section
variable {X : Cx} {pins : List (Addr × Obj)} {σ : St} {H : Hp} {s s' : Shared}
theorem Inv.env0 (I : Inv X pins σ H s) : Env0 X.prog X.w X.K X.mg X.base X.A X.stack s H :=
 ⟨I.ok.frames,I.ok.mod,I.bs,Nat.le_trans I.ok.bsz I.sz,I.stack,I.stkFree,I.hok,I.bare⟩
theorem Inv.after {Q : VK} {u : Value} (I : Inv X pins σ H s) (h : CE X.stack X.prog X.w H s Q u s') : EP X pins σ Q u s' := by
 obtain ⟨v,H',os,bare,un,hok,r,q⟩ := h
 obtain ⟨hh,g,d,t,os'⟩ := s'
 obtain rfl : os' = s.os := os
 exact ⟨v,H',I.call (h' := hh) (g' := g) (d' := d) (t' := t) (ch := []) un hok bare (fun b z => absurd z (by simp)),r,q⟩
end
def tCall (sp : Sp) (dvs : List V) (E : XK) (t : TA) : TE := fun σ H Q => t σ H fun vs H1 => sp (vs ++ dvs) H1 Q E
def Binds (K : PySem.W.Frag) (fd : FuncData) (ps : List Str) (ds : List Value) : Prop :=
 ∀ (s : Shared) (us : List Value),K.In s.heap → (us ++ ds).length = ps.length → BindsTo s fd ⟨us,[]⟩ (ps.zip (us ++ ds))
theorem Binds.all {K : PySem.W.Frag} {fd : FuncData} {ps : List Str} (h : ∀ us : List Value,us.length = ps.length → bindArgs fd ⟨us,[]⟩ = pure (ps.zip us)) : Binds K fd ps [] := fun s us _ hl => by
 rw [List.append_nil] at hl ⊢
 exact .of_eq (h us hl)
def Passes (CX : CXT) (X : Cx) (E : XK) : Prop := ∀ (pins : List (Addr × Obj)) (σ : St) (H : Hp) (s : Shared) (e : Value) (s' : Shared),Inv X pins σ H s → CX X.stack H s E e s' → X.xe e s'
section
variable {X : Cx} {CX : CXT} {k : Nat} {f C : Addr} {fd : FuncData} {ps : List Str} {sp : Sp} {dvs : List V} {ds : List Value} {E : XK} {x m : Str} {p pos apos : Pos} {e o : Expr} {es : List Expr} {ta : TE} {t : TA}
theorem run_fn {pins : List (Addr × Obj)} {σ : St} {H : Hp} {s : Shared} {Q : VK} {us : List Value} {vs : List V} (F : FnOk X.prog X.w X.K X.mg X.base CX k f fd ps sp) (hr : Room k X.A) (hb : Binds X.K fd ps ds) (hd : Vals dvs ds) (hx : Passes CX X E)
  (I : Inv X pins σ H s) (r : Vals vs us) (h : sp (vs ++ dvs) H Q E) : wpAny (model X.prog X.w) X.A (call (.ref f) us) (EP X pins σ Q) X.xe s := by
 have r2 : Vals (vs ++ dvs) (us ++ ds) := r.append hd
 have hl : (us ++ ds).length = ps.length := by rw [← r2.length]; exact F.len _ _ _ _ h
 refine wpAny_call (codeAny_mono (F.run X.A X.stack s H ⟨us,[]⟩ (us ++ ds) (vs ++ dvs) Q E hr I.env0 (hb s us I.kIn hl) r2 h) fun r s' hq => ?_)
 cases r with
 | error e => exact hx pins σ H s e s' I hq
 | ok fl =>
  cases fl with
  | ret u => exact I.after hq
  | next => exact False.elim hq
  | brk => exact False.elim hq
  | cont => exact False.elim hq
theorem pe_call (F : FnOk X.prog X.w X.K X.mg X.base CX k f fd ps sp) (hr : Room k X.A) (hg : Gl X x) (hm : X.mg x = some (.ref f)) (hk : PySem.W.keepIn X.K (.ref f) = true) (hb : Binds X.K fd ps ds) (hd : Vals dvs ds) (hx : Passes CX X E)
  (ha : PA X (e :: es) t) (hdb : (x == ("__debug__" : Str)) = false := by decide) (he : starEach (e :: es) X.env = (false,eval e X.env) :: starEach es X.env := by rfl) (hpl : (backTo pos (starEach es X.env)).any (·.1) = false := by rfl) :
  PE X (.Call (.Name x p) (e :: es) [] pos) (tCall sp dvs E t) := by
 intro pins s σ H Q I h
 refine wpAny_Call_Name_kw (ld_glob I hg hm ?_ hdb)
 refine PySem.W.callWith_K (h₀ := X.base) I.ok.mod.kin hk (thn (ha pos pins s σ H _ I h) fun us s1 ⟨vs,H1,I1,r,q⟩ => ⟨I1.kIn,?_⟩) he hpl
 exact run_fn F hr hb hd hx I1 r q
structure Mk (K : PySem.W.Frag) (C f : Addr) : Prop where
 makes : PySem.W.makesIn K C = true
 init : PySem.W.findIn K (.ref C) "__init__" = some (some (.ref f))
 fn : PySem.W.isFn K (.ref f) = true
 kp : PySem.W.keepIn K (.ref C) = true
end
section
variable {X : Cx} {CX : CXT} {k : Nat} {f C : Addr} {fd : FuncData} {ps ks : List Str} {sp : Sp} {E : XK} {x m : Str} {p pos apos kpos : Pos} {e o : Expr} {es : List Expr} {kws : List Keyword} {te ta : TE} {t tk : TA} {nm : Option Str}
structure KBinds (K : PySem.W.Frag) (fd : FuncData) (ps ks : List Str) (g : List Value → List Value → List Value) (gV : List V → List V → List V) : Prop where
 to : ∀ (s : Shared) (us ws : List Value),K.In s.heap → (g us ws).length = ps.length → BindsTo s fd ⟨us,ks.zip ws⟩ (ps.zip (g us ws))
 rel : ∀ {vs : List V} {us : List Value} {zs : List V} {ws : List Value},Vals vs us → Vals zs ws → Vals (gV vs zs) (g us ws)
variable {g : List Value → List Value → List Value} {gV : List V → List V → List V}
end
structure FnScope (N P : List Str) (sc : Scope) : Prop where
 kind : sc.kind = .function
 co : sc.isCoroutine = false
 gen : sc.isGenerator = false
 nd : N.Nodup
 pre : N.take P.length = P
 par : ∀ x ∈ P,sc.names.lookup x = some .local ∨ sc.names.lookup x = some .cell
 nofree : ∀ y ∈ sc.names,y.2 ≠ .free
theorem bindL_out {kindOf : Str → Option NameKind} {x : Str} : ∀ {binds : List (Str × Value)} {m : Str → Option Value},(∀ v,(x,v) ∉ binds) → bindL kindOf binds m x = m x
 | [],_,_ => rfl
 | (n,v) :: r,m,h => by
  unfold bindL
  rw [bindL_out fun w hw => h w (List.mem_cons_of_mem _ hw)]
  split
  ·have : x ≠ n := by rintro rfl; exact h v List.mem_cons_self
   simp [this]
  ·rfl
theorem bindC_out {kindOf : Str → Option NameKind} {x : Str} : ∀ {binds : List (Str × Value)} {m : Str → Option Value},(∀ v,(x,v) ∉ binds) → bindC kindOf binds m x = m x
 | [],_,_ => rfl
 | (n,v) :: r,m,h => by
  unfold bindC
  rw [bindC_out fun w hw => h w (List.mem_cons_of_mem _ hw)]
  split
  ·rfl
  ·have : x ≠ n := by rintro rfl; exact h v List.mem_cons_self
   simp [this]
theorem bindL_get {kindOf : Str → Option NameKind} {x : Str} {v : Value} : ∀ {P : List Str} {vs : List Value} {i : Nat} {m : Str → Option Value},P.Nodup → P[i]? = some x → vs[i]? = some v → kindOf x = some .local →
  bindL kindOf (P.zip vs) m x = some v
 | [],_,_,_,_,h,_,_ => by simp at h
 | _ :: _,[],_,_,_,_,h,_ => by simp at h
 | p :: P,w :: vs,0,m,nd,h1,h2,hk => by
  simp at h1 h2; subst h1; subst h2
  show bindL kindOf ((p,w) :: P.zip vs) m p = _
  unfold bindL
  rw [bindL_out fun v hv => (List.nodup_cons.mp nd).1 (List.of_mem_zip hv).1,if_pos hk]
  simp
 | p :: P,w :: vs,i + 1,m,nd,h1,h2,hk => by
  show bindL kindOf ((p,w) :: P.zip vs) m x = _
  unfold bindL
  exact bindL_get (i := i) (List.nodup_cons.mp nd).2 (by simpa using h1) (by simpa using h2) hk
theorem bindC_get {kindOf : Str → Option NameKind} {x : Str} {v : Value} : ∀ {P : List Str} {vs : List Value} {i : Nat} {m : Str → Option Value},P.Nodup → P[i]? = some x → vs[i]? = some v → kindOf x ≠ some .local →
  bindC kindOf (P.zip vs) m x = some v
 | [],_,_,_,_,h,_,_ => by simp at h
 | _ :: _,[],_,_,_,_,h,_ => by simp at h
 | p :: P,w :: vs,0,m,nd,h1,h2,hk => by
  simp at h1 h2; subst h1; subst h2
  show bindC kindOf ((p,w) :: P.zip vs) m p = _
  unfold bindC
  rw [bindC_out fun v hv => (List.nodup_cons.mp nd).1 (List.of_mem_zip hv).1,if_neg hk]
  simp
 | p :: P,w :: vs,i + 1,m,nd,h1,h2,hk => by
  show bindC kindOf ((p,w) :: P.zip vs) m x = _
  unfold bindC
  exact bindC_get (i := i) (List.nodup_cons.mp nd).2 (by simpa using h1) (by simpa using h2) hk
def start (N : List Str) (vs : List V) : St := vs.map some ++ List.replicate (N.length - vs.length) none
def cxOf (CX : CXT) (P : Program) (w : World) (K : PySem.W.Frag) (mg : Str → Option Value) (base : Heap) (N : List Str) (qual : Str) (scope : Scope) (f : Addr) (cd : Value) (A : Around) (outer : List Env) (s : Shared) (H : Hp) (E : XK) : Cx where
 prog := P
 w := w
 K := K
 mg := mg
 base := base
 A := A.deeper (envOfC qual scope s.heap.objs.size f cd)
 N := N
 s₀ := s
 H₀ := H
 env := envOfC qual scope s.heap.objs.size f cd
 outer := outer
 stack := envOfC qual scope s.heap.objs.size f cd :: outer
 ex := []
 calm := true
 fn := fun _ => true
 pn := []
 xe := fun e s' => wpAny (model P w) (A.deeper (envOfC qual scope s.heap.objs.size f cd)) (leaving (envOfC qual scope s.heap.objs.size f cd) e) (fun _ s'' => CX outer H s E e s'') (fun e' s'' => CX outer H s E e' s'') s'
theorem cell_has {sc : Scope} {n : Nat} {x : Str} (h : sc.names.lookup x = some .cell) : ∃ c,(cellsFrom n sc.names []).lookup x = some c := by
 have q := PySem.W.cellsFrom_some sc.names n [] (.inl h)
 exact Option.isSome_iff_exists.mp q
theorem inv_start {CX : CXT} {P : Program} {w : World} {K : PySem.W.Frag} {mg : Str → Option Value} {base : Heap} {N ps : List Str} {qual : Str} {scope : Scope} {f : Addr} {cd : Value} {A : Around} {outer : List Env} {s s1 : Shared} {H : Hp} {E : XK} {us : List Value} {vs : List V}
  (S : FnScope N ps scope) (hd : A.handled = none) (e0 : Env0 P w K mg base A outer s H) (hl : vs.length = ps.length) (r : Vals vs us)
  (x : InCallC s s.heap.objs.size (bindL (envOfC qual scope s.heap.objs.size f cd).kindOf (ps.zip us) fun _ => none) (cellsFrom (s.heap.objs.size + 1) scope.names []) (bindC (envOfC qual scope s.heap.objs.size f cd).kindOf (ps.zip us) fun _ => none) s1) :
  Inv (cxOf CX P w K mg base N qual scope f cd A outer s H E) [] (start N vs) H s1 := by
 have hpl : ps.length ≤ N.length := by have := congrArg List.length S.pre; rw [List.length_take] at this; omega
 obtain ⟨h1,tk,rfl,hk⟩ := x.done
 have noA : ∀ b : Addr,b ∉ (cxOf CX P w K mg base N qual scope f cd A outer s H E).ex := fun b z => absurd (show b ∈ ([] : List Addr) from z) (by simp)
 refine ⟨⟨e0.mod,S.kind,rfl,rfl,Nat.le_refl _,fun y z c h1 h2 => ?_,fun y hy => ?_,fun y c _ h => ?_,fun _ => hd,Around.frames_deeper e0.frames,.inr ⟨rfl,rfl⟩,fun b z => absurd z (noA b),e0.bs,e0.bsz,fun b _ _ => noA b,fun b z => absurd z (noA b),e0.funs,e0.frf⟩,
  rfl,e0.bare,Un.kept hk,⟨_,x.toInCall.ns,fun i y v h1 h2 h3 => ?_⟩,fun y c h => ⟨_,x.cell y c h⟩,e0.hok.fresh (Nat.le_refl _),fun y c h => ?_,fun p hp => absurd (show p ∈ ([] : List (Addr × Obj)) from hp) (by simp),e0.hok.kept hk,?_⟩
 ·exact name_of_addr x.apart (PySem.mem_of_lookup h1) (PySem.mem_of_lookup h2)
 ·have hy : scope.names.lookup y = some .cell ∨ scope.names.lookup y = some .free := hy
  rcases hy with hy | hy
  ·exact cell_has hy
  ·exact absurd rfl (S.nofree _ (PySem.mem_of_lookup hy))
 ·exact Nat.le_of_lt (x.above y c (PySem.mem_of_lookup h))
 ·have hi : i < vs.length := by
   unfold start at h2
   by_cases hi : i < vs.length
   ·exact hi
   ·rw [List.getElem?_append_right (by simpa using hi)] at h2
    rw [List.getElem?_replicate] at h2
    split at h2 <;> cases h2
  have ha : vs[i]? = some v := by
   unfold start at h2
   rw [List.getElem?_append_left (by simpa using hi),List.getElem?_map] at h2
   cases e : vs[i]? with
   | none => rw [e] at h2; cases h2
   | some a => rw [e] at h2; cases h2; rfl
  obtain ⟨u,hu,rv⟩ := r.get ha
  have hp : ps[i]? = some y := by
   rw [← S.pre,List.getElem?_take_of_lt (by omega)]; exact h1
  have ndP : ps.Nodup := by rw [← S.pre]; exact S.nd.sublist (List.take_sublist _ _)
  refine ⟨u,rv,?_⟩
  rcases S.par y (List.mem_of_getElem? hp) with k | k
  ·exact .inl ⟨k,bindL_get ndP hp hu k⟩
  ·obtain ⟨c,e⟩ := cell_has (n := s.heap.objs.size + 1) k
   refine .inr ⟨.inl k,c,e,?_⟩
   have q := x.cell y c e
   rw [bindC_get ndP hp hu (by show scope.names.lookup y ≠ _; rw [k]; decide)] at q
   exact q
 ·exact e0.hok.fresh (Nat.le_of_lt (x.above y c (PySem.mem_of_lookup h)))
 ·unfold start
  show _ = N.length
  rw [List.length_append,List.length_map,List.length_replicate]
  omega
theorem fn_of {CX : CXT} {P : Program} {w : World} {K : PySem.W.Frag} {mg : Str → Option Value} {base : Heap} {k : Nat} {f : Addr} {name qual : Str} {params : Arguments} {body : List Stmt} {scope : Scope} {dV kV doc pm cdv ct oc : Value} {an od : Option Addr}
  {osl : Array (Option Value)} {N ps : List Str} {sp : Sp} (lk : K.lookup f = some ⟨oc,od,.func (PySem.W.fnOf name qual params body scope dV kV doc pm an cdv ct),osl⟩) (hcd : PySem.W.codeIn K cdv qual = true) (S : FnScope N ps scope)
  (len : ∀ vs H Q E,sp vs H Q E → vs.length = ps.length)
  (hbody : ∀ (A : Around) (outer : List Env) (s : Shared) (H : Hp) (vs : List V) (Q : VK) (E : XK),Room k (A.deeper (envOfC qual scope s.heap.objs.size f cdv)) → sp vs H Q E →
   ∃ t,PSs (cxOf CX P w K mg base N qual scope f cdv A outer s H E) body t ∧ t { nx := fun _ H' => Q .non H',rt := Q } (start N vs) H) :
  FnOk P w K mg base CX (k + 1) f (PySem.W.fnOf name qual params body scope dV kV doc pm an cdv ct) ps sp := by
 refine ⟨len,fun A outer s H args us vs Q E hr e0 hb r hsp => ?_⟩
 have hl := len _ _ _ _ hsp
 have KX : K.In s.heap := e0.mod.kin.keeps fun b o e => (e0.bs b o e).1
 have lim : s.heap.NoLimit := e0.mod.nolimit.keeps fun b o e => (e0.bs b o e).1
 have hkind : ∀ y ∈ ps.zip us,scope.names.lookup y.1 = some .local ∨ (scope.names.lookup y.1 = some .cell ∧ ((cellsFrom (s.heap.objs.size + 1) scope.names []).lookup y.1).isSome = true) := fun ⟨n,v⟩ hy => by
  rcases S.par n (List.of_mem_zip hy).1 with q | q
  ·exact .inl q
  ·exact .inr ⟨q,PySem.W.cellsFrom_some _ _ _ (.inl q)⟩
 refine codeAny_call_function hr.depth (KX _ _ lk) rfl S.co S.gen rfl (PySem.W.codeRec_of KX hcd) (hb _ _ _ _ ?_)
 refine wpAny_newFunctionEnv_cells S.kind hkind fun env he s1 x => ?_
 subst he
 refine ⟨lim.keeps x.toInCall.keep,codeAny_func ?_⟩
 obtain ⟨t,ht,hq⟩ := hbody A outer s H vs Q E (hr.deeper _) hsp
 have I : Inv (cxOf CX P w K mg base N qual scope f cdv A outer s H E) [] (start N vs) H s1 := inv_start S hr.hd e0 hl r x
 refine wpAny_mono (ht [] s1 (start N vs) H _ I hq) (fun fl s' hs => ?_) fun e s' hs => hs
 have fin : ∀ {σ' : St} {H' : Hp} {v : V} {u : Value},Inv (cxOf CX P w K mg base N qual scope f cdv A outer s H E) [] σ' H' s' → RelV v u → Q v H' → CE outer P w H s Q u s' :=
  fun {σ' H' v u} J rv q => ⟨v,H',J.os,J.bare,J.base,J.hok,rv,q⟩
 cases fl with
 | ret u =>
  obtain ⟨v,σ',H',J,rv,q⟩ := hs
  exact fin J rv q
 | next =>
  obtain ⟨σ',H',J,q⟩ := hs
  exact fin (v := V.non) (u := Value.none) J rfl q
 | brk =>
  obtain ⟨_,_,_,q⟩ := hs
  exact False.elim q
 | cont =>
  obtain ⟨_,_,_,q⟩ := hs
  exact False.elim q
end L2
namespace L2
open PySem PySem.Spec PyProof.Rows
section
variable {X : Cx} {x : Str} {p pos : Pos} {e : Expr} {es : List Expr} {t : TA} {id T : String} {r : List V → Hp → VK → Prop}
def tCB (r : List V → Hp → VK → Prop) (t : TA) : TE := fun σ H Q => t σ H fun vs H1 => r vs H1 Q
theorem pe_callB (hc : CallR X (.builtin id) r) (hg : Gl X x) (hm : X.mg x = none) (hv : bootBuiltins x = some (.builtin id)) (ha : PA X (e :: es) t) (hn : x ≠ "__name__" := by decide) (hdb : (x == ("__debug__" : Str)) = false := by decide)
  (he : starEach (e :: es) X.env = (false,eval e X.env) :: starEach es X.env := by rfl) (hpl : (backTo pos (starEach es X.env)).any (·.1) = false := by rfl) : PE X (.Call (.Name x p) (e :: es) [] pos) (tCB r t) := by
 intro pins s σ H Q I h
 refine wpAny_Call_Name_kw (ld_blt I hg hm hv ?_ hn hdb)
 exact PyProof.Rows.callWith_builtin1 (thn (ha pos pins s σ H _ I h) fun us s1 ⟨vs,H1,I1,r1,q1⟩ => hc pins s1 σ H1 vs us Q I1 r1 q1) he hpl
theorem pe_callTy (hc : CallR X (.type T) r) (hg : Gl X x) (hm : X.mg x = none) (hv : bootBuiltins x = some (.type T)) (ha : PA X (e :: es) t) (hn : x ≠ "__name__" := by decide) (hdb : (x == ("__debug__" : Str)) = false := by decide)
  (he : starEach (e :: es) X.env = (false,eval e X.env) :: starEach es X.env := by rfl) (hpl : (backTo pos (starEach es X.env)).any (·.1) = false := by rfl) : PE X (.Call (.Name x p) (e :: es) [] pos) (tCB r t) := by
 intro pins s σ H Q I h
 refine wpAny_Call_Name_kw (ld_blt I hg hm hv ?_ hn hdb)
 exact PyProof.Rows.callWith_type1 (thn (ha pos pins s σ H _ I h) fun us s1 ⟨vs,H1,I1,r1,q1⟩ => hc pins s1 σ H1 vs us Q I1 r1 q1) he hpl
end
end L2
namespace HT
open PySem PyProof.Rows
section
open PySem.SeqAt
open PySem.AutoSeq1 (wpAny_loadPart')
open PySem.MeetsSeq PySem.MeetsSeq2 PySem.MeetsSeq3
end
section
variable {prog : Program} {w : World} {A : Around} {E : Value → Shared → Prop} {s : Shared}
def sIx (n d : Nat) : Option Int → Nat
 | none => d
 | some v => if v < 0 then (v + (n : Int)).toNat else min v.toNat n
end
end HT
namespace L2
open PySem PySem.Spec PyProof.Rows
abbrev TO := St → Hp → (Option Int → Hp → Prop) → Prop
def PO (X : Cx) (e : Option Expr) (t : TO) : Prop :=
 ∀ (pins : List (Addr × Obj)) (s : Shared) (σ : St) (H : Hp) (Q : Option Int → Hp → Prop),Inv X pins σ H s → t σ H Q →
  wpAny (model X.prog X.w) X.A (evalPart e X.env) (fun u s' => ∃ o H',Inv X pins σ H' s' ∧ IsPart u o ∧ Q o H') X.xe s
def tNoPart : TO := fun _ H Q => Q none H
def tPart (t : TE) : TO := fun σ H Q => t σ H fun x H1 => ∃ i,x = .int i ∧ Q (some i) H1
theorem intsAre_of {ns : List Int} : ∀ {us : List Value},Vals (ns.map V.int) us → IntsAre us ns := by
 induction ns with
 | nil => intro us r; rw [List.map_nil] at r; cases r; exact .nil
 | cons n ns ih =>
  intro us r
  rw [List.map_cons] at r
  cases r with
  | cons r1 r2 =>
   obtain ⟨t,e⟩ := r1
   subst e
   exact .cons n t (ih r2)
section
variable {X : Cx} {e : Expr} {te : TE} {lo hi : Option Expr} {tl th : TO} {pos p2 : Pos}
theorem po_none : PO X none tNoPart := by
 intro pins s σ H Q I h
 rw [evalPart_none]
 exact wpAny_pure ⟨none,H,I,.none,h⟩
theorem po_some (h : PE X e te) : PO X (some e) (tPart te) := by
 intro pins s σ H Q I hw
 rw [evalPart_some]
 refine thn (h pins s σ H _ I hw) fun u s1 ⟨x,H1,I1,r1,q1⟩ => ?_
 obtain ⟨i,rfl,q⟩ := q1
 obtain ⟨t,rfl⟩ := r1
 exact ⟨some i,H1,I1,.int i t,q⟩
def SlR (X : Cx) (r : V → Option Int → Option Int → Hp → VK → Prop) : Prop :=
 ∀ (pins : List (Addr × Obj)) (s : Shared) (σ : St) (H : Hp) (x : V) (v vl vu : Value) (lo hi : Option Int) (sl : Addr) (Q : VK),Inv X pins σ H s → RelV x v → s.heap.IsSliceOf sl vl vu .none → IsPart vl lo → IsPart vu hi → r x lo hi H Q →
  ∃ T id,typeLookup (.type T) "__getitem__" = pure (some (.builtin id)) ∧ s.TypeIs v T ∧ wpAny (model X.prog X.w) X.A (getItem v (.ref sl)) (EP X pins σ Q) X.xe s
theorem SlR.or {r r' : V → Option Int → Option Int → Hp → VK → Prop} (h : SlR X r) (h' : SlR X r') : SlR X (fun x lo hi H Q => r x lo hi H Q ∨ r' x lo hi H Q) := by
 intro pins s σ H x v vl vu lo hi sl Q I rx hs pl pu q
 rcases q with q | q
 ·exact h pins s σ H x v vl vu lo hi sl Q I rx hs pl pu q
 ·exact h' pins s σ H x v vl vu lo hi sl Q I rx hs pl pu q
def tSl (r : V → Option Int → Option Int → Hp → VK → Prop) (te : TE) (tl th : TO) : TE := fun σ H Q => te σ H fun x H1 => tl σ H1 fun l H2 => th σ H2 fun u H3 => r x l u H3 Q
theorem pe_slice {r : V → Option Int → Option Int → Hp → VK → Prop} (hr : SlR X r) (he : PE X e te) (hl : PO X lo tl) (hu : PO X hi th) : PE X (.Subscript e (.Slice lo hi none p2) pos) (tSl r te tl th) := by
 intro pins s σ H Q I h
 refine Subscript_ (thn (he pins s σ H _ I h) fun v s1 ⟨x,H1,I1,r1,q1⟩ => ?_)
 refine wpAny_Slice (thn (hl pins s1 σ H1 _ I1 q1) fun vl s2 ⟨l,H2,I2,pl,q2⟩ => thn (hu pins s2 σ H2 _ I2 q2) fun vu s3 ⟨u,H3,I3,pu,q3⟩ => ?_)
 rw [evalPart_none]
 refine wpAny_pure ?_
 have I4 : Inv X pins σ H3 { s3 with heap := s3.heap.push { cls := .type "slice",data := .fields #[vl,vu,.none] } } := I3.kept (t' := s3.toks) fun b ob q => Heap.get?_push_of_some _ q
 obtain ⟨T,id,hT,ht,hg⟩ := hr pins { s3 with heap := s3.heap.push { cls := .type "slice",data := .fields #[vl,vu,.none] } } σ H3 x v vl vu l u s3.heap.objs.size Q I4 r1 (Heap.IsSliceOf.new ..) pl pu q3
 show wpAny (model X.prog X.w) X.A (subscriptTail e (.Slice lo hi none p2) v (.ref s3.heap.objs.size)) (EP X pins σ Q) X.xe { s3 with heap := s3.heap.push { cls := .type "slice",data := .fields #[vl,vu,.none] } }
 exact tail_any (ops := [.ref s3.heap.objs.size,v]) ht hT hg (by with_unfolding_all rfl)
def cutV (xs : List V) (lo hi : Option Int) : List V := (xs.drop (HT.sIx xs.length 0 lo)).take (HT.sIx xs.length xs.length hi - HT.sIx xs.length 0 lo)
theorem cutV_length (xs : List V) (lo hi : Option Int) : (cutV xs lo hi).length ≤ xs.length := by
 unfold cutV
 rw [List.length_take,List.length_drop]
 omega
end
end L2
namespace L2
open PySem PySem.Spec PyProof.Rows
def ixN (n : Nat) (i : Int) : Option Nat := if 0 ≤ i then (if i < n then some i.toNat else none) else if -(n : Int) ≤ i then some (i + n).toNat else none
def atI {α : Type} (xs : List α) (i : Int) : Option α := (ixN xs.length i).bind fun j => xs[j]?
theorem ixN_seq {n : Nat} {i : Int} {j : Nat} (h : ixN n i = some j) : seqIndex? i n = some j ∧ j < n ∧ -(n : Int) ≤ i ∧ i < n := by
 unfold ixN at h
 by_cases h0 : 0 ≤ i
 ·rw [if_pos h0] at h
  by_cases h1 : i < n
  ·rw [if_pos h1] at h
   have e : i.toNat = j := Option.some.inj h
   exact ⟨by rw [seqIndex_of h0 h1,e],by omega,by omega,h1⟩
  ·rw [if_neg h1] at h; cases h
 ·rw [if_neg h0] at h
  by_cases h1 : -(n : Int) ≤ i
  ·rw [if_pos h1] at h
   have e : (i + n).toNat = j := Option.some.inj h
   exact ⟨by rw [seqIndex_neg (by omega) h1,e],by omega,h1,by omega⟩
  ·rw [if_neg h1] at h; cases h
theorem atI_get {α : Type} {xs : List α} {i : Int} {v : α} (h : atI xs i = some v) : ∃ j,seqIndex? i xs.length = some j ∧ xs[j]? = some v ∧ j < xs.length ∧ -(xs.length : Int) ≤ i ∧ i < xs.length := by
 unfold atI at h
 cases e : ixN xs.length i with
 | none => rw [e] at h; cases h
 | some j =>
  rw [e] at h
  obtain ⟨h1,h2,h3,h4⟩ := ixN_seq e
  exact ⟨j,h1,h,h2,h3,h4⟩
theorem atI_nat {α : Type} {xs : List α} {j : Nat} {v : α} (h : xs[j]? = some v) : atI xs (j : Int) = some v := by
 have hj : j < xs.length := (List.getElem?_eq_some_iff.mp h).1
 have e : ixN xs.length (j : Int) = some j := by
  unfold ixN
  rw [if_pos (by omega),if_pos (by omega)]; simp
 unfold atI; rw [e]; exact h
theorem atI_last {α : Type} (xs : List α) (v : α) : atI (xs ++ [v]) (-1) = some v := by
 have hl : (xs ++ [v]).length = xs.length + 1 := by simp
 have e : ixN (xs ++ [v]).length (-1) = some xs.length := by
  unfold ixN
  rw [hl,if_neg (by decide),if_pos (by omega)]
  congr 1
  omega
 unfold atI
 rw [e]
 show (xs ++ [v])[xs.length]? = some v
 simp
def PlainIx (b : Expr) : Prop := ∀ o i,subscripted b false o i = operate [o,i] (getItem o i)
def IxR (X : Cx) (r : R2) : Prop :=
 ∀ (value slice : Expr) (pins : List (Addr × Obj)) (s : Shared) (σ : St) (H : Hp) (x y : V) (v u : Value) (Q : VK),Inv X pins σ H s → RelV x v → RelV y u → r x y H Q →
  subscripted slice false v u = operate [v,u] (getItem v u) → wpAny (model X.prog X.w) X.A (subscriptTail value slice v u) (EP X pins σ Q) X.xe s
def MtR (X : Cx) (id : String) (r : V → List V → Hp → VK → Prop) : Prop :=
 ∀ (pins : List (Addr × Obj)) (s : Shared) (σ : St) (H : Hp) (x : V) (xs : List V) (v : Value) (us : List Value) (Q : VK),Inv X pins σ H s → RelV x v → Vals xs us → r x xs H Q →
  wpAny (model X.prog X.w) X.A (call (.builtin id) (v :: us)) (EP X pins σ Q) X.xe s
section
variable {X : Cx} {a b : Expr} {ta tb : TE} {pos : Pos}
theorem IxR.or {r r' : R2} (h : IxR X r) (h' : IxR X r') : IxR X (fun x y H Q => r x y H Q ∨ r' x y H Q) := by
 intro value slice pins s σ H x y v u Q I rx ry q hs
 rcases q with q | q
 ·exact h value slice pins s σ H x y v u Q I rx ry q hs
 ·exact h' value slice pins s σ H x y v u Q I rx ry q hs
theorem MtR.or {id : String} {r r' : V → List V → Hp → VK → Prop} (h : MtR X id r) (h' : MtR X id r') : MtR X id (fun x xs H Q => r x xs H Q ∨ r' x xs H Q) := by
 intro pins s σ H x xs v us Q I rx rs q
 rcases q with q | q
 ·exact h pins s σ H x xs v us Q I rx rs q
 ·exact h' pins s σ H x xs v us Q I rx rs q
theorem pe_ix {r : R2} (hr : IxR X r) (ha : PE X a ta) (hb : PE X b tb) (hs : PlainIx b) : PE X (.Subscript a b pos) (tOp r ta tb) := by
 intro pins s σ H Q I h
 exact Subscript_ (binT ha hb I h fun v u s2 x y H2 I2 rx ry q => hr a b pins s2 σ H2 x y v u Q I2 rx ry q (hs _ _))
def rIxL (K : PySem.W.Frag) : R2 := fun x y H Q => ∃ p xs i v,x = .ref p ∧ y = .int i ∧ SqL K H p xs ∧ atI xs i = some v ∧ Q v H
def rIxT (K : PySem.W.Frag) : R2 := fun x y H Q => ∃ p xs i v,x = .ref p ∧ y = .int i ∧ SqT K H p xs ∧ atI xs i = some v ∧ Q v H
def rIxS : R2 := fun x y H Q => ∃ z i c,x = .str z ∧ y = .int i ∧ z.length ≤ sizeLine ∧ atI z.cps.toList i = some c ∧ Q (.str ⟨#[c]⟩) H
theorem ix_list : IxR X (rIxL X.K) := by
 intro value slice pins s σ H x y v u Q I rx ry h hs
 obtain ⟨p,xs,i,z,rfl,rfl,hq,he,q⟩ := h
 cases rx
 obtain ⟨t,rfl⟩ := ry
 obtain ⟨its,r,pl,hz⟩ := I.list hq
 obtain ⟨j,h1,h2,h3,h4,h5⟩ := atI_get he
 obtain ⟨w,ew,rw'⟩ := r.get h2
 have hl := r.length
 have hn := line63
 have fin : EP X pins σ Q w s := ⟨z,H,I,rw',q⟩
 by_cases h0 : 0 ≤ i
 ·have hj : i.toNat = j := by
   rw [seqIndex_of h0 h5] at h1
   exact Option.some.inj h1
  exact item_listR pl.isList h0 (by omega) (by rw [hj]; simpa using ew) fin hs
 ·have hj : (i + (its.toArray.size : Int)).toNat = j := by
   rw [seqIndex_neg (by omega) h4] at h1
   rw [List.size_toArray,← hl]
   exact Option.some.inj h1
  exact subscriptTail_builtinR (x := w) pl.isList.typeIs slot_list_getitem.lookup
   (wpAny_getItem_list_neg (Q := fun r s' => r = w ∧ EP X pins σ Q r s') pl.isList (by omega) (by rw [List.size_toArray] <;> omega) (by omega) (by rw [hj]; simpa using ew) ⟨rfl,fin⟩) hs
theorem ix_tup : IxR X (rIxT X.K) := by
 intro value slice pins s σ H x y v u Q I rx ry h hs
 obtain ⟨p,xs,i,z,rfl,rfl,hq,he,q⟩ := h
 cases rx
 obtain ⟨t,rfl⟩ := ry
 obtain ⟨its,r,pl,hz⟩ := I.tuple hq
 obtain ⟨j,h1,h2,h3,h4,h5⟩ := atI_get he
 obtain ⟨w,ew,rw'⟩ := r.get h2
 have hl := r.length
 have hn := line63
 have fin : EP X pins σ Q w s := ⟨z,H,I,rw',q⟩
 exact subscriptTail_builtinR (x := w) pl.typeIs slot_tuple_getitem.lookup
  (getItem_tuple (j := j) (Q := fun r s' => r = w ∧ EP X pins σ Q r s') pl (by omega) (by omega) (by rw [List.size_toArray,← hl]; exact h1) (by simpa using ew) ⟨rfl,fin⟩) hs
theorem ix_str : IxR X rIxS := by
 intro value slice pins s σ H x y v u Q I rx ry h hs
 obtain ⟨z,i,c,rfl,rfl,hz,he,q⟩ := h
 obtain ⟨t,rfl⟩ := rx
 obtain ⟨t',rfl⟩ := ry
 obtain ⟨j,h1,h2,h3,h4,h5⟩ := atI_get he
 have hl : z.cps.toList.length = z.length := by simp [Str.length]
 rw [hl] at h1 h4 h5
 have hn := line63
 exact tail_any (typeIs_str s z t) slot_str_getitem.lookup (getItem_str (c := c) (by
  have e1 : decide (i < -(2 ^ 63 : Int)) = false := decide_eq_false (by omega)
  have e2 : decide (i ≥ 2 ^ 63) = false := decide_eq_false (by omega)
  rw [e1,e2,Bool.or_false]) (by rw [h1]; simpa using h2) ⟨.str ⟨#[c]⟩,H,I.tok _,⟨_,rfl⟩,q⟩) hs
theorem Inv.lst {pins : List (Addr × Obj)} {σ : St} {H : Hp} {s : Shared} {p : Addr} {xs : List V} (I : Inv X pins σ H s) (h : H p = some (.lst xs)) :
  ∃ (its : List Value) (n : Nat),Vals xs its ∧ s.heap.get? p = some { cls := .type "list",data := .seq its.toArray n } ∧ xs.length ≤ sizeLine := by
 obtain ⟨z,its,n,r,e⟩ := I.hok p _ h
 exact ⟨its,n,r,e,z⟩
theorem slice_bounds (lo hi : Option Int) (n : Nat) : (sliceBounds lo hi none n).1 = ((HT.sIx n 0 lo : Nat) : Int) ∧ (sliceBounds lo hi none n).2.1 = ((HT.sIx n n hi : Nat) : Int) ∧ (sliceBounds lo hi none n).2.2 = 1 := by
 refine ⟨?_,?_,rfl⟩
 ·cases lo with
  | none => simp [sliceBounds,HT.sIx]
  | some i =>
   simp only [sliceBounds,HT.sIx,Option.getD_none,show (1 : Int) > 0 by decide,if_true]
   by_cases h : i < 0
   ·simp only [h,if_true] <;> omega
   ·simp only [h,if_false] <;> omega
 ·cases hi with
  | none => simp [sliceBounds,HT.sIx]
  | some i =>
   simp only [sliceBounds,HT.sIx,Option.getD_none,show (1 : Int) > 0 by decide,if_true]
   by_cases h : i < 0
   ·simp only [h,if_true] <;> omega
   ·simp only [h,if_false] <;> omega
theorem slicePick_cut (its : List Value) (lo hi : Option Int) : slicePick its.toArray lo hi none = ((its.drop (HT.sIx its.length 0 lo)).take (HT.sIx its.length its.length hi - HT.sIx its.length 0 lo)).toArray := by
 obtain ⟨h1,h2,h3⟩ := slice_bounds lo hi its.toArray.size
 unfold slicePick
 rw [h1,h2,h3]
 simp only [sliceRange_one,pick_run,List.size_toArray] <;> rfl
def rSlL (K : PySem.W.Frag) : V → Option Int → Option Int → Hp → VK → Prop := fun x lo hi H Q => ∃ a xs,x = .ref a ∧ SqL K H a xs ∧ ∀ p,H p = none → Q (.ref p) (upd H p (.lst (cutV xs lo hi)))
theorem sl_list : SlR X (rSlL X.K) := by
 intro pins s σ H x v vl vu lo hi sl Q I rx hs pl pu h
 obtain ⟨a,xs,rfl,hx,q⟩ := h
 cases rx
 obtain ⟨its,r,ht,hz⟩ := I.list hx
 have hlen := r.length
 refine ⟨"list",_,slot_list_getitem.lookup,ht.isList.typeIs,?_⟩
 refine wpAny_getItem_list_slice ht.isList hs pl pu .none (by simp) ?_ (by rw [List.size_toArray] <;> omega)
 rw [slicePick_cut,← hlen]
 refine ⟨.ref s.heap.objs.size,_,I.laid (t' := s.toks) (o := .lst (cutV xs lo hi)) (fun b ob q => Heap.get?_push_of_some _ q) (Nat.le_refl _) ?_,rfl,q _ (I.hok.fresh (Nat.le_refl _))⟩
 exact ⟨Nat.le_trans (cutV_length xs lo hi) hz,_,0,(r.drop (HT.sIx xs.length 0 lo)).take (HT.sIx xs.length xs.length hi - HT.sIx xs.length 0 lo),Heap.get?_push_size _ rfl⟩
def flatV : V → Bool
 | .non => true
 | .bl _ => true
 | .int _ => true
 | .str _ => true
 | _ => false
def eqV : V → V → Bool
 | .non,.non => true
 | .bl a,.bl b => a == b
 | .bl a,.int b => (if a then 1 else 0) == b
 | .int a,.bl b => a == (if b then 1 else 0)
 | .int a,.int b => a == b
 | .str a,.str b => a == b
 | _,_ => false
theorem eqAt_V {A : Around} {s : Shared} {y x : V} {u v : Value} (ry : RelV y u) (rx : RelV x v) (fy : flatV y = true) (fx : flatV x = true) : SeqAt.EqAt A s u v (eqV y x) := by
 cases y with
 | non =>
  cases ry
  cases x with
  | non => cases rx; exact SeqAt.EqAt.same _
  | bl b => cases rx; exact SeqAt.EqAt.none_bool b
  | int b => obtain ⟨t,rfl⟩ := rx; exact SeqAt.EqAt.none_int b t
  | str b => obtain ⟨t,rfl⟩ := rx; exact SeqAt.EqAt.none_str b t
  | _ => exact absurd (show false = true from fx) Bool.false_ne_true
 | bl a =>
  cases ry
  cases x with
  | non => cases rx; exact SeqAt.EqAt.bool_none a
  | bl b => cases rx; exact SeqAt.EqAt.bool_bool a b
  | int b => obtain ⟨t,rfl⟩ := rx; exact SeqAt.EqAt.bool_int a b t
  | str b => obtain ⟨t,rfl⟩ := rx; exact SeqAt.EqAt.bool_str a b t
  | _ => exact absurd (show false = true from fx) Bool.false_ne_true
 | int a =>
  obtain ⟨t',rfl⟩ := ry
  cases x with
  | non => cases rx; exact SeqAt.EqAt.int_none a t'
  | bl b => cases rx; exact SeqAt.EqAt.int_bool a t' b
  | int b => obtain ⟨t,rfl⟩ := rx; exact SeqAt.EqAt.int_int a t' b t
  | str b => obtain ⟨t,rfl⟩ := rx; exact SeqAt.EqAt.int_str a t' b t
  | _ => exact absurd (show false = true from fx) Bool.false_ne_true
 | str a =>
  obtain ⟨t',rfl⟩ := ry
  cases x with
  | non => cases rx; exact SeqAt.EqAt.str_none a t'
  | bl b => cases rx; exact SeqAt.EqAt.str_bool a t' b
  | int b => obtain ⟨t,rfl⟩ := rx; exact SeqAt.EqAt.str_int a t' b t
  | str b => obtain ⟨t,rfl⟩ := rx; exact SeqAt.EqAt.str_str a t' b t
  | _ => exact absurd (show false = true from fx) Bool.false_ne_true
 | _ => exact absurd (show false = true from fy) Bool.false_ne_true
def eqU (x : V) (u : Value) : Bool := match u with
 | .none => eqV .non x
 | .bool b => eqV (.bl b) x
 | .int i _ => eqV (.int i) x
 | .str z _ => eqV (.str z) x
 | _ => false
theorem eqU_of {x y : V} {u : Value} (r : RelV y u) (f : flatV y = true) : eqU x u = eqV y x := by
 cases y with
 | non => cases r; rfl
 | bl b => cases r; rfl
 | int i => obtain ⟨t,rfl⟩ := r; rfl
 | str z => obtain ⟨t,rfl⟩ := r; rfl
 | _ => exact absurd (show false = true from f) Bool.false_ne_true
theorem any_eqU {x : V} : ∀ {xs : List V} {us : List Value},Vals xs us → xs.all flatV = true → us.any (eqU x) = xs.any fun y => eqV y x
 | _,_,.nil,_ => rfl
 | y :: xs,u :: us,.cons r t,f => by
  rw [List.all_cons,Bool.and_eq_true] at f
  rw [List.any_cons,List.any_cons,eqU_of r f.1,any_eqU t f.2]
theorem mem_eqAt {A : Around} {s : Shared} {x : V} {v : Value} (rx : RelV x v) (fx : flatV x = true) : ∀ {xs : List V} {us : List Value},Vals xs us → xs.all flatV = true → ∀ u ∈ us,SeqAt.EqAt A s u v (eqU x u)
 | _,_,.nil,_ => fun u hu => by cases hu
 | y :: xs,u :: us,.cons r t,f => fun u' hu => by
  rw [List.all_cons,Bool.and_eq_true] at f
  rcases List.mem_cons.mp hu with rfl | hu
  ·rw [eqU_of r f.1]; exact eqAt_V r rx f.1 fx
  ·exact mem_eqAt rx fx t f.2 u' hu
def inV (x : V) (xs : List V) : Bool := xs.any fun y => eqV y x
def rIn (K : PySem.W.Frag) (neg : Bool) : R2 := fun x y H Q => ∃ p xs,y = .ref p ∧ (SqL K H p xs ∨ SqT K H p xs) ∧ flatV x = true ∧ xs.all flatV = true ∧ Q (.bl (if neg then !inV x xs else inV x xs)) H
theorem op_notIn_seq : OpR X (compareOp .NotIn) (rIn X.K true) := by
 intro pins s σ H x y v u Q I rx ry h
 obtain ⟨p,xs,rfl,hq,fx,fs,q⟩ := h
 cases ry
 rcases hq with hq | hq
 ·obtain ⟨its,r,pl,hz⟩ := I.list hq
  refine SeqAt.notIn_listAt (eqU x) pl.isList (fun w hw => mem_eqAt rx fx r fs w (by simpa using hw)) ⟨.bl _,H,I,rfl,?_⟩
  rw [show its.toArray.any (eqU x) = its.any (eqU x) by simp,any_eqU r fs]
  exact q
 ·obtain ⟨its,r,pl,hz⟩ := I.tuple hq
  refine SeqAt.notIn_tupleAt (eqU x) pl (fun w hw => mem_eqAt rx fx r fs w (by simpa using hw)) ⟨.bl _,H,I,rfl,?_⟩
  rw [show its.toArray.any (eqU x) = its.any (eqU x) by simp,any_eqU r fs]
  exact q
theorem call_len_seq : CallR X (.builtin "len") (fun xs H Q => ∃ p ys,xs = [.ref p] ∧ (SqL X.K H p ys ∨ SqT X.K H p ys) ∧ Q (.int ys.length) H) := by
 intro pins s σ H xs us Q I r h
 obtain ⟨p,ys,rfl,hq,q⟩ := h
 obtain ⟨u,rfl,rx⟩ := vals1 r
 cases rx
 have hn := line63
 rcases hq with hq | hq
 ·obtain ⟨its,r',pl,hz⟩ := I.list hq
  have hlen := r'.length
  exact Calls.call_len_list pl.isList (by simp only [List.size_toArray] <;> omega) ⟨.int ys.length,H,I.tok _,⟨s.toks + 1,by rw [List.size_toArray,hlen]⟩,q⟩
 ·obtain ⟨its,r',pl,hz⟩ := I.tuple hq
  have hlen := r'.length
  exact len_tuple pl (by simp only [List.size_toArray] <;> omega) ⟨.int ys.length,H,I.tok _,⟨s.toks + 1,by rw [List.size_toArray,hlen]⟩,q⟩
theorem CallR.or {f : Value} {r r' : List V → Hp → VK → Prop} (h : CallR X f r) (h' : CallR X f r') : CallR X f (fun xs H Q => r xs H Q ∨ r' xs H Q) := by
 intro pins s σ H xs us Q I rs q
 rcases q with q | q
 ·exact h pins s σ H xs us Q I rs q
 ·exact h' pins s σ H xs us Q I rs q
theorem call_list_of : CallR X (.type "list") (fun xs H Q => ∃ p ys,xs = [.ref p] ∧ (SqL X.K H p ys ∨ SqT X.K H p ys) ∧ ∀ l,H l = none → Q (.ref l) (upd H l (.lst ys))) := by
 intro pins s σ H xs us Q I r h
 obtain ⟨p,ys,rfl,hq,q⟩ := h
 obtain ⟨u,rfl,rx⟩ := vals1 r
 cases rx
 have fin : ∀ (its : List Value),Vals ys its → ys.length ≤ sizeLine → ∀ (h' : Heap) (c' : Nat),(∀ b o',s.heap.get? b = some o' → h'.get? b = some o') →
   h'.get? s.heap.objs.size = some { cls := .type "list",dict := none,data := .seq its.toArray c',slots := #[] } → EP X pins σ Q (.ref s.heap.objs.size) { s with heap := h' } := fun its r' hz h' c' kp e =>
  ⟨.ref s.heap.objs.size,_,I.laid (t' := s.toks) kp (Nat.le_refl _) (show ObjOk X.prog X.w _ h' _ (.lst ys) from ⟨hz,its,c',r',e⟩),rfl,q _ (I.hok.fresh (Nat.le_refl _))⟩
 rcases hq with hq | hq
 ·obtain ⟨its,r',pl,hz⟩ := I.list hq
  have hlen := r'.length
  obtain ⟨o,ho,hc,n,hd⟩ := pl.isList
  exact call_list_seq p (.inl rfl) ho hc hd (fun h' c' kp e => fin its r' hz h' c' kp e) (by simp only [List.size_toArray] <;> omega)
 ·obtain ⟨its,r',pl,hz⟩ := I.tuple hq
  have hlen := r'.length
  obtain ⟨o,ho,hc,n,hd⟩ := pl
  exact call_list_seq p (.inr rfl) ho hc hd (fun h' c' kp e => fin its r' hz h' c' kp e) (by simp only [List.size_toArray] <;> omega)
def tyV (K : PySem.W.Frag) (T : String) (x : V) (H : Hp) : Prop := match x with
 | .str _ => T = "str"
 | .int _ => T = "int"
 | .ref p => (T = "list" ∧ ∃ xs,SqL K H p xs) ∨ (T = "tuple" ∧ ∃ o,K.lookup p = some o ∧ o.cls = .type "tuple" ∧ o.dict = none) ∨
   (T = "dict" ∧ ((∃ kvs,H p = some (.dK kvs)) ∨ ∃ kvs,H p = some (.dT kvs))) ∨ (T = "set" ∧ ∃ S n,H p = some (.set S n))
 | _ => False
theorem tyV_is {pins : List (Addr × Obj)} {σ : St} {H : Hp} {s : Shared} {T : String} {x : V} {v : Value} (I : Inv X pins σ H s) (r : RelV x v) (ty : tyV X.K T x H) :
  s.TypeIs v T ∧ ∀ a,v = .ref a → ∃ ob,s.heap.get? a = some ob ∧ ob.dict = none := by
 cases x with
 | str z =>
  obtain ⟨t,rfl⟩ := r
  cases (show T = "str" from ty)
  exact ⟨typeIs_str s z t,fun _ e => nomatch e⟩
 | int i =>
  obtain ⟨t,rfl⟩ := r
  cases (show T = "int" from ty)
  exact ⟨typeIs_int s i t,fun _ e => nomatch e⟩
 | ref p =>
  cases r
  rcases ty with ⟨rfl,xs,hq⟩ | ⟨rfl,o,hk,hc,hd⟩ | ⟨rfl,hk⟩ | ⟨rfl,S,n,hk⟩
  ·obtain ⟨its,_,pl,_⟩ := I.list hq
   refine ⟨pl.isList.typeIs,fun a e => ?_⟩
   cases e
   obtain ⟨o,n,e,c,hd,_⟩ := pl
   exact ⟨o,e,hd⟩
  ·refine ⟨⟨o,I.kIn p o hk,hc⟩,fun a e => ?_⟩
   cases e
   exact ⟨o,I.kIn _ o hk,hd⟩
  ·have z : ∃ o,s.heap.get? p = some o ∧ o.ExactDict := by
    rcases hk with ⟨kvs,hk⟩ | ⟨kvs,hk⟩
    ·obtain ⟨_,_,_,_,o,_,_,e,ex,_⟩ := I.hok p _ hk
     exact ⟨o,e,ex⟩
    ·obtain ⟨_,_,_,_,o,_,_,e,ex,_⟩ := I.hok p _ hk
     exact ⟨o,e,ex⟩
   obtain ⟨o,e,ex⟩ := z
   refine ⟨⟨o,e,ex.1⟩,fun a e2 => ?_⟩
   cases e2
   exact ⟨o,e,ex.2.1⟩
  ·obtain ⟨o,_,_,_,e,ex,_⟩ := I.hok p _ hk
   refine ⟨⟨o,e,ex.1⟩,fun a e2 => ?_⟩
   cases e2
   exact ⟨o,e,ex.2.1⟩
 | _ => exact False.elim ty
def tBM (K : PySem.W.Frag) (T : String) (r : V → List V → Hp → VK → Prop) (to : TE) (t : TA) : TE := fun σ H Q => to σ H fun x H1 => tyV K T x H1 ∧ t σ H1 fun xs H2 => r x xs H2 Q
variable {o e : Expr} {es : List Expr} {to : TE} {t : TA} {name : Str} {apos cpos : Pos} {T id : String} {r : V → List V → Hp → VK → Prop}
theorem pe_bm (pa : PlainAttrs T) (slot : Slot T name id) (hty : typeOf (.builtin id) = pure (.type "method_descriptor")) (hm : MtR X id r) (ho : PE X o to) (ha : PA X (e :: es) t)
  (hbase : attributeBase o name X.env (eval o X.env) = eval o X.env := by rfl)
  (hfew : ((backTo cpos (starEach (e :: es) X.env)).all (fun x => !x.1) && (backToKw cpos (keywordEach [] X.env)).all (fun x => x.1.isSome)
   && decide ((e :: es).length + ([] : List Keyword).length + (if ([] : List Keyword).isEmpty then 0 else 1) < 30)) = true := by rfl)
  (hline : (apos.endLine == cpos.line) = true := by rfl) (hs : starEach (e :: es) X.env = (false,eval e X.env) :: starEach es X.env := by rfl) (hplain : (backTo cpos (starEach es X.env)).any (·.1) = false := by rfl) :
  PE X (.Call (.Attribute o name apos) (e :: es) [] cpos) (tBM X.K T r to t) := by
 intro pins s σ H Q I h
 refine wpAny_Call_method_late hbase hfew hline rfl (thn (ho pins s σ H _ I h) fun v s1 ⟨x,H1,I1,r1,ty,q1⟩ => ?_)
 obtain ⟨h1,h2⟩ := tyV_is I1 r1 ty
 refine ⟨T,id,pa,slot,hty,h1,h2,?_⟩
 have hA := ha cpos pins s1 σ H1 _ I1 q1
 rw [hs] at hA ⊢
 refine Calls.callWith_builtin (by show (false || (backTo cpos (starEach es X.env)).any (·.1)) = false; rw [hplain] <;> rfl) (Calls.evalArgs_plain ?_)
 exact thn hA fun us s2 ⟨vs,H2,I2,r2,q2⟩ => hm pins s2 σ H2 x vs v us Q I2 r1 r2 q2
end
end L2
namespace L2
open PySem PySem.Spec PyProof.Rows
def MtM (X : Cx) (id : String) (r : V → List V → Hp → VK → Prop) : Prop :=
 ∀ (pins : List (Addr × Obj)) (s : Shared) (σ : St) (H : Hp) (x : V) (xs : List V) (v : Value) (us : List Value) (Q : VK),Inv X pins σ H s → RelV x v → Vals xs us → r x xs H Q →
  wpAny (model X.prog X.w) X.A (call (.builtin id) (v :: us)) (EP X pins σ Q) X.xe s
theorem Vals.one : ∀ {x : V} {us : List Value},Vals [x] us → ∃ u,us = [u] ∧ RelV x u
 | _,_,.cons r .nil => ⟨_,rfl,r⟩
theorem Vals.two : ∀ {x y : V} {us : List Value},Vals [x,y] us → ∃ u v,us = [u,v] ∧ RelV x u ∧ RelV y v
 | _,_,_,.cons r (.cons q .nil) => ⟨_,_,rfl,r,q⟩
theorem Vals.zero : ∀ {us : List Value},Vals [] us → us = []
 | _,.nil => rfl
theorem Vals.dropLast {xs : List V} {us : List Value} (h : Vals xs us) : Vals xs.dropLast us.dropLast := by
 induction h with
 | nil => exact .nil
 | cons r t ih =>
  cases t with
  | nil => exact .nil
  | cons q t' => exact .cons r ih
section
variable {X : Cx} {pins : List (Addr × Obj)} {σ : St} {H : Hp} {s : Shared} {l b : Addr} {xs ys zs : List V}
theorem Inv.lset {its its' : List Value} {n : Nat} {f : Array Value → Array Value} {t' : Nat} (I : Inv X pins σ H s) (hH : H l = some (.lst xs))
  (e : s.heap.get? l = some { cls := .type "list",data := .seq its.toArray n }) (hf : f its.toArray = its'.toArray) (hv : Vals ys its') (hz : ys.length ≤ sizeLine) :
  Inv X pins σ (upd H l (.lst ys)) { s with heap := s.heap.update l (Obj.mapSeq f),toks := t' } := by
 have q := PySem.IsL.update e f
 rw [hf] at q
 refine I.write (x := l) (e := l) (by rw [hH]; exact trivial) (.inl rfl) (fun b' u hb hu => (Heap.get?_update_other s.heap (Obj.mapSeq f) (Ne.symm hb)).trans hu) ⟨_,q⟩ ?_
 exact ⟨hz,its',_,hv,q⟩
theorem Inv.lnew {its : List Value} {t' : Nat} (I : Inv X pins σ H s) (hv : Vals ys its) (hz : ys.length ≤ sizeLine) :
  Inv X pins σ (upd H s.heap.objs.size (.lst ys)) { s with heap := s.heap.push { cls := .type "list",data := .seq its.toArray },toks := t' } :=
 I.laid (fun _ _ q => Heap.get?_push_of_some _ q) (Nat.le_refl _) ⟨hz,its,0,hv,Heap.get?_push_size _ rfl⟩
theorem Inv.fresh (I : Inv X pins σ H s) : H s.heap.objs.size = none := I.hok.fresh (Nat.le_refl _)
theorem Inv.lstM (I : Inv X pins σ H s) (hH : H l = some (.lst xs)) : xs.length ≤ sizeLine ∧ ∃ (its : List Value) (n : Nat),Vals xs its ∧ xs.length = its.length ∧ s.heap.get? l = some { cls := .type "list",data := .seq its.toArray n } := by
 obtain ⟨z,its,n,r,e⟩ := I.hok l _ hH
 exact ⟨z,its,n,r,r.length,e⟩
end
section
variable {X : Cx}
def rAppend : V → List V → Hp → VK → Prop := fun x vs H Q => ∃ l xs y,x = .ref l ∧ vs = [y] ∧ H l = some (.lst xs) ∧ xs.length < sizeLine ∧ Q .non (upd H l (.lst (xs ++ [y])))
theorem mt_append : MtM X "list.append" rAppend := by
 intro pins s σ H x vs v us Q I rx rv h
 obtain ⟨l,xs,y,rfl,rfl,hH,hz,q⟩ := h
 cases rx
 obtain ⟨u,rfl,ru⟩ := rv.one
 obtain ⟨z,its,n,r,hl,e⟩ := I.lstM hH
 refine call_meets F.slot_list_append ⟨_,e,rfl⟩ F.entry_list_append (F.args_list_append_2 _ _) (PySem.list_append l its.toArray n u (by rw [List.size_toArray]; omega)) ⟨e,?_⟩
 refine ⟨.non,_,I.lset (its' := its ++ [u]) hH e (by simp) (r.append (.cons ru .nil)) ?_,rfl,q⟩
 rw [List.length_append,List.length_singleton]
 omega
def rCat : R2 := fun x y H Q => ∃ l b xs zs,x = .ref l ∧ y = .ref b ∧ H l = some (.lst xs) ∧ H b = some (.lst zs) ∧ xs.length + zs.length ≤ sizeLine ∧ ∀ p,H p = none → Q (.ref p) (upd H p (.lst (xs ++ zs)))
theorem op_cat : OpR X (binaryOp .Add) rCat := by
 intro pins s σ H x y v u Q I rx ry h
 obtain ⟨l,b,xs,zs,rfl,rfl,hH,hB,hz,q⟩ := h
 cases rx
 cases ry
 obtain ⟨z,its,n,r,hl,e⟩ := I.lstM hH
 obtain ⟨z2,its2,n2,r2,hl2,e2⟩ := I.lstM hB
 refine PySem.P.add_list e e2 ?_ (by rw [List.size_toArray,List.size_toArray]; omega)
 have ea : its.toArray ++ its2.toArray = (its ++ its2).toArray := by simp
 rw [ea]
 exact ⟨.ref _,_,I.lnew (t' := s.toks) (r.append r2) (by rw [List.length_append]; omega),rfl,q _ I.fresh⟩
end
section
variable {prog : Program} {w : World} {A : Around} {E : Value → Shared → Prop} {s : Shared}
end
section
variable {X : Cx}
end
end L2
namespace Att
open PySem PySem.W PySem.Calls PyProof.Rows
theorem ints_of_wellAll {P : Params} {h : Heap} : ∀ (ns : List Int) (vs : List Value),WellAll P h vs (ns.map WData.int) → IntsAre vs ns := by
 intro ns
 induction ns with
 | nil =>
  intro vs w
  rw [List.map_nil] at w
  cases w
  exact .nil
 | cons n ns ih =>
  intro vs w
  rw [List.map_cons] at w
  cases w with
  | cons a b =>
   cases a
   exact .cons _ _ (ih _ b)
theorem script_of {l : OpenLaw} {n : Nat} (hn : l.most = some n) {P : Params} {h : Heap} {args : List WData} {vals : List Value}
  (hpre : l.row.toRowW.claim.pre args = true) (hwl : WellAll P h vals args) :
  ∃ a vs ns,vals = [Value.ref a] ∧ args = [WData.list (ns.map WData.int)] ∧ h.get? a = some { cls := .type "list",data := .seq vs.toArray } ∧ IntsAre vs ns ∧ ns.length ≤ n := by
 have hsh : WShape.hasAll [] args [.list .int] = true := (pre_splitW hpre).1
 have hc : l.pre.holds [] { args := args } = true := (pre_splitW hpre).2
 obtain ⟨d,r,rfl,h1,h2⟩ := hasAllW_cons hsh
 obtain rfl := hasAllW_nil h2
 obtain ⟨xs,rfl,h3⟩ := hasW_list h1
 obtain ⟨ns,rfl⟩ := items_int h3
 have hlen : ns.length ≤ n := by
  unfold OpenLaw.pre at hc
  have h4 : (WTm.not (.lt (.lit (.int (n : Int))) (.len (.arg 0)))).holds [] { args := [.list (ns.map .int)] } = true := by
   have h4 := (holds_andW hc).1
   rw [hn] at h4
   exact h4
  have h5 := condW_of h4 (w_not (w_lt w_lit (w_len_list (w_arg rfl))))
  rw [List.length_map] at h5
  refine Nat.le_of_not_lt fun q => ?_
  have q' : (n : Int) < ((ns.length : Nat) : Int) := by omega
  first
   | (rw [decide_eq_true q'] at h5; exact absurd h5 (by decide))
   | (simp at h5; omega)
 cases hwl with
 | cons w1 w2 =>
  cases w2
  cases w1 with
  | list ho hall => exact ⟨_,_,ns,rfl,rfl,ho,ints_of_wellAll ns _ hall,hlen⟩
theorem post_true (l : OpenLaw) (args : List WData) : l.row.toRowW.claim.post args (.bool true) args = true :=
 postW_of (r := l.row.toRowW) (X := (true == true))
  (show WShape.has [] (.bool true) .bool = true by first | rfl | decide | simp [WShape.has,WShape.arms,WShape.armsAll])
  (show (WTm.eq .res (.lit (.bool true))).value [] { args := args,res := some (.bool true),after := args } = some (.bool (true == true)) from w_eq_bool (w_res rfl) w_lit) rfl
theorem attach_call {l : OpenLaw} {n : Nat} {q : Program} {loose : List Str} {XP : (Str → Option Value) → Heap → Prop} {YP : World → Heap → Prop} {d : DefRec}
  (hn : l.most = some n) (hdf : d.params.defaults = [])
  (call : ∀ (w : World) (s₀ s₁ : Shared) (mg mb : Str → Option Value) (fa : Addr) (o : Obj) (pm cd doc : Value) (a : Addr) (vs : List Value) (ns : List Int),
   Ground q loose [] XP w s₀ mg mb s₁.heap → YP w s₁.heap →
   s₁.heap.get? fa = some o → o.data = .func (docDef d.name d.params d.body d.scope pm cd doc) → s₁.heap.CodeRec cd d.name → mg d.name = some (.ref fa) →
   s₁.heap.get? a = some { cls := .type "list",data := .seq vs.toArray } → IntsAre vs ns → ns.length ≤ n → s₁.gens = #[] →
   codeAny (model l.prog w) callerA (.call (.ref fa) ⟨[.ref a],[]⟩) (fun r s' => r = .ok (.ret (.bool true)) ∧ OldK s₁.heap s'.heap ∧ s'.os = s₁.os ∧ AllBare s'.gens) s₁) :
  WalkO q loose XP YP l.row.toRowW d [] (fun f vs => PySem.call f vs) := by
 intro w s₀ s₁ mg mb G Y fa o pm cd doc dV kV ho hd hcd hD hmg hg args vals as hpre hlay hrd hwl hlo
 obtain rfl : dV = .none := Dflts.none hD hdf
 obtain rfl : kV = .none := Dflts.noKw hD
 obtain ⟨a,vs,ns,rfl,rfl,hobj,hints,hlen⟩ := script_of hn hpre hwl
 refine enter_call (codeAny_mono (call w s₀ s₁ mg mb fa o pm cd doc a vs ns G Y ho (fd_plain hd) hcd hmg hobj hints hlen hg) fun r s' hq => ?_)
 obtain ⟨rfl,h2,h3,h4⟩ := hq
 exact ⟨.inl ⟨.bool true,.bool true,[],rfl,fun _ => rfl,.bool true,post_true l _,fun _ => ⟨List.Pairwise.nil,fun _ hm => (nomatch hm)⟩⟩,h2,h3,h4⟩
section
variable {prog : Program} {w : World} {A : Around} {E : Value → Shared → Prop} {s : Shared} {K : Frag}
def ledger (h : Heap) (L d : Addr) : List (Addr × Obj) := (List.range h.objs.size).filterMap fun a => if a = L ∨ a = d then none else (h.get? a).map fun o => (a,o)
end
end Att
namespace L2
open PySem PySem.Spec PyProof.Rows
theorem vals_ints : ∀ {vs : List Value} {ns : List Int},IntsAre vs ns → Vals (ns.map V.int) vs
 | _,_,.nil => .nil
 | _,_,.cons n t h => .cons ⟨t,rfl⟩ (vals_ints h)
def Only (H : Hp) : Prop := ∀ b,H b = none ∨ ∃ o xs,H b = some (.frz o (.lst xs))
theorem law_call {P : Program} {w : World} {K : PySem.W.Frag} {mg mb : Str → Option Value} {CX : CXT} {k : Nat} {fa a : Addr} {fd : FuncData} {x : Str} {sp : Sp} {s₁ : Shared} {vs : List Value} {ns : List Int}
  (KX : K.In s₁.heap) (hns : s₁.heap.Ns mainGlobals mg) (hb : s₁.heap.Ns builtinsNs mb) (hbb : ∀ x : Str,x ≠ "__name__" → mb x = bootBuiltins x) (hlim : s₁.heap.NoLimit) (hg : s₁.gens = #[])
  (ha : s₁.heap.get? a = some { cls := .type "list",data := .seq vs.toArray }) (hi : IntsAre vs ns) (hl : ns.length ≤ sizeLine) (hr : Room k callerA)
  (F : ∀ base : Heap,K.In base → base.Ns mainGlobals mg → FnOk P w K mg base CX k fa fd [x] sp) (hbind : ∀ (s : Shared) (u : Value),BindsTo s fd ⟨[u],[]⟩ [(x,u)])
  (hsp : ∀ H : Hp,Only H → SqL K H a (ns.map V.int) → sp [.ref a] H (fun v _ => v = .bl true) fun _ _ _ => False)
  (hCX : ∀ H e s',CX [] H s₁ (fun _ _ _ => False) e s' → False) :
  codeAny (model P w) callerA (.call (.ref fa) ⟨[.ref a],[]⟩) (fun r s' => r = .ok (.ret (.bool true)) ∧ OldK s₁.heap s'.heap ∧ s'.os = s₁.os ∧ AllBare s'.gens) s₁ := by
 have rv := vals_ints hi
 have lenV := hi.length
 have core : ∀ H : Hp,Only H → SqL K H a (ns.map V.int) → HOk P w H s₁.heap → (∀ b,H b ≠ none → b = a) → (H a ≠ none → K.lookup a = none) →
   codeAny (model P w) callerA (.call (.ref fa) ⟨[.ref a],[]⟩) (fun r s' => r = .ok (.ret (.bool true)) ∧ OldK s₁.heap s'.heap ∧ s'.os = s₁.os ∧ AllBare s'.gens) s₁ := by
  intro H hO hS hok hA hK
  have base_of : ∀ {b : Addr} {o : Obj},s₁.heap.get? b = some o → H b = none → (hidT s₁.heap H).get? b = some o := fun e n => hidT_get e n
  have noA : ∀ {b : Addr} {o : Obj} {es : Array DictEntry} {ep : Nat},s₁.heap.get? b = some o → o.data = .dict es ep → H b = none := fun {b o es ep} e d => by
   cases q : H b with
   | none => rfl
   | some u =>
    have e' : b = a := hA b (by rw [q]; simp)
    subst e'
    rw [ha] at e; cases e
    have d' : Data.seq vs.toArray _ = Data.dict es ep := d
    cases d'
  have nsK : ∀ {b : Addr} {m : Str → Option Value},s₁.heap.Ns b m → (hidT s₁.heap H).Ns b m := fun {b m} ⟨o,es,ep,e,d,r⟩ => ⟨o,es,ep,base_of e (noA e d),d,r⟩
  have hKb : K.In (hidT s₁.heap H) := fun b o e => base_of (KX b o e) (by
   cases q : H b with
   | none => rfl
   | some u =>
    have e' : b = a := hA b (by rw [q]; simp)
    subst e'
    rw [hK (by rw [q]; simp)] at e; cases e)
  have hM : Mod K mg (hidT s₁.heap H) := ⟨hKb,nsK hns,⟨mb,nsK hb,hbb⟩,let ⟨mc,h1,h2⟩ := hlim; ⟨mc,nsK h1,h2⟩⟩
  have e0 : Env0 P w K mg (hidT s₁.heap H) callerA [] s₁ H := ⟨rfl,hM,fun b o e => of_hidT e,Nat.le_of_eq (hidT_size _ _),trivial,fun b hb => absurd (show b ∈ ([] : List Addr) from hb) (by simp),hok,.of_eq hg⟩
  refine codeAny_mono ((F _ hKb (nsK hns)).run callerA [] s₁ H ⟨[.ref a],[]⟩ [.ref a] [.ref a] _ _ hr e0 (hbind s₁ (.ref a)) (.cons rfl .nil) (hsp H hO hS)) fun r s' h => ?_
  cases r with
  | error e => exact (hCX H e s' h).elim
  | ok fl =>
   cases fl with
   | next => exact False.elim h
   | brk => exact False.elim h
   | cont => exact False.elim h
   | ret u =>
    obtain ⟨v,H',os,bare,un,hok',r',q⟩ := h
    have q' : v = .bl true := q
    subst q'
    obtain rfl : u = Value.bool true := r'
    refine ⟨rfl,OldK.of_keep fun b o e => ?_,os,bare⟩
    cases q : H b with
    | none => exact un.keep b o e q (by intro z; exact absurd (show b ∈ ([] : List Addr) from z) (by simp)) (by simp)
    | some u =>
     rcases hO b with z | ⟨ob,xs,z⟩
     ·rw [q] at z; cases z
     ·have z2 := un.frzs b ob _ z
      obtain ⟨e1,_⟩ := hok b _ z
      obtain ⟨e2,_⟩ := hok' b _ z2
      rw [e] at e1; cases e1
      exact e2
 cases hk : K.lookup a with
 | some o =>
  have e := KX a o hk
  rw [ha] at e
  cases e
  refine core (fun _ => none) (fun _ => .inl rfl) (.inr ⟨_,vs.toArray,_,hk,rfl,rfl,rfl,by rw [List.size_toArray,lenV]; exact hl,by simpa using rv⟩) (fun b u z => by have z' : (none : Option HO) = some u := z; cases z') (fun b z => absurd rfl z) fun z => absurd rfl z
 | none =>
  refine core (fun b => if b = a then some (.frz { cls := .type "list",data := .seq vs.toArray } (.lst (ns.map V.int))) else none) (fun b => ?_) (.inl (.inr ⟨{ cls := .type "list",data := .seq vs.toArray },if_pos rfl⟩)) (fun b u z => ?_) (fun b z => ?_) fun _ => hk
  ·by_cases hb : b = a
   ·exact .inr ⟨_,_,if_pos hb⟩
   ·exact .inl (if_neg hb)
  ·by_cases hb : b = a
   ·have z' := (if_pos hb).symm.trans z
    cases z'
    subst hb
    exact ⟨ha,by rw [List.length_map]; exact hl,vs,_,rv,ha⟩
   ·have z' := (if_neg hb).symm.trans z
    cases z'
  ·by_cases hb : b = a
   ·exact hb
   ·exact absurd (if_neg hb) z
end L2
namespace L2
open PySem PySem.Spec PyProof.Rows
abbrev KOf {K : PySem.W.Frag} {h : Heap} (_ : K.In h) : PySem.W.Frag := K
theorem walk_of {l : PySem.W.OpenLaw} {n k : Nat} {q : Program} {loose : List Str} {XP : (Str → Option Value) → Heap → Prop} {YP : World → Heap → Prop} {d : DefRec} {K : Params → PySem.W.Frag} {CX : World → CXT} {sp : World → Sp} {x : Str}
  (hn : l.most = some n) (hn2 : n ≤ sizeLine) (hdf : d.params.defaults = []) (hr : Room k callerA)
  (hY : ∀ (w : World) (h : Heap),YP w h → (K w.params).In h)
  (F : ∀ (w : World) (mg : Str → Option Value) (fa : Addr) (h : Heap),(K w.params).In h → h.Ns mainGlobals mg → mg d.name = some (.ref fa) →
   ∃ fd : FuncData,(∀ (s : Shared) (u : Value),BindsTo s fd ⟨[u],[]⟩ [(x,u)]) ∧
    ∀ base : Heap,(K w.params).In base → base.Ns mainGlobals mg → FnOk l.prog w (K w.params) mg base (CX w) k fa fd [x] (sp w))
  (hsp : ∀ (w : World) (H : Hp) (a : Addr) (ns : List Int),ns.length ≤ n → Only H → SqL (K w.params) H a (ns.map V.int) → sp w [.ref a] H (fun v _ => v = .bl true) fun _ _ _ => False)
  (hCX : ∀ (w : World) (H : Hp) (s : Shared) (e : Value) (s' : Shared),CX w [] H s (fun _ _ _ => False) e s' → False) :
  PySem.W.WalkO q loose XP YP l.row.toRowW d [] (fun f vs => PySem.call f vs) := by
 refine Att.attach_call hn hdf fun w s₀ s₁ mg mb fa o pm cd doc a vs ns G Y ho hd hcd hmg hobj hints hlen hg => ?_
 have KX := hY w _ Y
 obtain ⟨fd,hb,hF⟩ := F w mg fa _ KX G.T.g hmg
 exact law_call KX G.T.g G.T.b G.T.builtins G.T.nolimit hg hobj hints (Nat.le_trans hlen hn2) hr hF hb (fun H hO hS => hsp w H a ns hlen hO hS) fun H e s' => hCX w H s₁ e s'
end L2
namespace L2
open PySem PySem.Spec PyProof.Rows
def defArgs (s : Stmt) : Arguments := match s with
 | .FunctionDef _ a _ _ _ _ _ _ _ _ => a
 | _ => { posonlyargs := [],args := [],vararg := none,kwonlyargs := [],kw_defaults := [],kwarg := none,defaults := [] }
def defBody (s : Stmt) : List Stmt := match s with
 | .FunctionDef _ _ b _ _ _ _ _ _ _ => b
 | _ => []
def defScope (s : Stmt) : Scope := match s with
 | .FunctionDef _ _ _ _ _ _ sc _ _ _ => sc
 | _ => { kind := .function,names := [],isGenerator := false,isCoroutine := false }
abbrev CX0 : CXT := fun _ _ _ _ _ _ => False
abbrev E0 : XK := fun _ _ _ => False
theorem pass0 {X : Cx} : Passes CX0 X E0 := fun _ _ _ _ _ _ _ h => h.elim
structure Fun (K : PySem.W.Frag) (x qual : Str) (st : Stmt) (f : Addr) (fd : FuncData) : Prop where
 ex : ∃ (oc : Value) (od : Option Addr) (kV doc pm : Value) (an : Option Addr) (cdv ct : Value) (osl : Array (Option Value)),
  fd = PySem.W.fnOf x qual (defArgs st) (defBody st) (defScope st) .none kV doc pm an cdv ct ∧ K.lookup f = some ⟨oc,od,.func fd,osl⟩ ∧ PySem.W.codeIn K cdv qual = true
 kp : PySem.W.keepIn K (.ref f) = true
section
variable {P : Program} {w : World} {K : PySem.W.Frag} {mg : Str → Option Value} {base : Heap}
theorem Fun.ok {x qual : Str} {st : Stmt} {f : Addr} {fd : FuncData} {N ps : List Str} {k : Nat} {sp : Sp} (F : Fun K x qual st f fd) (S : FnScope N ps (defScope st)) (len : ∀ vs H Q E,sp vs H Q E → vs.length = ps.length)
  (hbody : ∀ (cdv : Value) (A : Around) (outer : List Env) (s : Shared) (H : Hp) (vs : List V) (Q : VK) (E : XK),Room k (A.deeper (envOfC qual (defScope st) s.heap.objs.size f cdv)) → sp vs H Q E →
   ∃ t,PSs (cxOf CX0 P w K mg base N qual (defScope st) f cdv A outer s H E).nox (defBody st) t ∧ t { nx := fun _ H' => Q .non H',rt := Q } (start N vs) H) : FnOk P w K mg base CX0 (k + 1) f fd ps sp := by
 obtain ⟨oc,od,kV,doc,pm,an,cdv,ct,osl,rfl,lk,hcd⟩ := F.ex
 refine fn_of lk hcd S len fun A outer s H vs Q E hr hsp => ?_
 obtain ⟨t,h,q⟩ := hbody cdv A outer s H vs Q E hr hsp
 exact ⟨t,h.nox,q⟩
theorem Fun.binds {x qual : Str} {st : Stmt} {f : Addr} {fd : FuncData} {ps : List Str} (F : Fun K x qual st f fd)
  (h : ∀ (kV doc pm : Value) (an : Option Addr) (cdv ct : Value) (us : List Value),us.length = ps.length → bindArgs (PySem.W.fnOf x qual (defArgs st) (defBody st) (defScope st) .none kV doc pm an cdv ct) ⟨us,[]⟩ = pure (ps.zip us)) : Binds K fd ps [] := by
 obtain ⟨oc,od,kV,doc,pm,an,cdv,ct,osl,rfl,lk,hcd⟩ := F.ex
 exact .all (h kV doc pm an cdv ct)
theorem fun_mk {x qual : Str} {st : Stmt} {f : Addr} {oc : Value} {od an : Option Addr} {osl : Array (Option Value)} {kV doc pm cdv ct : Value} (l : K.lookup f = some ⟨oc,od,.func (PySem.W.fnOf x qual (defArgs st) (defBody st) (defScope st) .none kV doc pm an cdv ct),osl⟩)
  (c : PySem.W.codeIn K cdv qual = true) (k : PySem.W.keepIn K (.ref f) = true) : Fun K x qual st f (PySem.W.fnOf x qual (defArgs st) (defBody st) (defScope st) .none kV doc pm an cdv ct) := ⟨⟨oc,od,kV,doc,pm,an,cdv,ct,osl,rfl,l,c⟩,k⟩
end
theorem small1000 {n : Nat} (h : n ≤ 1000) : n < sizeLine := Nat.lt_of_le_of_lt h (by decide)
section
variable {X : Cx}
end
theorem iteF {A B : Prop} (h : B) : if false = true then A else B := by
 rw [if_neg Bool.false_ne_true]
 exact h
theorem iteT {A B : Prop} (h : A) : if true = true then A else B := by
 rw [if_pos rfl]
 exact h
theorem ite2 {c A B : Prop} [Decidable c] (h1 : c → A) (h2 : ¬ c → B) : if c then A else B := by
 by_cases h : c
 ·rw [if_pos h]
  exact h1 h
 ·rw [if_neg h]
  exact h2 h
def Same (H H' : Hp) : Prop := ∀ b o,H b = some o → H' b = some o
theorem Same.refl (H : Hp) : Same H H := fun _ _ h => h
theorem Same.trans {H H1 H2 : Hp} (a : Same H H1) (b : Same H1 H2) : Same H H2 := fun c o h => b c o (a c o h)
theorem Same.free {H H' : Hp} (e : Same H H') {l : Addr} (h : H' l = Option.none) : H l = Option.none := by
 cases q : H l with
 | none => rfl
 | some o =>
  rw [e l o q] at h
  cases h
theorem Same.seq {K : PySem.W.Frag} {H H' : Hp} {a : Addr} {xs : List V} (e : Same H H') (h : SqL K H a xs) : SqL K H' a xs := by
 rcases h with (h | ⟨o,h⟩) | h
 ·exact .inl (.inl (e _ _ h))
 ·exact .inl (.inr ⟨o,e _ _ h⟩)
 ·exact .inr h
end L2
set_option maxHeartbeats 4000000
namespace Ma
theorem split (d x : Int) (hd : 0 < d) : ∃ q,x = d * q + x % d ∧ 0 ≤ x % d ∧ x % d < d :=
 ⟨x / d,by have := Int.mul_ediv_add_emod x d; omega,Int.emod_nonneg x (by omega),Int.emod_lt_of_pos x hd⟩
theorem mul_lt_step {d k m : Int} (hd : 0 < d) (h : k < m) : d * k + d ≤ d * m := by
 have := Int.mul_le_mul_of_nonneg_left (show k + 1 ≤ m by omega) (Int.le_of_lt hd)
 rw [Int.mul_add,Int.mul_one] at this
 exact this
def nextO (d a b t : Int) : Int := if b < t % d then t - t % d + d + a else t - t % d + (if a > t % d then a else t % d)
def lastO (d a b t : Int) : Int := if t % d < a then t - t % d - d + b else t - t % d + (if b < t % d then b else t % d)
section
variable {d a b t : Int}
theorem next_spec (hd : 0 < d) (h0 : 0 ≤ a) (h1 : a ≤ b) (h2 : b < d) :
  ∃ k,d * k + a ≤ nextO d a b t ∧ nextO d a b t ≤ d * k + b ∧ t ≤ nextO d a b t ∧ nextO d a b t < t + d ∧
   ∀ k' x,d * k' + a ≤ x → x ≤ d * k' + b → t ≤ x → nextO d a b t ≤ x := by
 obtain ⟨q,hq,r0,r1⟩ := split d t hd
 unfold nextO
 generalize t % d = r at *
 split
 ·refine ⟨q + 1,?_⟩
  have e : d * (q + 1) = d * q + d := by rw [Int.mul_add,Int.mul_one]
  refine ⟨by omega,by omega,by omega,by omega,fun k' x x1 x2 x3 => ?_⟩
  rcases Int.lt_or_le q k' with hk | hk
  ·have := mul_lt_step hd hk
   omega
  ·have := Int.mul_le_mul_of_nonneg_left hk (Int.le_of_lt hd)
   omega
 ·refine ⟨q,?_⟩
  refine ⟨by split <;> omega,by split <;> omega,by split <;> omega,by split <;> omega,fun k' x x1 x2 x3 => ?_⟩
  rcases (by omega : q < k' ∨ q = k' ∨ k' < q) with hk | hk | hk
  ·have := mul_lt_step hd hk
   split <;> omega
  ·subst hk
   split <;> omega
  ·have := mul_lt_step hd hk
   omega
end
structure Clk (d : Int) (n : Nat) (A B C : Nat → Int) : Prop where
 d0 : 0 < d
 a0 : ∀ i,i < n → 0 ≤ A i
 ab : ∀ i,i < n → A i ≤ B i
 bd : ∀ i,i < n → B i < d
 c0 : ∀ i,i < n → 0 ≤ C i
 lt : ∀ i j,i < j → j < n → B i < A j
 yl : ∀ i j,i < j → j < n → B i + C i < A j + C j
 wr : ∀ i j,i < n → j < n → B i + C i < d + (A j + C j)
def Dep (d : Int) (n : Nat) (A B C : Nat → Int) (x y : Int) : Prop := ∃ i k,i < n ∧ d * k + A i ≤ x ∧ x ≤ d * k + B i ∧ y = x + C i
section
variable {d : Int} {n : Nat} {A B C : Nat → Int}
theorem dep_mono (K : Clk d n A B C) {x y x' y' : Int} (h : Dep d n A B C x y) (h' : Dep d n A B C x' y') (l : x < x') : y < y' := by
 obtain ⟨i,k,hi,x1,x2,rfl⟩ := h
 obtain ⟨j,m,hj,z1,z2,rfl⟩ := h'
 have d0 := K.d0
 have wr := K.wr i j hi hj
 have a1 := K.a0 i hi
 have a2 := K.a0 j hj
 have b1 := K.bd i hi
 have b2 := K.bd j hj
 rcases (by omega : k < m ∨ k = m ∨ m < k) with hk | hk | hk
 ·have := mul_lt_step d0 hk
  omega
 ·subst hk
  rcases (by omega : i < j ∨ i = j ∨ j < i) with e | e | e
  ·have := K.yl i j e hj
   omega
  ·subst e
   omega
  ·have := K.lt j i e hi
   omega
 ·have := mul_lt_step d0 hk
  omega
theorem dep_fun (K : Clk d n A B C) {x y y' : Int} (h : Dep d n A B C x y) (h' : Dep d n A B C x y') : y = y' := by
 obtain ⟨i,k,hi,x1,x2,rfl⟩ := h
 obtain ⟨j,m,hj,z1,z2,rfl⟩ := h'
 have d0 := K.d0
 have a1 := K.a0 i hi
 have a2 := K.a0 j hj
 have b1 := K.bd i hi
 have b2 := K.bd j hj
 rcases (by omega : k < m ∨ k = m ∨ m < k) with hk | hk | hk
 ·have := mul_lt_step d0 hk
  omega
 ·subst hk
  rcases (by omega : i < j ∨ i = j ∨ j < i) with e | e | e
  ·have := K.lt i j e hj
   omega
  ·rw [e]
  ·have := K.lt j i e hi
   omega
 ·have := mul_lt_step d0 hk
  omega
structure First (d : Int) (n : Nat) (A B C : Nat → Int) (t x y : Int) : Prop where
 dep : Dep d n A B C x y
 le : t ≤ x
 least : ∀ x' y',Dep d n A B C x' y' → t ≤ x' → x ≤ x'
structure Last (d : Int) (n : Nat) (A B C : Nat → Int) (s x : Int) : Prop where
 dep : ∃ y,Dep d n A B C x y ∧ y ≤ s
 most : ∀ x' y',Dep d n A B C x' y' → y' ≤ s → x' ≤ x
theorem First.uniq (K : Clk d n A B C) {t x y x' y' : Int} (h : First d n A B C t x y) (h' : First d n A B C t x' y') : x = x' ∧ y = y' := by
 have a := h.least _ _ h'.dep h'.le
 have b := h'.least _ _ h.dep h.le
 have e : x = x' := by omega
 subst e
 exact ⟨rfl,dep_fun K h.dep h'.dep⟩
theorem First.ge (K : Clk d n A B C) {t x y : Int} (h : First d n A B C t x y) : t ≤ y := by
 obtain ⟨i,k,hi,x1,x2,rfl⟩ := h.dep
 have := h.le
 have := K.c0 i hi
 omega
theorem First.mono (K : Clk d n A B C) {t u x y x' y' : Int} (h : First d n A B C t x y) (h' : First d n A B C u x' y') (l : t ≤ u) : y ≤ y' := by
 have a := h.least _ _ h'.dep (by have := h'.le; omega)
 rcases (by omega : x < x' ∨ x = x') with e | e
 ·have := dep_mono K h.dep h'.dep e
  omega
 ·subst e
  have := dep_fun K h.dep h'.dep
  omega
theorem Last.uniq {s x x' : Int} (h : Last d n A B C s x) (h' : Last d n A B C s x') : x = x' := by
 obtain ⟨y,h1,h2⟩ := h.dep
 obtain ⟨y',h1',h2'⟩ := h'.dep
 have := h.most _ _ h1' h2'
 have := h'.most _ _ h1 h2
 omega
theorem Last.le (K : Clk d n A B C) {s x : Int} (h : Last d n A B C s x) : x ≤ s := by
 obtain ⟨y,⟨i,k,hi,x1,x2,rfl⟩,h2⟩ := h.dep
 have := K.c0 i hi
 omega
theorem Last.mono {s u x x' : Int} (h : Last d n A B C s x) (h' : Last d n A B C u x') (l : s ≤ u) : x ≤ x' := by
 obtain ⟨y,h1,h2⟩ := h.dep
 exact h'.most _ _ h1 (by omega)
end
end Ma
namespace Ma
abbrev T3 := Int × Int × Int
structure Rw (R : List T3) (at_ ride : Int) : Prop where
 at0 : 0 ≤ at_
 r0 : 0 ≤ ride
 atb : at_ ≤ 3000000000000 * (R.length : Int)
 rb : ride ≤ 2000000000000 * (R.length : Int)
 row : ∀ (i : Nat) (a b c : Int),R[i]? = some (a,b,c) → 0 ≤ a ∧ a ≤ b ∧ b < at_ ∧ 0 ≤ c ∧ c ≤ 2000000000000 * (R.length : Int)
 adj : ∀ (i : Nat) (a b c a' b' c' : Int),R[i]? = some (a,b,c) → R[i + 1]? = some (a',b',c') → b < a' ∧ b + c < a' + c'
 last : ∀ (a b c : Int),R[R.length - 1]? = some (a,b,c) → b = at_ - 1 ∧ c = ride
 tch : ∀ (i : Nat) (a b c a' b' c' : Int),R[i]? = some (a,b,c) → R[i + 1]? = some (a',b',c') → b + 1 = a' → c ≠ c'
def rA (R : List T3) (i : Nat) : Int := (R.getD i (0,0,0)).1
def rB (R : List T3) (i : Nat) : Int := (R.getD i (0,0,0)).2.1
def rC (R : List T3) (i : Nat) : Int := (R.getD i (0,0,0)).2.2
theorem r_at {R : List T3} {i : Nat} (h : i < R.length) : R[i]? = some (rA R i,rB R i,rC R i) := by
 unfold rA rB rC
 rw [List.getD_eq_getElem?_getD,List.getElem?_eq_getElem h]
 rfl
theorem r_of {R : List T3} {i : Nat} {a b c : Int} (h : R[i]? = some (a,b,c)) : rA R i = a ∧ rB R i = b ∧ rC R i = c := by
 unfold rA rB rC
 rw [List.getD_eq_getElem?_getD,h]
 exact ⟨rfl,rfl,rfl⟩
def lifted (R : List T3) (lift : Int) : List T3 := R.map fun t => (t.1,t.2.1,t.2.2 + lift)
section
variable {d : Int} {n : Nat} {A B C : Nat → Int}
theorem first_min (K : Clk d n A B C) {t : Int} {j : Nat} (hj : j < n) (hm : ∀ i,i < n → nextO d (A j) (B j) t ≤ nextO d (A i) (B i) t) : First d n A B C t (nextO d (A j) (B j) t) (nextO d (A j) (B j) t + C j) := by
 obtain ⟨k,k1,k2,k3,k4,k5⟩ := next_spec (t := t) K.d0 (K.a0 j hj) (K.ab j hj) (K.bd j hj)
 refine ⟨⟨j,k,hj,k1,k2,rfl⟩,k3,?_⟩
 rintro x' y' ⟨i,k',hi,x1,x2,rfl⟩ hx
 obtain ⟨k',a1,a2,a3,a4,a5⟩ := next_spec (t := t) K.d0 (K.a0 i hi) (K.ab i hi) (K.bd i hi)
 have := a5 _ x' x1 x2 hx
 have := hm i hi
 omega
end
end Ma
namespace L2
open PySem PySem.Spec PyProof.Rows
theorem bt_max : bootBuiltins "max" = some (.builtin "max") := by decide +kernel
theorem bt_min : bootBuiltins "min" = some (.builtin "min") := by decide +kernel
theorem bt_len : bootBuiltins "len" = some (.builtin "len") := by decide +kernel
theorem bt_all : bootBuiltins "all" = some (.builtin "all") := by decide +kernel
theorem bt_isinstance : bootBuiltins "isinstance" = some (.builtin "isinstance") := by decide +kernel
theorem bt_int : bootBuiltins "int" = some (.type "int") := by decide +kernel
theorem bt_bool : bootBuiltins "bool" = some (.type "bool") := by decide +kernel
theorem bt_tuple : bootBuiltins "tuple" = some (.type "tuple") := by decide +kernel
theorem bt_list : bootBuiltins "list" = some (.type "list") := by decide +kernel
def notStar : Expr → Bool
 | .Starred .. => false
 | _ => true
theorem se_of {e : Expr} {es : List Expr} {env : Env} (h : notStar e = true) : starEach (e :: es) env = (false,eval e env) :: starEach es env := by
 cases e <;> first | rfl | cases h
theorem any_of {pos : Pos} {env : Env} : ∀ {es : List Expr},es.all notStar = true → (backTo pos (starEach es env)).any (·.1) = false
 | [],_ => rfl
 | e :: es,h => by
  rw [List.all_cons,Bool.and_eq_true] at h
  rw [se_of h.1]
  show (false || (backTo pos (starEach es env)).any (·.1)) = false
  rw [any_of h.2]
  rfl
section
variable {X : Cx} {e : Expr} {es : List Expr} {te : TE} {t : TA}
theorem pa_c (ha : PE X e te) (hr : PA X es t) (h : notStar e = true := by rfl) : PA X (e :: es) (tCons te t) := pa_cons ha hr (se_of h)
end
section
variable {X : Cx} {x : Str} {p pos : Pos} {e : Expr} {es : List Expr} {t : TA} {id T : String} {r : List V → Hp → VK → Prop}
theorem pe_cb (hc : CallR X (.builtin id) r) (hg : Gl X x) (hm : X.mg x = none) (hv : bootBuiltins x = some (.builtin id)) (ha : PA X (e :: es) t) (hn : x ≠ "__name__" := by decide) (hdb : (x == ("__debug__" : Str)) = false := by decide)
  (he : notStar e = true := by rfl) (hpl : es.all notStar = true := by rfl) : PE X (.Call (.Name x p) (e :: es) [] pos) (tCB r t) := pe_callB hc hg hm hv ha hn hdb (se_of he) (any_of hpl)
theorem pe_ct (hc : CallR X (.type T) r) (hg : Gl X x) (hm : X.mg x = none) (hv : bootBuiltins x = some (.type T)) (ha : PA X (e :: es) t) (hn : x ≠ "__name__" := by decide) (hdb : (x == ("__debug__" : Str)) = false := by decide)
  (he : notStar e = true := by rfl) (hpl : es.all notStar = true := by rfl) : PE X (.Call (.Name x p) (e :: es) [] pos) (tCB r t) := pe_callTy hc hg hm hv ha hn hdb (se_of he) (any_of hpl)
end
structure Callee (P : Program) (w : World) (K : PySem.W.Frag) (mg : Str → Option Value) (base : Heap) (k : Nat) (x : Str) (ps : List Str) (sp : Sp) : Prop where
 ex : ∃ (f : Addr) (fd : FuncData),FnOk P w K mg base CX0 k f fd ps sp ∧ Binds K fd ps [] ∧ PySem.W.keepIn K (.ref f) = true ∧ mg x = some (.ref f)
theorem Callee.up {P : Program} {w : World} {K : PySem.W.Frag} {mg : Str → Option Value} {base : Heap} {j k : Nat} {x : Str} {ps : List Str} {sp : Sp} (C : Callee P w K mg base j x ps sp) (h : j ≤ k) : Callee P w K mg base k x ps sp := by
 obtain ⟨f,fd,G,b,kp,m⟩ := C.ex
 exact ⟨f,fd,G.mono h,b,kp,m⟩
theorem Callee.mk' {P : Program} {w : World} {K : PySem.W.Frag} {mg : Str → Option Value} {base : Heap} {k : Nat} {x : Str} {ps : List Str} {sp : Sp} {f : Addr} {fd : FuncData} (G : FnOk P w K mg base CX0 k f fd ps sp) (b : Binds K fd ps []) (kp : PySem.W.keepIn K (.ref f) = true) (m : mg x = some (.ref f)) : Callee P w K mg base k x ps sp := ⟨f,fd,G,b,kp,m⟩
section
variable {X : Cx} {k : Nat} {x : Str} {ps : List Str} {sp : Sp} {e : Expr} {es : List Expr} {t : TA} {p pos : Pos}
theorem pe_fn (C : Callee X.prog X.w X.K X.mg X.base k x ps sp) (hr : Room k X.A) (hg : Gl X x) (ha : PA X (e :: es) t) (hdb : (x == ("__debug__" : Str)) = false := by decide)
  (he : notStar e = true := by rfl) (hpl : es.all notStar = true := by rfl) :
  PE X (.Call (.Name x p) (e :: es) [] pos) (tCall sp [] E0 t) := by
 obtain ⟨f,fd,G,b,kp,m⟩ := C.ex
 exact pe_call G hr hg m kp b .nil pass0 ha hdb (se_of he) (any_of hpl)
end
def CDivB (_ j : Int) : Prop := 0 < j ∧ j < 1606938044258990275541962092341162602522202993782792835301376
section
variable {X : Cx}
theorem op_fdivB : OpR X (binaryOp .FloorDiv) (rI CDivB fun i j => .int (i / j)) := opI fun i j _ _ _ _ _ hc q => by
 have h1 : (0 : Int) < j := hc.1
 have h2 := hc.2
 refine floordiv_int (by omega) (by rw [Int.fdiv_eq_ediv_of_nonneg i (by omega)]; exact q) (.inl (PyProof.noPylong_of_log2 ?_))
 have h0 : j.natAbs ≠ 0 := by omega
 have h3 : j.natAbs < 2 ^ 200 := by
  have e : (2 : Nat) ^ 200 = 1606938044258990275541962092341162602522202993782792835301376 := by decide +kernel
  rw [e]
  omega
 have := (Nat.log2_lt h0).mpr h3
 omega
theorem call_isi : CallR X (.builtin "isinstance") (fun xs H Q => ∃ x T t b,xs = [x,.ty T] ∧ TyOf X.K H x t ∧ PySem.W.kitOne X.K t (.type T) = some b ∧ Q (.bl b) H) := by
 intro pins s σ H xs us Q I r h
 obtain ⟨x,T,t,b,rfl,ty,hk,q⟩ := h
 obtain ⟨u,v,rfl,r1,r2⟩ := Vals.two r
 cases (show v = Value.type T from r2)
 exact isinst_ok I r1 ty hk fun tk => ⟨.bl b,H,I.tok tk,rfl,q⟩
end
def blk (X : Cx) (N' : List Str) (scope : Scope) (cl : List (Str × Addr)) (C : Addr) (s0 : Shared) (H0 : Hp) (fp : List Addr) : Cx :=
 { X with N := N',s₀ := s0,H₀ := H0,env := compEnvC scope cl C X.env,outer := X.stack,ex := fp,fn := fun _ => false,pn := [],xe := fun _ _ => False }
def seen (caps : List (Option Nat)) (σ : St) : St := caps.map fun o => o.bind fun j => (σ[j]?).join
structure BlkOk (X : Cx) (N' : List Str) (scope : Scope) (cl : List (Str × Addr)) (caps : List (Option Nat)) : Prop where
 clos : closureFor scope X.env = pure cl
 nocell : ∀ y ∈ scope.names,y.2 ≠ .cell
 kind : scope.kind = .function
 names : ∀ y ∈ scope.names,y.2 = .local → scope.names.lookup y.1 = some .local
 sub : ∀ x c,cl.lookup x = some c → X.env.cells.lookup x = some c
 has : ∀ x,((relabel scope X.env).names.lookup x = some .cell ∨ (relabel scope X.env).names.lookup x = some .free) → ∃ c,cl.lookup x = some c
 len : caps.length = N'.length
 cap : ∀ (i j : Nat) (x : Str),caps[i]? = some (some j) → N'[i]? = some x → X.N[j]? = some x ∧ (X.env.kindOf x = some .cell ∨ X.env.kindOf x = some .free) ∧ ((relabel scope X.env).names.lookup x = some .cell ∨ (relabel scope X.env).names.lookup x = some .free)
theorem sameBut_ne {a : Addr} {h h' : Heap} (x : Heap.SameBut a h h') {b : Addr} {o : Obj} (n : b ≠ a) (e : h.get? b = some o) : h'.get? b = some o := x.extBut b o n e
section
variable {X : Cx} {N' : List Str} {scope : Scope} {cl : List (Str × Addr)} {caps : List (Option Nat)} {pins : List (Addr × Obj)} {σ : St} {H : Hp} {s : Shared} {fp : List Addr}
theorem blk_inv (B : BlkOk X N' scope cl caps) (I : Inv X pins σ H s) (hf : ∀ b ∈ fp,FpOk X pins H b) {h1 : Heap} {m : Str → Option Value} (hn : h1.Ns s.heap.objs.size m) (hk : ∀ b o,s.heap.get? b = some o → h1.get? b = some o) {tk : Nat}
  (hfp : ∀ b ∈ fp,b < s.heap.objs.size) : Inv (blk X N' scope cl s.heap.objs.size s H fp) [] (seen caps σ) H { s with heap := h1,toks := tk } := by
 have bsz : X.base.objs.size ≤ s.heap.objs.size := Nat.le_trans I.ok.bsz I.sz
 refine ⟨⟨I.ok.mod,B.kind,I.ok.glob,I.ok.blt,Nat.le_refl _,fun x y c e1 e2 => I.ok.inj x y c (B.sub x c e1) (B.sub y c e2),B.has,fun _ _ z => (nomatch z),I.ok.hd,I.ok.frames,.inl rfl,fun b hb => ⟨Nat.ne_of_lt (hfp b hb),fun x c e => (hf b hb).2.2.2.2.1 x c (B.sub x c e)⟩,
   I.bs,bsz,fun b o e hb => ?_,fun b hb z => ?_,I.stack,I.stkFree⟩,rfl,I.bare,Un.kept hk,⟨m,hn,fun i x v e1 e2 _ => ?_⟩,fun x c e => ?_,I.hok.fresh (Nat.le_refl _),fun x c e => I.freeC x c (B.sub x c e),fun p hp => absurd (show p ∈ ([] : List (Addr × Obj)) from hp) (by simp),I.hok.kept hk,?_⟩
 ·obtain ⟨_,_,_,z,_⟩ := hf b hb
  rcases z with z | z
  ·exact I.ok.noex b o e z
  ·exact absurd (Nat.lt_of_lt_of_le (Heap.lt_size e) (Nat.le_trans I.ok.bsz z)) (Nat.lt_irrefl _)
 ·obtain ⟨_,z1,z2,_⟩ := hf b hb
  rcases List.mem_cons.mp (I.stkSub b z) with e | e
  ·exact z1 e
  ·exact z2 e
 ·have e2' : (seen caps σ)[i]? = some (some v) := e2
  unfold seen at e2'
  rw [List.getElem?_map] at e2'
  cases ec : caps[i]? with
  | none => rw [ec] at e2'; cases e2'
  | some oj =>
   rw [ec] at e2'
   have e3 : (oj.bind fun j => (σ[j]?).join) = some v := Option.some.inj e2'
   cases oj with
   | none => cases e3
   | some j =>
    obtain ⟨c1,c2,c3⟩ := B.cap i j x ec e1
    have e4 : σ[j]? = some (some v) := by
     have e5 : (σ[j]?).join = some v := e3
     cases ej : σ[j]? with
     | none => rw [ej] at e5; cases e5
     | some ov =>
      rw [ej] at e5
      cases ov with
      | none => cases e5
      | some v' => exact congrArg some e5
    obtain ⟨m0,hn0,hl⟩ := I.loc
    obtain ⟨u,ru,lk⟩ := hl j x v c1 e4 (by
     rcases c2 with z | z
     ·exact .inr (.inl z)
     ·exact .inr (.inr z))
    refine ⟨u,ru,.inr ⟨c3,?_⟩⟩
    obtain ⟨c,ecl⟩ := B.has x c3
    refine ⟨c,ecl,?_⟩
    rcases lk with ⟨z,_⟩ | ⟨_,c',e',⟨oc,q1,q2⟩⟩
    ·rcases c2 with y | y
     ·rw [y] at z; cases z
     ·rw [y] at z; cases z
    ·have ee : c' = c := Option.some.inj (e'.symm.trans (B.sub x c ecl))
     subst ee
     exact ⟨oc,hk _ _ q1,q2⟩
 ·obtain ⟨v,o,q1,q2⟩ := I.cell x c (B.sub x c e)
  exact ⟨v,o,hk _ _ q1,q2⟩
 ·show (seen caps σ).length = N'.length
  unfold seen
  rw [List.length_map]
  exact B.len
theorem blk_end (I : Inv X pins σ H s) (hf : ∀ b ∈ fp,FpOk X pins H b) (hfp : ∀ b ∈ fp,b < s.heap.objs.size) {σ' : St} {H' : Hp} {s' : Shared} (J : Inv (blk X N' scope cl s.heap.objs.size s H fp) [] σ' H' s') {h' : Heap}
  (sb : Heap.SameBut s.heap.objs.size s'.heap h') : Inv X pins σ H' { s' with heap := h' } := by
 have hC : ∀ b o,s.heap.get? b = some o → b ≠ s.heap.objs.size := fun b o e => Nat.ne_of_lt (Heap.lt_size e)
 have u := J.base
 have u' : Un (frs X.stack) fp H H' s.heap h' := by
  refine ⟨fun b o e n hb hx => sameBut_ne sb (hC b o e) (u.keep b o e n hb hx),fun b o e n hb hx => ?_,u.free,fun b o e hx => ?_,u.tups,u.frzs,u.tbls⟩
  ·obtain ⟨sl,q⟩ := u.slot b o e n hb hx
   exact ⟨sl,sameBut_ne sb (hC b o e) q⟩
  ·obtain ⟨o',q⟩ := u.there b o e hx
   exact ⟨o',sameBut_ne sb (hC b o e) q⟩
 have nC : H' s.heap.objs.size = none := J.free
 have hok : HOk X.prog X.w H' h' := fun b o e => by
  refine (J.hok b o e).stay (fun c v hc q => sameBut_ne sb ?_ q) (fun _ q => q) fun _ _ q => q
  rcases hc with z | z
  ·intro z'
   rw [z] at z'
   rw [z',nC] at e
   cases e
  ·intro z'
   rw [z',nC] at z
   cases z
 obtain ⟨hh,g,d,t,os'⟩ := s'
 obtain rfl : os' = s.os := J.os
 show Inv X pins σ H' { s with heap := h',gens := g,drawn := d,toks := t }
 refine Inv.call (s := s) (h' := h') (g' := g) (d' := d) (t' := t) (ch := fp) I u' hok J.bare fun b hb => ?_
 obtain ⟨_,z1,_,z3,z4,z5⟩ := hf b hb
 exact ⟨z3,z1,z4,z5⟩
def cBody (caps : List (Option Nat)) (g : TG) (tt : TT) (te : TE) (σ : St) (Q : VK) (J : It) (H1 : Hp) : Prop := ∀ D,H1 D = none → ∃ W : Nat → Nat → Hp → Prop,(∃ m,W 0 m (upd H1 D (.lst []))) ∧ ∀ i m H2,W i m H2 →
 (J.stop i H2 ∧ Q (.ref D) H2) ∨ (J.go i H2 ∧ ∃ N : Hp → Prop,(∀ H',N H' → ∃ m',m' < m ∧ W (i + 1) m' H') ∧ ∀ x H3,J.yld i H2 x H3 → g x (seen caps σ) H3 fun σ4 H4 => (∀ (k : Nat) v,(seen caps σ)[k]? = some (some v) → σ4[k]? = some (some v)) ∧ tt σ4 H4 fun b H5 =>
  if b = true then te σ4 H5 fun y H6 => ∃ ys,H6 D = some (.lst ys) ∧ ys.length < sizeLine ∧ N (upd H6 D (.lst (ys ++ [y]))) else N H5)
def tComp (wi : TI) (caps : List (Option Nat)) (g : TG) (tt : TT) (te : TE) : TE := fun σ H Q => wi σ H (cBody caps g tt te σ Q)
def tTrue : TT := fun _ H Q => Q true H
section
variable {tg iter elt : Expr} {wi : TI} {g : TG} {te : TE} {tt : TT} {pos : Pos} {Q : VK}
theorem comp_again {J : It} {it : Addr} {tn : Nat → Heap → Prop} {H0 : Hp} {C : Addr} (T : Turn X.prog X.w X.K tg J fp it tn) {s7 s9 : Shared} {i n : Nat} {W : Nat → Nat → Hp → Prop} {N : Hp → Prop} (hN : ∀ H',N H' → ∃ m',m' < n ∧ W (i + 1) m' H')
  (st7 : tn (i + 1) s7.heap) {σ8 : St} {H9 : Hp} (I9 : Inv (blk X N' scope cl C s H0 fp) ([] ++ pinsAt fp s7.heap) σ8 H9 s9) (kp : ∀ (k : Nat) v,(seen caps σ)[k]? = some (some v) → σ8[k]? = some (some v)) (hl : (seen caps σ).length = σ8.length) (n9 : N H9) :
  ∃ m,m < n ∧ ∃ j H',Inv (blk X N' scope cl C s H0 fp) [] (seen caps σ) H' s9 ∧ tn j s9.heap ∧ (∀ b ∈ fp,H' b = none) ∧ W j m H' := by
 obtain ⟨m',hm,w7⟩ := hN H9 n9
 refine ⟨m',hm,i + 1,H9,(I9.unpinned).weak hl kp,T.keep _ _ _ st7 fun b hb o e => (I9.pin (b,o) (List.mem_append_right _ (List.mem_append_right _ (mem_pinsAt hb e)))).1,fun b hb => ?_,w7⟩
 obtain ⟨o,e,d⟩ := T.obj _ _ st7 b hb
 exact (I9.pin (b,o) (List.mem_append_right _ (List.mem_append_right _ (mem_pinsAt hb e)))).2.1
theorem pe_comp (B : BlkOk X N' scope cl caps) (hc : X.calm = true) (hi : PI X tg iter wi) (hg : ∀ C s0 H0 fp,PG (blk X N' scope cl C s0 H0 fp) tg g) (he : ∀ C s0 H0 fp,PE (blk X N' scope cl C s0 H0 fp) elt te)
  (hs : ∀ x,foldedSetIterable iter X.env x = pure x := by intro _; rfl) : PE X (.ListComp elt [⟨tg,iter,[],0⟩] scope pos) (tComp wi caps g tTrue te) := by
 intro pins s σ H Q I h
 rw [eval_ListComp]
 refine wpAny_comprehension_free (use := none) rfl hs B.clos B.kind B.names ?_
 refine thn (hi pins s σ H _ I h) fun v s1 h1 => thn h1 fun itv s2 h2 => ?_
 obtain ⟨it,fp,tn,J,H2,rfl,I2,T,st2,f2,q2⟩ := h2
 have fpl : ∀ b ∈ fp,b < s2.heap.objs.size := fun b hb => by
  obtain ⟨o,e,_⟩ := T.obj _ _ st2 b hb
  exact Heap.lt_size e
 obtain ⟨W,⟨m0,w0⟩,turn⟩ := q2 s2.heap.objs.size (I2.hok.fresh (Nat.le_refl _))
 refine wpAny_newObj_type ?_
 have I3 : Inv X pins σ (upd H2 s2.heap.objs.size (.lst [])) { s2 with heap := s2.heap.push { cls := .type "list",data := .seq ([] : List Value).toArray } } :=
  I2.laid (t' := s2.toks) (fun b u e => Heap.get?_push_of_some _ e) (Nat.le_refl _) ⟨Nat.zero_le _,[],0,.nil,Heap.get?_push_size _ rfl⟩
 generalize hs3 : ({ s2 with heap := s2.heap.push { cls := .type "list",data := .seq ([] : List Value).toArray } } : Shared) = s3 at I3
 have k23 : ∀ b o,s2.heap.get? b = some o → s3.heap.get? b = some o := fun b o e => by rw [← hs3]; exact Heap.get?_push_of_some _ e
 have fpl3 : ∀ b ∈ fp,b < s3.heap.objs.size := fun b hb => by
  obtain ⟨o,e,_⟩ := T.obj _ _ st2 b hb
  exact Heap.lt_size (k23 b o e)
 have f3 : ∀ b ∈ fp,FpOk X pins (upd H2 s2.heap.objs.size (.lst [])) b := fun b hb => ⟨by rw [upd_ne (Nat.ne_of_lt (fpl b hb))]; exact (f2 b hb).1,(f2 b hb).2⟩
 refine wpAny_newFunctionEnv B.nocell (by intro y hy; simp at hy) (fun h1 hn1 sb1 => ?_) B.kind
 have k31 : ∀ b o,s3.heap.get? b = some o → h1.get? b = some o := fun b o e => sb1.extBut b o (Nat.ne_of_lt (Heap.lt_size e)) (Heap.get?_push_of_some _ e)
 have J0 := blk_inv (fp := fp) (tk := s3.toks + ([] : List (Str × Value)).length) B I3 f3 hn1 k31 fpl3
 have st1 : tn 0 h1 := T.keep _ _ _ st2 fun b _ o e => k31 b o (k23 b o e)
 have loop : codeAny (model X.prog X.w) X.A (.compLoop (.ListComp elt [⟨tg,iter,[],0⟩] scope pos) 0 (.ref it) (.ref s2.heap.objs.size) (blk X N' scope cl s3.heap.objs.size s3 (upd H2 s2.heap.objs.size (.lst [])) fp).env)
   (compPost (model X.prog X.w) X.A X.xe none (EP X pins σ Q) (.ref s2.heap.objs.size) s3.heap.objs.size) { s3 with heap := h1,toks := s3.toks + ([] : List (Str × Value)).length } := by
  refine codeAny_loop rfl (fun n s' => ∃ i H',Inv (blk X N' scope cl s3.heap.objs.size s3 (upd H2 s2.heap.objs.size (.lst [])) fp) [] (seen caps σ) H' s' ∧ tn i s'.heap ∧ (∀ b ∈ fp,H' b = none) ∧ W i n H') (fun n s5 hI => ?_) m0
   ⟨0,_,J0,st1,fun b hb => (f3 b hb).1,w0⟩
  obtain ⟨i,H5,I5,st5,fr5,w5⟩ := hI
  show wpAny _ _ ((compTurn (.ListComp elt [⟨tg,iter,[],0⟩] scope pos) 0 (.ref it) (.ref s2.heap.objs.size) (blk X N' scope cl s3.heap.objs.size s3 (upd H2 s2.heap.objs.size (.lst [])) fp).env).onRaise (fun x => do noteFrame x (blk X N' scope cl s3.heap.objs.size s3 (upd H2 s2.heap.objs.size (.lst [])) fp).env; theTreesLotGoes x)) _ _ s5
  refine wpAny_noted ?_
  rw [compTurn_list1]
  have ff : ∀ {H' : Hp},(∀ b ∈ fp,H' b = none) → ∀ b ∈ fp,FpOk (blk X N' scope cl s3.heap.objs.size s3 (upd H2 s2.heap.objs.size (.lst [])) fp) [] H' b := fun {H'} hn b hb =>
   ⟨hn b hb,(J0.ok.exf b hb).1,J0.ok.exfs b hb,.inl hb,fun x c e => (J0.ok.exf b hb).2 x c e,fun p hp => absurd (show p ∈ ([] : List (Addr × Obj)) from hp) (by simp)⟩
  rcases turn i n H5 w5 with ⟨stop,qn⟩ | ⟨go,N,hN,step⟩
  ·refine wpAny_bind (wpAny_standAt (wpAny_bind (thn (T.done (blk X N' scope cl s3.heap.objs.size s3 (upd H2 s2.heap.objs.size (.lst [])) fp) rfl rfl rfl hc i [] s5 _ H5 _ I5 (ff fr5) st5 stop) fun r s6 ⟨hr,I6⟩ => ?_)))
   subst hr
   refine wpAny_pure ?_
   obtain ⟨m,hn,_⟩ := id I6.loc
   exact ⟨m,hn,fun h' sb => ⟨.ref s2.heap.objs.size,H5,blk_end I3 f3 fpl3 I6 sb,rfl,qn⟩⟩
  ·refine wpAny_bind (wpAny_standAt (wpAny_bind (thn (T.item (blk X N' scope cl s3.heap.objs.size s3 (upd H2 s2.heap.objs.size (.lst [])) fp) rfl rfl rfl hc i [] s5 _ H5 _ I5 (ff fr5) st5 go) fun r s6 ⟨u,hr,h6⟩ => ?_)))
   subst hr
   refine wpAny_bind (thn h6 fun _ s7 ⟨x,H7,I7,r7,y7,st7,fr7⟩ => ?_)
   have I7' := I7.pinned (ff fr7) (T.obj _ _ st7)
   refine wpAny_bind (wpAny_mono (hg _ _ _ _ _ s7 _ H7 x u _ I7' r7 (step x H7 y7)) (fun _ s8 ⟨σ8,H8,I8,kp,q8⟩ => ?_) fun _ _ f => f.elim)
   have q8' : te σ8 H8 fun y H6 => ∃ ys,H6 s2.heap.objs.size = some (.lst ys) ∧ ys.length < sizeLine ∧ N (upd H6 s2.heap.objs.size (.lst (ys ++ [y]))) := by
    have z := q8
    unfold tTrue at z
    dsimp only at z
    rw [if_pos rfl] at z
    exact z
   refine wpAny_bind (wpAny_bind (wpAny_mono (he _ _ _ _ _ s8 σ8 H8 _ I8 q8') (fun y s9 ⟨y',H9,I9,r9,ys,hD,hl,n9⟩ => ?_) fun _ _ f => f.elim))
   refine wpAny_bind (wpAny_mono (mt_append (X := blk X N' scope cl s3.heap.objs.size s3 (upd H2 s2.heap.objs.size (.lst [])) fp) _ s9 σ8 H9 (.ref s2.heap.objs.size) [y'] (.ref s2.heap.objs.size) [y] (fun _ H' => N H') I9 rfl (.cons r9 .nil) ⟨_,ys,y',rfl,rfl,hD,hl,n9⟩) (fun _ s10 ⟨_,H10,I10,_,n10⟩ => ?_) fun _ _ f => f.elim)
   exact wpAny_pure (wpAny_pure ⟨rfl,comp_again T hN st7 I10 kp (I5.len.trans I10.len.symm) n10⟩)
 exact codeAny_compStart_list loop (T.self X.A 0 _ _ _ st1 loop)
end
end
end L2
namespace L2
open PySem PySem.Spec PyProof.Rows
section
variable {X : Cx} {a b c d : Expr} {ta tb tc td : TE} {pos : Pos}
def tChain3 (r r' r'' : R2) (ta tb tc td : TE) : TE := fun σ H Q => ta σ H fun x H1 => tb σ H1 fun y H2 => r x y H2 fun z H3 => ∃ k,z = .bl k ∧
 (if k = true then tc σ H3 fun w' H4 => r' y w' H4 fun z' H5 => ∃ k',z' = .bl k' ∧ (if k' = true then td σ H5 fun w2 H6 => r'' w' w2 H6 Q else Q (.bl false) H5) else Q (.bl false) H3)
theorem pe_chain3 {op op' op'' : CmpOp} {r r' r'' : R2} (ho : OpR X (compareOp op) r) (ho' : OpR X (compareOp op') r') (ho'' : OpR X (compareOp op'') r'') (ha : PE X a ta) (hb : PE X b tb) (hc : PE X c tc) (hd : PE X d td)
  (hm : lastMarks [op,op',op''] [b,c,d] = false := by with_unfolding_all rfl) : PE X (.Compare a [op,op',op''] [b,c,d] pos) (tChain3 r r' r'' ta tb tc td) := by
 intro pins s σ H Q I h
 refine Compare_chain (thn (ha pins s σ H _ I h) fun v s1 ⟨x,H1,I1,r1,q1⟩ => chain_link (thn (hb pins s1 σ H1 _ I1 q1) fun u s2 ⟨y,H2,I2,r2,q2⟩ =>
  thn (ho pins s2 σ H2 x y v u _ I2 r1 r2 q2) fun d s3 ⟨z,H3,I3,r3,k,e,q3⟩ => ?_)) hm
 subst e
 cases r3
 refine wpAny_truthy_bool ?_
 cases k with
 | false => exact ite_ff ⟨.bl false,H3,I3,rfl,q3⟩
 | true =>
  refine ite_tt (chain_link (thn (hc pins s3 σ H3 _ I3 q3) fun w' s4 ⟨z',H4,I4,r4,q4⟩ => thn (ho' pins s4 σ H4 y z' u w' _ I4 r2 r4 q4) fun d' s5 ⟨z2,H5,I5,r5,k2,e2,q5⟩ => ?_))
  subst e2
  cases r5
  refine wpAny_truthy_bool ?_
  cases k2 with
  | false => exact ite_ff ⟨.bl false,H5,I5,rfl,q5⟩
  | true => exact ite_tt (chain_last (thn (hd pins s5 σ H5 _ I5 q5) fun w2 s6 ⟨z3,H6,I6,r6,q6⟩ => ho'' pins s6 σ H6 z' z3 w' w2 Q I6 r4 r6 q6))
theorem vals_bl {bs : List Bool} {its : List Value} (r : Vals (bs.map V.bl) its) {i : Nat} {v : Value} (h : its[i]? = some v) : ∃ k,bs[i]? = some k ∧ v = .bool k := by
 have hl := r.length
 rw [List.length_map] at hl
 have hi : i < bs.length := by
  have := (List.getElem?_eq_some_iff.mp h).1
  omega
 obtain ⟨u,hu,ru⟩ := r.get (i := i) (x := .bl bs[i]) (by rw [List.getElem?_map,List.getElem?_eq_getElem hi]; rfl)
 rw [h] at hu
 cases hu
 exact ⟨bs[i],List.getElem?_eq_getElem hi,ru⟩
theorem all_range (bs : List Bool) : ((List.range bs.length).all fun i => (bs[i]?).getD true) = bs.all id := by
 rw [Bool.eq_iff_iff,List.all_eq_true,List.all_eq_true]
 constructor
 ·intro h x hx
  obtain ⟨i,hi,e⟩ := List.mem_iff_getElem.mp hx
  have := h i (List.mem_range.mpr hi)
  rw [List.getElem?_eq_getElem hi,e] at this
  exact this
 ·intro h i hi
  have hi' := List.mem_range.mp hi
  rw [List.getElem?_eq_getElem hi']
  exact h _ (List.getElem_mem hi')
theorem call_all (hc : X.calm = true) : CallR X (.builtin "all") (fun xs H Q => ∃ (p : Addr) (bs : List Bool),xs = [.ref p] ∧ SqL X.K H p (bs.map V.bl) ∧ Q (.bl (bs.all id)) H) := by
 intro pins s σ H xs us Q I r h
 obtain ⟨p,bs,rfl,hS,q⟩ := h
 obtain ⟨u,rfl,ru⟩ := vals1 r
 cases ru
 obtain ⟨its,rv,pl,hz⟩ := I.list hS
 have hl := pl.isList
 have hlt : p < s.heap.objs.size := by obtain ⟨_,e,_⟩ := hl; exact Heap.lt_size e
 refine call_all_walk (wpAny_pyIter_list hl ?_)
 refine ⟨s.heap.objs.size,[s.heap.objs.size,p],[s.heap.objs.size],its.toArray.size,_,_,fun i => (bs[i]?).getD true,rfl,Walks.list (A := X.A.in1) (I.ok.hd hc) _ p (Nat.ne_of_lt hlt) its.toArray,
  ⟨⟨_,Heap.get?_push_size _ rfl,rfl,rfl⟩,hl.push _⟩,fun i v s' Q' E' hP hQ => ?_,fun h' tk hk => ?_⟩
 ·obtain ⟨k,e,rfl⟩ := vals_bl rv (i := i) (v := v) (by simpa using hP)
  simp only [e,Option.getD_some] at hQ
  exact wpAny_truthy_bool hQ
 ·have e : ((List.range its.toArray.size).all fun i => (bs[i]?).getD true) = bs.all id := by
   have hl2 := rv.length
   rw [List.length_map] at hl2
   rw [List.size_toArray,← hl2]
   exact all_range bs
  rw [e]
  have keep : ∀ b x,s.heap.get? b = some x → h'.get? b = some x := fun b x e => hk b x (fun hm => by rw [List.mem_singleton.mp hm] at e; exact Nat.lt_irrefl _ (Heap.lt_size e)) (Heap.get?_push_of_some _ e)
  exact ⟨.bl (bs.all id),H,I.kept (t' := tk) keep,rfl,q⟩
end
section
variable {X : Cx} {st : Stmt} {rest : List Stmt} {t u : TS} {e : Expr} {te : TE} {tt : TT}
def tCut (t u : TS) : TS := fun D σ H => ∃ M : St → Hp → Prop,t { D with nx := M } σ H ∧ ∀ σ' H',M σ' H' → u D σ' H'
theorem pss_cut (h1 : PS X st t) (h2 : PSs X rest u) : PSs X (st :: rest) (tCut t u) := by
 intro pins s σ H D I h
 obtain ⟨M,h,hM⟩ := h
 refine wpAny_execs_cons (thn (h1 pins s σ H { D with nx := M } I h) fun f s1 q => ?_)
 cases f with
 | next =>
  obtain ⟨σ',H',I',q⟩ := q
  exact h2 pins s1 σ' H' D I' (hM σ' H' q)
 | ret v => exact q
 | brk => exact q
 | cont => exact q
def tCutT (t : TT) : TT := fun σ H Q => ∃ M : Bool → Hp → Prop,t σ H M ∧ ∀ b H',M b H' → Q b H'
theorem pt_cut (h : PT X e tt) : PT X e (tCutT tt) := by
 intro pins s σ H Q I q
 obtain ⟨M,q,hM⟩ := q
 exact thn (h pins s σ H M I q) fun b s1 ⟨H1,I1,q1⟩ => ⟨H1,I1,hM b H1 q1⟩
end
def blkCheck (X : Cx) (N' : List Str) (scope : Scope) (cl : List (Str × Addr)) (caps : List (Option Nat)) : Bool :=
 (scope.names.all fun y => y.2 != .cell) && (scope.names.all fun y => y.2 != .local || scope.names.lookup y.1 == some .local) &&
 ((relabel scope X.env).names.all fun y => !(y.2 == .cell || y.2 == .free) || (cl.lookup y.1).isSome) && (caps.length == N'.length) &&
 ((List.range caps.length).all fun i => match caps[i]?,N'[i]? with
  | some (some j),some x => (X.N[j]? == some x) && (X.env.kindOf x == some .cell || X.env.kindOf x == some .free) && ((relabel scope X.env).names.lookup x == some .cell || (relabel scope X.env).names.lookup x == some .free)
  | _,_ => true)
theorem BlkOk.of {X : Cx} {N' : List Str} {scope : Scope} {cl : List (Str × Addr)} {caps : List (Option Nat)} (clos : closureFor scope X.env = pure cl) (kind : scope.kind = .function) (sub : ∀ x c,cl.lookup x = some c → X.env.cells.lookup x = some c)
  (h : blkCheck X N' scope cl caps = true) : BlkOk X N' scope cl caps := by
 unfold blkCheck at h
 simp only [Bool.and_eq_true] at h
 obtain ⟨⟨⟨⟨h1,h2⟩,h3⟩,h4⟩,h5⟩ := h
 have ok3 : ∀ x k,(relabel scope X.env).names.lookup x = some k → (k = .cell ∨ k = .free) → ∃ c,cl.lookup x = some c := fun x k e hk => by
  have := List.all_eq_true.mp h3 _ (PySem.mem_of_lookup e)
  have hb : (k == NameKind.cell || k == NameKind.free) = true := by
   rcases hk with rfl | rfl <;> rfl
  simp only [hb,Bool.not_true,Bool.false_or] at this
  exact Option.isSome_iff_exists.mp this
 refine ⟨clos,fun y hy => ?_,kind,fun y hy e => ?_,sub,fun x hx => ?_,by simpa using h4,fun i j x e1 e2 => ?_⟩
 ·have := List.all_eq_true.mp h1 y hy
  simpa using this
 ·have := List.all_eq_true.mp h2 y hy
  rw [e] at this
  simpa using this
 ·rcases hx with hx | hx
  ·exact ok3 x _ hx (.inl rfl)
  ·exact ok3 x _ hx (.inr rfl)
 ·have hi : i < caps.length := (List.getElem?_eq_some_iff.mp e1).1
  have := List.all_eq_true.mp h5 i (List.mem_range.mpr hi)
  rw [e1,e2] at this
  simp only [Bool.and_eq_true,Bool.or_eq_true,beq_iff_eq] at this
  exact ⟨this.1.1,this.1.2,this.2⟩
section
variable {K : PySem.W.Frag} {a : Addr} {xs : List V} {caps : List (Option Nat)} {g : TG} {tt : TT} {te : TE} {σ : St} {H : Hp} {Q : VK}
theorem comp_list (Pv : Addr → Nat → Hp → Prop) (h0 : ∀ D,H D = none → Pv D 0 (upd H D (.lst []))) (hl : ∀ D i H',H D = none → i ≤ xs.length → Pv D i H' → SqL K H' a xs)
  (hs : ∀ D i x H',H D = none → xs[i]? = some x → Pv D i H' → g x (seen caps σ) H' fun σ4 H4 => (∀ (k : Nat) v,(seen caps σ)[k]? = some (some v) → σ4[k]? = some (some v)) ∧ tt σ4 H4 fun b H5 =>
   if b = true then te σ4 H5 fun y H6 => ∃ ys,H6 D = some (.lst ys) ∧ ys.length < sizeLine ∧ Pv D (i + 1) (upd H6 D (.lst (ys ++ [y]))) else Pv D (i + 1) H5)
  (hd : ∀ D H',H D = none → Pv D xs.length H' → Q (.ref D) H') : cBody caps g tt te σ Q (Itl K a) H := by
 intro D hD
 refine ⟨fun i m H' => m = xs.length - i ∧ i ≤ xs.length ∧ Pv D i H',⟨xs.length,by simp,Nat.zero_le _,h0 D hD⟩,?_⟩
 rintro i m H2 ⟨rfl,hi,p⟩
 have q := hl D i H2 hD hi p
 by_cases hlt : i < xs.length
 ·refine .inr ⟨⟨xs,xs[i],q,by simp [hlt]⟩,Pv D (i + 1),fun H' p' => ⟨xs.length - (i + 1),by omega,rfl,hlt,p'⟩,fun x H3 y => ?_⟩
  obtain ⟨e,y⟩ := y
  subst e
  exact hs D i x _ hD (y xs q) p
 ·have e : i = xs.length := by omega
  subst e
  exact .inl ⟨⟨xs,q,Nat.le_refl _⟩,hd D H2 hD p⟩
theorem comp_list0 (Pv : Addr → Nat → Hp → Prop) (h0 : ∀ D,H D = none → Pv D 0 (upd H D (.lst []))) (hl : ∀ D i H',H D = none → i ≤ xs.length → Pv D i H' → SqL K H' a xs)
  (hs : ∀ D i x H',H D = none → xs[i]? = some x → Pv D i H' → g x (seen caps σ) H' fun σ4 H4 => (∀ (k : Nat) v,(seen caps σ)[k]? = some (some v) → σ4[k]? = some (some v)) ∧
   te σ4 H4 fun y H6 => ∃ ys,H6 D = some (.lst ys) ∧ ys.length < sizeLine ∧ Pv D (i + 1) (upd H6 D (.lst (ys ++ [y]))))
  (hd : ∀ D H',H D = none → Pv D xs.length H' → Q (.ref D) H') : cBody caps g tTrue te σ Q (Itl K a) H := comp_list Pv h0 hl hs hd
theorem comp_tup (Pv : Addr → Nat → Hp → Prop) (h0 : ∀ D,H D = none → Pv D 0 (upd H D (.lst []))) (hl : ∀ D i H',H D = none → i ≤ xs.length → Pv D i H' → SqT K H' a xs)
  (hs : ∀ D i x H',H D = none → xs[i]? = some x → Pv D i H' → g x (seen caps σ) H' fun σ4 H4 => (∀ (k : Nat) v,(seen caps σ)[k]? = some (some v) → σ4[k]? = some (some v)) ∧ tt σ4 H4 fun b H5 =>
   if b = true then te σ4 H5 fun y H6 => ∃ ys,H6 D = some (.lst ys) ∧ ys.length < sizeLine ∧ Pv D (i + 1) (upd H6 D (.lst (ys ++ [y]))) else Pv D (i + 1) H5)
  (hd : ∀ D H',H D = none → Pv D xs.length H' → Q (.ref D) H') : cBody caps g tt te σ Q (Itt K a) H := by
 intro D hD
 refine ⟨fun i m H' => m = xs.length - i ∧ i ≤ xs.length ∧ Pv D i H',⟨xs.length,by simp,Nat.zero_le _,h0 D hD⟩,?_⟩
 rintro i m H2 ⟨rfl,hi,p⟩
 have q := hl D i H2 hD hi p
 by_cases hlt : i < xs.length
 ·refine .inr ⟨⟨xs,xs[i],q,by simp [hlt]⟩,Pv D (i + 1),fun H' p' => ⟨xs.length - (i + 1),by omega,rfl,hlt,p'⟩,fun x H3 y => ?_⟩
  obtain ⟨e,y⟩ := y
  subst e
  exact hs D i x _ hD (y xs q) p
 ·have e : i = xs.length := by omega
  subst e
  exact .inl ⟨⟨xs,q,Nat.le_refl _⟩,hd D H2 hD p⟩
theorem comp_tup0 (Pv : Addr → Nat → Hp → Prop) (h0 : ∀ D,H D = none → Pv D 0 (upd H D (.lst []))) (hl : ∀ D i H',H D = none → i ≤ xs.length → Pv D i H' → SqT K H' a xs)
  (hs : ∀ D i x H',H D = none → xs[i]? = some x → Pv D i H' → g x (seen caps σ) H' fun σ4 H4 => (∀ (k : Nat) v,(seen caps σ)[k]? = some (some v) → σ4[k]? = some (some v)) ∧
   te σ4 H4 fun y H6 => ∃ ys,H6 D = some (.lst ys) ∧ ys.length < sizeLine ∧ Pv D (i + 1) (upd H6 D (.lst (ys ++ [y]))))
  (hd : ∀ D H',H D = none → Pv D xs.length H' → Q (.ref D) H') : cBody caps g tTrue te σ Q (Itt K a) H := comp_tup Pv h0 hl hs hd
end
mutual
inductive RdV (K : PySem.W.Frag) (H : Hp) : V → PyData → Prop
 | non : RdV K H .non .none
 | bl (b : Bool) : RdV K H (.bl b) (.bool b)
 | int (i : Int) : RdV K H (.int i) (.int i)
 | str (x : Str) : RdV K H (.str x) (.str x)
 | lst {a : Addr} {xs : List V} {ds : List PyData} : SqL K H a xs → RdAll K H xs ds → RdV K H (.ref a) (.list ds)
 | tup {a : Addr} {xs : List V} {ds : List PyData} : SqT K H a xs → RdAll K H xs ds → RdV K H (.ref a) (.tuple ds)
inductive RdAll (K : PySem.W.Frag) (H : Hp) : List V → List PyData → Prop
 | nil : RdAll K H [] []
 | cons {x : V} {d : PyData} {xs : List V} {ds : List PyData} : RdV K H x d → RdAll K H xs ds → RdAll K H (x :: xs) (d :: ds)
end
section
variable {X : Cx} {pins : List (Addr × Obj)} {σ : St} {H : Hp} {s : Shared}
mutual
theorem Inv.rd (I : Inv X pins σ H s) : ∀ {x : V} {d : PyData},RdV X.K H x d → ∀ u,RelV x u → ∃ as,Reads s.heap u d as
 | _,_,.non,u,r => by cases (show u = Value.none from r); exact ⟨_,.none⟩
 | _,_,.bl b,u,r => by cases (show u = Value.bool b from r); exact ⟨_,.bool b⟩
 | _,_,.int i,u,r => by obtain ⟨t,q⟩ := (show ∃ t,u = Value.int i t from r); cases q; exact ⟨_,.int i t⟩
 | _,_,.str x,u,r => by obtain ⟨t,q⟩ := (show ∃ t,u = Value.str x t from r); cases q; exact ⟨_,.str x t⟩
 | _,_,.lst (a := a) hS hA,u,r => by
  cases (show u = Value.ref a from r)
  obtain ⟨its,rv,p,hz⟩ := I.list hS
  obtain ⟨as,q⟩ := Inv.rdAll I hA its rv
  obtain ⟨o,e,hc,n,hd⟩ := p.isList
  exact ⟨_,.list e hc hd (by simpa using q)⟩
 | _,_,.tup (a := a) hS hA,u,r => by
  cases (show u = Value.ref a from r)
  obtain ⟨its,rv,p,hz⟩ := I.tuple hS
  obtain ⟨as,q⟩ := Inv.rdAll I hA its rv
  obtain ⟨o,e,hc,n,hd⟩ := p
  exact ⟨_,.tuple e hc hd (by simpa using q)⟩
theorem Inv.rdAll (I : Inv X pins σ H s) : ∀ {xs : List V} {ds : List PyData},RdAll X.K H xs ds → ∀ us,Vals xs us → ∃ as,ReadsAll s.heap us ds as
 | _,_,.nil,us,r => by cases r; exact ⟨_,.nil⟩
 | _,_,.cons h1 h2,us,r => by
  cases r with
  | cons r1 r2 =>
   obtain ⟨as,q1⟩ := Inv.rd I h1 _ r1
   obtain ⟨bs,q2⟩ := Inv.rdAll I h2 _ r2
   exact ⟨_,.cons q1 q2⟩
end
end
section
variable {X : Cx}
def rEqD (K : PySem.W.Frag) : R2 := fun x y H Q => ∃ d e,RdV K H x d ∧ RdV K H y e ∧ SeqAt.shaped d = true ∧ SeqAt.shaped e = true ∧ Q (.bl (PyData.eqv d e)) H
def rNeD (K : PySem.W.Frag) : R2 := fun x y H Q => ∃ d e,RdV K H x d ∧ RdV K H y e ∧ SeqAt.shaped d = true ∧ SeqAt.shaped e = true ∧ Q (.bl (!PyData.eqv d e)) H
theorem op_eqD (hu : X.A.units + 64 < cLine) : OpR X (compareOp .Eq) (rEqD X.K) := by
 intro pins s σ H x y v u Q I rx ry h
 obtain ⟨d,e,hd,he,sd,se,q⟩ := h
 obtain ⟨as,ra⟩ := I.rd hd v rx
 obtain ⟨bs,rb⟩ := I.rd he u ry
 exact eq_dataH ra rb sd se hu ⟨.bl _,H,I,rfl,q⟩
theorem op_neD (hu : X.A.units + 64 < cLine) : OpR X (compareOp .NotEq) (rNeD X.K) := by
 intro pins s σ H x y v u Q I rx ry h
 obtain ⟨d,e,hd,he,sd,se,q⟩ := h
 obtain ⟨as,ra⟩ := I.rd hd v rx
 obtain ⟨bs,rb⟩ := I.rd he u ry
 exact ne_dataH ra rb sd se hu ⟨.bl _,H,I,rfl,q⟩
end
end L2
namespace L2
open PySem PySem.Spec PyProof.Rows
structure QE (X : Cx) (e : Expr) (t : TE) : Prop where
 run : PE X e t
structure QT (X : Cx) (e : Expr) (t : TT) : Prop where
 run : PT X e t
structure QW (X : Cx) (e : Expr) (t : TT) : Prop where
 run : PW X e t
structure QA (X : Cx) (es : List Expr) (t : TA) : Prop where
 run : PA X es t
structure QS (X : Cx) (st : Stmt) (t : TS) : Prop where
 run : PS X st t
structure QSs (X : Cx) (st : List Stmt) (t : TS) : Prop where
 run : PSs X st t
structure QG (X : Cx) (e : Expr) (t : TG) : Prop where
 run : PG X e t
structure QGs (X : Cx) (es : List Expr) (t : TGs) : Prop where
 run : PGs X es t
structure QI (X : Cx) (tg it : Expr) (w : TI) : Prop where
 run : PI X tg it w
structure QO (X : Cx) (e : Option Expr) (t : TO) : Prop where
 run : PO X e t
structure QC (X : Cx) (op : CmpOp) (a b : Expr) (t : TE) : Prop where
 run : PC X op a b t
structure QOp (X : Cx) (f : Value → Value → Sem Value) (r : R2) : Prop where
 run : OpR X f r
structure QCall (X : Cx) (f : Value) (r : List V → Hp → VK → Prop) : Prop where
 run : CallR X f r
structure QIx (X : Cx) (r : R2) : Prop where
 run : IxR X r
section
variable {X : Cx} {st : Stmt} {rest : List Stmt} {t u : TS} {a b c d e : Expr} {ta tb tc td te : TE} {tA tB' tt : TT} {pos p : Pos}
theorem qss_nil : QSs X [] tNext := ⟨pss_nil⟩
theorem qss_one (h1 : QS X st t) : QSs X [st] t := ⟨pss_one h1.run⟩
theorem qss_cons (h1 : QS X st t) (h2 : QSs X rest u) : QSs X (st :: rest) (tSeq t u) := ⟨pss_cons h1.run h2.run⟩
theorem qss_cut (h1 : QS X st t) (h2 : QSs X rest u) : QSs X (st :: rest) (tCut t u) := ⟨pss_cut h1.run h2.run⟩
theorem qs_set {i : Nat} {x : Str} {pos' : Pos} (hN : X.N.Nodup) (hi : X.N[i]? = some x) (hx : Loc X.env.scope x) (he : QE X e te) (hs : swapsWith e (some (.Name x pos')) pos.line X.env = pure false := by rfl) (hf : X.fn x = true ∨ X.env.scope.names.lookup x = some .local := by first | exact .inl rfl | exact .inr rfl | assumption) :
  QS X (.Assign [.Name x pos'] e pos) (tAsg te (gName i)) := ⟨ps_set hN hi hx he.run hs hf⟩
theorem qs_if {a b : List Stmt} {tc : TT} (hc : QT X c tc) (ha : QSs X a t) (hb : QSs X b u) : QS X (.If c a b pos) (tIfS tc t u) := ⟨ps_if hc.run ha.run hb.run⟩
theorem qs_ret (he : QE X e te) : QS X (.Return (some e) pos) (tRet te) := ⟨ps_ret he.run⟩
theorem qs_expr (he : QE X e te) (hs : swapsWith e none pos.line X.env = pure false := by rfl) : QS X (.Expr e pos) (tDrop te) := ⟨ps_expr he.run hs⟩
theorem qs_for {tg iter : Expr} {body : List Stmt} {wi : TI} {g : TG} {tb : TS} (hp : PassesOwn (model X.prog X.w) X.A X.env X.xe) (hc : X.calm = true) (hi : QI X tg iter wi) (hg : QG X tg g) (hb : QSs X body tb)
  (hs : ∀ x,foldedSetIterable iter X.env x = pure x := by intro _; rfl) : QS X (.For tg iter body [] pos) (tFor wi g tb) := ⟨ps_for hp hc hi.run hg.run hb.run hs⟩
theorem qg_name {i : Nat} {x : Str} (hN : X.N.Nodup) (hi : X.N[i]? = some x) (hx : Loc X.env.scope x) (hf : X.fn x = true ∨ X.env.scope.names.lookup x = some .local := by first | exact .inl rfl | exact .inr rfl | assumption) : QG X (.Name x pos) (gName i) := ⟨pg_name hN hi hx hf⟩
theorem qgs_nil : QGs X [] gNil := ⟨pgs_nil⟩
theorem qgs_cons {es : List Expr} {t : TG} {u : TGs} (h1 : QG X e t) (h2 : QGs X es u) (hs : (assignEach (e :: es) X.env).map (·.2) = assign e X.env :: (assignEach es X.env).map (·.2) := by rfl) : QGs X (e :: es) (gCons t u) := ⟨pgs_cons h1.run h2.run hs⟩
theorem qg_tup {es : List Expr} {k : Nat} {t : TGs} {n : Nat} (hc : X.calm = true) (h : QGs X es t)
  (hn : (assignEach es X.env).length = n := by rfl) (hst : (assignEach es X.env).findIdx? (·.1) = none := by rfl) : QG X (.Tuple es k pos) (gTup X.K n t) := ⟨pg_tup hc h.run hn hst⟩
theorem qi_list {tg l : Expr} {tl : TE} (hl : QE X l tl) : QI X tg l (iList X.K tl) := ⟨pi_list hl.run⟩
theorem qi_tup {tg l : Expr} {tl : TE} (hl : QE X l tl) : QI X tg l (iTup X.K tl) := ⟨pi_tup hl.run⟩
theorem qi_range1 {tg : Expr} {ta : TA} (hg : Gl X "range") (hm : X.mg "range" = none) (ha : QA X [a] ta) (h : notStar a = true := by rfl) : QI X tg (.Call (.Name "range" p) [a] [] pos) (iRng1 ta) := ⟨pi_range1 hg hm ha.run (se_of h)⟩
theorem qa_nil : QA X [] tNil := ⟨pa_nil⟩
theorem qa_c {es : List Expr} {t : TA} (ha : QE X e te) (hr : QA X es t) (h : notStar e = true := by rfl) : QA X (e :: es) (tCons te t) := ⟨pa_c ha.run hr.run h⟩
theorem qv (i : Nat) {x : Str} (hN : X.N[i]? = some x := by rfl) (hv : Vis X.env.scope x := by first | exact Or.inl rfl | exact Or.inr (Or.inl rfl) | exact Or.inr (Or.inr rfl)) (hd : (x == ("__debug__" : Str)) = false := by decide)
  (hcd : (x == ("__classdict__" : Str)) = false := by decide) : QE X (.Name x pos) (tVar i) := ⟨pe_var hN hv hd hcd⟩
theorem qe_bltn {x : Str} {v : V} {u : Value} (hg : Gl X x) (hm : X.mg x = none) (hv : bootBuiltins x = some u) (r : RelV v u) (hn : x ≠ "__name__" := by decide) (hd : (x == ("__debug__" : Str)) = false := by decide) : QE X (.Name x pos) (tC v) := ⟨pe_bltn hg hm hv r hn hd⟩
theorem qe_int {i : Int} {j : Nat} : QE X (.Constant (.int i) j pos) (tC (.int i)) := ⟨pe_int⟩
theorem qe_bl {b : Bool} {j : Nat} : QE X (.Constant (.bool b) j pos) (tC (.bl b)) := ⟨pe_bl⟩
theorem qe_non {j : Nat} : QE X (.Constant .none j pos) (tC .non) := ⟨pe_non⟩
theorem qe_str {x : Str} {j : Nat} : QE X (.Constant (.str x) j pos) (tC (.str x)) := ⟨pe_str⟩
theorem qe_op {op : Operator} {r : R2} (ho : QOp X (binaryOp op) r) (ha : QE X a ta) (hb : QE X b tb) : QE X (.BinOp a op b pos) (tOp r ta tb) := ⟨pe_op ho.run ha.run hb.run⟩
theorem qe_neg (ha : QE X a ta) : QE X (.UnaryOp .USub a pos) (tUn (rU fun i => .int (-i)) ta) := ⟨pe_un un_neg ha.run⟩
theorem qe_not (ha : QE X a ta) : QE X (.UnaryOp .Not a pos) (tNotV ta) := ⟨pe_not ha.run⟩
theorem qe_isN {j : Nat} {pos' : Pos} (ha : QE X a ta) : QE X (.Compare a [.Is] [.Constant .none j pos'] pos) (tIsN ta) := ⟨pe_cmp (pc_isN ha.run)⟩
theorem qt_isN {j : Nat} {pos' : Pos} (ha : QE X a ta) : QT X (.Compare a [.Is] [.Constant .none j pos'] pos) (tB (tIsN ta)) := ⟨pt_cmp (pc_isN ha.run)⟩
theorem qe_cmpR {op : CmpOp} {r : R2} (ho : QOp X (compareOp op) r) (ha : QE X a ta) (hb : QE X b tb) (hm : behindInMarks op b = false) : QE X (.Compare a [op] [b] pos) (tOp r ta tb) := ⟨pe_cmpR ho.run ha.run hb.run hm⟩
theorem qt_cmpR {op : CmpOp} {r : R2} (ho : QOp X (compareOp op) r) (ha : QE X a ta) (hb : QE X b tb) (hm : behindInMarks op b = false) : QT X (.Compare a [op] [b] pos) (tTest (tOp r ta tb)) := ⟨pt_cmpR ho.run ha.run hb.run hm⟩
theorem qe_chain {op op' : CmpOp} {r r' : R2} (ho : QOp X (compareOp op) r) (ho' : QOp X (compareOp op') r') (ha : QE X a ta) (hb : QE X b tb) (hc : QE X c tc) (hm : lastMarks [op,op'] [b,c] = false := by with_unfolding_all rfl) :
  QE X (.Compare a [op,op'] [b,c] pos) (tChain r r' ta tb tc) := ⟨pe_chain ho.run ho'.run ha.run hb.run hc.run hm⟩
theorem qt_chain {op op' : CmpOp} {r r' : R2} (ho : QOp X (compareOp op) r) (ho' : QOp X (compareOp op') r') (ha : QE X a ta) (hb : QE X b tb) (hc : QE X c tc) (hm : lastMarks [op,op'] [b,c] = false := by with_unfolding_all rfl) :
  QT X (.Compare a [op,op'] [b,c] pos) (tTest (tChain r r' ta tb tc)) := ⟨pt_chain ho.run ho'.run ha.run hb.run hc.run hm⟩
theorem qe_chain3 {op op' op'' : CmpOp} {r r' r'' : R2} (ho : QOp X (compareOp op) r) (ho' : QOp X (compareOp op') r') (ho'' : QOp X (compareOp op'') r'') (ha : QE X a ta) (hb : QE X b tb) (hc : QE X c tc) (hd : QE X d td) (hm : lastMarks [op,op',op''] [b,c,d] = false := by with_unfolding_all rfl) :
  QE X (.Compare a [op,op',op''] [b,c,d] pos) (tChain3 r r' r'' ta tb tc td) := ⟨pe_chain3 ho.run ho'.run ho''.run ha.run hb.run hc.run hd.run hm⟩
theorem qe_one {op : BoolOp} (h : QE X a ta) : QE X (.BoolOp op [a] pos) ta := ⟨pe_one h.run⟩
theorem qe_and {rest : List Expr} (ha : QE X a ta) (hb : QE X (.BoolOp .And (b :: rest) pos) tb) : QE X (.BoolOp .And (a :: b :: rest) pos) (tAndV ta tb) := ⟨pe_and ha.run hb.run⟩
theorem qw_and1 (ha : QT X a tA) : QW X (.BoolOp .And [a] pos) tA := ⟨pw_and1 ha.run⟩
theorem qw_or1 (ha : QT X a tA) : QW X (.BoolOp .Or [a] pos) tA := ⟨pw_or1 ha.run⟩
theorem qw_and {rest : List Expr} (ha : QT X a tA) (hb : QW X (.BoolOp .And (b :: rest) pos) tB') : QW X (.BoolOp .And (a :: b :: rest) pos) (tAnd tA tB') := ⟨pw_and ha.run hb.run⟩
theorem qw_or {rest : List Expr} (ha : QT X a tA) (hb : QW X (.BoolOp .Or (b :: rest) pos) tB') : QW X (.BoolOp .Or (a :: b :: rest) pos) (tOr tA tB') := ⟨pw_or ha.run hb.run⟩
theorem QW.pt (h : QW X e tt) : QT X e tt := ⟨h.run.pt⟩
theorem qt_not (ha : QT X a tA) : QT X (.UnaryOp .Not a pos) (tNot tA) := ⟨pt_not ha.run⟩
theorem qt_val (h : QE X e te) (he : ∀ whole,isTrue e X.env whole = (do let v ← whole; standAt e.pos; holding [v] (truthy v)) := by intro _; rfl) : QT X e (tB te) := ⟨pt_val h.run he⟩
theorem qt_cut (h : QT X e tt) : QT X e (tCutT tt) := ⟨pt_cut h.run⟩
theorem qe_ifExp (hc : QT X c tA) (ha : QE X a ta) (hb : QE X b tb) : QE X (.IfExp c a b pos) (tIf tA ta tb) := ⟨pe_ifExp hc.run ha.run hb.run⟩
theorem qe_tup {es : List Expr} {t : TA} {x1 : Nat} (h : QA X es t) : QE X (.Tuple es x1 pos) (tTup t) := ⟨pe_tup h.run⟩
theorem qe_lst {es : List Expr} {t : TA} (h : QA X es t) : QE X (.List es pos) (tLst t) := ⟨pe_lst h.run⟩
theorem qe_ix {r : R2} (hr : QIx X r) (ha : QE X a ta) (hb : QE X b tb) (hs : PlainIx b) : QE X (.Subscript a b pos) (tOp r ta tb) := ⟨pe_ix hr.run ha.run hb.run hs⟩
theorem qo_none : QO X none tNoPart := ⟨po_none⟩
theorem qo_some (h : QE X e te) : QO X (some e) (tPart te) := ⟨po_some h.run⟩
theorem qe_slL {lo hi : Option Expr} {tl th : TO} {p2 : Pos} (he : QE X e te) (hl : QO X lo tl) (hu : QO X hi th) : QE X (.Subscript e (.Slice lo hi none p2) pos) (tSl (rSlL X.K) te tl th) := ⟨pe_slice sl_list he.run hl.run hu.run⟩
theorem qe_cb {x : Str} {es : List Expr} {t : TA} {id : String} {r : List V → Hp → VK → Prop} (hc : QCall X (.builtin id) r) (hg : Gl X x) (hm : X.mg x = none) (hv : bootBuiltins x = some (.builtin id)) (ha : QA X (e :: es) t) (hn : x ≠ "__name__" := by decide) (hdb : (x == ("__debug__" : Str)) = false := by decide)
  (he : notStar e = true := by rfl) (hpl : es.all notStar = true := by rfl) : QE X (.Call (.Name x p) (e :: es) [] pos) (tCB r t) := ⟨pe_cb hc.run hg hm hv ha.run hn hdb he hpl⟩
theorem qe_ct {x : Str} {es : List Expr} {t : TA} {T : String} {r : List V → Hp → VK → Prop} (hc : QCall X (.type T) r) (hg : Gl X x) (hm : X.mg x = none) (hv : bootBuiltins x = some (.type T)) (ha : QA X (e :: es) t) (hn : x ≠ "__name__" := by decide) (hdb : (x == ("__debug__" : Str)) = false := by decide)
  (he : notStar e = true := by rfl) (hpl : es.all notStar = true := by rfl) : QE X (.Call (.Name x p) (e :: es) [] pos) (tCB r t) := ⟨pe_ct hc.run hg hm hv ha.run hn hdb he hpl⟩
theorem qe_fn {k : Nat} {x : Str} {ps : List Str} {sp : Sp} {es : List Expr} {t : TA} (C : Callee X.prog X.w X.K X.mg X.base k x ps sp) (hr : Room k X.A) (hg : Gl X x) (ha : QA X (e :: es) t) (hdb : (x == ("__debug__" : Str)) = false := by decide)
  (he : notStar e = true := by rfl) (hpl : es.all notStar = true := by rfl) : QE X (.Call (.Name x p) (e :: es) [] pos) (tCall sp [] E0 t) := ⟨pe_fn C hr hg ha.run hdb he hpl⟩
theorem qe_append {o : Expr} {to : TE} {t : TA} {apos : Pos} (ho : QE X o to) (ha : QA X [e] t) (h : notStar e = true := by rfl) (hbase : attributeBase o "append" X.env (eval o X.env) = eval o X.env := by rfl) (hline : (apos.endLine == pos.line) = true := by rfl) :
  QE X (.Call (.Attribute o "append" apos) [e] [] pos) (tBM X.K "list" rAppend to t) :=
 ⟨pe_bm PySem.F.plainAttrs_list PySem.F.slot_list_append PySem.F.type_list_append mt_append ho.run ha.run hbase (by rw [se_of h]; rfl) hline (se_of h) rfl⟩
end
section
variable {X : Cx}
theorem qop_add : QOp X (binaryOp .Add) (rI0 fun i j => .int (i + j)) := ⟨op_add⟩
theorem qop_sub : QOp X (binaryOp .Sub) (rI0 fun i j => .int (i - j)) := ⟨op_sub⟩
theorem qop_mul : QOp X (binaryOp .Mult) (rI CMul fun i j => .int (i * j)) := ⟨op_mul⟩
theorem qop_fdivB : QOp X (binaryOp .FloorDiv) (rI CDivB fun i j => .int (i / j)) := ⟨op_fdivB⟩
theorem qop_mod : QOp X (binaryOp .Mod) (rI (fun _ j => 0 < j) fun i j => .int (i % j)) := ⟨op_mod⟩
theorem qop_pow : QOp X (binaryOp .Pow) (rI CPow fun i j => .int (i ^ j.toNat)) := ⟨op_pow⟩
theorem qop_eq : QOp X (compareOp .Eq) rEq := ⟨op_eq⟩
theorem qop_ne : QOp X (compareOp .NotEq) rNe := ⟨op_ne⟩
theorem qop_lt : QOp X (compareOp .Lt) (rI0 fun i j => .bl (decide (i < j))) := ⟨op_lt⟩
theorem qop_le : QOp X (compareOp .LtE) (rI0 fun i j => .bl (decide (i ≤ j))) := ⟨op_le⟩
theorem qop_gt : QOp X (compareOp .Gt) (rI0 fun i j => .bl (decide (j < i))) := ⟨op_gt⟩
theorem qop_ge : QOp X (compareOp .GtE) (rI0 fun i j => .bl (decide (j ≤ i))) := ⟨op_ge⟩
theorem qop_eqD (hu : X.A.units + 64 < cLine) : QOp X (compareOp .Eq) (rEqD X.K) := ⟨op_eqD hu⟩
theorem qop_neD (hu : X.A.units + 64 < cLine) : QOp X (compareOp .NotEq) (rNeD X.K) := ⟨op_neD hu⟩
theorem qix_list : QIx X (rIxL X.K) := ⟨ix_list⟩
theorem qix_tup : QIx X (rIxT X.K) := ⟨ix_tup⟩
theorem qcall_len : QCall X (.builtin "len") (fun xs H Q => ∃ p ys,xs = [.ref p] ∧ (SqL X.K H p ys ∨ SqT X.K H p ys) ∧ Q (.int ys.length) H) := ⟨call_len_seq⟩
theorem qcall_min (hc : X.calm = true) : QCall X (.builtin "min") (fun xs H Q => ∃ i j,xs = [.int i,.int j] ∧ Q (.int (if j < i then j else i)) H) := ⟨call_min2 hc⟩
theorem qcall_isi : QCall X (.builtin "isinstance") (fun xs H Q => ∃ x T t b,xs = [x,.ty T] ∧ TyOf X.K H x t ∧ PySem.W.kitOne X.K t (.type T) = some b ∧ Q (.bl b) H) := ⟨call_isi⟩
theorem qcall_all (hc : X.calm = true) : QCall X (.builtin "all") (fun xs H Q => ∃ (p : Addr) (bs : List Bool),xs = [.ref p] ∧ SqL X.K H p (bs.map V.bl) ∧ Q (.bl (bs.all id)) H) := ⟨call_all hc⟩
theorem qcall_list : QCall X (.type "list") (fun xs H Q => ∃ p ys,xs = [.ref p] ∧ (SqL X.K H p ys ∨ SqT X.K H p ys) ∧ ∀ l,H l = none → Q (.ref l) (upd H l (.lst ys))) := ⟨call_list_of⟩
end
section
variable {P : Program} {w : World} {K : PySem.W.Frag} {mg : Str → Option Value} {base : Heap}
theorem Fun.okQ {x qual : Str} {st : Stmt} {f : Addr} {fd : FuncData} {N ps : List Str} {k : Nat} {sp : Sp} (F : Fun K x qual st f fd) (S : FnScope N ps (defScope st)) (len : ∀ vs H Q E,sp vs H Q E → vs.length = ps.length)
  (hbody : ∀ (cdv : Value) (A : Around) (outer : List Env) (s : Shared) (H : Hp) (vs : List V) (Q : VK) (E : XK),Room k (A.deeper (envOfC qual (defScope st) s.heap.objs.size f cdv)) → sp vs H Q E →
   ∃ t,QSs (cxOf CX0 P w K mg base N qual (defScope st) f cdv A outer s H E).nox (defBody st) t ∧ t { nx := fun _ H' => Q .non H',rt := Q } (start N vs) H) : FnOk P w K mg base CX0 (k + 1) f fd ps sp := by
 refine F.ok S len fun cdv A outer s H vs Q E hr h => ?_
 obtain ⟨t,h1,h2⟩ := hbody cdv A outer s H vs Q E hr h
 exact ⟨t,h1.run,h2⟩
end
structure SubL (cl cells : List (Str × Addr)) : Prop where
 to : ∀ x c,cl.lookup x = some c → cells.lookup x = some c
theorem subN {cells : List (Str × Addr)} : SubL [] cells := ⟨fun _ _ e => nomatch e⟩
theorem subC {x : Str} {c : Addr} {cl cells : List (Str × Addr)} (h : cells.lookup x = some c) (r : SubL cl cells) : SubL ((x,c) :: cl) cells := ⟨fun y d e => by
 rw [List.lookup_cons] at e
 cases q : y == x with
 | true => rw [q] at e; cases e; rw [eq_of_beq q]; exact h
 | false => rw [q] at e; exact r.to y d e⟩
section
variable {X : Cx} {scope : Scope} {cl : List (Str × Addr)} {tg iter elt : Expr} {wi : TI} {g : TG} {te : TE} {tt : TT} {pos : Pos}
theorem qe_comp (N' : List Str) (caps : List (Option Nat)) (B : BlkOk X N' scope cl caps) (hc : X.calm = true) (hi : QI X tg iter wi) (hg : ∀ C s0 H0 fp,QG (blk X N' scope cl C s0 H0 fp) tg g) (he : ∀ C s0 H0 fp,QE (blk X N' scope cl C s0 H0 fp) elt te)
  (hs : ∀ x,foldedSetIterable iter X.env x = pure x := by intro _; rfl) : QE X (.ListComp elt [⟨tg,iter,[],0⟩] scope pos) (tComp wi caps g tTrue te) := ⟨pe_comp B hc hi.run (fun C s0 H0 fp => (hg C s0 H0 fp).run) (fun C s0 H0 fp => (he C s0 H0 fp).run) hs⟩
end
section
variable {X : Cx} {pos : Pos}
theorem qg_tupK (K : PySem.W.Frag) (hK : X.K = K) {es : List Expr} {k : Nat} {t : TGs} {n : Nat} (hc : X.calm = true) (h : QGs X es t)
  (hn : (assignEach es X.env).length = n := by rfl) (hst : (assignEach es X.env).findIdx? (·.1) = none := by rfl) : QG X (.Tuple es k pos) (gTup K n t) := by
 subst hK
 exact qg_tup hc h hn hst
theorem qix_listK (K : PySem.W.Frag) (hK : X.K = K) : QIx X (rIxL K) := by subst hK; exact qix_list
end
end L2
namespace L2
open PySem PySem.Spec PyProof.Rows
section
variable {X : Cx} {k : Nat} {f : Addr} {fd : FuncData} {ps : List Str} {sp : Sp} {e : Expr} {es : List Expr} {t : TA} {p pos : Pos} {x : Str}
end
def CodeQ (c : Addr) (qual : Str) : Heap → Prop := fun h => h.CodeRec (.ref c) qual
structure LamScope (N ps : List Str) (sc : Scope) (clos : List (Str × Addr)) : Prop where
 kind : sc.kind = .function
 co : sc.isCoroutine = false
 gen : sc.isGenerator = false
 nd : ps.Nodup
 pre : N.take ps.length = ps
 par : ∀ x ∈ ps,sc.names.lookup x = some .local
 nocell : ∀ y ∈ sc.names,y.2 ≠ .cell
 has : ∀ x,sc.names.lookup x = some .free → ∃ c,clos.lookup x = some c
 inj : ∀ x y c,clos.lookup x = some c → clos.lookup y = some c → x = y
def TabOk (H : Hp) (P : Addr) (pos : Pos) (qual : Str) : Prop :=
 ∃ ps : Array Value,H P = some (.tbl ps) ∧ TriplesOk ps.toList ∧ (codeAmong pos ps.toList = none ∨ ∃ c,codeAmong pos ps.toList = some (.ref c) ∧ H c = some (.ext (CodeQ c qual)))
def SameT (P : Addr) (H H' : Hp) : Prop := ∀ b o,H b = some o → b ≠ P → H' b = some o
def fixed (X : Cx) (H : Hp) (h : Heap) : Heap := PySem.W.hideAll h (trk h H ++ frs X.stack)
section
variable {X : Cx} {pins : List (Addr × Obj)} {σ : St} {H : Hp} {s : Shared}
end
section
variable {X : Cx} {k : Nat} {x y : Str} {g c P cy : Addr} {gd : FuncData} {ps2 N ps : List Str} {spG : V → Addr → Addr → Sp} {e1 body : Expr} {te : TE} {params : Arguments} {sc : Scope} {lpos p pos : Pos} {clos : List (Str × Addr)}
end
end L2
namespace L2
open PySem PySem.Spec PyProof.Rows
end L2
namespace L2
open PySem PySem.Spec PyProof.Rows
section
variable {X : Cx}
end
section
variable {K : PySem.W.Frag} {a b : Addr} {xs ys : List V} {caps : List (Option Nat)} {g : TG} {tt : TT} {te : TE} {σ : St} {H : Hp} {Q : VK}
end
end L2
namespace L2
open PySem PySem.Spec PyProof.Rows
section
variable {X : Cx}
variable {e o a : Expr} {es : List Expr} {to : TE} {t : TA} {apos pos : Pos}
end
end L2
namespace Ma
abbrev T4 := Int × Int × Bool × Int
def btS (d t : Int) (best : Option Int) (w : T3) : Option Int :=
 match best with
 | none => some (nextO d w.1 w.2.1 t + w.2.2)
 | some b => if nextO d w.1 w.2.1 t + w.2.2 < b then some (nextO d w.1 w.2.1 t + w.2.2) else some b
def bt (d : Int) (R : List T3) (t : Int) : Option Int := R.foldl (btS d t) none
theorem bt_nil (d t : Int) : bt d [] t = none := rfl
structure IsMin (d t : Int) (R : List T3) (y : Int) : Prop where
 at_ : ∃ w ∈ R,y = nextO d w.1 w.2.1 t + w.2.2
 le : ∀ w ∈ R,y ≤ nextO d w.1 w.2.1 t + w.2.2
theorem IsMin.uniq {d t : Int} {R : List T3} {y y' : Int} (h : IsMin d t R y) (h' : IsMin d t R y') : y = y' := by
 obtain ⟨w,hw,e⟩ := h.at_
 obtain ⟨w',hw',e'⟩ := h'.at_
 have := h.le w' hw'
 have := h'.le w hw
 omega
theorem fold_bt (d t : Int) : ∀ (R : List T3) (best : Option Int),(best = none ∧ R = [] ∧ R.foldl (btS d t) best = none) ∨
  ∃ y,R.foldl (btS d t) best = some y ∧ (best = some y ∨ ∃ w ∈ R,y = nextO d w.1 w.2.1 t + w.2.2) ∧ (∀ b,best = some b → y ≤ b) ∧ ∀ w ∈ R,y ≤ nextO d w.1 w.2.1 t + w.2.2
 | [],none => .inl ⟨rfl,rfl,rfl⟩
 | [],some b => .inr ⟨b,rfl,.inl rfl,fun b' e => by cases e; exact Int.le_refl _,fun w hw => by cases hw⟩
 | w :: R,best => by
  rw [List.foldl_cons]
  rcases fold_bt d t R (btS d t best w) with ⟨e,_⟩ | ⟨y,e1,e2,e3,e4⟩
  ·cases best with
   | none => cases e
   | some b =>
    simp only [btS] at e
    split at e <;> cases e
  ·refine .inr ⟨y,e1,?_,fun b hb => ?_,fun u hu => ?_⟩
   ·rcases e2 with e2 | ⟨u,hu,e2⟩
    ·cases best with
     | none =>
      cases e2
      exact .inr ⟨w,List.mem_cons_self ..,rfl⟩
     | some b =>
      simp only [btS] at e2
      split at e2
      ·cases e2
       exact .inr ⟨w,List.mem_cons_self ..,rfl⟩
      ·cases e2
       exact .inl rfl
    ·exact .inr ⟨u,List.mem_cons_of_mem _ hu,e2⟩
   ·subst hb
    by_cases c : nextO d w.1 w.2.1 t + w.2.2 < b
    ·have := e3 _ (by simp only [btS]; rw [if_pos c])
     omega
    ·exact e3 _ (by simp only [btS]; rw [if_neg c])
   ·rcases List.mem_cons.mp hu with rfl | hu
    ·cases best with
     | none => exact e3 _ rfl
     | some b =>
      by_cases c : nextO d u.1 u.2.1 t + u.2.2 < b
      ·exact e3 _ (by simp only [btS]; rw [if_pos c])
      ·have := e3 b (by simp only [btS]; rw [if_neg c])
       omega
    ·exact e4 u hu
theorem bt_spec (d t : Int) (R : List T3) : (R = [] ∧ bt d R t = none) ∨ ∃ y,bt d R t = some y ∧ IsMin d t R y := by
 rcases fold_bt d t R none with ⟨_,e,e2⟩ | ⟨y,e1,e2,_,e4⟩
 ·exact .inl ⟨e,e2⟩
 ·refine .inr ⟨y,e1,?_,e4⟩
  rcases e2 with e2 | e2
  ·cases e2
  ·exact e2
theorem IsMin.bt {d t : Int} {R : List T3} {y : Int} (h : IsMin d t R y) : bt d R t = some y := by
 rcases bt_spec d t R with ⟨rfl,_⟩ | ⟨y',e,h'⟩
 ·obtain ⟨w,hw,_⟩ := h.at_
  cases hw
 ·rw [e,h.uniq h']
theorem bt_min {d t : Int} {R : List T3} {y : Int} (h : bt d R t = some y) : IsMin d t R y := by
 rcases bt_spec d t R with ⟨rfl,e⟩ | ⟨y',e,h'⟩
 ·rw [e] at h; cases h
 ·rw [e] at h
  cases h
  exact h'
def Tells (d : Int) (R : List T3) (f : Int → Int) : Prop := ∀ t,bt d R t = some (f t)
def bf (d : Int) (R : List T3) (t : Int) : Int := (bt d R t).getD 0
theorem tells_bf {d : Int} {R : List T3} (h : R ≠ []) : Tells d R (bf d R) := fun t => by
 unfold bf
 rcases bt_spec d t R with ⟨e,_⟩ | ⟨y,e,_⟩
 ·exact absurd e h
 ·rw [e]; rfl
theorem Tells.eq {d : Int} {R : List T3} {f g : Int → Int} (h : Tells d R f) (h' : Tells d R g) (t : Int) : f t = g t := by
 have := h t
 rw [h' t] at this
 exact (Option.some.inj this).symm
theorem Tells.ne {d : Int} {R : List T3} {f : Int → Int} (h : Tells d R f) : R ≠ [] := fun e => by
 have := h 0
 rw [e,bt_nil] at this
 cases this
structure Rise (d : Int) (f : Int → Int) : Prop where
 ge : ∀ t,t ≤ f t
 mono : ∀ t u,t ≤ u → f t ≤ f u
 per : ∀ t,f (t + d) = f t + d
theorem Rise.mul {d : Int} {f : Int → Int} (r : Rise d f) (t : Int) : ∀ k : Int,f (t + d * k) = f t + d * k := by
 have up : ∀ (t : Int) (n : Nat),f (t + d * (n : Int)) = f t + d * (n : Int) := fun t n => by
  induction n with
  | zero => simp
  | succ n ih =>
   have e : d * ((n + 1 : Nat) : Int) = d * (n : Int) + d := by
    rw [Int.natCast_add,Int.mul_add]
    simp
   rw [e,← Int.add_assoc,r.per,ih]
   omega
 intro k
 rcases Int.le_total 0 k with h | h
 ·have e : k = ((k.toNat : Nat) : Int) := by omega
  rw [e]
  exact up t _
 ·obtain ⟨m,e⟩ : ∃ m : Nat,k = -(m : Int) := ⟨(-k).toNat,by omega⟩
  subst e
  have := up (t + d * -(m : Int)) m
  rw [Int.mul_neg] at this ⊢
  have e2 : t + -(d * (m : Int)) + d * (m : Int) = t := by omega
  rw [e2] at this
  omega
def Wins (d : Int) (R : List T3) : Prop := ∀ w ∈ R,0 ≤ w.1 ∧ w.1 ≤ w.2.1 ∧ w.2.1 < d ∧ 0 ≤ w.2.2
structure CK (d : Int) (R : List T3) : Prop where
 d0 : 0 < d
 win : Wins d R
 srt : R.Pairwise fun u v => u.2.1 < v.1 ∧ u.2.1 + u.2.2 < v.1 + v.2.2 ∧ (u.2.1 + 1 = v.1 → u.2.2 ≠ v.2.2)
 wr : ∀ u ∈ R,∀ v ∈ R,u.2.1 + u.2.2 < d + (v.1 + v.2.2)
theorem get_mem {R : List T3} {i : Nat} (h : i < R.length) : (rA R i,rB R i,rC R i) ∈ R := List.mem_of_getElem? (r_at h)
theorem mem_get {R : List T3} {w : T3} (h : w ∈ R) : ∃ i,i < R.length ∧ rA R i = w.1 ∧ rB R i = w.2.1 ∧ rC R i = w.2.2 := by
 obtain ⟨i,hi,e⟩ := List.mem_iff_getElem.mp h
 have e2 : R[i]? = some (w.1,w.2.1,w.2.2) := by rw [List.getElem?_eq_getElem hi,e]
 exact ⟨i,hi,r_of e2⟩
theorem pw_get {R : List T3} {p : T3 → T3 → Prop} (h : R.Pairwise p) {i j : Nat} (hij : i < j) (hj : j < R.length) : p (rA R i,rB R i,rC R i) (rA R j,rB R j,rC R j) := by
 have e1 := r_at (R := R) (i := i) (by omega)
 have e2 := r_at (R := R) hj
 rw [List.getElem?_eq_getElem (by omega)] at e1
 rw [List.getElem?_eq_getElem hj] at e2
 have := List.pairwise_iff_getElem.mp h i j (by omega) hj hij
 rw [Option.some.inj e1,Option.some.inj e2] at this
 exact this
theorem CK.clk {d : Int} {R : List T3} (h : CK d R) : Clk d R.length (rA R) (rB R) (rC R) :=
 ⟨h.d0,fun i hi => (h.win _ (get_mem hi)).1,fun i hi => (h.win _ (get_mem hi)).2.1,fun i hi => (h.win _ (get_mem hi)).2.2.1,fun i hi => (h.win _ (get_mem hi)).2.2.2,
  fun i j hij hj => (pw_get h.srt hij hj).1,fun i j hij hj => (pw_get h.srt hij hj).2.1,fun i j hi hj => h.wr _ (get_mem hi) _ (get_mem hj)⟩
theorem ex_min (g : Nat → Int) : ∀ n : Nat,0 < n → ∃ j,j < n ∧ ∀ i,i < n → g j ≤ g i
 | 0,h => absurd h (Nat.lt_irrefl _)
 | 1,_ => ⟨0,by omega,fun i hi => by have : i = 0 := (by omega); rw [this]; exact Int.le_refl _⟩
 | n + 2,_ => by
  obtain ⟨j,hj,h⟩ := ex_min g (n + 1) (by omega)
  rcases Int.le_total (g j) (g (n + 1)) with c | c
  ·refine ⟨j,by omega,fun i hi => ?_⟩
   rcases (by omega : i < n + 1 ∨ i = n + 1) with z | z
   ·exact h i z
   ·rw [z]; exact c
  ·refine ⟨n + 1,by omega,fun i hi => ?_⟩
   rcases (by omega : i < n + 1 ∨ i = n + 1) with z | z
   ·have := h i z
    omega
   ·rw [z]; exact Int.le_refl _
theorem clk_first {d : Int} {R : List T3} (K : Clk d R.length (rA R) (rB R) (rC R)) (n0 : R.length ≠ 0) (t : Int) : ∃ x y,First d R.length (rA R) (rB R) (rC R) t x y ∧ bt d R t = some y := by
 obtain ⟨j,hj,hm⟩ := ex_min (fun i => nextO d (rA R i) (rB R i) t) R.length (by omega)
 have F := first_min K hj hm
 refine ⟨_,_,F,IsMin.bt ⟨⟨_,get_mem hj,rfl⟩,fun w hw => ?_⟩⟩
 obtain ⟨i,hi,e1,e2,e3⟩ := mem_get hw
 obtain ⟨k,k1,k2,k3,k4,k5⟩ := next_spec (t := t) K.d0 (K.a0 i hi) (K.ab i hi) (K.bd i hi)
 have D : Dep d R.length (rA R) (rB R) (rC R) (nextO d (rA R i) (rB R i) t) (nextO d (rA R i) (rB R i) t + rC R i) := ⟨i,k,hi,k1,k2,rfl⟩
 have le := F.least _ _ D k3
 rw [← e1,← e2,← e3]
 rcases (by omega : nextO d (rA R j) (rB R j) t < nextO d (rA R i) (rB R i) t ∨ nextO d (rA R j) (rB R j) t = nextO d (rA R i) (rB R i) t) with z | z
 ·have := dep_mono K F.dep D z
  omega
 ·rw [← z] at D
  have := dep_fun K F.dep D
  omega
structure Can (lo P : Int) (f : Int → Int) (R : List T3) : Prop where
 srt : R.Pairwise fun u v => u.2.1 < v.1 ∧ (u.2.1 + 1 = v.1 → u.2.2 ≠ v.2.2)
 mem : ∀ w ∈ R,lo ≤ w.1 ∧ w.1 ≤ w.2.1 ∧ w.2.1 < P ∧ ∀ x,w.1 ≤ x → x ≤ w.2.1 → f x = x + w.2.2 ∧ f x < f (x + 1)
 cov : ∀ x,lo ≤ x → x < P → f x < f (x + 1) → ∃ w ∈ R,w.1 ≤ x ∧ x ≤ w.2.1
theorem Can.tail {lo P : Int} {f : Int → Int} {w : T3} {R : List T3} (h : Can lo P f (w :: R)) : Can (w.2.1 + 1) P f R := by
 have s := List.pairwise_cons.mp h.srt
 have hw := h.mem w (List.mem_cons_self ..)
 refine ⟨s.2,fun u hu => ?_,fun x x0 x1 x2 => ?_⟩
 ·have a := h.mem u (List.mem_cons_of_mem _ hu)
  have b := (s.1 u hu).1
  exact ⟨by omega,a.2⟩
 ·obtain ⟨u,hu,u1,u2⟩ := h.cov x (by omega) x1 x2
  rcases List.mem_cons.mp hu with rfl | hu
  ·omega
  ·exact ⟨u,hu,u1,u2⟩
theorem Can.head_le {lo P : Int} {f : Int → Int} {w : T3} {R : List T3} (h : Can lo P f (w :: R)) {x : Int} (x0 : lo ≤ x) (x1 : x < P) (x2 : f x < f (x + 1)) : w.1 ≤ x := by
 have s := List.pairwise_cons.mp h.srt
 obtain ⟨u,hu,u1,u2⟩ := h.cov x x0 x1 x2
 rcases List.mem_cons.mp hu with rfl | hu
 ·exact u1
 ·have := (s.1 u hu).1
  have := (h.mem w (List.mem_cons_self ..)).2.1
  omega
theorem Can.end_le {lo P : Int} {f : Int → Int} {w w' : T3} {R R' : List T3} (h : Can lo P f (w :: R)) (h' : Can lo P f (w' :: R')) (ea : w.1 = w'.1) (ec : w.2.2 = w'.2.2) : w'.2.1 ≤ w.2.1 := by
 rcases Int.lt_or_le w.2.1 w'.2.1 with z | z
 ·exfalso
  have m := h.mem w (List.mem_cons_self ..)
  have m' := h'.mem w' (List.mem_cons_self ..)
  have q := m'.2.2.2 (w.2.1 + 1) (by omega) (by omega)
  obtain ⟨u,hu,u1,u2⟩ := h.cov (w.2.1 + 1) (by omega) (by omega) q.2
  rcases List.mem_cons.mp hu with rfl | hu
  ·omega
  ·have s := (List.pairwise_cons.mp h.srt).1 u hu
   have r := ((h.mem u (List.mem_cons_of_mem _ hu)).2.2.2 (w.2.1 + 1) u1 u2).1
   exact s.2 (by omega) (by omega)
 ·exact z
theorem Can.uniq {P : Int} {f : Int → Int} : ∀ {R R' : List T3} {lo : Int},Can lo P f R → Can lo P f R' → R = R'
 | [],[],_,_,_ => rfl
 | [],w :: R,lo,h,h' => by
  have m := h'.mem w (List.mem_cons_self ..)
  obtain ⟨u,hu,_⟩ := h.cov w.1 m.1 (by omega) (m.2.2.2 w.1 (Int.le_refl _) m.2.1).2
  cases hu
 | w :: R,[],lo,h,h' => by
  have m := h.mem w (List.mem_cons_self ..)
  obtain ⟨u,hu,_⟩ := h'.cov w.1 m.1 (by omega) (m.2.2.2 w.1 (Int.le_refl _) m.2.1).2
  cases hu
 | w :: R,w' :: R',lo,h,h' => by
  have m := h.mem w (List.mem_cons_self ..)
  have m' := h'.mem w' (List.mem_cons_self ..)
  have q := m.2.2.2 w.1 (Int.le_refl _) m.2.1
  have q' := m'.2.2.2 w'.1 (Int.le_refl _) m'.2.1
  have l1 := h.head_le (x := w'.1) m'.1 (by omega) q'.2
  have l2 := h'.head_le (x := w.1) m.1 (by omega) q.2
  have ea : w.1 = w'.1 := by omega
  have ec : w.2.2 = w'.2.2 := by
   have := q.1
   have := q'.1
   rw [ea] at *
   omega
  have b1 := h.end_le h' ea ec
  have b2 := h'.end_le h ea.symm ec.symm
  have eb : w.2.1 = w'.2.1 := by omega
  have ew : w = w' := by
   obtain ⟨x,y,z⟩ := w
   obtain ⟨x',y',z'⟩ := w'
   cases ea
   cases eb
   cases ec
   rfl
  subst ew
  rw [Can.uniq h.tail h'.tail]
theorem next_dep {d : Int} {f : Int → Int} (hd : 0 < d) (r : Rise d f) (t : Int) : ∃ x,t ≤ x ∧ x < t + d ∧ f x = f t ∧ f x < f (x + 1) := by
 have go : ∀ n : Nat,f t < f (t + n) → ∃ x,t ≤ x ∧ x < t + n ∧ f x = f t ∧ f x < f (x + 1) := by
  intro n
  induction n with
  | zero => intro h; simp at h
  | succ n ih =>
   intro h
   by_cases c : f t < f (t + n)
   ·obtain ⟨x,x1,x2,x3,x4⟩ := ih c
    exact ⟨x,x1,by omega,x3,x4⟩
   ·have b := r.mono t (t + n) (by omega)
    have e : t + ((n + 1 : Nat) : Int) = t + n + 1 := by omega
    rw [e] at h
    exact ⟨t + n,by omega,by omega,by omega,by omega⟩
 have e : d = ((d.toNat : Nat) : Int) := by omega
 have := go d.toNat (by rw [← e,r.per]; omega)
 rw [← e] at this
 exact this
theorem Can.tells {d : Int} {f : Int → Int} {R : List T3} (hd : 0 < d) (r : Rise d f) (h : Can 0 d f R) : Tells d R f := by
 intro t
 have lo : ∀ w ∈ R,f t ≤ nextO d w.1 w.2.1 t + w.2.2 := fun w hw => by
  obtain ⟨m0,m1,m2,m3⟩ := h.mem w hw
  obtain ⟨k,k1,k2,k3,k4,k5⟩ := next_spec (t := t) hd m0 m1 m2
  generalize nextO d w.1 w.2.1 t = x at *
  have q := (m3 (x - d * k) (by omega) (by omega)).1
  have q2 := r.mul (x - d * k) k
  have e : x - d * k + d * k = x := by omega
  rw [e] at q2
  have := r.mono t x k3
  omega
 refine IsMin.bt ⟨?_,lo⟩
 obtain ⟨x,x1,x2,x3,x4⟩ := next_dep hd r t
 obtain ⟨q,e,e0,e1⟩ := split d x hd
 have p0 := r.mul (x % d) q
 have p1 := r.mul (x % d + 1) q
 have e2 : x % d + d * q = x := by omega
 have e3 : x % d + 1 + d * q = x + 1 := by omega
 rw [e2] at p0
 rw [e3] at p1
 obtain ⟨w,hw,w1,w2⟩ := h.cov (x % d) e0 e1 (by omega)
 obtain ⟨m0,m1,m2,m3⟩ := h.mem w hw
 have c := (m3 (x % d) w1 w2).1
 obtain ⟨k,k1,k2,k3,k4,k5⟩ := next_spec (t := t) hd m0 m1 m2
 have u := k5 q x (by omega) (by omega) x1
 have v := lo w hw
 exact ⟨w,hw,by omega⟩
theorem CK.can {d : Int} {R : List T3} {f : Int → Int} (h : CK d R) (T : Tells d R f) : Can 0 d f R := by
 have K := h.clk
 have n0 : R.length ≠ 0 := fun e => T.ne (List.length_eq_zero_iff.mp e)
 have F : ∀ t,∃ x,First d R.length (rA R) (rB R) (rC R) t x (f t) := fun t => by
  obtain ⟨x,y,h1,h2⟩ := clk_first K n0 t
  rw [T t] at h2
  cases h2
  exact ⟨x,h1⟩
 refine ⟨h.srt.imp fun p => ⟨p.1,p.2.2⟩,fun w hw => ?_,fun x x0 x1 x2 => ?_⟩
 ·obtain ⟨w0,w1,w2,w3⟩ := h.win w hw
  refine ⟨w0,w1,w2,fun x a b => ?_⟩
  obtain ⟨i,hi,e1,e2,e3⟩ := mem_get hw
  have D : Dep d R.length (rA R) (rB R) (rC R) x (x + w.2.2) := ⟨i,0,hi,by omega,by omega,by omega⟩
  obtain ⟨x',F1⟩ := F x
  have l := F1.least _ _ D (Int.le_refl _)
  have l2 := F1.le
  have e : x' = x := by omega
  subst e
  have ey := dep_fun K F1.dep D
  obtain ⟨x2,F2⟩ := F (x' + 1)
  have := dep_mono K F1.dep F2.dep (by have := F2.le; omega)
  exact ⟨ey,this⟩
 ·obtain ⟨x',F1⟩ := F x
  rcases (by have := F1.le; omega : x' = x ∨ x + 1 ≤ x') with e | e
  ·subst e
   obtain ⟨i,k,hi,k1,k2,_⟩ := F1.dep
   have a0 := K.a0 i hi
   have bd := K.bd i hi
   have d0 := K.d0
   have : k = 0 := by
    rcases (by omega : k < 0 ∨ k = 0 ∨ 0 < k) with z | z | z
    ·have := mul_lt_step d0 z
     omega
    ·exact z
    ·have := mul_lt_step d0 z
     omega
   subst this
   exact ⟨_,get_mem hi,by simpa using k1,by simpa using k2⟩
  ·obtain ⟨x2',F2⟩ := F (x + 1)
   have F3 : First d R.length (rA R) (rB R) (rC R) (x + 1) x' (f x) := ⟨F1.dep,e,fun u v h1 h2 => F1.least u v h1 (by omega)⟩
   have := (F2.uniq K F3).2
   omega
theorem CK.uniq {d : Int} {R R' : List T3} (h : CK d R) (h' : CK d R') (e : ∀ t,bt d R t = bt d R' t) : R = R' := by
 by_cases n : R = []
 ·subst n
  by_cases n' : R' = []
  ·exact n'.symm
  ·have := e 0
   rw [bt_nil,tells_bf n' 0] at this
   cases this
 ·have T := tells_bf (d := d) n
  have T' : Tells d R' (bf d R) := fun t => by rw [← e t]; exact T t
  exact Can.uniq (h.can T) (h'.can T')
end Ma
namespace Ma
def putW (R : List T3) (a b c : Int) : List T3 :=
 if b < a then R else match R.getLast? with
  | some l => if l.2.1 + 1 = a ∧ l.2.2 = c then R.dropLast ++ [(l.1,b,c)] else R ++ [(a,b,c)]
  | none => R ++ [(a,b,c)]
section
variable {lo P P' : Int} {f : Int → Int} {R : List T3} {a b c : Int}
theorem Can.app (h : Can lo P f R) (l0 : lo ≤ P) (pa : P ≤ a) (ab : a ≤ b) (bp : b < P') (dep : ∀ x,P ≤ x → x < P' → (f x < f (x + 1) ↔ a ≤ x ∧ x ≤ b)) (ride : ∀ x,a ≤ x → x ≤ b → f x = x + c)
  (un : ∀ u ∈ R,u.2.1 + 1 = a → u.2.2 ≠ c) : Can lo P' f (R ++ [(a,b,c)]) := by
 refine ⟨List.pairwise_append.mpr ⟨h.srt,List.pairwise_singleton _ _,fun u hu v hv => ?_⟩,fun w hw => ?_,fun x x0 x1 x2 => ?_⟩
 ·rw [List.mem_singleton] at hv
  subst hv
  have m := h.mem u hu
  exact ⟨by show u.2.1 < a; omega,un u hu⟩
 ·rcases List.mem_append.mp hw with hw | hw
  ·obtain ⟨m0,m1,m2,m3⟩ := h.mem w hw
   exact ⟨m0,m1,by omega,m3⟩
  ·rw [List.mem_singleton] at hw
   subst hw
   exact ⟨by show lo ≤ a; omega,ab,bp,fun x x1 x2 => by
    have x1' : a ≤ x := x1
    have x2' : x ≤ b := x2
    exact ⟨ride x x1 x2,(dep x (by omega) (by omega)).mpr ⟨x1,x2⟩⟩⟩
 ·rcases Int.lt_or_le x P with z | z
  ·obtain ⟨w,hw,w1⟩ := h.cov x x0 z x2
   exact ⟨w,List.mem_append_left _ hw,w1⟩
  ·exact ⟨(a,b,c),List.mem_append_right _ (List.mem_singleton.mpr rfl),(dep x z x1).mp x2⟩
theorem Can.step (h : Can lo P f R) (l0 : lo ≤ P) (pa : P ≤ a) (bp : b < P') (hp : P ≤ P') (dep : ∀ x,P ≤ x → x < P' → (f x < f (x + 1) ↔ a ≤ x ∧ x ≤ b)) (ride : ∀ x,a ≤ x → x ≤ b → f x = x + c) : Can lo P' f (putW R a b c) := by
 unfold putW
 split
 ·rename_i ba
  refine ⟨h.srt,fun w hw => ?_,fun x x0 x1 x2 => ?_⟩
  ·obtain ⟨m0,m1,m2,m3⟩ := h.mem w hw
   exact ⟨m0,m1,by omega,m3⟩
  ·rcases Int.lt_or_le x P with z | z
   ·exact h.cov x x0 z x2
   ·have := (dep x z x1).mp x2
    omega
 ·rename_i ab
  split
  ·rename_i l hl
   obtain ⟨R0,rfl⟩ : ∃ R0,R = R0 ++ [l] := by
    obtain ⟨R0,e⟩ := List.getLast?_eq_some_iff.mp hl
    exact ⟨R0,e⟩
   have s := List.pairwise_append.mp h.srt
   split
   ·rename_i tc
    rw [List.dropLast_concat]
    have ml := h.mem l (List.mem_append_right _ (List.mem_singleton.mpr rfl))
    refine ⟨List.pairwise_append.mpr ⟨s.1,List.pairwise_singleton _ _,fun u hu v hv => ?_⟩,fun w hw => ?_,fun x x0 x1 x2 => ?_⟩
    ·rw [List.mem_singleton] at hv
     subst hv
     have q := s.2.2 u hu l (List.mem_singleton.mpr rfl)
     rw [← tc.2]
     exact q
    ·rcases List.mem_append.mp hw with hw | hw
     ·obtain ⟨m0,m1,m2,m3⟩ := h.mem w (List.mem_append_left _ hw)
      exact ⟨m0,m1,by omega,m3⟩
     ·rw [List.mem_singleton] at hw
      subst hw
      obtain ⟨m0,m1,m2,m3⟩ := ml
      refine ⟨m0,by show l.1 ≤ b; omega,bp,fun x x1 x2 => ?_⟩
      have x1' : l.1 ≤ x := x1
      have x2' : x ≤ b := x2
      show f x = x + c ∧ f x < f (x + 1)
      rcases Int.lt_or_le l.2.1 x with z | z
      ·exact ⟨ride x (by omega) x2',(dep x (by omega) (by omega)).mpr ⟨by omega,x2'⟩⟩
      ·rw [← tc.2]
       exact m3 x x1' z
    ·rcases Int.lt_or_le x P with z | z
     ·obtain ⟨w,hw,w1,w2⟩ := h.cov x x0 z x2
      rcases List.mem_append.mp hw with hw | hw
      ·exact ⟨w,List.mem_append_left _ hw,w1,w2⟩
      ·rw [List.mem_singleton] at hw
       subst hw
       exact ⟨_,List.mem_append_right _ (List.mem_singleton.mpr rfl),w1,by show x ≤ b; omega⟩
     ·have q := (dep x z x1).mp x2
      exact ⟨_,List.mem_append_right _ (List.mem_singleton.mpr rfl),by show l.1 ≤ x; have := ml.2.1; omega,q.2⟩
   ·rename_i tc
    refine h.app l0 pa (by omega) bp dep ride fun u hu e => ?_
    rcases List.mem_append.mp hu with hu | hu
    ·have q := s.2.2 u hu l (List.mem_singleton.mpr rfl)
     have ml := h.mem l (List.mem_append_right _ (List.mem_singleton.mpr rfl))
     omega
    ·rw [List.mem_singleton] at hu
     subst hu
     exact fun e2 => tc ⟨e,e2⟩
  ·rename_i hl
   have e := List.getLast?_eq_none_iff.mp hl
   subst e
   exact h.app l0 pa (by omega) bp dep ride fun u hu => by cases hu
end
def tell (r : T4) (x : Int) : Int := if r.2.2.1 = true then r.2.2.2 else x + r.2.2.2
def cfStep (fo : Int) (r : T4) (R : List T3) : List T3 :=
 if r.2.2.1 = true then putW R r.2.1 (if r.2.2.2 < fo then r.2.1 else r.2.1 - 1) (r.2.2.2 - r.2.1)
 else putW R r.1 (if r.2.1 + r.2.2.2 < fo then r.2.1 else r.2.1 - 1) r.2.2.2
theorem Can.row {lo P : Int} {f : Int → Int} {R : List T3} (h : Can lo P f R) (l0 : lo ≤ P) (r : T4) (e : r.1 = P) (le : r.1 ≤ r.2.1) (tl : ∀ x,r.1 ≤ x → x ≤ r.2.1 → f x = tell r x) :
  Can lo (r.2.1 + 1) f (cfStep (f (r.2.1 + 1)) r R) := by
 obtain ⟨p,q,s,v⟩ := r
 have e' : p = P := e
 subst e'
 have le' : p ≤ q := le
 have tl' : ∀ x,p ≤ x → x ≤ q → f x = if s = true then v else x + v := tl
 unfold cfStep
 show Can lo (q + 1) f (if s = true then putW R q (if v < f (q + 1) then q else q - 1) (v - q) else putW R p (if q + v < f (q + 1) then q else q - 1) v)
 cases s with
 | true =>
  rw [if_pos rfl]
  have t0 : ∀ x,p ≤ x → x ≤ q → f x = v := fun x h1 h2 => by have := tl' x h1 h2; rw [if_pos rfl] at this; exact this
  refine h.step l0 le' (by split <;> omega) (by omega) (fun x x0 x1 => ?_) fun x x0 x1 => ?_
  ·rcases (by omega : x < q ∨ x = q) with z | z
   ·have := t0 x x0 (by omega)
    have := t0 (x + 1) (by omega) (by omega)
    constructor
    ·intro; omega
    ·rintro ⟨h1,h2⟩; omega
   ·subst z
    rw [t0 x x0 (Int.le_refl _)]
    constructor
    ·intro z
     rw [if_pos z]
     exact ⟨Int.le_refl _,Int.le_refl _⟩
    ·rintro ⟨_,z⟩
     split at z
     ·assumption
     ·omega
  ·have x1' : x ≤ q := by split at x1 <;> omega
   have := t0 x (by omega) x1'
   omega
 | false =>
  rw [if_neg (by decide)]
  have t0 : ∀ x,p ≤ x → x ≤ q → f x = x + v := fun x h1 h2 => by have := tl' x h1 h2; rw [if_neg (by decide)] at this; exact this
  refine h.step l0 (Int.le_refl _) (by split <;> omega) (by omega) (fun x x0 x1 => ?_) fun x x0 x1 => ?_
  ·rcases (by omega : x < q ∨ x = q) with z | z
   ·have := t0 x x0 (by omega)
    have := t0 (x + 1) (by omega) (by omega)
    constructor
    ·intro
     refine ⟨x0,?_⟩
     split <;> omega
    ·intro; omega
   ·subst z
    rw [t0 x x0 (Int.le_refl _)]
    constructor
    ·intro z
     rw [if_pos z]
     exact ⟨x0,Int.le_refl _⟩
    ·rintro ⟨_,z⟩
     split at z
     ·assumption
     ·omega
  ·exact t0 x x0 (by split at x1 <;> omega)
def Cov (f : Int → Int) : Int → List T4 → Int → Prop
 | lo,[],hi => lo = hi
 | lo,r :: S,hi => r.1 = lo ∧ r.1 ≤ r.2.1 ∧ (∀ x,r.1 ≤ x → x ≤ r.2.1 → f x = tell r x) ∧ Cov f (r.2.1 + 1) S hi
theorem Cov.le {f : Int → Int} : ∀ {S : List T4} {lo hi : Int},Cov f lo S hi → lo ≤ hi
 | [],lo,hi,h => by have : lo = hi := h; omega
 | r :: S,lo,hi,⟨h1,h2,_,h4⟩ => by have := Cov.le h4; omega
theorem Cov.append {f : Int → Int} : ∀ {S S' : List T4} {lo mid hi : Int},Cov f lo S mid → Cov f mid S' hi → Cov f lo (S ++ S') hi
 | [],S',lo,mid,hi,h,h' => by
  have : lo = mid := h
  subst this
  exact h'
 | r :: S,S',lo,mid,hi,⟨h1,h2,h3,h4⟩,h' => ⟨h1,h2,h3,Cov.append h4 h'⟩
theorem Cov.one {f : Int → Int} {r : T4} (h : r.1 ≤ r.2.1) (t : ∀ x,r.1 ≤ x → x ≤ r.2.1 → f x = tell r x) : Cov f r.1 [r] (r.2.1 + 1) := ⟨rfl,h,t,rfl⟩
theorem Cov.get {f : Int → Int} : ∀ {S : List T4} {lo hi : Int} {k : Nat} {r : T4},Cov f lo S hi → S[k]? = some r → lo ≤ r.1 ∧ r.1 ≤ r.2.1 ∧ r.2.1 < hi ∧ (∀ x,r.1 ≤ x → x ≤ r.2.1 → f x = tell r x) ∧
  (k = 0 → r.1 = lo) ∧ (∀ r',S[k + 1]? = some r' → r'.1 = r.2.1 + 1) ∧ (k + 1 = S.length → r.2.1 + 1 = hi)
 | [],_,_,_,_,_,e => by simp at e
 | r0 :: S,lo,hi,0,r,⟨h1,h2,h3,h4⟩,e => by
  have e' : r0 = r := by simpa using e
  subst e'
  have l := Cov.le h4
  refine ⟨by omega,h2,by omega,h3,fun _ => h1,fun r' e' => ?_,fun e' => ?_⟩
  ·have e2 : S[0]? = some r' := by simpa using e'
   exact (Cov.get h4 e2).2.2.2.2.1 rfl
  ·have : S = [] := by
    simp at e'
    exact e'
   subst this
   exact h4
 | r0 :: S,lo,hi,k + 1,r,⟨h1,h2,h3,h4⟩,e => by
  have e2 : S[k]? = some r := by simpa using e
  obtain ⟨g1,g2,g3,g4,g5,g6,g7⟩ := Cov.get h4 e2
  refine ⟨by omega,g2,g3,g4,fun z => by omega,fun r' e' => g6 r' (by simpa using e'),fun e' => g7 (by simp at e'; omega)⟩
theorem Cov.ext {f g : Int → Int} (e : ∀ x,f x = g x) : ∀ {S : List T4} {lo hi : Int},Cov f lo S hi → Cov g lo S hi
 | [],_,_,h => h
 | _ :: _,_,_,⟨h1,h2,h3,h4⟩ => ⟨h1,h2,fun x a b => by rw [← e x]; exact h3 x a b,Cov.ext e h4⟩
section
variable {d : Int} {R : List T3} {f : Int → Int}
end
end Ma
namespace Ma
abbrev T6 := Int × Int × Bool × Int × Bool × Int
def tl (s : Bool) (v x : Int) : Int := if s = true then v else x + v
def Cov2 (f g : Int → Int) : Int → List T6 → Int → Prop
 | lo,[],hi => lo = hi
 | lo,r :: S,hi => r.1 = lo ∧ r.1 ≤ r.2.1 ∧ (∀ x,r.1 ≤ x → x ≤ r.2.1 → f x = tl r.2.2.1 r.2.2.2.1 x ∧ g x = tl r.2.2.2.2.1 r.2.2.2.2.2 x) ∧ Cov2 f g (r.2.1 + 1) S hi
theorem Cov2.le {f g : Int → Int} : ∀ {S : List T6} {lo hi : Int},Cov2 f g lo S hi → lo ≤ hi
 | [],lo,hi,h => by have : lo = hi := h; omega
 | r :: S,lo,hi,⟨h1,h2,_,h4⟩ => by have := Cov2.le h4; omega
theorem Cov2.snoc {f g : Int → Int} {r : T6} (h2 : r.1 ≤ r.2.1) (h3 : ∀ x,r.1 ≤ x → x ≤ r.2.1 → f x = tl r.2.2.1 r.2.2.2.1 x ∧ g x = tl r.2.2.2.2.1 r.2.2.2.2.2 x) : ∀ {S : List T6} {lo : Int},Cov2 f g lo S r.1 → Cov2 f g lo (S ++ [r]) (r.2.1 + 1)
 | [],lo,h => by
  have : lo = r.1 := h
  subst this
  exact ⟨rfl,h2,h3,rfl⟩
 | r0 :: S,lo,⟨a1,a2,a3,a4⟩ => ⟨a1,a2,a3,Cov2.snoc h2 h3 a4⟩
theorem Cov2.get {f g : Int → Int} : ∀ {S : List T6} {lo hi : Int} {k : Nat} {r : T6},Cov2 f g lo S hi → S[k]? = some r → lo ≤ r.1 ∧ r.1 ≤ r.2.1 ∧ r.2.1 < hi ∧ (∀ x,r.1 ≤ x → x ≤ r.2.1 → f x = tl r.2.2.1 r.2.2.2.1 x ∧ g x = tl r.2.2.2.2.1 r.2.2.2.2.2 x) ∧
  (k = 0 → r.1 = lo) ∧ (∀ r',S[k + 1]? = some r' → r'.1 = r.2.1 + 1) ∧ (k + 1 = S.length → r.2.1 + 1 = hi)
 | [],_,_,_,_,_,e => by simp at e
 | r0 :: S,lo,hi,0,r,⟨h1,h2,h3,h4⟩,e => by
  have e' : r0 = r := by simpa using e
  subst e'
  have l := Cov2.le h4
  refine ⟨by omega,h2,by omega,h3,fun _ => h1,fun r' e' => ?_,fun e' => ?_⟩
  ·have e2 : S[0]? = some r' := by simpa using e'
   exact (Cov2.get h4 e2).2.2.2.2.1 rfl
  ·have : S = [] := by
    simp at e'
    exact e'
   subst this
   exact h4
 | r0 :: S,lo,hi,k + 1,r,⟨h1,h2,h3,h4⟩,e => by
  have e2 : S[k]? = some r := by simpa using e
  obtain ⟨g1,g2,g3,g4,g5,g6,g7⟩ := Cov2.get h4 e2
  refine ⟨by omega,g2,g3,g4,fun z => by omega,fun r' e' => g6 r' (by simpa using e'),fun e' => g7 (by simp at e'; omega)⟩
def jn (late : Bool) (x y : Int) : Int := if late = true then (if y > x then y else x) else (if y < x then y else x)
def omin : Option Int → Option Int → Option Int
 | none,b => b
 | a,none => a
 | some x,some y => some (jn false x y)
def omax : Option Int → Option Int → Option Int
 | some x,some y => some (jn true x y)
 | _,_ => none
theorem Tells.min {d : Int} {R R' : List T3} {f g : Int → Int} (h : Tells d R f) (h' : Tells d R' g) (t : Int) : omin (bt d R t) (bt d R' t) = some (jn false (f t) (g t)) := by rw [h t,h' t]; rfl
theorem Tells.max {d : Int} {R R' : List T3} {f g : Int → Int} (h : Tells d R f) (h' : Tells d R' g) (t : Int) : omax (bt d R t) (bt d R' t) = some (jn true (f t) (g t)) := by rw [h t,h' t]; rfl
end Ma
namespace Ma
section
variable {d : Int} {R R' : List T3}
end
end Ma
namespace Ma
theorem Cov.lt {f : Int → Int} : ∀ {S : List T4} {lo hi : Int} {i j : Nat} {r r' : T4},Cov f lo S hi → S[i]? = some r → S[j]? = some r' → i < j → r.2.1 < r'.1
 | [],_,_,_,_,_,_,_,e,_,_ => by simp at e
 | r0 :: S,lo,hi,0,j + 1,r,r',⟨_,h2,h3,h4⟩,e,e',_ => by
  have e1 : r0 = r := by simpa using e
  subst e1
  have e2 : S[j]? = some r' := by simpa using e'
  have := (Cov.get h4 e2).1
  omega
 | r0 :: S,lo,hi,i + 1,j + 1,r,r',⟨_,h2,h3,h4⟩,e,e',l => Cov.lt h4 (by simpa using e) (by simpa using e') (by omega)
 | r0 :: S,lo,hi,i,0,r,r',_,_,_,l => by omega
theorem Cov.congr {f g : Int → Int} : ∀ {S : List T4} {lo hi : Int},(∀ x,lo ≤ x → x < hi → f x = g x) → Cov f lo S hi → Cov g lo S hi
 | [],_,_,_,h => h
 | r :: S,lo,hi,e,⟨h1,h2,h3,h4⟩ => ⟨h1,h2,fun x a b => by
  have := Cov.le h4
  rw [← e x (by omega) (by omega)]; exact h3 x a b,Cov.congr (fun x a b => e x (by omega) b) h4⟩
end Ma
namespace Ma
end Ma
namespace Ma
section
variable {d a b c : Int}
end
structure IsLv (d : Int) (R : List T3) (s y : Int) : Prop where
 at_ : ∃ w ∈ R,y = lastO d w.1 w.2.1 (s - w.2.2)
 le : ∀ w ∈ R,lastO d w.1 w.2.1 (s - w.2.2) ≤ y
section
variable {d : Int} {R : List T3} {f : Int → Int}
def Gal (f g : Int → Int) : Prop := ∀ x s,f x ≤ s ↔ x ≤ g s
theorem Gal.turn {f g : Int → Int} (h : Gal f g) : Gal (fun t => -(g (-t))) fun s => -(f (-s)) := fun x s => by
 have := h (-s) (-x)
 constructor
 ·intro l
  have := this.mpr (by have l' : -(g (-x)) ≤ s := l; omega)
  show x ≤ -(f (-s))
  omega
 ·intro l
  have := this.mp (by have l' : x ≤ -(f (-s)) := l; omega)
  show -(g (-x)) ≤ s
  omega
theorem Gal.uniq {f g g' : Int → Int} (h : Gal f g) (h' : Gal f g') (s : Int) : g s = g' s := by
 have a := (h (g s) s).mpr (Int.le_refl _)
 have b := (h' (g s) s).mp a
 have a' := (h' (g' s) s).mpr (Int.le_refl _)
 have b' := (h (g' s) s).mp a'
 omega
end
end Ma
namespace Ma
section
variable {f g : Int → Int}
end
end Ma
namespace Ma
theorem IsLv.uniq {d s y y' : Int} {R : List T3} (h : IsLv d R s y) (h' : IsLv d R s y') : y = y' := by
 obtain ⟨w,hw,e⟩ := h.at_
 obtain ⟨w',hw',e'⟩ := h'.at_
 have := h.le w' hw'
 have := h'.le w hw
 omega
end Ma
namespace L2
open PySem PySem.Spec PyProof.Rows
section
variable {X : Cx}
end
section
variable {X : Cx} {e o a : Expr} {es : List Expr} {to te : TE} {t : TA} {apos pos : Pos}
theorem qs_never {st : Stmt} : QS X st tNever := ⟨ps_never⟩
theorem qop_cat : QOp X (binaryOp .Add) rCat := ⟨op_cat⟩
end
section
variable {lo : Int} {n : Nat} {caps : List (Option Nat)} {g : TG} {tt : TT} {te : TE} {σ : St} {H : Hp} {Q : VK}
end
def It3 (lo st : Int) (n : Nat) : It := ⟨fun i _ => i < n,fun i H x H' => H' = H ∧ x = .int (lo + (i : Nat) * st),fun i _ => n ≤ i⟩
theorem turn_range3 {P : Program} {w : World} {K : PySem.W.Frag} {tg : Expr} (it : Addr) (lo stp : Int) (n : Nat) : Turn P w K tg (It3 lo stp n) [it] it (fun i h => IsRangeIter h it (lo + (i : Nat) * stp) ((n : Int) - (i : Nat)) stp) where
 mem := by simp
 obj := fun i h st b hb => by
  have e : b = it := by simpa using hb
  subst e
  exact ⟨_,st,fun v z => by
   have z' : Data.fields _ = Data.cell v := z
   cases z'⟩
 keep := fun i h h' st k => k it (by simp) _ st
 item := by
  intro X hP hw hK hc i pins s σ H E I hf st hg
  subst hP hw hK
  obtain ⟨f0,f1,f2,f3,f4,f5⟩ := hf it (by simp)
  have hg' : i < n := hg
  refine wpAny_pyNext_range_item st (by omega) fun h' st' sb => ?_
  have I1 : Inv X pins σ H { s with heap := h',toks := s.toks + 1 } := I.turned (fun b o hb e => sb.extBut b o hb e) f0 f1 f3 f4 f5
  refine ⟨_,rfl,go_of (s := { s with heap := h',toks := s.toks + 1 }) (n := "range_iterator") st' rfl rfl (by decide) ⟨.int _,H,I1,⟨_,rfl⟩,⟨rfl,rfl⟩,?_,fun b hb => (hf b hb).1⟩⟩
  show IsRangeIter h' it (lo + ((i + 1 : Nat) : Int) * stp) ((n : Int) - ((i + 1 : Nat) : Int)) stp
  have e1 : lo + ((i + 1 : Nat) : Int) * stp = lo + (i : Int) * stp + stp := by
   rw [Int.natCast_add,Int.add_mul]
   simp
   omega
  have e2 : (n : Int) - ((i + 1 : Nat) : Int) = (n : Int) - (i : Int) - 1 := by omega
  rw [e1,e2]
  exact st'
 done := by
  intro X hP hw hK hc i pins s σ H E I hf st hg
  subst hP hw hK
  obtain ⟨f0,f1,f2,f3,f4,f5⟩ := hf it (by simp)
  exact wpAny_pyNext_range_end (I.ok.hd hc) st (by have : n ≤ i := hg; omega) fun h' eb => ⟨rfl,I.turned (t' := s.toks) (fun b o hb e => eb b o hb e) f0 f1 f3 f4 f5⟩
 self := fun _ _ _ _ _ st h => wpAny_pyIter_rangeiter st h
def cnt3 (a b c : Int) : Nat := if a < b then ((b - a - 1) / c + 1).toNat else 0
theorem size3 {a b c : Int} (hc : 0 < c) : Builtin.Range.rangeSize a b c = ((cnt3 a b c : Nat) : Int) := by
 unfold Builtin.Range.rangeSize cnt3
 rw [if_pos (by omega)]
 split
 ·have : 0 ≤ (b - a - 1) / c := Int.ediv_nonneg (by omega) (by omega)
  omega
 ·rfl
theorem cnt3_lt {a b c : Int} (hc : 0 < c) {i : Nat} (h : i < cnt3 a b c) : a + (i : Int) * c < b := by
 unfold cnt3 at h
 split at h
 ·have h1 : (i : Int) ≤ (b - a - 1) / c := by omega
  have h2 := Int.mul_le_mul_of_nonneg_right h1 (Int.le_of_lt hc)
  have h3 := Int.ediv_mul_le (b - a - 1) (b := c) (by omega)
  omega
 ·omega
theorem small3 {a b c : Int} (ha : -(2 ^ 60) ≤ a) (ha' : a < 2 ^ 60) (hb : -(2 ^ 60) ≤ b) (hb' : b < 2 ^ 60) (hc : 0 < c) (hc' : c < 1000) : Builtin.Range.small a b c = true := by
 have hn : 0 ≤ Builtin.Range.rangeSize a b c ∧ Builtin.Range.rangeSize a b c < 2 ^ 62 := by
  unfold Builtin.Range.rangeSize
  rw [if_pos (by omega)]
  split
  ·have h1 : 0 ≤ (b - a - 1) / c := Int.ediv_nonneg (by omega) (by omega)
   have h2 : (b - a - 1) / c ≤ b - a - 1 := Int.ediv_le_self _ (by omega)
   omega
  ·omega
 unfold Builtin.Range.small Builtin.Range.rangeFitsLong
 generalize Builtin.Range.rangeSize a b c = k at *
 simp only [Bool.and_eq_true,Bool.or_eq_true,decide_eq_true_eq,beq_iff_eq]
 refine ⟨⟨⟨⟨?_,?_⟩,?_⟩,?_⟩,.inr ?_⟩
 ·omega
 ·omega
 ·omega
 ·omega
 ·rw [if_pos (by omega)]
  simp only [Bool.and_eq_true,decide_eq_true_eq]
  omega
def iRng3 (ta : TA) : TI := fun σ H R => ta σ H fun vs H1 => ∃ i j c : Int,vs = [.int i,.int j,.int c] ∧ (-(2 ^ 60) ≤ i ∧ i < 2 ^ 60 ∧ -(2 ^ 60) ≤ j ∧ j < 2 ^ 60 ∧ 0 < c ∧ c < 1000) ∧ R (It3 i c (cnt3 i j c)) H1
section
variable {X : Cx} {tg : Expr}
theorem pi_range3 {a b c : Expr} {ta : TA} {p pos : Pos} (hg : Gl X "range") (hm : X.mg "range" = none) (ha : PA X [a,b,c] ta) (hs : starEach [a,b,c] X.env = (false,eval a X.env) :: starEach [b,c] X.env) (hs2 : (backTo pos (starEach [b,c] X.env)).any (·.1) = false) :
  PI X tg (.Call (.Name "range" p) [a,b,c] [] pos) (iRng3 ta) := by
 intro pins s σ H R I h
 refine Call_ (ld_blt I hg hm boot_range (PyProof.Rows.callWith_type1 (thn (ha pos pins s σ H _ I h) fun us s1 ⟨vs,H1,I1,r1,q1⟩ => ?_) hs hs2))
 obtain ⟨i,j,k,e,⟨q1,q2,q3,q4,q5,q6⟩,q⟩ := q1
 subst e
 cases r1 with
 | cons r rr =>
  cases rr with
  | cons r' rr =>
   cases rr with
   | cons r'' rr =>
    cases rr
    obtain ⟨t,rfl⟩ := r
    obtain ⟨t',rfl⟩ := r'
    obtain ⟨t'',rfl⟩ := r''
    refine call_range_3 (by omega) ?_ (.inl (PyProof.noPylong_small (by omega)))
    refine wpAny_pyIter_range (IsRange.new ..) (small3 q1 q2 q3 q4 q5 q6) ?_
    have I2 : Inv X pins σ H1 { s1 with heap := s1.heap.push { cls := .type "range",data := .fields #[.int i t,.int j t',.int k t''] } } := I1.kept (t' := s1.toks) fun b o e => Heap.get?_push_of_some _ e
    refine ⟨(s1.heap.push { cls := .type "range",data := .fields #[.int i t,.int j t',.int k t''] }).objs.size,[(s1.heap.push { cls := .type "range",data := .fields #[.int i t,.int j t',.int k t''] }).objs.size],_,_,H1,rfl,
     I2.kept (t' := s1.toks) fun b o e => Heap.get?_push_of_some _ e,turn_range3 _ i k (cnt3 i j k),?_,fun b hb => ?_,q⟩
    ·show IsRangeIter _ _ (i + ((0 : Nat) : Int) * k) (((cnt3 i j k : Nat) : Int) - ((0 : Nat) : Int)) k
     have e1 : i + ((0 : Nat) : Int) * k = i := by simp
     have e2 : ((cnt3 i j k : Nat) : Int) - ((0 : Nat) : Int) = Builtin.Range.rangeSize i j k := by rw [size3 q5]; simp
     rw [e1,e2]
     exact Heap.get?_push_size _ rfl
    ·have e : b = (s1.heap.push { cls := .type "range",data := .fields #[.int i t,.int j t',.int k t''] }).objs.size := by simpa using hb
     subst e
     exact I2.fpOk (Nat.le_refl _) (I2.hok.fresh (Nat.le_refl _))
theorem qi_range3 {a b c : Expr} {ta : TA} {p pos : Pos} (hg : Gl X "range") (hm : X.mg "range" = none) (ha : QA X [a,b,c] ta) (h : notStar a = true := by rfl) (h2 : [b,c].all notStar = true := by rfl) : QI X tg (.Call (.Name "range" p) [a,b,c] [] pos) (iRng3 ta) :=
 ⟨pi_range3 hg hm ha.run (se_of h) (any_of h2)⟩
end
theorem for_range3 {lo st : Int} {n : Nat} {g : TG} {tb : TS} {D : Ends} {σ : St} {H : Hp} (Pv : Nat → St → Hp → Prop) (h0 : Pv 0 σ H)
  (hs : ∀ i σ H,i < n → Pv i σ H → g (.int (lo + (i : Nat) * st)) σ H fun σ2 H2 => tb { D with nx := Pv (i + 1),ct := Pv (i + 1),bk := D.nx } σ2 H2) (hd : ∀ σ H,Pv n σ H → D.nx σ H) :
  ∃ W : Nat → Nat → St → Hp → Prop,(∃ m,W 0 m σ H) ∧ ∀ i m σ H,W i m σ H →
   ((It3 lo st n).stop i H ∧ D.nx σ H) ∨ ((It3 lo st n).go i H ∧ ∃ N : St → Hp → Prop,(∀ σ' H',N σ' H' → ∃ m',m' < m ∧ W (i + 1) m' σ' H') ∧ ∀ x H',(It3 lo st n).yld i H x H' → g x σ H' fun σ2 H2 => tb { D with nx := N,ct := N,bk := D.nx } σ2 H2) := by
 refine ⟨fun i m σ H => m = n - i ∧ i ≤ n ∧ Pv i σ H,⟨n,by simp,Nat.zero_le _,h0⟩,?_⟩
 rintro i m σ H ⟨rfl,hi,p⟩
 by_cases hlt : i < n
 ·refine .inr ⟨hlt,Pv (i + 1),fun σ' H' p' => ⟨n - (i + 1),by omega,rfl,hlt,p'⟩,fun x H' y => ?_⟩
  obtain ⟨e,y⟩ := y
  subst e y
  exact hs i σ _ hlt p
 ·have e : i = n := by omega
  subst e
  exact .inl ⟨Nat.le_refl _,hd σ H p⟩
end L2
namespace L2
open PySem PySem.Spec PyProof.Rows
section
variable {X : Cx} {N' : List Str} {scope : Scope} {cl : List (Str × Addr)} {caps : List (Option Nat)} {tg iter elt : Expr} {wi : TI} {g : TG} {te : TE} {tt : TT} {pos : Pos}
theorem comp_gen {use : Option (Value → Sem Unit)} {QQ : Value → Shared → Prop} {pins : List (Addr × Obj)} {s : Shared} {σ : St} {H : Hp} {Q : VK} {cpos : Pos} (B : BlkOk X N' scope cl caps) (hc : X.calm = true) (hi : PI X tg iter wi) (hg : ∀ C s0 H0 fp,PG (blk X N' scope cl C s0 H0 fp) tg g) (he : ∀ C s0 H0 fp,PE (blk X N' scope cl C s0 H0 fp) elt te)
  (hs : ∀ x,foldedSetIterable iter X.env x = pure x := by intro _; rfl) (I : Inv X pins σ H s) (h : (tComp wi caps g tTrue te) σ H Q)
  (fin : ∀ (D C : Addr) (s6 : Shared) (H5 : Hp),Inv X pins σ H5 s6 → FpOk X pins H5 C → (∃ m,s6.heap.Ns C m) → Q (.ref D) H5 → compPost (model X.prog X.w) X.A X.xe use QQ (.ref D) C (.ok .next) s6) :
  wpAny (model X.prog X.w) X.A (comprehension (.ListComp elt [⟨tg,iter,[],0⟩] scope pos) scope X.env cpos (newList []) false (eval iter X.env) use) QQ X.xe s := by
 refine wpAny_comprehension_free (use := use) rfl hs B.clos B.kind B.names ?_
 refine thn (hi pins s σ H _ I h) fun v s1 h1 => thn h1 fun itv s2 h2 => ?_
 obtain ⟨it,fp,tn,J,H2,rfl,I2,T,st2,f2,q2⟩ := h2
 have fpl : ∀ b ∈ fp,b < s2.heap.objs.size := fun b hb => by
  obtain ⟨o,e,_⟩ := T.obj _ _ st2 b hb
  exact Heap.lt_size e
 obtain ⟨W,⟨m0,w0⟩,turn⟩ := q2 s2.heap.objs.size (I2.hok.fresh (Nat.le_refl _))
 refine wpAny_newObj_type ?_
 have I3 : Inv X pins σ (upd H2 s2.heap.objs.size (.lst [])) { s2 with heap := s2.heap.push { cls := .type "list",data := .seq ([] : List Value).toArray } } :=
  I2.laid (t' := s2.toks) (fun b u e => Heap.get?_push_of_some _ e) (Nat.le_refl _) ⟨Nat.zero_le _,[],0,.nil,Heap.get?_push_size _ rfl⟩
 generalize hs3 : ({ s2 with heap := s2.heap.push { cls := .type "list",data := .seq ([] : List Value).toArray } } : Shared) = s3 at I3
 have k23 : ∀ b o,s2.heap.get? b = some o → s3.heap.get? b = some o := fun b o e => by rw [← hs3]; exact Heap.get?_push_of_some _ e
 have fpl3 : ∀ b ∈ fp,b < s3.heap.objs.size := fun b hb => by
  obtain ⟨o,e,_⟩ := T.obj _ _ st2 b hb
  exact Heap.lt_size (k23 b o e)
 have f3 : ∀ b ∈ fp,FpOk X pins (upd H2 s2.heap.objs.size (.lst [])) b := fun b hb => ⟨by rw [upd_ne (Nat.ne_of_lt (fpl b hb))]; exact (f2 b hb).1,(f2 b hb).2⟩
 refine wpAny_newFunctionEnv B.nocell (by intro y hy; simp at hy) (fun h1 hn1 sb1 => ?_) B.kind
 have k31 : ∀ b o,s3.heap.get? b = some o → h1.get? b = some o := fun b o e => sb1.extBut b o (Nat.ne_of_lt (Heap.lt_size e)) (Heap.get?_push_of_some _ e)
 have J0 := blk_inv (fp := fp) (tk := s3.toks + ([] : List (Str × Value)).length) B I3 f3 hn1 k31 fpl3
 have st1 : tn 0 h1 := T.keep _ _ _ st2 fun b _ o e => k31 b o (k23 b o e)
 have loop : codeAny (model X.prog X.w) X.A (.compLoop (.ListComp elt [⟨tg,iter,[],0⟩] scope pos) 0 (.ref it) (.ref s2.heap.objs.size) (blk X N' scope cl s3.heap.objs.size s3 (upd H2 s2.heap.objs.size (.lst [])) fp).env)
   (compPost (model X.prog X.w) X.A X.xe use QQ (.ref s2.heap.objs.size) s3.heap.objs.size) { s3 with heap := h1,toks := s3.toks + ([] : List (Str × Value)).length } := by
  refine codeAny_loop rfl (fun n s' => ∃ i H',Inv (blk X N' scope cl s3.heap.objs.size s3 (upd H2 s2.heap.objs.size (.lst [])) fp) [] (seen caps σ) H' s' ∧ tn i s'.heap ∧ (∀ b ∈ fp,H' b = none) ∧ W i n H') (fun n s5 hI => ?_) m0
   ⟨0,_,J0,st1,fun b hb => (f3 b hb).1,w0⟩
  obtain ⟨i,H5,I5,st5,fr5,w5⟩ := hI
  show wpAny _ _ ((compTurn (.ListComp elt [⟨tg,iter,[],0⟩] scope pos) 0 (.ref it) (.ref s2.heap.objs.size) (blk X N' scope cl s3.heap.objs.size s3 (upd H2 s2.heap.objs.size (.lst [])) fp).env).onRaise (fun x => do noteFrame x (blk X N' scope cl s3.heap.objs.size s3 (upd H2 s2.heap.objs.size (.lst [])) fp).env; theTreesLotGoes x)) _ _ s5
  refine wpAny_noted ?_
  rw [compTurn_list1]
  have ff : ∀ {H' : Hp},(∀ b ∈ fp,H' b = none) → ∀ b ∈ fp,FpOk (blk X N' scope cl s3.heap.objs.size s3 (upd H2 s2.heap.objs.size (.lst [])) fp) [] H' b := fun {H'} hn b hb =>
   ⟨hn b hb,(J0.ok.exf b hb).1,J0.ok.exfs b hb,.inl hb,fun x c e => (J0.ok.exf b hb).2 x c e,fun p hp => absurd (show p ∈ ([] : List (Addr × Obj)) from hp) (by simp)⟩
  rcases turn i n H5 w5 with ⟨stop,qn⟩ | ⟨go,N,hN,step⟩
  ·refine wpAny_bind (wpAny_standAt (wpAny_bind (thn (T.done (blk X N' scope cl s3.heap.objs.size s3 (upd H2 s2.heap.objs.size (.lst [])) fp) rfl rfl rfl hc i [] s5 _ H5 _ I5 (ff fr5) st5 stop) fun r s6 ⟨hr,I6⟩ => ?_)))
   subst hr
   refine wpAny_pure ?_
   obtain ⟨m,hn,_⟩ := id I6.loc
   exact fin _ _ _ _ (blk_end I3 f3 fpl3 I6 (Heap.SameBut.refl _ _)) (I3.fpOk (Nat.le_refl _) I6.free) ⟨m,hn⟩ qn
  ·refine wpAny_bind (wpAny_standAt (wpAny_bind (thn (T.item (blk X N' scope cl s3.heap.objs.size s3 (upd H2 s2.heap.objs.size (.lst [])) fp) rfl rfl rfl hc i [] s5 _ H5 _ I5 (ff fr5) st5 go) fun r s6 ⟨u,hr,h6⟩ => ?_)))
   subst hr
   refine wpAny_bind (thn h6 fun _ s7 ⟨x,H7,I7,r7,y7,st7,fr7⟩ => ?_)
   have I7' := I7.pinned (ff fr7) (T.obj _ _ st7)
   refine wpAny_bind (wpAny_mono (hg _ _ _ _ _ s7 _ H7 x u _ I7' r7 (step x H7 y7)) (fun _ s8 ⟨σ8,H8,I8,kp,q8⟩ => ?_) fun _ _ f => f.elim)
   have q8' : te σ8 H8 fun y H6 => ∃ ys,H6 s2.heap.objs.size = some (.lst ys) ∧ ys.length < sizeLine ∧ N (upd H6 s2.heap.objs.size (.lst (ys ++ [y]))) := by
    have z := q8
    unfold tTrue at z
    dsimp only at z
    rw [if_pos rfl] at z
    exact z
   refine wpAny_bind (wpAny_bind (wpAny_mono (he _ _ _ _ _ s8 σ8 H8 _ I8 q8') (fun y s9 ⟨y',H9,I9,r9,ys,hD,hl,n9⟩ => ?_) fun _ _ f => f.elim))
   refine wpAny_bind (wpAny_mono (mt_append (X := blk X N' scope cl s3.heap.objs.size s3 (upd H2 s2.heap.objs.size (.lst [])) fp) _ s9 σ8 H9 (.ref s2.heap.objs.size) [y'] (.ref s2.heap.objs.size) [y] (fun _ H' => N H') I9 rfl (.cons r9 .nil) ⟨_,ys,y',rfl,rfl,hD,hl,n9⟩) (fun _ s10 ⟨_,H10,I10,_,n10⟩ => ?_) fun _ _ f => f.elim)
   exact wpAny_pure (wpAny_pure ⟨rfl,comp_again T hN st7 I10 kp (I5.len.trans I10.len.symm) n10⟩)
 exact codeAny_compStart_list loop (T.self X.A 0 _ _ _ st1 loop)
theorem ps_setComp {i : Nat} {x : Str} {pos' cpos : Pos} {c : Expr} (hN : X.N.Nodup) (hix : X.N[i]? = some x) (hx : Loc X.env.scope x) (B : BlkOk X N' scope cl caps) (hc : X.calm = true) (hi : PI X tg iter wi) (hg : ∀ C s0 H0 fp,PG (blk X N' scope cl C s0 H0 fp) tg g) (he : ∀ C s0 H0 fp,PE (blk X N' scope cl C s0 H0 fp) elt te)
  (hs : ∀ x,foldedSetIterable iter X.env x = pure x := by intro _; rfl) (hsw : swapsWith (.ListComp elt [⟨tg,iter,[],0⟩] scope cpos) (some (.Name x pos')) pos.line X.env = pure true := by rfl) (hf : X.fn x = true ∨ X.env.scope.names.lookup x = some .local := by first | exact .inl rfl | exact .inr rfl | assumption) :
  PS X (.Assign [.Name x pos'] (.ListComp elt [⟨tg,iter,[],0⟩] scope cpos) pos) (tAsg (tComp wi caps g tTrue te) (gName i)) := by
 intro pins s σ H D I h
 rw [exec_Assign_Name_used _ _ _ _ hsw]
 refine wpAny_bind (wpAny_standAt (wpAny_bind ?_))
 refine wpAny_bind (thn (comp_gen (use := some (assign (.Name x pos') X.env)) (QQ := fun _ s' => SP X pins D .next s') B hc hi hg he hs I h ?_) fun _ s' q => wpAny_pure (wpAny_pure q))
 rintro Da C s6 H5 I6 fC ⟨m,hn⟩ q
 show wpAny _ _ (assign (.Name x pos') X.env (.ref Da)) _ _ s6
 obtain ⟨o,es,ep,eo,ed,k1,k2⟩ := hn
 have I6' := I6.pinned (fp := [C]) (fun b hb => by rw [List.mem_singleton.mp hb]; exact fC) (fun b hb => ⟨o,by rw [List.mem_singleton.mp hb]; exact eo,fun v z => by rw [ed] at z; cases z⟩)
 refine thn (pg_name (pos := pos') hN hix hx hf _ s6 σ H5 (.ref Da) (.ref Da) D.nx I6' rfl q) fun _ s7 ⟨σ7,H7,I7,q7⟩ => ?_
 have e7 := I7.pin (C,o) (List.mem_append_right _ (List.mem_append_right _ (mem_pinsAt (by simp) eo)))
 exact ⟨m,⟨o,es,ep,e7.1,ed,k1,k2⟩,fun h' sb => ⟨σ7,H7,Inv.turned (t' := s7.toks) (it := C) I7.unpinned (fun b o hb e => sb.extBut b o hb e) e7.2.1 fC.2.1 fC.2.2.2.1 fC.2.2.2.2.1 fC.2.2.2.2.2,q7⟩⟩
theorem qs_setComp {i : Nat} {x : Str} {pos' cpos : Pos} (N' : List Str) (caps : List (Option Nat)) (hN : X.N.Nodup) (hix : X.N[i]? = some x) (hx : Loc X.env.scope x) (B : BlkOk X N' scope cl caps) (hc : X.calm = true) (hi : QI X tg iter wi) (hg : ∀ C s0 H0 fp,QG (blk X N' scope cl C s0 H0 fp) tg g) (he : ∀ C s0 H0 fp,QE (blk X N' scope cl C s0 H0 fp) elt te)
  (hs : ∀ x,foldedSetIterable iter X.env x = pure x := by intro _; rfl) (hsw : swapsWith (.ListComp elt [⟨tg,iter,[],0⟩] scope cpos) (some (.Name x pos')) pos.line X.env = pure true := by rfl) (hf : X.fn x = true ∨ X.env.scope.names.lookup x = some .local := by first | exact .inl rfl | exact .inr rfl | assumption) :
  QS X (.Assign [.Name x pos'] (.ListComp elt [⟨tg,iter,[],0⟩] scope cpos) pos) (tAsg (tComp wi caps g tTrue te) (gName i)) :=
 ⟨ps_setComp (c := elt) hN hix hx B hc hi.run (fun C s0 H0 fp => (hg C s0 H0 fp).run) (fun C s0 H0 fp => (he C s0 H0 fp).run) hs hsw hf⟩
end
end L2
namespace L2
open PySem PySem.Spec PyProof.Rows
section
variable {X : Cx}
end
end L2
namespace My
open PySem L2
theorem same_new {H : Hp} {p : Addr} (h : H p = none) (o : HO) : Same H (upd H p o) := fun b u q => by rw [upd_ne (ne_of_none q h)]; exact q
theorem fresh_of {H H' : Hp} {p : Addr} {o : HO} (hp : H p = none) (hg : upd H p o = H') : Same H H' ∧ H' p = some o := by
 subst hg
 exact ⟨same_new hp o,upd_same⟩
theorem at_int {ns : List Int} {k : Int} (h0 : 0 ≤ k) (h : k < (ns.length : Int)) : ∃ v : Int,atI (ns.map V.int) k = some (.int v) := by
 have hk : k.toNat < ns.length := by omega
 have ek : k = ((k.toNat : Nat) : Int) := by omega
 have q : atI (ns.map V.int) ((k.toNat : Nat) : Int) = some (.int ns[k.toNat]) := atI_nat (by rw [List.getElem?_map,List.getElem?_eq_getElem hk] <;> rfl)
 rw [← ek] at q
 exact ⟨_,q⟩
theorem iteP {c A B : Prop} [Decidable c] (h : c) (x : A) : if c then A else B := by
 rw [if_pos h]
 exact x
theorem iteN {c A B : Prop} [Decidable c] (h : ¬ c) (x : B) : if c then A else B := by
 rw [if_neg h]
 exact x
theorem pow15 : ((10 : Int) ^ (15 : Int).toNat) = 1000000000000000 := by decide +kernel
def spCell (K : PySem.W.Frag) : Sp := fun vs H Q _ => ∃ (a : Addr) (ns : List Int) (k : Int),vs = [.ref a,.int k] ∧ SqL K H a (ns.map V.int) ∧ 0 ≤ k ∧ ∀ c : Int,Q (.int c) H
def spDay : Sp := fun vs H Q _ => ∃ c : Int,vs = [.int c] ∧ ∀ (d : Int) (H' : Hp),1 ≤ d → d ≤ 1000000000000000 → Same H H' → Q (.int d) H'
open Ma (T3 rA rB rC)
def tup3 (R : List T3) (i : Nat) : HO := .tup [.int (rA R i),.int (rB R i),.int (rC R i)]
structure RowsAt (H : Hp) (p : Addr) (R : List T3) : Prop where
 ex : ∃ rs : List Addr,H p = some (.lst (rs.map V.ref)) ∧ rs.length = R.length ∧ ∀ (i : Nat) r,rs[i]? = some r → H r = some (tup3 R i)
theorem RowsAt.mono {H H' : Hp} {p : Addr} {R : List T3} (h : RowsAt H p R) (s : ∀ b o,H b = some o → (∀ z,o ≠ .tbl z) → H' b = some o) : RowsAt H' p R := by
 obtain ⟨rs,h1,h2,h3⟩ := h.ex
 exact ⟨rs,s _ _ h1 (fun _ z => nomatch z),h2,fun i r e => s _ _ (h3 i r e) (fun _ z => nomatch z)⟩
theorem RowsAt.same {H H' : Hp} {p : Addr} {R : List T3} (h : RowsAt H p R) (s : Same H H') : RowsAt H' p R := h.mono fun b o e _ => s b o e
theorem RowsAt.at {K : PySem.W.Frag} {H : Hp} {p : Addr} {R : List T3} (h : RowsAt H p R) : ∃ xs : List V,SqL K H p xs ∧ xs.length = R.length ∧ ∀ k : Int,0 ≤ k → k < (R.length : Int) → ∃ r,atI xs k = some (.ref r) ∧ H r = some (tup3 R k.toNat) := by
 obtain ⟨rs,h1,h2,h3⟩ := h.ex
 refine ⟨rs.map V.ref,SqL.of h1,by rw [List.length_map,h2],fun k k0 k1 => ?_⟩
 have hk : k.toNat < rs.length := by omega
 have ek : k = ((k.toNat : Nat) : Int) := by omega
 have q : atI (rs.map V.ref) ((k.toNat : Nat) : Int) = some (.ref rs[k.toNat]) := atI_nat (by rw [List.getElem?_map]; simp [hk])
 rw [← ek] at q
 exact ⟨rs[k.toNat],q,h3 _ _ (List.getElem?_eq_getElem hk)⟩
theorem map_ref {rs : List Addr} {i : Nat} {y : V} (h : (rs.map V.ref)[i]? = some y) : ∃ r,y = V.ref r ∧ rs[i]? = some r := by
 rw [List.getElem?_map] at h
 cases e : rs[i]? with
 | none => rw [e] at h; cases h
 | some z => rw [e] at h; exact ⟨z,(Option.some.inj h).symm,rfl⟩
theorem cut_ints {ns : List Int} (lo hi : Option Int) : ∃ ms : List Int,cutV (ns.map V.int) lo hi = ms.map V.int ∧ ms.length ≤ ns.length := by
 unfold cutV
 rw [List.length_map,← List.map_drop,← List.map_take]
 exact ⟨_,rfl,by rw [List.length_take,List.length_drop]; omega⟩
def rowsD (R : List T3) : List PyData := R.map fun t => .tuple [.int t.1,.int t.2.1,.int t.2.2]
theorem rd_rows {K : PySem.W.Frag} {H : Hp} : ∀ (rs : List Addr) (R : List T3),rs.length = R.length → (∀ (i : Nat) r,rs[i]? = some r → H r = some (tup3 R i)) → RdAll K H (rs.map V.ref) (rowsD R)
 | [],[],_,_ => .nil
 | [],_ :: _,h,_ => by cases h
 | _ :: _,[],h,_ => by cases h
 | r :: rs,t :: R,h,hr => by
  refine .cons (.tup (SqT.of (hr 0 r rfl)) (.cons (.int _) (.cons (.int _) (.cons (.int _) .nil)))) ?_
  refine rd_rows rs R (by simpa using h) fun i r' e => ?_
  have := hr (i + 1) r' (by simpa using e)
  exact this
theorem RowsAt.rd {K : PySem.W.Frag} {H : Hp} {p : Addr} {R : List T3} (h : RowsAt H p R) : RdV K H (.ref p) (.list (rowsD R)) := by
 obtain ⟨rs,h1,h2,h3⟩ := h.ex
 exact .lst (SqL.of h1) (rd_rows rs R h2 h3)
theorem RowsAt.append {H : Hp} {p r : Addr} {R : List T3} {a b c : Int} {xs : List V} (h : RowsAt H p R) (hx : H p = some (.lst xs)) (hr : H r = some (.tup [.int a,.int b,.int c])) : RowsAt (upd H p (.lst (xs ++ [.ref r]))) p (R ++ [(a,b,c)]) := by
 obtain ⟨rs,h1,h2,h3⟩ := h.ex
 rw [h1] at hx
 cases hx
 have ne : ∀ q (ys : List V),H q = some (.tup ys) → q ≠ p := fun q ys e z => by rw [z,h1] at e; cases e
 refine ⟨rs ++ [r],by rw [upd_same,List.map_append]; rfl,by rw [List.length_append,List.length_append,h2]; rfl,fun i q e => ?_⟩
 rcases (by omega : i < rs.length ∨ rs.length ≤ i) with hi | hi
 ·rw [List.getElem?_append_left hi] at e
  have e2 := h3 i q e
  have e3 : tup3 (R ++ [(a,b,c)]) i = tup3 R i := by
   have e4 : (R ++ [(a,b,c)])[i]? = R[i]? := List.getElem?_append_left (by omega)
   unfold tup3 rA rB rC
   rw [List.getD_eq_getElem?_getD,List.getD_eq_getElem?_getD,e4]
  rw [upd_ne (ne q _ e2),e3]
  exact e2
 ·rw [List.getElem?_append_right hi] at e
  have ei : i - rs.length = 0 := by
   have := (List.getElem?_eq_some_iff.mp e).1
   simp at this
   omega
  rw [ei] at e
  have eq : r = q := Option.some.inj e
  subst eq
  have e4 : (R ++ [(a,b,c)])[i]? = some (a,b,c) := by
   rw [show i = R.length by omega]
   simp
  have e5 := Ma.r_of e4
  rw [upd_ne (ne r _ hr),hr]
  unfold tup3
  rw [e5.1,e5.2.1,e5.2.2]
theorem RowsAt.nil {H : Hp} {p : Addr} (h : H p = some (.lst [])) : RowsAt H p [] := ⟨[],h,rfl,fun i r e => by cases i <;> cases e⟩
theorem SameT.keep {H H' : Hp} {P r : Addr} {pos : Pos} {qual : Str} {o : HO} (s : SameT P H H') (t : TabOk H P pos qual) (e : H r = some o) (n : ∀ z,o ≠ .tbl z) : H' r = some o := s r o e fun z => by
 obtain ⟨ps,hp,_⟩ := t
 rw [z,hp] at e
 exact n ps (Option.some.inj e).symm
theorem SameT.tup {H H' : Hp} {P r : Addr} {pos : Pos} {qual : Str} {xs : List V} (s : SameT P H H') (t : TabOk H P pos qual) (e : H r = some (.tup xs)) : H' r = some (.tup xs) := SameT.keep s t e fun _ z => nomatch z
theorem SameT.seq {K : PySem.W.Frag} {H H' : Hp} {P a : Addr} {pos : Pos} {qual : Str} {xs : List V} (s : SameT P H H') (t : TabOk H P pos qual) (h : SqL K H a xs) : SqL K H' a xs := by
 rcases h with (h | ⟨o,h⟩) | h
 ·exact .inl (.inl (SameT.keep s t h fun _ z => nomatch z))
 ·exact .inl (.inr ⟨o,SameT.keep s t h fun _ z => nomatch z⟩)
 ·exact .inr h
theorem RowsAt.copy {H H' : Hp} {p l : Addr} {R : List T3} {ys : List V} {K : PySem.W.Frag} (h : RowsAt H p R) (s : Same H H') (hy : H p = some (.lst ys)) (e : H' l = some (.lst ys)) : RowsAt H' l R := by
 obtain ⟨rs,h1,h2,h3⟩ := h.ex
 rw [h1] at hy
 cases hy
 exact ⟨rs,e,h2,fun i r er => s _ _ (h3 i r er)⟩
theorem RowsAt.lst {H : Hp} {p : Addr} {R : List T3} (h : RowsAt H p R) : ∃ ys,H p = some (.lst ys) ∧ ys.length = R.length := by
 obtain ⟨rs,h1,h2,h3⟩ := h.ex
 exact ⟨_,h1,by rw [List.length_map,h2]⟩
structure LA {α : Type} (enc : α → List V) (H : Hp) (p : Addr) (xs : List α) : Prop where
 ex : ∃ rs : List Addr,H p = some (.lst (rs.map V.ref)) ∧ rs.length = xs.length ∧ ∀ (i : Nat) r x,rs[i]? = some r → xs[i]? = some x → H r = some (.tup (enc x))
section
variable {α : Type} {enc : α → List V} {H H' : Hp} {p q r : Addr} {xs ys : List α} {vs ws : List V}
theorem LA.nil (h : H p = some (.lst [])) : LA enc H p [] := ⟨[],h,rfl,fun i r x e => by cases i <;> cases e⟩
theorem LA.mono (h : LA enc H p xs) (s : ∀ b o,H b = some o → (∀ z,o ≠ .tbl z) → H' b = some o) : LA enc H' p xs := by
 obtain ⟨rs,h1,h2,h3⟩ := h.ex
 exact ⟨rs,s _ _ h1 (fun _ z => nomatch z),h2,fun i r x e e' => s _ _ (h3 i r x e e') (fun _ z => nomatch z)⟩
theorem LA.same (h : LA enc H p xs) (s : Same H H') : LA enc H' p xs := h.mono fun b o e _ => s b o e
theorem LA.lst (h : LA enc H p xs) : ∃ vs,H p = some (.lst vs) ∧ vs.length = xs.length ∧ ∀ (i : Nat) y,vs[i]? = some y → ∃ r x,y = .ref r ∧ xs[i]? = some x ∧ H r = some (.tup (enc x)) := by
 obtain ⟨rs,h1,h2,h3⟩ := h.ex
 refine ⟨_,h1,by rw [List.length_map,h2],fun i y e => ?_⟩
 obtain ⟨r,rfl,er⟩ := map_ref e
 have hi : i < xs.length := by
  have := (List.getElem?_eq_some_iff.mp er).1
  omega
 exact ⟨r,xs[i],rfl,List.getElem?_eq_getElem hi,h3 i r _ er (List.getElem?_eq_getElem hi)⟩
theorem LA.of (h : H p = some (.lst vs)) (l : vs.length = xs.length) (g : ∀ (i : Nat) y,vs[i]? = some y → ∃ r,y = .ref r ∧ ∀ x,xs[i]? = some x → H r = some (.tup (enc x))) : LA enc H p xs := by
 have go : ∀ (vs : List V),(∀ (i : Nat) y,vs[i]? = some y → ∃ r,y = V.ref r) → ∃ rs : List Addr,vs = rs.map V.ref := by
  intro vs
  induction vs with
  | nil => intro _; exact ⟨[],rfl⟩
  | cons v vs ih =>
   intro g
   obtain ⟨r,e⟩ := g 0 v rfl
   obtain ⟨rs,e2⟩ := ih fun i y e => g (i + 1) y (by simpa using e)
   exact ⟨r :: rs,by rw [e,e2]; rfl⟩
 obtain ⟨rs,e⟩ := go vs fun i y e => by
  obtain ⟨r,e1,_⟩ := g i y e
  exact ⟨r,e1⟩
 subst e
 refine ⟨rs,h,by rw [List.length_map] at l; exact l,fun i r x e1 e2 => ?_⟩
 obtain ⟨r',e3,e4⟩ := g i (.ref r) (by rw [List.getElem?_map,e1]; rfl)
 cases e3
 exact e4 x e2
theorem LA.append {x : α} (h : LA enc H p xs) (hx : H p = some (.lst vs)) (hr : H r = some (.tup (enc x))) : LA enc (upd H p (.lst (vs ++ [.ref r]))) p (xs ++ [x]) := by
 obtain ⟨vs',h1,h2,h3⟩ := h.lst
 rw [h1] at hx
 cases hx
 have ne : ∀ q (ys : List V),H q = some (.tup ys) → q ≠ p := fun q ys e z => by rw [z,h1] at e; cases e
 refine LA.of upd_same (by simp [h2]) fun i y e => ?_
 rcases (by omega : i < vs.length ∨ vs.length ≤ i) with hi | hi
 ·rw [List.getElem?_append_left hi] at e
  obtain ⟨r',x',e1,e2,e3⟩ := h3 i y e
  refine ⟨r',e1,fun x2 e4 => ?_⟩
  rw [List.getElem?_append_left (by omega),e2] at e4
  cases e4
  rw [upd_ne (ne r' _ e3)]
  exact e3
 ·rw [List.getElem?_append_right hi] at e
  have ei : i - vs.length = 0 := by
   have := (List.getElem?_eq_some_iff.mp e).1
   simp at this
   omega
  rw [ei] at e
  have e' : V.ref r = y := by simpa using e
  refine ⟨r,e'.symm,fun x2 e4 => ?_⟩
  rw [List.getElem?_append_right (by omega),show i - xs.length = 0 by omega] at e4
  have e5 : x = x2 := by simpa using e4
  subst e5
  rw [upd_ne (ne r _ hr)]
  exact hr
theorem LA.extend (h : LA enc H p xs) (h' : LA enc H q ys) (hx : H p = some (.lst vs)) (hy : H q = some (.lst ws)) : LA enc (upd H p (.lst (vs ++ ws))) p (xs ++ ys) := by
 obtain ⟨vs',h1,h2,h3⟩ := h.lst
 obtain ⟨ws',k1,k2,k3⟩ := h'.lst
 rw [h1] at hx
 cases hx
 rw [k1] at hy
 cases hy
 have ne : ∀ q (ys : List V),H q = some (.tup ys) → q ≠ p := fun q ys e z => by rw [z,h1] at e; cases e
 refine LA.of upd_same (by simp [h2,k2]) fun i y e => ?_
 rcases (by omega : i < vs.length ∨ vs.length ≤ i) with hi | hi
 ·rw [List.getElem?_append_left hi] at e
  obtain ⟨r',x',e1,e2,e3⟩ := h3 i y e
  refine ⟨r',e1,fun x2 e4 => ?_⟩
  rw [List.getElem?_append_left (by omega),e2] at e4
  cases e4
  rw [upd_ne (ne r' _ e3)]
  exact e3
 ·rw [List.getElem?_append_right hi] at e
  obtain ⟨r',x',e1,e2,e3⟩ := k3 _ y e
  refine ⟨r',e1,fun x2 e4 => ?_⟩
  rw [List.getElem?_append_right (by omega),show i - xs.length = i - vs.length by omega,e2] at e4
  cases e4
  rw [upd_ne (ne r' _ e3)]
  exact e3
theorem LA.copy (h : LA enc H p xs) (s : Same H H') (hx : H p = some (.lst vs)) (e : H' q = some (.lst vs)) : LA enc H' q xs := by
 obtain ⟨rs,h1,h2,h3⟩ := h.ex
 rw [h1] at hx
 cases hx
 exact ⟨rs,e,h2,fun i r x e1 e2 => s _ _ (h3 i r x e1 e2)⟩
theorem LA.at {K : PySem.W.Frag} (h : LA enc H p xs) : ∃ vs : List V,H p = some (.lst vs) ∧ vs.length = xs.length ∧ ∀ (k : Nat) x,xs[k]? = some x → ∃ r,atI vs (k : Int) = some (.ref r) ∧ H r = some (.tup (enc x)) := by
 obtain ⟨vs,h1,h2,h3⟩ := h.lst
 refine ⟨vs,h1,h2,fun k x e => ?_⟩
 have hk : k < vs.length := by
  have := (List.getElem?_eq_some_iff.mp e).1
  omega
 obtain ⟨r,x',e1,e2,e3⟩ := h3 k _ (List.getElem?_eq_getElem hk)
 rw [e] at e2
 cases e2
 exact ⟨r,atI_nat (by rw [List.getElem?_eq_getElem hk,e1]),e3⟩
end
theorem atI_last {vs : List V} (h : vs ≠ []) : atI vs (-1) = vs[vs.length - 1]? := by
 have hl : 0 < vs.length := List.length_pos_iff.mpr h
 unfold atI ixN
 rw [if_neg (by omega),if_pos (by omega)]
 show vs[(-1 + (vs.length : Int)).toNat]? = _
 congr 1
 omega
section
variable {α : Type} {D : α → PyData}
theorem canLay_map (h : ∀ x,PyData.canLay0 (D x) = true) : ∀ xs : List α,PyData.canLayAll0 (xs.map D) = true
 | [] => by simp [PyData.canLayAll0]
 | x :: xs => by
  have := canLay_map h xs
  simp [PyData.canLayAll0,h,this]
theorem depth_map {n : Nat} (h : ∀ x,PyData.depth (D x) ≤ n) : ∀ xs : List α,PyData.depthAll (xs.map D) ≤ n
 | [] => by simp [PyData.depthAll]
 | x :: xs => by
  have := depth_map h xs
  have := h x
  simp only [List.map_cons,PyData.depthAll]
  omega
theorem shaped_map {n : Nat} (h : ∀ x,PyData.canLay0 (D x) = true) (h2 : ∀ x,PyData.depth (D x) ≤ n) (hn : n ≤ 60) (xs : List α) : SeqAt.shaped (.list (xs.map D)) = true := by
 have h3 := depth_map h2 xs
 show (PyData.canLay0 (.list (xs.map D)) && decide (PyData.depth (.list (xs.map D)) ≤ 64)) = true
 rw [Bool.and_eq_true]
 exact ⟨by simp only [PyData.canLay0]; exact canLay_map h xs,decide_eq_true (by simp only [PyData.depth]; omega)⟩
theorem LA.rd {K : PySem.W.Frag} {enc : α → List V} {ds : α → List PyData} {H : Hp} {p : Addr} {xs : List α} (h : LA enc H p xs) (hd : ∀ x,RdAll K H (enc x) (ds x)) : RdV K H (.ref p) (.list (xs.map fun x => .tuple (ds x))) := by
 obtain ⟨rs,h1,h2,h3⟩ := h.ex
 refine .lst (SqL.of h1) ?_
 have go : ∀ (rs : List Addr) (xs : List α),rs.length = xs.length → (∀ (i : Nat) r x,rs[i]? = some r → xs[i]? = some x → H r = some (.tup (enc x))) → RdAll K H (rs.map V.ref) (xs.map fun x => .tuple (ds x)) := by
  intro rs
  induction rs with
  | nil =>
   intro xs hl _
   cases xs with
   | nil => exact .nil
   | cons x xs => cases hl
  | cons r rs ih =>
   intro xs hl g
   cases xs with
   | nil => cases hl
   | cons x xs => exact .cons (.tup (SqT.of (g 0 r x rfl rfl)) (hd x)) (ih xs (by simpa using hl) fun i r' x' e1 e2 => g (i + 1) r' x' (by simpa using e1) (by simpa using e2))
 exact go rs xs h2 h3
end
open Ma (T4)
def enc3 (t : T3) : List V := [.int t.1,.int t.2.1,.int t.2.2]
def dat3 (t : T3) : PyData := .tuple [.int t.1,.int t.2.1,.int t.2.2]
section
variable {K : PySem.W.Frag} {H H' : Hp} {p : Addr} {R : List T3}
theorem rd3 (h : LA enc3 H p R) : RdV K H (.ref p) (.list (R.map dat3)) := h.rd fun x => .cons (.int _) (.cons (.int _) (.cons (.int _) .nil))
theorem RowsAt.la (h : RowsAt H p R) : LA enc3 H p R := by
 obtain ⟨rs,h1,h2,h3⟩ := h.ex
 refine ⟨rs,h1,h2,fun i r x e1 e2 => ?_⟩
 obtain ⟨a,b,c⟩ := x
 have := Ma.r_of e2
 rw [h3 i r e1]
 unfold tup3 enc3
 rw [this.1,this.2.1,this.2.2]
theorem LA.rows (h : LA enc3 H p R) : RowsAt H p R := by
 obtain ⟨rs,h1,h2,h3⟩ := h.ex
 refine ⟨rs,h1,h2,fun i r e1 => ?_⟩
 have hi : i < R.length := by
  have := (List.getElem?_eq_some_iff.mp e1).1
  omega
 exact h3 i r _ e1 (Ma.r_at hi)
end
inductive Dv (H : Hp) : V → Prop
 | non : Dv H .non
 | bl (b : Bool) : Dv H (.bl b)
 | int (i : Int) : Dv H (.int i)
 | str (x : Str) : Dv H (.str x)
 | lst {a : Addr} {xs : List V} : H a = some (.lst xs) → Dv H (.ref a)
 | tup {a : Addr} {xs : List V} : H a = some (.tup xs) → Dv H (.ref a)
def isWh : V → Bool
 | .int _ => true
 | _ => false
def tupV (H : Hp) : V → Option (List V)
 | .ref a => match H a with
  | some (.tup xs) => some xs
  | _ => none
 | _ => none
def lstV (H : Hp) : V → Option (List V)
 | .ref a => match H a with
  | some (.lst xs) => some xs
  | _ => none
 | _ => none
theorem tupV_at {H : Hp} {x : V} {xs : List V} (h : tupV H x = some xs) : ∃ a,x = .ref a ∧ H a = some (.tup xs) := by
 unfold tupV at h
 split at h
 ·rename_i a
  split at h
  ·rename_i ys e
   cases h
   exact ⟨a,rfl,e⟩
  ·cases h
 ·cases h
theorem lstV_at {H : Hp} {x : V} {xs : List V} (h : lstV H x = some xs) : ∃ a,x = .ref a ∧ H a = some (.lst xs) := by
 unfold lstV at h
 split at h
 ·rename_i a
  split at h
  ·rename_i ys e
   cases h
   exact ⟨a,rfl,e⟩
  ·cases h
 ·cases h
section
variable {H H' : Hp} {x : V}
theorem Dv.same (h : Dv H x) (s : Same H H') : Dv H' x := by
 cases h with
 | non => exact .non
 | bl b => exact .bl b
 | int i => exact .int i
 | str x => exact .str x
 | lst e => exact .lst (s _ _ e)
 | tup e => exact .tup (s _ _ e)
theorem Dv.tupV_same (h : Dv H x) (s : Same H H') : tupV H' x = tupV H x := by
 cases h with
 | non => rfl
 | bl b => rfl
 | int i => rfl
 | str x => rfl
 | lst e => simp [tupV,e,s _ _ e]
 | tup e => simp [tupV,e,s _ _ e]
theorem Dv.isTup {K : PySem.W.Frag} (h : Dv H x) : ∃ t,TyOf K H x t ∧ PySem.W.kitOne K t (.type "tuple") = some (tupV H x).isSome := by
 cases h with
 | non => exact ⟨_,.non,rfl⟩
 | bl b => exact ⟨_,.bl b,rfl⟩
 | int i => exact ⟨_,.int i,rfl⟩
 | str x => exact ⟨_,.str x,rfl⟩
 | lst e => exact ⟨_,.lst e,by simp only [tupV,e]; rfl⟩
 | tup e => exact ⟨_,.tup e,by simp only [tupV,e]; rfl⟩
end
def Dv2 (H : Hp) (x : V) : Prop := Dv H x ∧ ∀ zs,tupV H x = some zs → ∀ z ∈ zs,Dv H z
theorem Dv2.same {H H' : Hp} {x : V} (h : Dv2 H x) (s : Same H H') : Dv2 H' x := ⟨h.1.same s,fun zs e z hz => (h.2 zs (by rw [← h.1.tupV_same s]; exact e) z hz).same s⟩
def winL (day : Int) : List V → Bool
 | [.int a,.int b,.int c] => decide (0 ≤ a) && (decide (a ≤ b) && (decide (b < day) && decide (0 ≤ c)))
 | _ => false
def winV (H : Hp) (day : Int) (x : V) : Bool := match tupV H x with
 | some xs => winL day xs
 | none => false
def spIsWhole : Sp := fun vs H Q _ => ∃ x : V,vs = [x] ∧ Dv H x ∧ Q (.bl (isWh x)) H
def spWindow : Sp := fun vs H Q _ => ∃ (day : Int) (x : V),vs = [.int day,x] ∧ Dv2 H x ∧ ∀ H',Same H H' → Q (.bl (winV H day x)) H'
theorem take_snoc {α β : Type} {xs : List α} {i : Nat} {y : α} (f : α → β) (h : xs[i]? = some y) : (xs.take (i + 1)).map f = (xs.take i).map f ++ [f y] := by
 rw [List.take_add_one,h,List.map_append]
 rfl
theorem three {α : Type} : ∀ {xs : List α},xs.length = 3 → ∃ u v w,xs = [u,v,w]
 | [u,v,w],_ => ⟨u,v,w,rfl⟩
theorem isWh_int {x : V} (h : isWh x = true) : ∃ i,x = .int i := by
 cases x <;> first | exact ⟨_,rfl⟩ | cases h
inductive Ev (H : Hp) : Nat → V → Prop
 | non {n : Nat} : Ev H n .non
 | bl {n : Nat} (b : Bool) : Ev H n (.bl b)
 | int {n : Nat} (i : Int) : Ev H n (.int i)
 | str {n : Nat} {x : Str} : PyData.strOk x = true → Ev H n (.str x)
 | lst {n : Nat} {a : Addr} {xs : List V} : H a = some (.lst xs) → (∀ y ∈ xs,Ev H n y) → Ev H (n + 1) (.ref a)
 | tup {n : Nat} {a : Addr} {xs : List V} : H a = some (.tup xs) → (∀ y ∈ xs,Ev H n y) → Ev H (n + 1) (.ref a)
theorem Ev.same {H H' : Hp} (s : Same H H') : ∀ {n : Nat} {x : V},Ev H n x → Ev H' n x := by
 intro n x h
 induction h with
 | non => exact .non
 | bl b => exact .bl b
 | int i => exact .int i
 | str h => exact .str h
 | lst e _ ih => exact .lst (s _ _ e) ih
 | tup e _ ih => exact .tup (s _ _ e) ih
theorem Ev.dv {H : Hp} {n : Nat} {x : V} (h : Ev H n x) : Dv H x := by
 cases h with
 | non => exact .non
 | bl b => exact .bl b
 | int i => exact .int i
 | str h => exact .str _
 | lst e _ => exact .lst e
 | tup e _ => exact .tup e
theorem Ev.parts {H : Hp} {n : Nat} {x : V} {zs : List V} (h : Ev H (n + 1) x) (e : tupV H x = some zs) : ∀ z ∈ zs,Ev H n z := by
 obtain ⟨a,rfl,ea⟩ := tupV_at e
 cases h with
 | lst e2 _ => rw [ea] at e2; cases e2
 | tup e2 p => rw [ea] at e2; cases e2; exact p
theorem Ev.items {H : Hp} {n : Nat} {x : V} {zs : List V} (h : Ev H (n + 1) x) (e : lstV H x = some zs) : ∀ z ∈ zs,Ev H n z := by
 obtain ⟨a,rfl,ea⟩ := lstV_at e
 cases h with
 | tup e2 _ => rw [ea] at e2; cases e2
 | lst e2 p => rw [ea] at e2; cases e2; exact p
theorem Ev.d2 {H : Hp} {n : Nat} {x : V} (h : Ev H (n + 1) x) : Dv2 H x := ⟨h.dv,fun zs e z hz => (h.parts e z hz).dv⟩
theorem Ev.up {H : Hp} : ∀ {n : Nat} {x : V},Ev H n x → Ev H (n + 1) x := by
 intro n x h
 induction h with
 | non => exact .non
 | bl b => exact .bl b
 | int i => exact .int i
 | str h => exact .str h
 | lst e _ ih => exact .lst e ih
 | tup e _ ih => exact .tup e ih
def RdOk (K : PySem.W.Frag) (H : Hp) (n : Nat) (x : V) : Prop := ∃ d,RdV K H x d ∧ PyData.canLay0 d = true ∧ PyData.depth d ≤ n + 1 ∧ PyData.eqv d d = true
def RdAOk (K : PySem.W.Frag) (H : Hp) (n : Nat) (xs : List V) : Prop := ∃ ds,RdAll K H xs ds ∧ PyData.canLayAll0 ds = true ∧ PyData.depthAll ds ≤ n + 1 ∧ PyData.eqvAll ds ds = true ∧ ds.length = xs.length
theorem rd_all {K : PySem.W.Frag} {H : Hp} {n : Nat} : ∀ {xs : List V},(∀ y ∈ xs,RdOk K H n y) → RdAOk K H n xs
 | [],_ => ⟨[],.nil,by simp [PyData.canLayAll0],by simp [PyData.depthAll],by simp [PyData.eqvAll],rfl⟩
 | y :: ys,h => by
  obtain ⟨d,r,c,p,e⟩ := h y (List.mem_cons_self ..)
  obtain ⟨ds,rs,cs,ps,es,l⟩ := rd_all (xs := ys) fun z hz => h z (List.mem_cons_of_mem _ hz)
  exact ⟨d :: ds,.cons r rs,by simp [PyData.canLayAll0,c,cs],by simp only [PyData.depthAll]; omega,by simp [PyData.eqvAll,e,es],by simp [l]⟩
theorem Ev.rd {K : PySem.W.Frag} {H : Hp} : ∀ {n : Nat} {x : V},Ev H n x → RdOk K H n x := by
 intro n x h
 induction h with
 | non => exact ⟨_,.non,by simp [PyData.canLay0],by simp [PyData.depth],by simp [PyData.eqv]⟩
 | bl b => exact ⟨_,.bl b,by simp [PyData.canLay0],by simp [PyData.depth],by simp [PyData.eqv]⟩
 | int i => exact ⟨_,.int i,by simp [PyData.canLay0],by simp [PyData.depth],by simp [PyData.eqv]⟩
 | str h => exact ⟨_,.str _,by simp [PyData.canLay0,h],by simp [PyData.depth],by simp [PyData.eqv]⟩
 | lst e _ ih =>
  obtain ⟨ds,rs,cs,ps,es,l⟩ := rd_all ih
  exact ⟨.list ds,.lst (SqL.of e) rs,by simp [PyData.canLay0,cs],by simp only [PyData.depth]; omega,by simp [PyData.eqv,es]⟩
 | tup e _ ih =>
  obtain ⟨ds,rs,cs,ps,es,l⟩ := rd_all ih
  exact ⟨.tuple ds,.tup (SqT.of e) rs,by simp [PyData.canLay0,cs],by simp only [PyData.depth]; omega,by simp [PyData.eqv,es]⟩
theorem eqvAll_nil (ds : List PyData) : PyData.eqv (.list ds) (.list []) = decide (ds.length = 0) := by
 cases ds with
 | nil => simp [PyData.eqv,PyData.eqvAll]
 | cons t r => simp [PyData.eqv,PyData.eqvAll]
theorem shaped_nil0 : SeqAt.shaped (.list []) = true := by simp [SeqAt.shaped,PyData.canLay0,PyData.canLayAll0,PyData.depth,PyData.depthAll]
theorem Same.seqT {K : PySem.W.Frag} {H H' : Hp} {a : Addr} {xs : List V} (e : Same H H') (h : SqT K H a xs) : SqT K H' a xs := by
 rcases h with (h | ⟨o,h⟩) | h
 ·exact .inl (.inl (e _ _ h))
 ·exact .inl (.inr ⟨o,e _ _ h⟩)
 ·exact .inr h
mutual
theorem rdv_same {K : PySem.W.Frag} {H H' : Hp} (s : Same H H') : ∀ {x : V} {d : PyData},RdV K H x d → RdV K H' x d
 | _,_,.non => .non
 | _,_,.bl b => .bl b
 | _,_,.int i => .int i
 | _,_,.str x => .str x
 | _,_,.lst h a => .lst (s.seq h) (rda_same s a)
 | _,_,.tup h a => .tup (Same.seqT s h) (rda_same s a)
theorem rda_same {K : PySem.W.Frag} {H H' : Hp} (s : Same H H') : ∀ {xs : List V} {ds : List PyData},RdAll K H xs ds → RdAll K H' xs ds
 | _,_,.nil => .nil
 | _,_,.cons h1 h2 => .cons (rdv_same s h1) (rda_same s h2)
end
theorem cut1 (xs : List V) : cutV xs (some 1) none = xs.drop 1 := by
 unfold cutV
 cases xs with
 | nil => simp
 | cons x r =>
  have e1 : HT.sIx (x :: r).length 0 (some 1) = 1 := by
   simp [HT.sIx]
  have e2 : HT.sIx (x :: r).length (x :: r).length none = (x :: r).length := rfl
  rw [e1,e2]
  simp
theorem line_of {n : Nat} (h : n ≤ 16000000) : n < sizeLine := by
 have e : sizeLine = 16777216 := by decide +kernel
 omega
theorem same_wr {H H1 : Hp} {p : Addr} {o : HO} (hp : H p = none) (s : Same H H1) : Same H (upd H1 p o) := fun b u e => by
 rw [upd_ne (ne_of_none e hp)]
 exact s _ _ e
theorem SameT.refl (P : Addr) (H : Hp) : SameT P H H := fun _ _ e _ => e
theorem SameT.trans {P : Addr} {H H1 H2 : Hp} (a : SameT P H H1) (b : SameT P H1 H2) : SameT P H H2 := fun c o e n => b c o (a c o e n) n
theorem SameT.same {P : Addr} {H H1 : Hp} (a : Same H H1) : SameT P H H1 := fun c o e _ => a c o e
def SameU (H H' : Hp) : Prop := (∀ b o,H b = some o → (∀ z,o ≠ .tbl z) → H' b = some o) ∧ ∀ b o,H b = some o → ∃ o',H' b = some o'
theorem SameU.refl (H : Hp) : SameU H H := ⟨fun _ _ e _ => e,fun _ o e => ⟨o,e⟩⟩
theorem SameU.trans {H H1 H2 : Hp} (a : SameU H H1) (b : SameU H1 H2) : SameU H H2 := ⟨fun c o e n => b.1 c o (a.1 c o e n) n,fun c o e => by
 obtain ⟨o1,e1⟩ := a.2 c o e
 exact b.2 c o1 e1⟩
theorem SameU.of {H H1 : Hp} (a : Same H H1) : SameU H H1 := ⟨fun c o e _ => a c o e,fun c o e => ⟨o,a c o e⟩⟩
theorem SameU.free {H H1 : Hp} {p : Addr} (a : SameU H H1) (h : H1 p = none) : H p = none := by
 cases e : H p with
 | none => rfl
 | some o =>
  obtain ⟨o',e'⟩ := a.2 p o e
  rw [h] at e'
  cases e'
theorem SameU.lst {H H1 : Hp} {p : Addr} {xs : List V} (a : SameU H H1) (e : H p = some (.lst xs)) : H1 p = some (.lst xs) := a.1 _ _ e fun _ z => nomatch z
theorem SameU.tup {H H1 : Hp} {p : Addr} {xs : List V} (a : SameU H H1) (e : H p = some (.tup xs)) : H1 p = some (.tup xs) := a.1 _ _ e fun _ z => nomatch z
theorem SameU.seq {K : PySem.W.Frag} {H H' : Hp} {a : Addr} {xs : List V} (s : SameU H H') (h : SqL K H a xs) : SqL K H' a xs := by
 rcases h with (h | ⟨o,h⟩) | h
 ·exact .inl (.inl (s.1 _ _ h fun _ z => nomatch z))
 ·exact .inl (.inr ⟨o,s.1 _ _ h fun _ z => nomatch z⟩)
 ·exact .inr h
theorem SameU.wr {H H1 : Hp} {p : Addr} {o : HO} (hp : H p = none) (s : SameU H H1) : SameU H (upd H1 p o) := ⟨fun b u e n => by
 rw [upd_ne (ne_of_none e hp)]
 exact s.1 _ _ e n,fun b u e => by
 rw [upd_ne (ne_of_none e hp)]
 exact s.2 _ _ e⟩
theorem LA.u {α : Type} {enc : α → List V} {H H' : Hp} {p : Addr} {xs : List α} (h : LA enc H p xs) (s : SameU H H') : LA enc H' p xs := h.mono s.1
theorem Callee.imp {P : Program} {w : World} {K : PySem.W.Frag} {mg : Str → Option Value} {base : Heap} {k : Nat} {x : Str} {ps : List Str} {sp sp' : Sp} (C : Callee P w K mg base k x ps sp) (h : ∀ vs H Q E,sp' vs H Q E → sp vs H Q E) : Callee P w K mg base k x ps sp' := by
 obtain ⟨f,fd,G,b,kp,m⟩ := C.ex
 exact ⟨f,fd,G.imp h,b,kp,m⟩
structure TB (T : Hp → Prop) : Prop where
 same : ∀ H H',T H → Same H H' → T H'
 wr : ∀ H p xs ys,T H → H p = some (.lst xs) → T (upd H p (.lst ys))
section
variable {H H' : Hp} {p : Addr} {R : List T3} {d : Int}
end
theorem LA.part {α : Type} {enc : α → List V} {H H' : Hp} {p l : Addr} {xs : List α} {vs : List V} (h : LA enc H p xs) (s : Same H H') (hv : H p = some (.lst vs)) (lo hi : Nat) (e : H' l = some (.lst ((vs.drop lo).take hi))) : LA enc H' l ((xs.drop lo).take hi) := by
 obtain ⟨rs,h1,h2,h3⟩ := h.ex
 rw [h1] at hv
 cases hv
 refine ⟨(rs.drop lo).take hi,by rw [e,← List.map_drop,← List.map_take],by simp [h2],fun i r x e1 e2 => ?_⟩
 rw [List.getElem?_take] at e1 e2
 split at e1
 ·rw [List.getElem?_drop] at e1
  rename_i c
  rw [if_pos c,List.getElem?_drop] at e2
  exact s _ _ (h3 _ r x e1 e2)
 ·cases e1
def datB (R : List T3) : PyData := .list (R.map dat3)
theorem canB (R : List T3) : PyData.canLay0 (datB R) = true := by
 simp only [datB,PyData.canLay0]
 exact canLay_map (fun x => by simp [dat3,PyData.canLay0,PyData.canLayAll0]) R
theorem depB (R : List T3) : PyData.depth (datB R) ≤ 3 := by
 have := depth_map (D := dat3) (n := 2) (fun x => by simp [dat3,PyData.depth,PyData.depthAll]) R
 simp only [datB,PyData.depth]
 omega
theorem la_clear {α : Type} {enc : α → List V} {H : Hp} {q l : Addr} {xs : List α} {zs ys : List V} (h : LA enc H q xs) (hz : H l = some (.lst zs)) (nq : q ≠ l) : LA enc (upd H l (.lst ys)) q xs := by
 obtain ⟨rs,h1,h2,h3⟩ := h.ex
 refine ⟨rs,by rw [upd_ne nq]; exact h1,h2,fun i r x e e' => ?_⟩
 have h4 := h3 i r x e e'
 have nr : r ≠ l := fun z => by rw [z,hz] at h4; cases h4
 rw [upd_ne nr]
 exact h4
end My
namespace L2
open PySem PySem.Spec PyProof.Rows
section
variable {X : Cx} {e o : Expr} {es : List Expr} {te to : TE} {pos apos : Pos}
abbrev TF := Str → St → Hp → (Str → Hp → Prop) → Prop
structure QF (X : Cx) (es : List Expr) (t : TF) : Prop where
 run : ∀ (pins : List (Addr × Obj)) (s : Shared) (σ : St) (H : Hp) (acc : Str) (Q : Str → Hp → Prop),Inv X pins σ H s → t acc σ H Q → Joins (model X.prog X.w) X.A X.xe (evalEach es X.env) acc (fun out s1 => ∃ H1,Inv X pins σ H1 s1 ∧ Q out H1) s
theorem joins_mono {M : Model} {A : Around} {E : Value → Shared → Prop} : ∀ (ps : List (Sem Value)) (acc : Str) (Q Q' : Str → Shared → Prop) (s : Shared),(∀ o s,Q o s → Q' o s) → Joins M A E ps acc Q s → Joins M A E ps acc Q' s
 | [],acc,Q,Q',s,h,q => h _ _ q
 | x :: r,acc,Q,Q',s,h,q => wpAny_mono q (fun v s1 ⟨y,t,e,z,q1⟩ => ⟨y,t,e,z,joins_mono r _ Q Q' s1 h q1⟩) fun _ _ e => e
theorem qf_nil : QF X [] (fun acc _ H Q => Q acc H) := ⟨fun pins s σ H acc Q I h => ⟨H,I,h⟩⟩
theorem qf_str {x : Str} {j pos} {t : TF} (h : QF X es t) (he : evalEach (.Constant (.str x) j pos :: es) X.env = eval (.Constant (.str x) j pos) X.env :: evalEach es X.env := by rfl) :
  QF X (.Constant (.str x) j pos :: es) (fun acc σ H Q => (acc ++ x).length ≤ sizeLine ∧ t (acc ++ x) σ H Q) := ⟨by
 intro pins s σ H acc Q I q
 rw [he]
 refine Calls.Constant_str ⟨x,_,rfl,q.1,h.run pins _ σ H _ Q (I.tok _) q.2⟩⟩
theorem qf_val {t : TF} (hv : QE X e te) (h : QF X es t) (he : evalEach (.FormattedValue e (-1) none pos :: es) X.env = eval (.FormattedValue e (-1) none pos) X.env :: evalEach es X.env := by rfl) :
  QF X (.FormattedValue e (-1) none pos :: es) (fun acc σ H Q => te σ H fun v H1 => (∃ i : Int,v = .int i ∧ i.natAbs.log2 < 1920 ∧ (acc ++ toString i).length ≤ sizeLine ∧ t (acc ++ toString i) σ H1 Q) ∨ (∃ y,v = .str y ∧ y.length ≤ sizeLine ∧ (acc ++ y).length ≤ sizeLine ∧ t (acc ++ y) σ H1 Q)) := ⟨by
 intro pins s σ H acc Q I q
 rw [he]
 refine wpAny_FormattedValue_plain (thn (hv.run pins s σ H _ I q) fun u s1 ⟨v,H1,I1,rv,q1⟩ => ?_)
 rcases q1 with ⟨i,rfl,hl,hz,q2⟩ | ⟨y,rfl,hl,hz,q2⟩
 ·obtain ⟨tk,rfl⟩ := rv
  exact wpAny_formatField_int hl ⟨_,_,rfl,hz,h.run pins _ σ H1 _ Q (I1.tok _) q2⟩
 ·obtain ⟨tk,rfl⟩ := rv
  exact wpAny_formatField_str ⟨_,_,rfl,hz,h.run pins _ σ H1 _ Q I1 q2⟩ ⟨_,_,rfl,hz,h.run pins _ σ H1 _ Q (I1.tok _) q2⟩ hl⟩
theorem qe_fstr {v1 v2 : Expr} {t : TF} (h : QF X (v1 :: v2 :: es) t) : QE X (.JoinedStr (v1 :: v2 :: es) pos) (fun σ H Q => t Str.empty σ H fun out H1 => out.length ≤ sizeLine ∧ Q (.str out) H1) := ⟨by
 intro pins s σ H Q I q
 refine wpAny_JoinedStr (joins_mono _ _ _ _ _ (fun out s1 hq => ?_) (h.run pins s σ H _ _ I q))
 obtain ⟨H1,I1,hz,q1⟩ := hq
 exact ⟨hz,.str out,H1,I1.tok _,⟨_,rfl⟩,q1⟩⟩
def rJoin (K : PySem.W.Frag) : V → List V → Hp → VK → Prop := fun x vs H Q => ∃ sep p ys,x = .str sep ∧ vs = [.ref p] ∧ SqL K H p (ys.map V.str) ∧ JoinOk sep ys = true ∧ Q (.str (Txt.join sep ys)) H
theorem strs_of : ∀ {ys : List Str} {its : List Value},Vals (ys.map V.str) its → ∃ l : List (Str × Tok),strValues l = its ∧ l.map (·.1) = ys
 | [],_,r => by
  cases r
  exact ⟨[],rfl,rfl⟩
 | y :: ys,_,r => by
  cases r with
  | cons r1 r2 =>
   obtain ⟨t,rfl⟩ := r1
   obtain ⟨l,h1,h2⟩ := strs_of r2
   exact ⟨(y,t) :: l,by rw [← h1]; rfl,by rw [← h2]; rfl⟩
theorem mt_join : MtR X "str.join" (rJoin X.K) := by
 intro pins s σ H x vs v us Q I rx rv h
 obtain ⟨sep,p,ys,rfl,rfl,hS,hok,q⟩ := h
 obtain ⟨t,rfl⟩ := rx
 obtain ⟨u,rfl,ru⟩ := vals1 rv
 cases ru
 obtain ⟨its,r,pl,hz⟩ := I.list hS
 obtain ⟨l,h1,h2⟩ := strs_of r
 subst h1
 exact SC.join pl.isList h2 hok fun t' k => ⟨.str _,H,I.kept (h' := s.heap) (t' := k) (fun _ _ e => e),⟨_,rfl⟩,q⟩
theorem qe_join {t : TA} (ho : QE X o to) (ha : QA X [e] t) (h : notStar e = true := by rfl) (hbase : attributeBase o "join" X.env (eval o X.env) = eval o X.env := by rfl) (hline : (apos.endLine == pos.line) = true := by rfl) :
  QE X (.Call (.Attribute o "join" apos) [e] [] pos) (tBM X.K "str" (rJoin X.K) to t) := ⟨pe_bm PySem.F.plainAttrs_str PySem.F.slot_str_join PySem.F.type_str_join mt_join ho.run ha.run hbase (by rw [se_of h]; rfl) hline (se_of h) rfl⟩
def rIndex (K : PySem.W.Frag) : V → List V → Hp → VK → Prop := fun x vs H Q => ∃ (l : Addr) (k : Int) (ns : List Int),x = .ref l ∧ vs = [.int k] ∧ SqL K H l (ns.map V.int) ∧ PyData.layable0 (.list (ns.map .int)) = true ∧ k ∈ ns ∧ Q (.int ((ns.idxOf k : Nat) : Int)) H
theorem mt_index : MtR X "list.index" (rIndex X.K) := by
 intro pins s σ H x vs v us Q I rx rv h
 obtain ⟨l,k,ns,rfl,rfl,hS,hl,hk,q⟩ := h
 cases rx
 obtain ⟨u,rfl,t,rfl⟩ := vals1 rv
 obtain ⟨its,r,pl,hz⟩ := I.list hS
 exact index_list_ints pl.isList (intsAre_of r) hl hk ⟨.int _,H,I.tok _,⟨_,rfl⟩,q⟩
theorem qe_index {t : TA} (ho : QE X o to) (ha : QA X [e] t) (h : notStar e = true := by rfl) (hbase : attributeBase o "index" X.env (eval o X.env) = eval o X.env := by rfl) (hline : (apos.endLine == pos.line) = true := by rfl) :
  QE X (.Call (.Attribute o "index" apos) [e] [] pos) (tBM X.K "list" (rIndex X.K) to t) := ⟨pe_bm PySem.F.plainAttrs_list PySem.F.slot_list_index PySem.F.type_list_index mt_index ho.run ha.run hbase (by rw [se_of h]; rfl) hline (se_of h) rfl⟩
theorem qe_indexK (K : PySem.W.Frag) (hK : X.K = K) {t : TA} (ho : QE X o to) (ha : QA X [e] t) (h : notStar e = true := by rfl) (hbase : attributeBase o "index" X.env (eval o X.env) = eval o X.env := by rfl) (hline : (apos.endLine == pos.line) = true := by rfl) :
  QE X (.Call (.Attribute o "index" apos) [e] [] pos) (tBM K "list" (rIndex K) to t) := by
 subst hK
 exact qe_index ho ha h hbase hline
theorem qcall_listK (K : PySem.W.Frag) (hK : X.K = K) : QCall X (.type "list") (fun xs H Q => ∃ p ys,xs = [.ref p] ∧ (SqL K H p ys ∨ SqT K H p ys) ∧ ∀ l,H l = none → Q (.ref l) (upd H l (.lst ys))) := by
 subst hK
 exact qcall_list
theorem qop_mulS : QOp X (binaryOp .Mult) (fun x y H Q => ∃ (z : Str) (n : Int),x = .str z ∧ y = .int n ∧ MulOk z n ∧ Q (.str (Txt.mul z n)) H) := ⟨by
 intro pins s σ H x y v u Q I rx ry h
 obtain ⟨z,n,rfl,rfl,hok,q⟩ := h
 obtain ⟨t,rfl⟩ := rx
 obtain ⟨t2,rfl⟩ := ry
 exact SB.mul hok fun t' k => ⟨.str _,H,I.kept (h' := s.heap) (t' := k) (fun _ _ e => e),⟨_,rfl⟩,q⟩⟩
theorem qop_addS : QOp X (binaryOp .Add) (fun x y H Q => ∃ i j,x = .str i ∧ y = .str j ∧ i.length + j.length ≤ sizeLine ∧ Q (.str (i ++ j)) H) := ⟨op_add_str⟩
theorem qcall_str : QCall X (.type "str") (fun xs H Q => ∃ i,xs = [.int i] ∧ i.natAbs.log2 < 1920 ∧ Q (.str (toString i)) H) := ⟨call_str_int⟩
theorem qix_str : QIx X rIxS := ⟨ix_str⟩
theorem bt_str : bootBuiltins "str" = some (.type "str") := by decide +kernel
def rSlS : V → Option Int → Option Int → Hp → VK → Prop := fun x lo hi H Q => ∃ z,x = .str z ∧ lo = none ∧ (∃ j,hi = some j) ∧ z.length ≤ sizeLine ∧ Q (.str (Txt.slice z lo hi)) H
theorem sl_strn : SlR X rSlS := by
 intro pins s σ H x v vl vu lo hi sl Q I rx hs pl pu h
 obtain ⟨z,rfl,rfl,⟨j,rfl⟩,hz,q⟩ := h
 obtain ⟨t,rfl⟩ := rx
 cases pl
 cases pu with
 | int i uj =>
  refine ⟨"str",_,PySem.F.slot_str_getitem.lookup,typeIs_str _ _ _,?_⟩
  exact wpAny_getItem_str_slice (l := none) (u := some (j,uj)) (st := none) hs rfl (post_val_or_str ⟨Nat.le_trans (Txt.slice_le z _ _) hz,fun t' k => ⟨.str _,H,I.kept (h' := s.heap) (t' := k) (fun _ _ e => e),⟨_,rfl⟩,q⟩⟩)
theorem qe_slS {lo hi : Option Expr} {tl th : TO} {p2 : Pos} (he : QE X e te) (hl : QO X lo tl) (hu : QO X hi th) : QE X (.Subscript e (.Slice lo hi none p2) pos) (tSl rSlS te tl th) := ⟨pe_slice sl_strn he.run hl.run hu.run⟩
theorem qop_notInL : QOp X (compareOp .NotIn) (rIn X.K true) := ⟨op_notIn_seq⟩
end
end L2
namespace L2
open PySem PySem.Spec PyProof.Rows
def Its (x : Str) : It := ⟨fun i _ => i < x.length,fun i H v H' => H' = H ∧ ∃ c,x.cps[i]? = some c ∧ v = .str ⟨#[c]⟩,fun i _ => i = x.length⟩
theorem turn_str {P : Program} {w : World} {K : PySem.W.Frag} {tg : Expr} (x : Str) (t : Tok) (it : Addr) : Turn P w K tg (Its x) [it] it (fun i h => h.IsStrIter it "str_ascii_iterator" x t i) where
 mem := by simp
 obj := fun i h st b hb => by
  have e : b = it := by simpa using hb
  subst e
  obtain ⟨o,e,c,d⟩ := st
  exact ⟨o,e,fun v z => by rw [d] at z; cases z⟩
 keep := fun i h h' st k => by
  obtain ⟨o,e,r⟩ := st
  exact ⟨o,k it (by simp) o e,r⟩
 item := by
  intro X hP hw hK hc i pins s σ H E I hf st hg
  subst hP hw hK
  have hi : i < x.cps.size := hg
  obtain ⟨f0,f1,f2,f3,f4,f5⟩ := hf it (by simp)
  refine wpAny_pyNext_ascii_item st (c := x.cps[i]) (by simp [hi]) fun h' st' hs => ?_
  have I1 : Inv X pins σ H { s with heap := h',toks := s.toks + 1 } := I.turned (t' := s.toks + 1) (fun b o hb e => hs.extBut b o hb e) f0 f1 f3 f4 f5
  obtain ⟨o,e,c,d⟩ := id st'
  exact ⟨_,rfl,go_of (s := { s with heap := h',toks := s.toks + 1 }) e c d (by decide) ⟨.str ⟨#[x.cps[i]]⟩,H,I1,⟨_,rfl⟩,⟨rfl,_,by simp [hi],rfl⟩,st',fun b hb => (hf b hb).1⟩⟩
 done := by
  intro X hP hw hK hc i pins s σ H E I hf st hg
  subst hP hw hK
  have hg' : i = x.length := hg
  subst hg'
  obtain ⟨f0,f1,f2,f3,f4,f5⟩ := hf it (by simp)
  exact wpAny_pyNext_ascii_end (I.ok.hd hc) st (by simp [Str.length]) fun h' eb => ⟨rfl,I.turned (t' := s.toks) (fun b o hb e => eb b o hb e) f0 f1 f3 f4 f5⟩
 self := fun _ _ _ _ _ st h => wpAny_pyIter_striter_ascii st h
def iStr (tl : TE) : TI := fun σ H R => tl σ H fun v H1 => ∃ x,v = .str x ∧ x.cps.all (· < 128) = true ∧ R (Its x) H1
section
variable {X : Cx} {pos apos : Pos} {o e tg : Expr} {to te : TE}
theorem pi_str {l : Expr} {tl : TE} (hl : PE X l tl) : PI X tg l (iStr tl) := by
 intro pins s σ H R I h
 refine thn (hl pins s σ H _ I h) fun v s1 ⟨x,H1,I1,r1,q1⟩ => ?_
 obtain ⟨z,rfl,ha,q⟩ := q1
 obtain ⟨t,rfl⟩ := r1
 refine wpAny_pyIter_ascii ha ?_
 refine ⟨s1.heap.objs.size,[s1.heap.objs.size],_,_,H1,rfl,I1.kept (t' := s1.toks) fun b o e => Heap.get?_push_of_some _ e,turn_str z t _,⟨_,Heap.get?_push_size _ rfl,rfl,rfl⟩,fun b hb => ?_,q⟩
 have e : b = s1.heap.objs.size := by simpa using hb
 subst e
 exact I1.fpOk (Nat.le_refl _) (I1.hok.fresh (Nat.le_refl _))
theorem qi_str {l : Expr} {tl : TE} (hl : QE X l tl) : QI X tg l (iStr tl) := ⟨pi_str hl.run⟩
end
section
variable {x : Str} {caps : List (Option Nat)} {g : TG} {te : TE} {σ : St} {H : Hp} {Q : VK}
theorem comp_str (Pv : Addr → Nat → Hp → Prop) (h0 : ∀ D,H D = none → Pv D 0 (upd H D (.lst [])))
  (hs : ∀ D i c H',H D = none → x.cps[i]? = some c → Pv D i H' → g (.str ⟨#[c]⟩) (seen caps σ) H' fun σ4 H4 => (∀ (k : Nat) v,(seen caps σ)[k]? = some (some v) → σ4[k]? = some (some v)) ∧
   te σ4 H4 fun y H6 => ∃ ys,H6 D = some (.lst ys) ∧ ys.length < sizeLine ∧ Pv D (i + 1) (upd H6 D (.lst (ys ++ [y]))))
  (hd : ∀ D H',H D = none → Pv D x.length H' → Q (.ref D) H') : cBody caps g tTrue te σ Q (Its x) H := by
 intro D hD
 refine ⟨fun i m H' => m = x.length - i ∧ i ≤ x.length ∧ Pv D i H',⟨x.length,by simp,Nat.zero_le _,h0 D hD⟩,?_⟩
 rintro i m H2 ⟨rfl,hi,p⟩
 by_cases hlt : i < x.length
 ·refine .inr ⟨hlt,Pv D (i + 1),fun H' p' => ⟨x.length - (i + 1),by omega,rfl,hlt,p'⟩,fun v H3 y => ?_⟩
  obtain ⟨rfl,c,hc,rfl⟩ := y
  have := hs D i c H3 hD hc p
  refine (?_ : g _ _ _ _)
  exact this
 ·have e : i = x.length := by omega
  subst e
  exact .inl ⟨rfl,hd D H2 hD p⟩
end
section
variable {X : Cx} {pos apos : Pos} {o e : Expr} {to : TE} {t : TA}
theorem vals_strs : ∀ l : List (Str × Tok),Vals ((l.map (·.1)).map V.str) (strValues l)
 | [] => .nil
 | (y,t) :: l => .cons ⟨t,rfl⟩ (vals_strs l)
def rSplit : V → List V → Hp → VK → Prop := fun x vs H Q => ∃ z sep,x = .str z ∧ vs = [.str sep] ∧ (sep.length == 0) = false ∧ z.length ≤ sizeLine ∧ (Builtin.Str.partsBetween z (Builtin.Str.occurrences z sep 0 z.length (z.length + 1)) sep.length).length ≤ sizeLine ∧ (Txt.split z sep).length ≤ sizeLine ∧ ∀ l,H l = none → Q (.ref l) (upd H l (.lst ((Txt.split z sep).map V.str)))
theorem mt_split : MtR X "str.split" rSplit := by
 intro pins s σ H x vs v us Q I rx rv h
 obtain ⟨z,sep,rfl,rfl,hy,hz,hz2,hz3,q⟩ := h
 obtain ⟨t,rfl⟩ := rx
 obtain ⟨u',rfl,u,rfl⟩ := vals1 rv
 have fin : ∀ (l : List (Str × Tok)) (k : Nat),l.map (·.1) = Txt.split z sep → EP X pins σ Q (.ref s.heap.objs.size) { s with heap := s.heap.push { cls := .type "list",data := .seq (strValues l).toArray },toks := k } := fun l k e => by
  refine ⟨.ref s.heap.objs.size,_,I.laid (t' := k) (fun b o e => Heap.get?_push_of_some _ e) (Nat.le_refl _) (show ObjOk X.prog X.w _ _ _ (.lst ((Txt.split z sep).map V.str)) from ⟨by rw [List.length_map]; exact hz3,strValues l,0,?_,Heap.get?_push_size _ rfl⟩),rfl,q _ (I.hok.fresh (Nat.le_refl _))⟩
  rw [← e]
  exact vals_strs l
 cases h1 : (decide (z.length < sep.length) || decide (Builtin.Str.strKind z < Builtin.Str.strKind sep))
 ·cases hf : (Builtin.Str.occurrences z sep 0 z.length (z.length + 1)).isEmpty
  ·refine call_meets F.slot_str_split (typeIs_str _ _ _) F.entry_str_split (F.args_str_split_2 _ _) (meets_str_split_sep z sep t u h1 hy hf hz hz2) ?_
   show wants _ _ _ { s with toks := _,heap := s.heap.push { cls := .type "list",data := .seq (strsFrom s.toks (Builtin.Str.partsBetween z (Builtin.Str.occurrences z sep 0 z.length (z.length + 1)) sep.length)).toArray } }
   rw [strsFrom_eq]
   exact fin (numbered s.toks _) _ ((numbered_texts _ _).trans ((if_neg (ne_true_of_eq_false h1)).trans (if_neg (ne_true_of_eq_false hf))).symm)
  ·exact call_meets F.slot_str_split (typeIs_str _ _ _) F.entry_str_split (F.args_str_split_2 _ _) (meets_str_split_not_found z sep t u h1 hy hf) (fin [(z,t)] _ ((if_neg (ne_true_of_eq_false h1)).trans (if_pos hf)).symm)
 ·exact call_meets F.slot_str_split (typeIs_str _ _ _) F.entry_str_split (F.args_str_split_2 _ _) (meets_str_split_cannot_occur z sep t u h1) (fin [(z,t)] _ (if_pos h1).symm)
theorem qe_split (K : PySem.W.Frag) (hK : X.K = K) (ho : QE X o to) (ha : QA X [e] t) (h : notStar e = true := by rfl) (hbase : attributeBase o "split" X.env (eval o X.env) = eval o X.env := by rfl) (hline : (apos.endLine == pos.line) = true := by rfl) :
  QE X (.Call (.Attribute o "split" apos) [e] [] pos) (tBM K "str" rSplit to t) := by
 subst hK
 exact ⟨pe_bm PySem.F.plainAttrs_str PySem.F.slot_str_split PySem.F.type_str_split mt_split ho.run ha.run hbase (by rw [se_of h]; rfl) hline (se_of h) rfl⟩
def rPart : V → List V → Hp → VK → Prop := fun x vs H Q => ∃ z sep,x = .str z ∧ vs = [.str sep] ∧ (sep.length == 0) = false ∧ z.length ≤ sizeLine ∧ ∀ l,H l = none → Q (.ref l) (upd H l (.tup [.str (Txt.partition z sep).1,.str (Txt.partition z sep).2.1,.str (Txt.partition z sep).2.2]))
theorem mt_part : MtR X "str.partition" rPart := by
 intro pins s σ H x vs v us Q I rx rv h
 obtain ⟨z,sep,rfl,rfl,hy,hz,q⟩ := h
 obtain ⟨t,rfl⟩ := rx
 obtain ⟨u',rfl,u,rfl⟩ := vals1 rv
 have fin : ∀ (ta tb tc : Tok) (k : Nat),EP X pins σ Q (.ref s.heap.objs.size) { s with heap := s.heap.push { cls := .type "tuple",data := .seq [.str (Txt.partition z sep).1 ta,.str (Txt.partition z sep).2.1 tb,.str (Txt.partition z sep).2.2 tc].toArray },toks := k } := fun ta tb tc k => by
  refine ⟨.ref s.heap.objs.size,_,I.laid (t' := k) (fun b o e => Heap.get?_push_of_some _ e) (Nat.le_refl _) (show ObjOk X.prog X.w _ _ _ (.tup [.str (Txt.partition z sep).1,.str (Txt.partition z sep).2.1,.str (Txt.partition z sep).2.2]) from ⟨(by show 3 ≤ sizeLine; decide),[.str (Txt.partition z sep).1 ta,.str (Txt.partition z sep).2.1 tb,.str (Txt.partition z sep).2.2 tc],.cons ⟨_,rfl⟩ (.cons ⟨_,rfl⟩ (.cons ⟨_,rfl⟩ .nil)),_,Heap.get?_push_size _ rfl,rfl,_,rfl⟩),rfl,q _ (I.hok.fresh (Nat.le_refl _))⟩
 refine call_meets F.slot_str_partition (typeIs_str _ _ _) F.entry_str_partition (F.args_str_partition_2 _ _) (meets_str_partition z sep t u hy hz) ?_
 have h' := fin
 unfold Txt.partition at h'
 revert h'
 cases Builtin.Str.occurrences z sep 0 z.length 1 with
 | nil => intro h'; exact h' _ _ _ _
 | cons i r => intro h'; exact h' _ _ _ _
theorem qe_part (K : PySem.W.Frag) (hK : X.K = K) (ho : QE X o to) (ha : QA X [e] t) (h : notStar e = true := by rfl) (hbase : attributeBase o "partition" X.env (eval o X.env) = eval o X.env := by rfl) (hline : (apos.endLine == pos.line) = true := by rfl) :
  QE X (.Call (.Attribute o "partition" apos) [e] [] pos) (tBM K "str" rPart to t) := by
 subst hK
 exact ⟨pe_bm PySem.F.plainAttrs_str PySem.F.slot_str_partition PySem.F.type_str_partition mt_part ho.run ha.run hbase (by rw [se_of h]; rfl) hline (se_of h) rfl⟩
theorem op_in_sign : OpR X (compareOp .In) (fun x y H Q => ∃ (c : Nat) (j : Str),x = .str ⟨#[c]⟩ ∧ y = .str j ∧ Q (.bl (decide (c ∈ j.cps.toList))) H) := by
 intro pins s σ H x y v u Q I rx ry h
 obtain ⟨c,j,rfl,rfl,q⟩ := h
 obtain ⟨t,rfl⟩ := rx
 obtain ⟨t',rfl⟩ := ry
 rw [← StrLaws.found_one] at q
 exact in_str ⟨.bl _,H,I,rfl,q⟩
theorem qop_inS : QOp X (compareOp .In) (fun x y H Q => ∃ (c : Nat) (j : Str),x = .str ⟨#[c]⟩ ∧ y = .str j ∧ Q (.bl (decide (c ∈ j.cps.toList))) H) := ⟨op_in_sign⟩
theorem call_lenS : CallR X (.builtin "len") (fun xs H Q => ∃ z : Str,xs = [.str z] ∧ z.length ≤ sizeLine ∧ Q (.int z.length) H) := by
 intro pins s σ H xs us Q I r h
 obtain ⟨z,rfl,hz,q⟩ := h
 obtain ⟨u,rfl,t,rfl⟩ := vals1 r
 have hn := line63
 exact len_str (by omega) ⟨.int z.length,H,I.tok _,⟨_,rfl⟩,q⟩
theorem qcall_lenS : QCall X (.builtin "len") (fun xs H Q => ∃ z : Str,xs = [.str z] ∧ z.length ≤ sizeLine ∧ Q (.int z.length) H) := ⟨call_lenS⟩
theorem call_intS : CallR X (.type "int") (fun xs H Q => ∃ (z : Str) (n : Int),xs = [.str z] ∧ PySem.intText? z = some n ∧ z.length ≤ 640 ∧ Q (.int n) H) := by
 intro pins s σ H xs us Q I r h
 obtain ⟨z,n,rfl,hn,hz,q⟩ := h
 obtain ⟨u,rfl,t,rfl⟩ := vals1 r
 exact PySem.W.KIN.call_text hn hz ⟨.int n,H,I.tok _,⟨_,rfl⟩,q⟩
theorem qcall_intS : QCall X (.type "int") (fun xs H Q => ∃ (z : Str) (n : Int),xs = [.str z] ∧ PySem.intText? z = some n ∧ z.length ≤ 640 ∧ Q (.int n) H) := ⟨call_intS⟩
def rIndexS (K : PySem.W.Frag) : V → List V → Hp → VK → Prop := fun x vs H Q => ∃ (l : Addr) (z : Str) (ys : List Str),x = .ref l ∧ vs = [.str z] ∧ SqL K H l (ys.map V.str) ∧ z ∈ ys ∧ ys.length ≤ sizeLine ∧ Q (.int ((ys.idxOf z : Nat) : Int)) H
theorem flat_strs (ys : List Str) : (ys.map V.str).all flatV = true := by
 rw [List.all_eq_true]
 intro y hy
 obtain ⟨z,_,rfl⟩ := List.mem_map.mp hy
 rfl
theorem mt_indexS : MtR X "list.index" (rIndexS X.K) := by
 intro pins s σ H x vs v us Q I rx rv h
 obtain ⟨l,z,ys,rfl,rfl,hS,hk,hl,q⟩ := h
 cases rx
 obtain ⟨u',rfl,u,rfl⟩ := vals1 rv
 obtain ⟨its,r,pl,hz⟩ := I.list hS
 obtain ⟨⟨cls,dd,data,sl⟩,ho,hc,n,hd⟩ := pl.isList
 simp only at hc hd
 subst hc hd
 have hlen := r.length
 rw [List.length_map] at hlen
 have hj : ys.idxOf z < ys.length := List.idxOf_lt_length_iff.mpr hk
 have hn := line63
 have at_ : ∀ (i : Nat) (h1 : i < its.toArray.size) (h2 : i < ys.length),eqU (.str z) (its.toArray[i]) = decide (ys[i] = z) := fun i h1 h2 => by
  have e1 : (ys.map V.str)[i]? = some (.str ys[i]) := by rw [List.getElem?_map,List.getElem?_eq_getElem h2]; rfl
  obtain ⟨w,hw,rw'⟩ := r.get e1
  obtain ⟨tw,rfl⟩ := rw'
  have : its.toArray[i] = .str ys[i] tw := by
   have := (List.getElem?_eq_some_iff.mp hw).2
   simpa using this
  rw [this]
  show (ys[i] == z) = _
  rw [Bool.eq_iff_iff,beq_iff_eq,decide_eq_true_eq]
 refine call_meets PySem.F.slot_list_index ⟨_,ho,rfl⟩ PySem.F.entry_list_index (PySem.F.args_list_index_2 _ _)
  (SeqAt.list_indexAt l its.toArray n dd sl (.str z u) (eqU (.str z)) (ys.idxOf z) (by simp; omega) (by omega) ?_ ?_) ⟨ho,fun y hy => mem_eqAt (x := .str z) ⟨u,rfl⟩ rfl r (flat_strs ys) y (by simpa using hy),⟨.int _,H,I.tok _,⟨_,rfl⟩,q⟩⟩
 ·rw [at_ _ (by simp; omega) hj]
  simp [List.getElem_idxOf hj]
 ·intro j hjs hlt
  rw [at_ j hjs (by simp at hjs; omega)]
  refine decide_eq_false fun e => ?_
  have := List.not_of_lt_findIdx (xs := ys) (p := (· == z)) (i := j) hlt
  simp [e] at this
theorem qe_indexS (K : PySem.W.Frag) (hK : X.K = K) (ho : QE X o to) (ha : QA X [e] t) (h : notStar e = true := by rfl) (hbase : attributeBase o "index" X.env (eval o X.env) = eval o X.env := by rfl) (hline : (apos.endLine == pos.line) = true := by rfl) :
  QE X (.Call (.Attribute o "index" apos) [e] [] pos) (tBM K "list" (rIndexS K) to t) := by
 subst hK
 exact ⟨pe_bm PySem.F.plainAttrs_list PySem.F.slot_list_index PySem.F.type_list_index mt_indexS ho.run ha.run hbase (by rw [se_of h]; rfl) hline (se_of h) rfl⟩
theorem qe_gStr {x : Str} {z : Str} {tk : Tok} (hg : Gl X x) (hm : X.mg x = some (.str z tk)) (hd : (x == ("__debug__" : Str)) = false := by decide) : QE X (.Name x pos) (tC (.str z)) := ⟨pe_glob hg hm ⟨_,rfl⟩ hd⟩
theorem qe_gInt {x : Str} {z : Int} {tk : Tok} (hg : Gl X x) (hm : X.mg x = some (.int z tk)) (hd : (x == ("__debug__" : Str)) = false := by decide) : QE X (.Name x pos) (tC (.int z)) := ⟨pe_glob hg hm ⟨_,rfl⟩ hd⟩
end
end L2
namespace L2
open PySem PySem.Spec PyProof.Rows
theorem any_range (bs : List Bool) : ((List.range bs.length).any fun i => (bs[i]?).getD true) = bs.any id := by
 rw [Bool.eq_iff_iff,List.any_eq_true,List.any_eq_true]
 constructor
 ·rintro ⟨i,hi,h⟩
  have hi' := List.mem_range.mp hi
  rw [List.getElem?_eq_getElem hi'] at h
  exact ⟨_,List.getElem_mem hi',h⟩
 ·rintro ⟨x,hx,h⟩
  obtain ⟨i,hi,e⟩ := List.mem_iff_getElem.mp hx
  refine ⟨i,List.mem_range.mpr hi,?_⟩
  rw [List.getElem?_eq_getElem hi,e]
  exact h
section
variable {X : Cx}
theorem call_any (hc : X.calm = true) : CallR X (.builtin "any") (fun xs H Q => ∃ (p : Addr) (bs : List Bool),xs = [.ref p] ∧ SqL X.K H p (bs.map V.bl) ∧ Q (.bl (bs.any id)) H) := by
 intro pins s σ H xs us Q I r h
 obtain ⟨p,bs,rfl,hS,q⟩ := h
 obtain ⟨u,rfl,ru⟩ := vals1 r
 cases ru
 obtain ⟨its,rv,pl,hz⟩ := I.list hS
 have hl := pl.isList
 have hlt : p < s.heap.objs.size := by obtain ⟨_,e,_⟩ := hl; exact Heap.lt_size e
 refine call_any_walk (wpAny_pyIter_list hl ?_)
 refine ⟨s.heap.objs.size,[s.heap.objs.size,p],[s.heap.objs.size],its.toArray.size,_,_,fun i => (bs[i]?).getD true,rfl,Walks.list (A := X.A.in1) (I.ok.hd hc) _ p (Nat.ne_of_lt hlt) its.toArray,
  ⟨⟨_,Heap.get?_push_size _ rfl,rfl,rfl⟩,hl.push _⟩,fun i v s' Q' E' hP hQ => ?_,fun h' tk hk => ?_⟩
 ·obtain ⟨k,e,rfl⟩ := vals_bl rv (i := i) (v := v) (by simpa using hP)
  simp only [e,Option.getD_some] at hQ
  exact wpAny_truthy_bool hQ
 ·have e : ((List.range its.toArray.size).any fun i => (bs[i]?).getD true) = bs.any id := by
   have hl2 := rv.length
   rw [List.length_map] at hl2
   rw [List.size_toArray,← hl2]
   exact any_range bs
  rw [e]
  have keep : ∀ b x,s.heap.get? b = some x → h'.get? b = some x := fun b x e => hk b x (fun hm => by rw [List.mem_singleton.mp hm] at e; exact Nat.lt_irrefl _ (Heap.lt_size e)) (Heap.get?_push_of_some _ e)
  exact ⟨.bl (bs.any id),H,I.kept (t' := tk) keep,rfl,q⟩
theorem bt_any : bootBuiltins "any" = some (.builtin "any") := by decide +kernel
theorem qcall_any (hc : X.calm = true) : QCall X (.builtin "any") (fun xs H Q => ∃ (p : Addr) (bs : List Bool),xs = [.ref p] ∧ SqL X.K H p (bs.map V.bl) ∧ Q (.bl (bs.any id)) H) := ⟨call_any hc⟩
end
end L2
namespace My
open PySem L2
open PyProof.Rows (toString_length_le)
open Ma (T3 T4 rA rB rC)
def top (i : Nat) : Stmt := PySem.Challenge.pw_fordbook_k81_a_shown_net_read.main.body.getD i (.Pass ⟨0,0,0,0⟩)
abbrev st_is_whole : Stmt := top 4
theorem sc_is_whole : FnScope ["thing"] ["thing"] (defScope st_is_whole) := ⟨rfl,rfl,rfl,by decide +kernel,rfl,by decide +kernel,by decide +kernel⟩
abbrev st_is_window : Stmt := top 5
theorem sc_is_window : FnScope ["day","thing"] ["day","thing"] (defScope st_is_window) := ⟨rfl,rfl,rfl,by decide +kernel,rfl,by decide +kernel,by decide +kernel⟩
abbrev st_read_number : Stmt := top 11
theorem sc_read_number : FnScope ["text","most_figures"] ["text","most_figures"] (defScope st_read_number) := ⟨rfl,rfl,rfl,by decide +kernel,rfl,by decide +kernel,by decide +kernel⟩
abbrev st_is_name : Stmt := top 12
theorem sc_is_name : FnScope ["text"] ["text"] (defScope st_is_name) := ⟨rfl,rfl,rfl,by decide +kernel,rfl,by decide +kernel,by decide +kernel⟩
abbrev st_read_ends : Stmt := top 13
theorem sc_read_ends : FnScope ["text","parts"] ["text"] (defScope st_read_ends) := ⟨rfl,rfl,rfl,by decide +kernel,rfl,by decide +kernel,by decide +kernel⟩
abbrev st_read_span : Stmt := top 14
theorem sc_read_span : FnScope ["text","parts","a","b"] ["text"] (defScope st_read_span) := ⟨rfl,rfl,rfl,by decide +kernel,rfl,by decide +kernel,by decide +kernel⟩
abbrev st_read_window : Stmt := top 15
theorem sc_read_window : FnScope ["day","text","parts","span","ride","window"] ["day","text"] (defScope st_read_window) := ⟨rfl,rfl,rfl,by decide +kernel,rfl,by decide +kernel,by decide +kernel⟩
abbrev st_read_day : Stmt := top 16
theorem sc_read_day : FnScope ["text","parts","day"] ["text"] (defScope st_read_day) := ⟨rfl,rfl,rfl,by decide +kernel,rfl,by decide +kernel,by decide +kernel⟩
abbrev st_read_board : Stmt := top 17
theorem sc_read_board : FnScope ["day","words","board"] ["day","words"] (defScope st_read_board) := ⟨rfl,rfl,rfl,by decide +kernel,rfl,by decide +kernel,by decide +kernel⟩
abbrev st_number_of : Stmt := top 18
theorem sc_number_of : FnScope ["names","name"] ["names","name"] (defScope st_number_of) := ⟨rfl,rfl,rfl,by decide +kernel,rfl,by decide +kernel,by decide +kernel⟩
abbrev st_read_net : Stmt := top 19
theorem sc_read_net : FnScope ["text","parts","day","names","roads","part","words","ends","board","start"] ["text"] (defScope st_read_net) := ⟨rfl,rfl,rfl,by decide +kernel,rfl,by decide +kernel,by decide +kernel⟩
abbrev st_show_window : Stmt := top 20
theorem sc_show_window : FnScope ["a","b","c"] ["a","b","c"] (defScope st_show_window) := ⟨rfl,rfl,rfl,by decide +kernel,rfl,by decide +kernel,by decide +kernel⟩
abbrev st_show_board : Stmt := top 21
theorem sc_show_board : FnScope ["board"] ["board"] (defScope st_show_board) := ⟨rfl,rfl,rfl,by decide +kernel,rfl,by decide +kernel,by decide +kernel⟩
abbrev st_show_road : Stmt := top 22
theorem sc_show_road : FnScope ["start","end","board","windows"] ["start","end","board"] (defScope st_show_road) := ⟨rfl,rfl,rfl,by decide +kernel,rfl,by decide +kernel,by decide +kernel⟩
abbrev st_show_net : Stmt := top 23
theorem sc_show_net : FnScope ["day","names","roads"] ["day","names","roads"] (defScope st_show_net) := ⟨rfl,rfl,rfl,by decide +kernel,rfl,by decide +kernel,by decide +kernel⟩
abbrev st__law_cell : Stmt := top 25
theorem sc__law_cell : FnScope ["script","k"] ["script","k"] (defScope st__law_cell) := ⟨rfl,rfl,rfl,by decide +kernel,rfl,by decide +kernel,by decide +kernel⟩
abbrev st__law_day : Stmt := top 26
theorem sc__law_day : FnScope ["cell","rest"] ["cell"] (defScope st__law_day) := ⟨rfl,rfl,rfl,by decide +kernel,rfl,by decide +kernel,by decide +kernel⟩
abbrev st__law_whole : Stmt := top 27
theorem sc__law_whole : FnScope ["thing"] ["thing"] (defScope st__law_whole) := ⟨rfl,rfl,rfl,by decide +kernel,rfl,by decide +kernel,by decide +kernel⟩
abbrev st__law_is_window : Stmt := top 28
theorem sc__law_is_window : FnScope ["day","thing","part"] ["day","thing"] (defScope st__law_is_window) := ⟨rfl,rfl,rfl,by decide +kernel,rfl,by decide +kernel,by decide +kernel⟩
abbrev st__law_size : Stmt := top 30
theorem sc__law_size : FnScope ["cell"] ["cell"] (defScope st__law_size) := ⟨rfl,rfl,rfl,by decide +kernel,rfl,by decide +kernel,by decide +kernel⟩
abbrev st__law_road_window : Stmt := top 31
theorem sc__law_road_window : FnScope ["day","one","two","three","a","rest","b","c"] ["day","one","two","three"] (defScope st__law_road_window) := ⟨rfl,rfl,rfl,by decide +kernel,rfl,by decide +kernel,by decide +kernel⟩
abbrev st__law_net : Stmt := top 32
theorem sc__law_net : FnScope ["day","size","goal","cells","roads","k","head","start"] ["day","size","goal","cells"] (defScope st__law_net) := ⟨rfl,rfl,rfl,by decide +kernel,rfl,by decide +kernel,by decide +kernel⟩
abbrev st__law_copy : Stmt := top 33
theorem sc__law_copy : FnScope ["roads"] ["roads"] (defScope st__law_copy) := ⟨rfl,rfl,rfl,by decide +kernel,rfl,by decide +kernel,by decide +kernel⟩
abbrev st__law_roads : Stmt := top 34
theorem sc__law_roads : FnScope ["day","size","goal","script","cell","many"] ["day","size","goal","script"] (defScope st__law_roads) := ⟨rfl,rfl,rfl,by decide +kernel,rfl,by decide +kernel,by decide +kernel⟩
abbrev st__law_names : Stmt := top 35
theorem sc__law_names : FnScope ["cell","many","letters","size","at","names","k","rest","name","j","place"] ["cell","many"] (defScope st__law_names) := ⟨rfl,rfl,rfl,by decide +kernel,rfl,by decide +kernel,by decide +kernel⟩
abbrev st__law_as_they_come : Stmt := top 36
theorem sc__law_as_they_come : FnScope ["roads","order","start","end","board","place"] ["roads"] (defScope st__law_as_they_come) := ⟨rfl,rfl,rfl,by decide +kernel,rfl,by decide +kernel,by decide +kernel⟩
abbrev st__law_many : Stmt := top 37
theorem sc__law_many : FnScope ["roads","most","start","end","board"] ["roads"] (defScope st__law_many) := ⟨rfl,rfl,rfl,by decide +kernel,rfl,by decide +kernel,by decide +kernel⟩
abbrev st__law_text : Stmt := top 38
theorem sc__law_text : FnScope ["day","names","roads","text","start","end","board","a","b","c"] ["day","names","roads"] (defScope st__law_text) := ⟨rfl,rfl,rfl,by decide +kernel,rfl,by decide +kernel,by decide +kernel⟩
abbrev st__law_net_by : Stmt := top 39
theorem sc__law_net_by : FnScope ["day","script","size","roads"] ["day","script"] (defScope st__law_net_by) := ⟨rfl,rfl,rfl,by decide +kernel,rfl,by decide +kernel,by decide +kernel⟩
abbrev st__law_formed : Stmt := top 40
theorem sc__law_formed : FnScope ["day","found","name","road","window"] ["day","found"] (defScope st__law_formed) := ⟨rfl,rfl,rfl,by decide +kernel,rfl,by decide +kernel,by decide +kernel⟩
abbrev st_law : Stmt := top 41
theorem sc_law : FnScope ["script","day","roads","names","text","found","road"] ["script"] (defScope st_law) := ⟨rfl,rfl,rfl,by decide +kernel,rfl,by decide +kernel,by decide +kernel⟩
theorem cx_k {CX : CXT} {P : Program} {w : World} {K : PySem.W.Frag} {mg : Str → Option Value} {base : Heap} {N : List Str} {qual : Str} {scope : Scope} {f : Addr} {cd : Value} {A : Around} {outer : List Env} {s : Shared} {H : Hp} {E : XK} : (cxOf CX P w K mg base N qual scope f cd A outer s H E).K = K := rfl
theorem cx_kn {CX : CXT} {P : Program} {w : World} {K : PySem.W.Frag} {mg : Str → Option Value} {base : Heap} {N : List Str} {qual : Str} {scope : Scope} {f : Addr} {cd : Value} {A : Around} {outer : List Env} {s : Shared} {H : Hp} {E : XK} : (cxOf CX P w K mg base N qual scope f cd A outer s H E).nox.K = K := rfl
theorem bl_1 {us : List Value} (h : us.length = 1) : ∃ a0 : Value,us = [a0] := match us,h with | [_],_ => ⟨_,rfl⟩
theorem bl_2 {us : List Value} (h : us.length = 2) : ∃ a0 a1 : Value,us = [a0,a1] := match us,h with | [_,_],_ => ⟨_,_,rfl⟩
theorem bl_3 {us : List Value} (h : us.length = 3) : ∃ a0 a1 a2 : Value,us = [a0,a1,a2] := match us,h with | [_,_,_],_ => ⟨_,_,_,rfl⟩
theorem bl_4 {us : List Value} (h : us.length = 4) : ∃ a0 a1 a2 a3 : Value,us = [a0,a1,a2,a3] := match us,h with | [_,_,_,_],_ => ⟨_,_,_,_,rfl⟩
theorem as_nil (env : Env) : (assignEach [] env).length = 0 := rfl
theorem as_name (x : Str) (p : Pos) (l : List Expr) (env : Env) : (assignEach (.Name x p :: l) env).length = (assignEach l env).length + 1 := rfl
structure Bl (mg : Str → Option Value) : Prop where
 len : mg "len" = none
 max : mg "max" = none
 min : mg "min" = none
 all : mg "all" = none
 any : mg "any" = none
 range : mg "range" = none
 isinstance : mg "isinstance" = none
 bool_ : mg "bool" = none
 int_ : mg "int" = none
 tuple_ : mg "tuple" = none
 list_ : mg "list" = none
 str_ : mg "str" = none
def spLaw (K : PySem.W.Frag) : Sp := fun vs H Q _ => ∃ (a : Addr) (ns : List Int),vs = [.ref a] ∧ SqL K H a (ns.map V.int) ∧ ns.length ≤ 63 ∧ ∀ H',Q (.bl true) H'
theorem emod_b (x : Int) {m : Int} (h : 0 < m) : 0 ≤ x % m ∧ x % m < m := ⟨Int.emod_nonneg x (by omega),Int.emod_lt_of_pos x h⟩
section
variable {P : Program} {w : World} {K : PySem.W.Frag} {mg : Str → Option Value} {base : Heap} {f : Addr} {fd : FuncData} {n : Nat}
theorem ok_is_whole (F : Fun K "is_whole" "is_whole" st_is_whole f fd) (B : Bl mg) : FnOk P w K mg base CX0 (n + 1) f fd ["thing"] spIsWhole := by
 refine F.okQ sc_is_whole (fun vs H Q E h => ?_) (fun cdv A outer s H vs Q E hr h => ?_)
 ·obtain ⟨_,rfl,_⟩ := h
  rfl
 obtain ⟨x,rfl,dv,q⟩ := h
 refine ⟨_,(qss_one (qs_ret (qe_and (qe_cb qcall_isi rfl B.isinstance bt_isinstance (qa_c (qv 0) (qa_c (qe_bltn (v := .ty "int") rfl B.int_ bt_int rfl) qa_nil))) (qe_one (qe_not (qe_cb qcall_isi rfl B.isinstance bt_isinstance (qa_c (qv 0) (qa_c (qe_bltn (v := .ty "bool") rfl B.bool_ bt_bool rfl) qa_nil)))))))),?_⟩
 try dsimp only [cx_k,cx_kn,as_nil,as_name,Nat.reduceAdd]
 cases dv with
 | non => exact ⟨_,rfl,_,"int",_,_,rfl,.non,rfl,_,rfl,iteF q⟩
 | bl b => exact ⟨_,rfl,_,"int",_,_,rfl,.bl _,rfl,_,rfl,iteT ⟨_,rfl,_,"bool",_,_,rfl,.bl _,rfl,_,rfl,q⟩⟩
 | int i => exact ⟨_,rfl,_,"int",_,_,rfl,.int _,rfl,_,rfl,iteT ⟨_,rfl,_,"bool",_,_,rfl,.int _,rfl,_,rfl,q⟩⟩
 | str z => exact ⟨_,rfl,_,"int",_,_,rfl,.str _,rfl,_,rfl,iteF q⟩
 | lst e => exact ⟨_,rfl,_,"int",_,_,rfl,.lst e,rfl,_,rfl,iteF q⟩
 | tup e => exact ⟨_,rfl,_,"int",_,_,rfl,.tup e,rfl,_,rfl,iteF q⟩
theorem ok_is_window (F : Fun K "is_window" "is_window" st_is_window f fd) (B : Bl mg) (C_is_whole : Callee P w K mg base n "is_whole" ["thing"] spIsWhole) : FnOk P w K mg base CX0 (n + 1) f fd ["day","thing"] spWindow := by
 refine F.okQ sc_is_window (fun vs H Q E h => ?_) (fun cdv A outer s H vs Q E hr h => ?_)
 ·obtain ⟨_,_,rfl,_⟩ := h
  rfl
 obtain ⟨day,x,rfl,dv,q⟩ := h
 refine ⟨_,(qss_cons (qs_if (QW.pt (qw_or (qt_not (qt_val (qe_cb qcall_isi rfl B.isinstance bt_isinstance (qa_c (qv 1) (qa_c (qe_bltn (v := .ty "tuple") rfl B.tuple_ bt_tuple rfl) qa_nil))))) (qw_or1 (qt_cmpR qop_ne (qe_cb qcall_len rfl B.len bt_len (qa_c (qv 1) qa_nil)) qe_int (nomark _))))) (qss_one (qs_ret qe_bl)) qss_nil) (qss_cons (qs_if (qt_not (qt_val (qe_cb (qcall_all rfl) rfl B.all bt_all (qa_c (qe_comp ["part"] [none] (BlkOk.of rfl rfl (SubL.to subN) rfl) rfl (qi_tup (qv 1)) (fun _ _ _ _ => (qg_name (i := 0) (show (["part"] : List Str).Nodup by decide) rfl (Or.inl rfl))) (fun _ _ _ _ => (qe_fn C_is_whole hr rfl (qa_c (qv 0) qa_nil)))) qa_nil)))) (qss_one (qs_ret qe_bl)) qss_nil) (qss_one (qs_ret (qe_and (qe_chain3 qop_le qop_le qop_lt qe_int (qe_ix qix_tup (qv 1) qe_int (fun _ _ => rfl)) (qe_ix qix_tup (qv 1) qe_int (fun _ _ => rfl)) (qv 0)) (qe_one (qe_cmpR qop_ge (qe_ix qix_tup (qv 1) qe_int (fun _ _ => rfl)) qe_int (nomark _)))))))),?_⟩
 try dsimp only [cx_k,cx_kn,as_nil,as_name,Nat.reduceAdd]
 obtain ⟨t,hty,hk⟩ := dv.1.isTup (K := K)
 have q0 : winV H day x = false → ∀ H',Same H H' → Q (.bl false) H' := fun e H' s => by
  have := q H' s
  rw [e] at this
  exact this
 cases ht : tupV H x with
 | none =>
  rw [ht] at hk
  have hw : winV H day x = false := by unfold winV; rw [ht]
  exact ⟨_,rfl,_,"tuple",t,_,rfl,hty,hk,_,rfl,iteT (iteT (q0 hw _ (Same.refl H)))⟩
 | some xs =>
  rw [ht] at hk
  have hwl : winV H day x = winL day xs := by unfold winV; rw [ht]
  have dz := dv.2 xs ht
  obtain ⟨r,rfl,er⟩ := tupV_at ht
  refine ⟨_,rfl,_,"tuple",t,_,rfl,hty,hk,_,rfl,iteF ?_⟩
  refine ⟨_,rfl,r,xs,rfl,.inr (SqT.of er),rfl,_,rfl,?_⟩
  by_cases hl : xs.length = 3
  ·obtain ⟨u,v,w',rfl⟩ := three hl
   refine iteN (by simp) ?_
   refine ⟨_,rfl,r,rfl,⟨_,SqT.of er⟩,?_⟩
   refine comp_tup0 (K := K) (a := r) (xs := [u,v,w']) (fun D i H' => Same H H' ∧ H' D = some (.lst ((([u,v,w'] : List V).take i).map fun y => V.bl (isWh y)))) (fun D hD => ⟨same_new hD _,upd_same⟩) (fun D i H' _ _ h => SqT.of (h.1 _ _ er)) ?_ ?_
   ·rintro D i y H' hD hi ⟨s2,hD2⟩
    refine ⟨fun k v' e => ?_,_,rfl,y,rfl,(dz y (List.mem_of_getElem? hi)).same s2,_,hD2,(by rw [List.length_map,List.length_take]; exact small1000 (by simp; omega)),fun b o eb => ?_,?_⟩
    ·match k,e with
     | 0,e => cases e
     | k + 1,e => cases e
    ·rw [upd_ne (ne_of_none eb hD)]
     exact s2 _ _ eb
    ·rw [upd_same,take_snoc _ hi]
   ·rintro D H' hD ⟨s2,hD2⟩
    have eD : H' D = some (.lst (([isWh u,isWh v,isWh w'] : List Bool).map V.bl)) := hD2
    refine ⟨D,_,rfl,SqL.of eD,_,rfl,?_⟩
    refine ite2 (fun c => ?_) (fun c => ?_)
    ·refine q0 ?_ H' s2
     rw [hwl]
     have c' : (isWh u && (isWh v && isWh w')) = false := by cases hu : isWh u <;> cases hv : isWh v <;> cases hw : isWh w' <;> simp [hu,hv,hw] at c ⊢
     unfold winL
     split
     ·rename_i a b c e
      cases e
      exact absurd c' (by simp [isWh])
     ·rfl
    ·have c' : isWh u = true ∧ isWh v = true ∧ isWh w' = true := by simpa using c
     obtain ⟨a,rfl⟩ := isWh_int c'.1
     obtain ⟨b,rfl⟩ := isWh_int c'.2.1
     obtain ⟨c3,rfl⟩ := isWh_int c'.2.2
     have q1 := q H' s2
     rw [hwl] at q1
     have er' := s2 _ _ er
     unfold winL at q1
     dsimp only at q1
     refine ⟨_,rfl,r,_,_,_,rfl,rfl,SqT.of er',rfl,_,_,rfl,rfl,_,rfl,?_⟩
     refine ite2 (fun c1 => ?_) (fun c1 => ?_)
     ·rw [c1,Bool.true_and] at q1
      refine ⟨_,rfl,r,_,_,_,rfl,rfl,SqT.of er',rfl,_,_,rfl,rfl,_,rfl,?_⟩
      refine ite2 (fun c2 => ?_) (fun c2 => ?_)
      ·rw [c2,Bool.true_and] at q1
       refine ⟨_,rfl,_,_,rfl,rfl,_,rfl,?_⟩
       refine ite2 (fun c3 => ?_) (fun c3 => ?_)
       ·rw [c3,Bool.true_and] at q1
        exact ⟨_,rfl,r,_,_,_,rfl,rfl,SqT.of er',rfl,_,_,rfl,rfl,q1⟩
       ·rw [Bool.eq_false_iff.mpr c3,Bool.false_and] at q1
        exact q1
      ·rw [Bool.eq_false_iff.mpr c2,Bool.false_and] at q1
       exact ⟨_,rfl,iteF q1⟩
     ·rw [Bool.eq_false_iff.mpr c1,Bool.false_and] at q1
      exact ⟨_,rfl,iteF q1⟩
  ·refine iteP (by simp; omega) (q0 ?_ _ (Same.refl H))
   rw [hwl]
   unfold winL
   split
   ·rename_i e
    exact absurd rfl hl
   ·rfl
end
theorem menu4b {a b c d j : Int} {ok : Int → Prop} (ha : ok a) (hb : ok b) (hc : ok c) (hd : ok d) (h0 : 0 ≤ j) (h1 : j < 4) : ∃ v : Int,atI [V.int a,V.int b,V.int c,V.int d] j = some (.int v) ∧ ok v := by
 rcases (by omega : j = 0 ∨ j = 1 ∨ j = 2 ∨ j = 3) with rfl | rfl | rfl | rfl
 ·exact ⟨a,rfl,ha⟩
 ·exact ⟨b,rfl,hb⟩
 ·exact ⟨c,rfl,hc⟩
 ·exact ⟨d,rfl,hd⟩
section
variable {P : Program} {w : World} {K : PySem.W.Frag} {mg : Str → Option Value} {base : Heap} {f : Addr} {fd : FuncData} {n : Nat}
theorem ok_cellA (F : Fun K "_law_cell" "_law_cell" st__law_cell f fd) (B : Bl mg) : FnOk P w K mg base CX0 (n + 1) f fd ["script","k"] (spCell K) := by
 refine F.okQ sc__law_cell (fun vs H Q E h => ?_) (fun cdv A outer s H vs Q E hr h => ?_)
 ·obtain ⟨_,_,_,rfl,_⟩ := h
  rfl
 obtain ⟨a,ns,k,rfl,hS,h0,q⟩ := h
 refine ⟨_,(qss_cons (qs_if (qt_cmpR qop_lt (qv 1) (qe_cb qcall_len rfl B.len bt_len (qa_c (qv 0) qa_nil)) (nomark _)) (qss_one (qs_ret (qe_ix qix_list (qv 0) (qv 1) (fun _ _ => rfl)))) qss_nil) (qss_one (qs_ret qe_int))),?_⟩
 try dsimp only [cx_k,cx_kn,as_nil,as_name,Nat.reduceAdd]
 have hl : (ns.map V.int).length = ns.length := List.length_map _
 refine ⟨_,rfl,_,rfl,a,_,rfl,.inl hS,_,_,rfl,rfl,_,rfl,?_⟩
 refine ite2 (fun c => ?_) (fun c => ?_)
 ·have c' : k < (((ns.map V.int).length : Nat) : Int) := of_decide_eq_true c
  rw [hl] at c'
  obtain ⟨v,hv⟩ := at_int (ns := ns) h0 (by omega)
  exact ⟨_,rfl,_,rfl,a,_,_,_,rfl,rfl,hS,hv,q v⟩
 ·exact q 0
theorem ok_dayA (F : Fun K "_law_day" "_law_day" st__law_day f fd) : FnOk P w K mg base CX0 (n + 1) f fd ["cell"] spDay := by
 refine F.okQ sc__law_day (fun vs H Q E h => ?_) (fun cdv A outer s H vs Q E hr h => ?_)
 ·obtain ⟨_,rfl,_⟩ := h
  rfl
 obtain ⟨c,rfl,q⟩ := h
 refine ⟨_,(qss_cons (qs_set (i := 1) sc__law_day.nd rfl (Or.inl rfl) (qe_op qop_fdivB (qv 0) qe_int)) (qss_cons (qs_if (qt_cmpR qop_eq (qe_op qop_mod (qv 0) qe_int) qe_int (nomark _)) (qss_one (qs_ret (qe_op qop_add qe_int (qe_op qop_mod (qv 1) (qe_op qop_pow qe_int qe_int))))) qss_nil) (qss_cons (qs_if (qt_cmpR qop_eq (qe_op qop_mod (qv 0) qe_int) qe_int (nomark _)) (qss_one (qs_ret (qe_op qop_add qe_int (qe_op qop_mod (qv 1) qe_int)))) qss_nil) (qss_cons (qs_if (qt_cmpR qop_eq (qe_op qop_mod (qv 0) qe_int) qe_int (nomark _)) (qss_one (qs_ret (qe_op qop_add qe_int (qe_op qop_mod (qv 1) qe_int)))) qss_nil) (qss_one (qs_ret (qe_ix qix_list (qe_lst (qa_c qe_int (qa_c qe_int (qa_c (qe_op qop_add (qe_op qop_pow qe_int qe_int) qe_int) (qa_c (qe_op qop_pow qe_int qe_int) qa_nil))))) (qe_op qop_mod (qv 1) qe_int) (fun _ _ => rfl)))))))),?_⟩
 try dsimp only [cx_k,cx_kn,as_nil,as_name,Nat.reduceAdd]
 refine ⟨_,rfl,_,_,rfl,rfl,⟨by decide,by decide⟩,?_⟩
 dsimp only
 generalize c / 4 = rest
 refine ⟨_,rfl,_,_,rfl,rfl,(by show (0 : Int) < 4; decide),rfl,_,rfl,?_⟩
 refine ite2 (fun z => ?_) (fun z => ?_)
 ·refine ⟨_,rfl,_,_,rfl,rfl,⟨by decide,by decide,by decide⟩,_,_,rfl,rfl,(by show (0 : Int) < 10 ^ (15 : Int).toNat; rw [pow15]; decide),_,_,rfl,rfl,?_⟩
  have e15 := emod_b rest (show (0 : Int) < 10 ^ (15 : Int).toNat by rw [pow15]; decide)
  have : rest % 10 ^ (15 : Int).toNat < 1000000000000000 := by
   have := e15.2
   generalize rest % 10 ^ (15 : Int).toNat = u at *
   rw [pow15] at this
   exact this
  exact q _ H (by omega) (by omega) (Same.refl H)
 refine ⟨_,rfl,_,_,rfl,rfl,(by show (0 : Int) < 4; decide),rfl,_,rfl,?_⟩
 refine ite2 (fun z => ?_) (fun z => ?_)
 ·have em := emod_b rest (show (0 : Int) < 7 by decide)
  exact ⟨_,rfl,_,_,rfl,rfl,(by show (0 : Int) < 7; decide),_,_,rfl,rfl,q _ H (by omega) (by omega) (Same.refl H)⟩
 refine ⟨_,rfl,_,_,rfl,rfl,(by show (0 : Int) < 4; decide),rfl,_,rfl,?_⟩
 refine ite2 (fun z => ?_) (fun z => ?_)
 ·have em := emod_b rest (show (0 : Int) < 100 by decide)
  exact ⟨_,rfl,_,_,rfl,rfl,(by show (0 : Int) < 100; decide),_,_,rfl,rfl,q _ H (by omega) (by omega) (Same.refl H)⟩
 ·refine ⟨_,_,rfl,rfl,⟨by decide,by decide,by decide⟩,_,_,rfl,rfl,_,_,rfl,rfl,⟨by decide,by decide,by decide⟩,(by show 4 ≤ sizeLine; decide),fun p hp => ?_⟩
  generalize hgH1 : upd _ p _ = H1
  obtain ⟨s1,e1⟩ := fresh_of hp hgH1
  clear hgH1
  obtain ⟨v,hv,v1,v2⟩ := menu4b (ok := fun v => 1 ≤ v ∧ v ≤ 1000000000000000) (a := 24) (b := 1440) (c := 10 ^ (9 : Int).toNat + 7) (d := 10 ^ (15 : Int).toNat) (j := rest % 4) (by decide) (by decide) (by decide +kernel) (by decide +kernel) (Int.emod_nonneg _ (by decide)) (Int.emod_lt_of_pos _ (by decide))
  exact ⟨_,rfl,_,_,rfl,rfl,(by show (0 : Int) < 4; decide),p,_,_,.int v,rfl,rfl,SqL.of e1,hv,q v H1 v1 v2 s1⟩
end
abbrev RdT := Int × Int × Addr × List T3
def keyN (m : RdT) : Int × Int × Addr := (m.1,m.2.1,m.2.2.1)
def encK (k : Int × Int × Addr) : List V := [.int k.1,.int k.2.1,.ref k.2.2]
def datN (m : RdT) : PyData := .tuple [.int m.1,.int m.2.1,datB m.2.2.2]
structure NA (H : Hp) (p : Addr) (N : List RdT) : Prop where
 la : LA encK H p (N.map keyN)
 bd : ∀ m ∈ N,LA enc3 H m.2.2.1 m.2.2.2 ∧ m.2.2.1 ≠ p
 nd : (N.map fun m => m.2.2.1).Nodup
section
variable {K : PySem.W.Frag} {H H' : Hp} {p r b : Addr} {N : List RdT} {s e : Int} {vs us : List V}
theorem NA.nil (h : H p = some (.lst [])) : NA H p [] := ⟨LA.nil h,(fun m hm => by cases hm),List.Pairwise.nil⟩
theorem NA.mono (h : NA H p N) (s : ∀ b o,H b = some o → (∀ z,o ≠ .tbl z) → H' b = some o) : NA H' p N := ⟨h.la.mono s,fun m hm => ⟨(h.bd m hm).1.mono s,(h.bd m hm).2⟩,h.nd⟩
theorem NA.same (h : NA H p N) (s : Same H H') : NA H' p N := h.mono fun b o e _ => s b o e
theorem NA.fresh (h : NA H p N) (fb : H b = none) : b ≠ p ∧ b ∉ N.map fun m => m.2.2.1 := by
 refine ⟨fun z => ?_,fun hm => ?_⟩
 ·obtain ⟨vs,h1,_⟩ := h.la.lst
  rw [← z,fb] at h1
  cases h1
 ·obtain ⟨m,hm',e⟩ := List.mem_map.mp hm
  obtain ⟨vs,h1,_⟩ := (h.bd m hm').1.lst
  rw [e,fb] at h1
  cases h1
theorem NA.snoc (h : NA H p N) (fb : b ≠ p ∧ b ∉ N.map fun m => m.2.2.1) (hx : H p = some (.lst vs)) (hb : H b = some (.lst [])) (hr : H r = some (.tup [.int s,.int e,.ref b])) : NA (upd H p (.lst (vs ++ [.ref r]))) p (N ++ [(s,e,b,[])]) := by
 refine ⟨?_,fun m hm => ?_,?_⟩
 ·rw [List.map_append]
  exact h.la.append (x := (s,e,b)) hx hr
 ·rcases List.mem_append.mp hm with hm | hm
  ·obtain ⟨h1,h2⟩ := h.bd m hm
   exact ⟨la_clear h1 hx h2,h2⟩
  ·rw [List.mem_singleton] at hm
   subst hm
   exact ⟨LA.nil (by rw [upd_ne fb.1]; exact hb),fb.1⟩
 ·rw [List.map_append]
  refine List.nodup_append.mpr ⟨h.nd,by simp,fun x hx y hy => ?_⟩
  simp only [List.map_cons,List.map_nil,List.mem_singleton] at hy
  subst hy
  exact fun z => fb.2 (z ▸ hx)
theorem NA.push {x : T3} {R : List T3} (h : NA H p (N ++ [(s,e,b,R)])) (hb : H b = some (.lst us)) (hr : H r = some (.tup (enc3 x))) : NA (upd H b (.lst (us ++ [.ref r]))) p (N ++ [(s,e,b,R ++ [x])]) := by
 have hl := h.bd (s,e,b,R) (by simp)
 have nd := h.nd
 rw [List.map_append] at nd
 obtain ⟨nd1,_,nd2⟩ := List.nodup_append.mp nd
 refine ⟨?_,fun m hm => ?_,?_⟩
 ·have := la_clear (ys := us ++ [.ref r]) h.la hb (Ne.symm hl.2)
  rw [List.map_append] at this ⊢
  exact this
 ·rcases List.mem_append.mp hm with hm | hm
  ·obtain ⟨h1,h2⟩ := h.bd m (List.mem_append_left _ hm)
   exact ⟨la_clear h1 hb (nd2 _ (List.mem_map.mpr ⟨m,hm,rfl⟩) _ (by simp)),h2⟩
  ·rw [List.mem_singleton] at hm
   subst hm
   exact ⟨hl.1.append (x := x) hb hr,hl.2⟩
 ·have := h.nd
  rw [List.map_append] at this ⊢
  exact this
theorem NA.rd (h : NA H p N) : RdV K H (.ref p) (.list (N.map datN)) := by
 obtain ⟨rs,h1,h2,h3⟩ := h.la.ex
 refine .lst (SqL.of h1) ?_
 have go : ∀ (rs : List Addr) (N : List RdT),rs.length = N.length → (∀ (i : Nat) r x,rs[i]? = some r → (N.map keyN)[i]? = some x → H r = some (.tup (encK x))) → (∀ m ∈ N,LA enc3 H m.2.2.1 m.2.2.2) → RdAll K H (rs.map V.ref) (N.map datN) := by
  intro rs
  induction rs with
  | nil =>
   intro N hl _ _
   cases N with
   | nil => exact .nil
   | cons x N => cases hl
  | cons r rs ih =>
   intro N hl g gb
   cases N with
   | nil => cases hl
   | cons m N => exact .cons (.tup (SqT.of (g 0 r (keyN m) rfl rfl)) (.cons (.int _) (.cons (.int _) (.cons (rd3 (gb m (by simp))) .nil)))) (ih N (by simpa using hl) (fun i r' x' e1 e2 => g (i + 1) r' x' (by simpa using e1) (by simpa using e2)) fun m' hm' => gb m' (List.mem_cons_of_mem _ hm'))
 exact go rs N (by rw [h2,List.length_map]) h3 fun m hm => (h.bd m hm).1
theorem shapedN (N : List RdT) : SeqAt.shaped (.list (N.map datN)) = true := shaped_map (n := 5) (fun x => by
  have := canB x.2.2.2
  simp [datN,PyData.canLay0,PyData.canLayAll0,this]) (fun x => by
  have := depB x.2.2.2
  simp only [datN,PyData.depth,PyData.depthAll]
  omega) (by decide) N
theorem NA.last {R : List T3} (h : NA H p (N ++ [(s,e,b,R)])) : ∃ (vs : List V) (r : Addr),H p = some (.lst vs) ∧ atI vs (-1) = some (.ref r) ∧ H r = some (.tup [.int s,.int e,.ref b]) := by
 obtain ⟨vs,hv1,hv2,hv3⟩ := h.la.lst
 have vl : vs.length = N.length + 1 := by rw [hv2]; simp
 have vne : vs ≠ [] := fun e => by rw [e] at vl; simp at vl
 obtain ⟨r,x,e1,e2,e3⟩ := hv3 N.length _ (List.getElem?_eq_getElem (by omega))
 have e2' : (s,e,b) = x := by simpa [keyN] using e2
 subst e2'
 exact ⟨vs,r,hv1,by rw [atI_last vne,show vs.length - 1 = N.length by omega,List.getElem?_eq_getElem (by omega),e1],e3⟩
end
def spSize : Sp := fun vs H Q _ => ∃ c : Int,vs = [.int c] ∧ ∀ (v : Int) (H' : Hp),1 ≤ v → v ≤ 4 → Same H H' → Q (.int v) H'
def spRoadWin : Sp := fun vs H Q _ => ∃ day one two three : Int,vs = [.int day,.int one,.int two,.int three] ∧ 1 ≤ day ∧ day ≤ 1000000000000000 ∧
 ∀ (r : Addr) (H' : Hp) (a b c : Int),Same H H' → H' r = some (.tup (enc3 (a,b,c))) → 0 ≤ a → a ≤ b → b < day → 1 ≤ c → c ≤ 1000000000000000 → Q (.ref r) H'
def RoadsIn (day size : Int) (N : List RdT) : Prop := ∀ m ∈ N,(0 ≤ m.1 ∧ m.1 < size) ∧ (0 ≤ m.2.1 ∧ m.2.1 < size) ∧ m.2.2.2.length ≤ 16 ∧ ∀ w ∈ m.2.2.2,0 ≤ w.1 ∧ w.1 ≤ w.2.1 ∧ w.2.1 < day ∧ 1 ≤ w.2.2 ∧ w.2.2 ≤ 1000000000000000
def NFr (H : Hp) (N : List RdT) : Prop := ∀ m ∈ N,H m.2.2.1 = none
theorem NFr.snoc {H : Hp} {N : List RdT} {m : RdT} (h : NFr H N) (e : H m.2.2.1 = none) : NFr H (N ++ [m]) := fun x hx => by
 rcases List.mem_append.mp hx with hx | hx
 ·exact h x hx
 ·rw [List.mem_singleton] at hx
  subst hx
  exact e
def spNet (K : PySem.W.Frag) : Sp := fun vs H Q _ => ∃ (day size goal : Int) (pc : Addr) (ms : List Int),vs = [.int day,.int size,.int goal,.ref pc] ∧ SqL K H pc (ms.map V.int) ∧ ms.length ≤ 63 ∧ 1 ≤ day ∧ day ≤ 1000000000000000 ∧ 1 ≤ size ∧
 ∀ (l : Addr) (N : List RdT) (H' : Hp),Same H H' → H l = none → NA H' l N → NFr H N → RoadsIn day size N → N.length ≤ 16 → Q (.ref l) H'
theorem size4 {j : Int} (h0 : 0 ≤ j) (h1 : j < 4) : ∃ v : Int,atI [V.int 3,V.int 4,V.int 2,V.int 1] j = some (.int v) ∧ 1 ≤ v ∧ v ≤ 4 := by
 rcases (by omega : j = 0 ∨ j = 1 ∨ j = 2 ∨ j = 3) with rfl | rfl | rfl | rfl
 all_goals exact ⟨_,rfl,by decide,by decide⟩
theorem menu4 {a b c e j : Int} (h0 : 0 ≤ j) (h1 : j < 4) : ∃ v : Int,atI [V.int a,V.int b,V.int c,V.int e] j = some (.int v) ∧ (v = a ∨ v = b ∨ v = c ∨ v = e) := by
 rcases (by omega : j = 0 ∨ j = 1 ∨ j = 2 ∨ j = 3) with rfl | rfl | rfl | rfl
 ·exact ⟨_,rfl,.inl rfl⟩
 ·exact ⟨_,rfl,.inr (.inl rfl)⟩
 ·exact ⟨_,rfl,.inr (.inr (.inl rfl))⟩
 ·exact ⟨_,rfl,.inr (.inr (.inr rfl))⟩
section
variable {P : Program} {w : World} {K : PySem.W.Frag} {mg : Str → Option Value} {base : Heap} {f : Addr} {fd : FuncData} {n : Nat}
theorem ok_size (F : Fun K "_law_size" "_law_size" st__law_size f fd) : FnOk P w K mg base CX0 (n + 1) f fd ["cell"] spSize := by
 refine F.okQ sc__law_size (fun vs H Q E h => ?_) (fun cdv A outer s H vs Q E hr h => ?_)
 ·obtain ⟨_,rfl,_⟩ := h
  rfl
 obtain ⟨c,rfl,q⟩ := h
 refine ⟨_,(qss_one (qs_ret (qe_ix qix_list (qe_lst (qa_c qe_int (qa_c qe_int (qa_c qe_int (qa_c qe_int qa_nil))))) (qe_op qop_mod (qv 0) qe_int) (fun _ _ => rfl)))),?_⟩
 try dsimp only [cx_k,cx_kn,as_nil,as_name,Nat.reduceAdd]
 refine ⟨(by show 4 ≤ sizeLine; decide),fun p hp => ?_⟩
 obtain ⟨v,hv,v1,v2⟩ := size4 (j := c % 4) (Int.emod_nonneg _ (by decide)) (Int.emod_lt_of_pos _ (by decide))
 refine ⟨_,rfl,_,_,rfl,rfl,(by show (0 : Int) < 4; decide),p,_,_,.int v,rfl,rfl,SqL.of upd_same,hv,?_⟩
 exact q v _ v1 v2 (same_new hp _)
theorem ok_roadwin (F : Fun K "_law_road_window" "_law_road_window" st__law_road_window f fd) (B : Bl mg) : FnOk P w K mg base CX0 (n + 1) f fd ["day","one","two","three"] spRoadWin := by
 refine F.okQ sc__law_road_window (fun vs H Q E h => ?_) (fun cdv A outer s H vs Q E hr h => ?_)
 ·obtain ⟨_,_,_,_,rfl,_⟩ := h
  rfl
 obtain ⟨day,one,two,three,rfl,d1,d2,q⟩ := h
 refine ⟨_,(qss_cons (qs_set (i := 4) sc__law_road_window.nd rfl (Or.inl rfl) (qe_op qop_mod (qe_op qop_fdivB (qv 1) qe_int) (qv 0))) (qss_cut (qs_if (qt_cmpR qop_eq (qe_op qop_mod (qv 1) qe_int) qe_int (nomark _)) (qss_one (qs_set (i := 4) sc__law_road_window.nd rfl (Or.inl rfl) (qe_op qop_mod (qe_op qop_fdivB (qv 1) qe_int) (qe_cb (qcall_min rfl) rfl B.min bt_min (qa_c (qv 0) (qa_c qe_int qa_nil)))))) qss_nil) (qss_cons (qs_set (i := 5) sc__law_road_window.nd rfl (Or.inl rfl) (qe_op qop_fdivB (qv 2) qe_int)) (qss_cons (qs_set (i := 6) sc__law_road_window.nd rfl (Or.inl rfl) (qe_op qop_add (qv 4) (qe_ix qix_list (qe_lst (qa_c qe_int (qa_c (qe_cb (qcall_min rfl) rfl B.min bt_min (qa_c (qe_op qop_mod (qv 5) qe_int) (qa_c (qe_op qop_sub (qe_op qop_sub (qv 0) qe_int) (qv 4)) qa_nil))) (qa_c (qe_op qop_mod (qv 5) (qe_op qop_sub (qv 0) (qv 4))) (qa_c (qe_op qop_sub (qe_op qop_sub (qv 0) qe_int) (qv 4)) qa_nil))))) (qe_op qop_mod (qv 2) qe_int) (fun _ _ => rfl)))) (qss_cons (qs_set (i := 5) sc__law_road_window.nd rfl (Or.inl rfl) (qe_op qop_fdivB (qv 3) qe_int)) (qss_cons (qs_set (i := 7) sc__law_road_window.nd rfl (Or.inl rfl) (qe_ix qix_list (qe_lst (qa_c (qe_op qop_add qe_int (qe_op qop_mod (qv 5) qe_int)) (qa_c (qe_op qop_add qe_int (qe_op qop_mod (qv 5) (qv 0))) (qa_c (qe_op qop_add qe_int (qe_op qop_mod (qv 5) (qe_op qop_pow qe_int qe_int))) (qa_c (qe_cb (qcall_min rfl) rfl B.min bt_min (qa_c (qe_op qop_pow qe_int qe_int) (qa_c (qe_op qop_mul (qv 0) (qe_op qop_add qe_int (qe_op qop_mod (qv 5) qe_int))) qa_nil))) qa_nil))))) (qe_op qop_mod (qv 3) qe_int) (fun _ _ => rfl))) (qss_one (qs_ret (qe_tup (qa_c (qv 4) (qa_c (qv 6) (qa_c (qv 7) qa_nil)))))))))))),?_⟩
 try dsimp only [cx_k,cx_kn,as_nil,as_name,Nat.reduceAdd]
 have hd : 0 < day := by omega
 refine ⟨_,rfl,_,_,rfl,rfl,⟨by decide,by decide⟩,_,rfl,_,_,rfl,rfl,hd,?_⟩
 refine ⟨fun σ' H' => H' = H ∧ ∃ a : Int,0 ≤ a ∧ a < day ∧ σ' = [some (.int day),some (.int one),some (.int two),some (.int three),some (.int a),none,none,none],?_,?_⟩
 ·refine ⟨_,rfl,_,_,rfl,rfl,(by show (0 : Int) < 2; decide),rfl,_,rfl,ite2 (fun _ => ?_) (fun _ => ⟨rfl,_,(emod_b _ hd).1,(emod_b _ hd).2,rfl⟩)⟩
  have hm : 0 < (if (3 : Int) < day then (3 : Int) else day) ∧ (if (3 : Int) < day then (3 : Int) else day) ≤ day := by split <;> omega
  refine ⟨_,rfl,_,_,rfl,rfl,⟨by decide,by decide⟩,_,rfl,_,_,rfl,_,_,rfl,rfl,hm.1,rfl,_,(emod_b _ hm.1).1,?_,rfl⟩
  have := (emod_b (one / 2) hm.1).2
  omega
 rintro σ' H ⟨rfl,a,a0,a1,rfl⟩
 refine ⟨_,rfl,_,_,rfl,rfl,⟨by decide,by decide⟩,?_⟩
 dsimp only
 generalize two / 4 = rest
 refine ⟨_,rfl,_,rfl,_,_,rfl,rfl,(by show (0 : Int) < 4; decide),_,rfl,_,_,rfl,rfl,_,rfl,_,_,rfl,rfl,_,_,rfl,_,rfl,_,rfl,_,rfl,_,_,rfl,rfl,_,_,rfl,rfl,(by show 0 < day - a; omega),_,rfl,_,_,rfl,rfl,_,rfl,_,_,rfl,rfl,(by show 4 ≤ sizeLine; decide),fun p hp => ?_⟩
 dsimp only
 have r4 := emod_b rest (show (0 : Int) < 4 by decide)
 have rd := emod_b rest (show (0 : Int) < day - a by omega)
 have hx : 0 ≤ (if day - 1 - a < rest % 4 then day - 1 - a else rest % 4) ∧ (if day - 1 - a < rest % 4 then day - 1 - a else rest % 4) ≤ day - 1 - a := by split <;> omega
 generalize (if day - 1 - a < rest % 4 then day - 1 - a else rest % 4) = x at *
 generalize rest % (day - a) = y at *
 generalize hgH1 : upd _ p _ = H1
 obtain ⟨s1,e1⟩ := fresh_of hp hgH1
 clear hgH1
 obtain ⟨v,hv,vv⟩ := menu4 (a := 0) (b := x) (c := y) (e := day - 1 - a) (j := two % 4) (Int.emod_nonneg _ (by decide)) (Int.emod_lt_of_pos _ (by decide))
 refine ⟨_,rfl,_,_,rfl,rfl,(by show (0 : Int) < 4; decide),p,_,_,.int v,rfl,rfl,SqL.of e1,hv,_,_,rfl,rfl,?_⟩
 dsimp only
 have hb : a ≤ a + v ∧ a + v < day := by omega
 generalize a + v = b at *
 refine ⟨_,rfl,_,_,rfl,rfl,⟨by decide,by decide⟩,?_⟩
 dsimp only
 generalize three / 4 = rest3
 refine ⟨_,rfl,_,_,rfl,rfl,(by show (0 : Int) < 3; decide),_,_,rfl,rfl,_,rfl,_,rfl,_,_,rfl,rfl,hd,_,_,rfl,rfl,_,rfl,_,_,rfl,rfl,⟨by decide,by decide,by decide⟩,_,_,rfl,rfl,(by show (0 : Int) < 10 ^ (15 : Int).toNat; decide),_,_,rfl,rfl,_,_,rfl,rfl,⟨by decide,by decide,by decide⟩,_,rfl,_,rfl,_,_,rfl,rfl,(by show (0 : Int) < 3; decide),_,_,rfl,rfl,_,_,rfl,rfl,.inl ⟨by omega,by omega⟩,_,_,rfl,(by show 4 ≤ sizeLine; decide),fun p2 hp2 => ?_⟩
 dsimp only
 have t3 := emod_b rest3 (show (0 : Int) < 3 by decide)
 have td := emod_b rest3 hd
 have tb := emod_b rest3 (show (0 : Int) < 10 ^ (15 : Int).toNat by decide)
 have hm : 1 ≤ day * (1 + rest3 % 3) := by
  have := Int.mul_le_mul d1 (show 1 ≤ 1 + rest3 % 3 by omega) (by decide) (by omega)
  omega
 have hw : 1 ≤ (if day * (1 + rest3 % 3) < (10 : Int) ^ (15 : Int).toNat then day * (1 + rest3 % 3) else (10 : Int) ^ (15 : Int).toNat) ∧ (if day * (1 + rest3 % 3) < (10 : Int) ^ (15 : Int).toNat then day * (1 + rest3 % 3) else (10 : Int) ^ (15 : Int).toNat) ≤ 1000000000000000 := by
  split
  ·rename_i z
   exact ⟨hm,Int.le_of_lt (by rw [pow15] at z; exact z)⟩
  ·rw [pow15]; decide
 generalize (if day * (1 + rest3 % 3) < (10 : Int) ^ (15 : Int).toNat then day * (1 + rest3 % 3) else (10 : Int) ^ (15 : Int).toNat) = x4 at *
 generalize rest3 % (10 : Int) ^ (15 : Int).toNat = x3 at *
 rw [pow15] at tb
 generalize rest3 % 3 = x1 at *
 generalize rest3 % day = x2 at *
 generalize hgH2 : upd _ p2 _ = H2
 obtain ⟨s2,e2⟩ := fresh_of hp2 hgH2
 clear hgH2
 obtain ⟨c,hc,cc⟩ := menu4 (a := 1 + x1) (b := 1 + x2) (c := 1 + x3) (e := x4) (j := three % 4) (Int.emod_nonneg _ (by decide)) (Int.emod_lt_of_pos _ (by decide))
 refine ⟨_,rfl,_,_,rfl,rfl,(by show (0 : Int) < 4; decide),p2,_,_,.int c,rfl,rfl,SqL.of e2,hc,?_⟩
 refine ⟨_,rfl,_,rfl,_,rfl,(by show 3 ≤ sizeLine; decide),fun rr hrr => ?_⟩
 generalize hgH3 : upd _ rr _ = H3
 obtain ⟨s3,e3⟩ := fresh_of hrr hgH3
 clear hgH3
 exact q rr H3 a b c ((s1.trans s2).trans s3) e3 a0 hb.1 hb.2 (by omega) (by omega)
theorem ok_net (F : Fun K "_law_net" "_law_net" st__law_net f fd) (B : Bl mg) (C_law_road_window : Callee P w K mg base n "_law_road_window" ["day","one","two","three"] spRoadWin) : FnOk P w K mg base CX0 (n + 1) f fd ["day","size","goal","cells"] (spNet K) := by
 refine F.okQ sc__law_net (fun vs H Q E h => ?_) (fun cdv A outer s H vs Q E hr h => ?_)
 ·obtain ⟨_,_,_,_,_,rfl,_⟩ := h
  rfl
 obtain ⟨day,size,goal,pc,ms,rfl,hS,h63,d1,d2,sz,q⟩ := h
 refine ⟨_,(qss_cons (qs_set (i := 4) sc__law_net.nd rfl (Or.inl rfl) (qe_lst qa_nil)) (qss_cons (qs_for PassesOwn.never rfl (qi_range3 rfl B.range (qa_c qe_int (qa_c (qe_op qop_sub (qe_cb qcall_len rfl B.len bt_len (qa_c (qv 3) qa_nil)) qe_int) (qa_c qe_int qa_nil)))) (qg_name (i := 5) sc__law_net.nd rfl (Or.inl rfl)) (qss_cons (qs_set (i := 6) sc__law_net.nd rfl (Or.inl rfl) (qe_ix qix_list (qv 3) (qv 5) (fun _ _ => rfl))) (qss_cut (qs_if (qt_cut (QW.pt (qw_and (qt_cmpR qop_lt (qe_op qop_fdivB (qv 5) qe_int) (qe_op qop_sub (qv 1) qe_int) (nomark _)) (qw_and1 (qt_cmpR qop_gt (qe_op qop_mod (qv 6) qe_int) qe_int (nomark _)))))) (qss_one (qs_expr (qe_append (qv 4) (qa_c (qe_tup (qa_c (qe_op qop_mod (qe_op qop_add (qe_op qop_add (qv 2) (qe_op qop_fdivB (qv 5) qe_int)) qe_int) (qv 1)) (qa_c (qe_op qop_mod (qe_op qop_add (qv 2) (qe_op qop_fdivB (qv 5) qe_int)) (qv 1)) (qa_c (qe_lst qa_nil) qa_nil)))) qa_nil)))) (qss_one (qs_if (qt_cut (QW.pt (qw_or (qt_cmpR (qop_eqD hr.units) (qv 4) (qe_lst qa_nil) (nomark _)) (qw_or1 (qt_cmpR qop_lt (qe_op qop_mod (qv 6) qe_int) qe_int (nomark _)))))) (qss_cons (qs_set (i := 7) sc__law_net.nd rfl (Or.inl rfl) (qe_op qop_mod (qe_op qop_fdivB (qv 6) qe_int) (qv 1))) (qss_one (qs_expr (qe_append (qv 4) (qa_c (qe_tup (qa_c (qv 7) (qa_c (qe_op qop_mod (qe_op qop_add (qe_op qop_add (qv 7) qe_int) (qe_op qop_fdivB (qv 6) qe_int)) (qv 1)) (qa_c (qe_lst qa_nil) qa_nil)))) qa_nil))))) qss_nil))) (qss_one (qs_if (qt_cmpR qop_ne (qe_op qop_mod (qe_op qop_fdivB (qv 6) qe_int) qe_int) qe_int (nomark _)) (qss_one (qs_expr (qe_append (qe_ix qix_tup (qe_ix qix_list (qv 4) (qe_neg qe_int) (fun _ _ => rfl)) qe_int (fun _ _ => rfl)) (qa_c (qe_fn C_law_road_window hr rfl (qa_c (qv 0) (qa_c (qe_ix qix_list (qv 3) (qe_op qop_add (qv 5) qe_int) (fun _ _ => rfl)) (qa_c (qe_ix qix_list (qv 3) (qe_op qop_add (qv 5) qe_int) (fun _ _ => rfl)) (qa_c (qe_ix qix_list (qv 3) (qe_op qop_add (qv 5) qe_int) (fun _ _ => rfl)) qa_nil))))) qa_nil)))) qss_nil))))) (qss_one (qs_ret (qv 4))))),?_⟩
 try dsimp only [cx_k,cx_kn,as_nil,as_name,Nat.reduceAdd]
 have hsz : 0 < size := by omega
 refine ⟨(by show 0 ≤ sizeLine; decide),fun pr hpr => ?_⟩
 generalize hgH1 : upd _ pr _ = H1
 obtain ⟨s1,e1⟩ := fresh_of hpr hgH1
 clear hgH1
 have hl : (ms.map V.int).length = ms.length := List.length_map _
 refine ⟨_,rfl,pc,_,rfl,.inl (s1.seq hS),_,_,rfl,rfl,?_⟩
 have hcn : ∀ i,i < cnt3 0 ((((ms.map V.int).length : Nat) : Int) - 3) 4 → 0 + (i : Int) * 4 < (((ms.map V.int).length : Nat) : Int) - 3 := fun i hi' => cnt3_lt (by decide) hi'
 have hcl : cnt3 0 ((((ms.map V.int).length : Nat) : Int) - 3) 4 ≤ 16 := by
  rcases Nat.eq_zero_or_pos (cnt3 0 ((((ms.map V.int).length : Nat) : Int) - 3) 4) with z | z
  ·omega
  ·have := hcn (cnt3 0 ((((ms.map V.int).length : Nat) : Int) - 3) 4 - 1) (by omega)
   omega
 refine ⟨0,(((ms.map V.int).length : Nat) : Int) - 3,4,rfl,⟨by decide,by decide,by omega,by omega,by decide,by decide⟩,for_range3 (lo := 0) (st := 4) (n := cnt3 0 ((((ms.map V.int).length : Nat) : Int) - 3) 4)
  (fun i σ H' => ∃ (N : List RdT) (v1 v2 v3 : Option V),σ = [some (.int day),some (.int size),some (.int goal),some (.ref pc),some (.ref pr),v1,v2,v3] ∧ Same H H' ∧ NA H' pr N ∧ NFr H N ∧ RoadsIn day size N ∧ N.length ≤ i ∧ ∀ m ∈ N,m.2.2.2.length ≤ i)
  ⟨[],_,_,_,rfl,s1,NA.nil e1,(fun m hm => by cases hm),(fun m hm => by cases hm),Nat.le_refl _,fun m hm => by cases hm⟩ ?_ ?_⟩
 ·rintro i σ H2 hi ⟨N,v1,v2,v3,rfl,s2,hN,hfr,hIn,hl2,hl3⟩
  have hk := hcn i hi
  obtain ⟨k,hkk⟩ : ∃ k : Nat,0 + (i : Int) * 4 = (k : Int) := ⟨i * 4,by omega⟩
  rw [hkk] at hk ⊢
  obtain ⟨c0,hc0⟩ := at_int (ns := ms) (k := (k : Int)) (by omega) (by omega)
  refine ⟨_,rfl,_,rfl,pc,_,_,_,rfl,rfl,s2.seq hS,hc0,?_⟩
  refine ⟨fun σ' H' => ∃ (N : List RdT) (s e : Int) (b : Addr) (R : List T3) (v3 : Option V),σ' = [some (.int day),some (.int size),some (.int goal),some (.ref pc),some (.ref pr),some (.int (k : Int)),some (.int c0),v3] ∧ Same H H' ∧ NA H' pr (N ++ [(s,e,b,R)]) ∧ NFr H (N ++ [(s,e,b,R)]) ∧ RoadsIn day size (N ++ [(s,e,b,R)]) ∧ N.length ≤ i ∧ ∀ m ∈ N ++ [(s,e,b,R)],m.2.2.2.length ≤ i,?_,?_⟩
  ·have addR : ∀ (H3 : Hp) (vs : List V) (s e : Int) (b r : Addr),Same H H3 → NA H3 pr N → (b ≠ pr ∧ b ∉ N.map fun m => m.2.2.1) → H3 pr = some (.lst vs) → H3 b = some (.lst []) → H b = none → H3 r = some (.tup [.int s,.int e,.ref b]) → 0 ≤ s → s < size → 0 ≤ e → e < size → ∀ v3,∃ (N : List RdT) (s e : Int) (b' : Addr) (R : List T3) (v3' : Option V),
     [some (V.int day),some (.int size),some (.int goal),some (.ref pc),some (.ref pr),some (.int (k : Int)),some (.int c0),v3] = [some (.int day),some (.int size),some (.int goal),some (.ref pc),some (.ref pr),some (.int (k : Int)),some (.int c0),v3'] ∧ Same H (upd H3 pr (.lst (vs ++ [.ref r]))) ∧ NA (upd H3 pr (.lst (vs ++ [.ref r]))) pr (N ++ [(s,e,b',R)]) ∧ NFr H (N ++ [(s,e,b',R)]) ∧ RoadsIn day size (N ++ [(s,e,b',R)]) ∧ N.length ≤ i ∧ ∀ m ∈ N ++ [(s,e,b',R)],m.2.2.2.length ≤ i := by
    intro H3 vs s e b r s3 hN3 fb hx hb hb0 hr' s0 s1 e0 e1 v3
    refine ⟨N,s,e,b,[],v3,rfl,same_wr hpr s3,hN3.snoc fb hx hb hr',hfr.snoc hb0,fun m hm => ?_,hl2,fun m hm => ?_⟩
    ·rcases List.mem_append.mp hm with hm | hm
     ·exact hIn m hm
     ·rw [List.mem_singleton] at hm
      subst hm
      exact ⟨⟨s0,s1⟩,⟨e0,e1⟩,by simp,fun w hw => by cases hw⟩
    ·rcases List.mem_append.mp hm with hm | hm
     ·exact hl3 m hm
     ·rw [List.mem_singleton] at hm
      subst hm
      simp
   obtain ⟨vs,hv1,hv2,_⟩ := hN.la.lst
   rw [List.length_map] at hv2
   refine ⟨fun b H' => H' = H2,?_,?_⟩
   ·refine ⟨_,rfl,_,_,rfl,rfl,⟨by decide,by decide⟩,_,rfl,_,_,rfl,rfl,_,_,rfl,rfl,_,rfl,ite2 (fun _ => ?_) (fun _ => rfl)⟩
    exact ⟨_,rfl,_,_,rfl,rfl,(by show (0 : Int) < 5; decide),_,_,rfl,rfl,_,rfl,rfl⟩
   rintro b H2 rfl
   refine ite2 (fun _ => ?_) (fun _ => ?_)
   ·refine ⟨_,rfl,.inl ⟨rfl,_,SqL.of hv1⟩,_,rfl,_,rfl,_,_,rfl,rfl,⟨by decide,by decide⟩,_,_,rfl,rfl,_,_,rfl,rfl,_,rfl,_,_,rfl,rfl,hsz,_,rfl,_,rfl,_,_,rfl,rfl,⟨by decide,by decide⟩,_,_,rfl,rfl,_,rfl,_,_,rfl,rfl,hsz,(by show 0 ≤ sizeLine; decide),fun pb hpb => ?_⟩
    have fb := hN.fresh hpb
    generalize hgH3 : upd _ pb _ = H3
    obtain ⟨s3,e3⟩ := fresh_of hpb hgH3
    clear hgH3
    refine ⟨(by show 3 ≤ sizeLine; decide),fun rr hrr => ?_⟩
    generalize hgH4 : upd _ rr _ = H4
    obtain ⟨s4,e4⟩ := fresh_of hrr hgH4
    clear hgH4
    refine ⟨pr,_,.ref rr,rfl,rfl,s4 _ _ (s3 _ _ hv1),line_of (by omega),?_⟩
    exact addR H4 vs _ _ pb rr ((s2.trans s3).trans s4) ((hN.same s3).same s4) fb (s4 _ _ (s3 _ _ hv1)) (s4 _ _ e3) (s2.free hpb) e4 (emod_b _ hsz).1 (emod_b _ hsz).2 (emod_b _ hsz).1 (emod_b _ hsz).2 _
   refine ⟨fun b H' => Same H2 H' ∧ (b = false → N ≠ []),?_,?_⟩
   ·refine ⟨_,rfl,(by show 0 ≤ sizeLine; decide),fun p3 hp3 => ?_⟩
    generalize hgH3 : upd _ p3 _ = H3
    obtain ⟨s3,e3⟩ := fresh_of hp3 hgH3
    clear hgH3
    refine ⟨_,_,(hN.same s3).rd,.lst (SqL.of e3) .nil,shapedN _,shaped_nil0,_,rfl,?_⟩
    rw [eqvAll_nil,List.length_map]
    refine ite2 (fun _ => ⟨s3,fun e => by cases e⟩) (fun z => ?_)
    refine ⟨_,rfl,_,_,rfl,rfl,(by show (0 : Int) < 3; decide),_,_,rfl,rfl,_,rfl,s3,fun _ e => z (decide_eq_true (by rw [e]; rfl))⟩
   rintro b H3 ⟨s3,hb⟩
   have hN3 := hN.same s3
   have hv3 := s3 _ _ hv1
   refine ite2 (fun _ => ?_) (fun z => ?_)
   ·refine ⟨_,rfl,_,_,rfl,rfl,⟨by decide,by decide⟩,_,rfl,_,_,rfl,rfl,hsz,?_⟩
    dsimp only
    have st := emod_b (c0 / 3) hsz
    generalize c0 / 3 % size = start at *
    refine ⟨_,rfl,.inl ⟨rfl,_,SqL.of hv3⟩,_,rfl,_,rfl,_,_,rfl,rfl,_,rfl,_,_,rfl,rfl,⟨by decide,by decide⟩,_,_,rfl,rfl,_,rfl,_,_,rfl,rfl,hsz,(by show 0 ≤ sizeLine; decide),fun pb hpb => ?_⟩
    have fb := hN3.fresh hpb
    generalize hgH4 : upd _ pb _ = H4
    obtain ⟨s4,e4⟩ := fresh_of hpb hgH4
    clear hgH4
    refine ⟨(by show 3 ≤ sizeLine; decide),fun rr hrr => ?_⟩
    generalize hgH5 : upd _ rr _ = H5
    obtain ⟨s5,e5⟩ := fresh_of hrr hgH5
    clear hgH5
    refine ⟨pr,_,.ref rr,rfl,rfl,s5 _ _ (s4 _ _ hv3),line_of (by omega),?_⟩
    exact addR H5 vs _ _ pb rr (((s2.trans s3).trans s4).trans s5) ((hN3.same s4).same s5) fb (s5 _ _ (s4 _ _ hv3)) (s5 _ _ e4) ((s2.trans s3).free hpb) e5 st.1 st.2 (emod_b _ hsz).1 (emod_b _ hsz).2 _
   ·have n0 := hb (by cases b with
     | false => rfl
     | true => exact absurd rfl z)
    rcases List.eq_nil_or_concat N with e | ⟨N0,⟨s,e,b',R⟩,rfl⟩
    ·exact absurd e n0
    ·rw [List.concat_eq_append] at hN3 hIn hl2 hl3 hfr
     exact ⟨N0,s,e,b',R,_,rfl,s2.trans s3,hN3,hfr,hIn,by simp at hl2; omega,hl3⟩
  clear hN hIn hl2 hl3 s2 v3 hfr
  rintro σ' H2 ⟨N,s,e,b,R,v3,rfl,s2,hN,hfr,hIn,hl2,hl3⟩
  have done : ∀ H3,Same H H3 → NA H3 pr (N ++ [(s,e,b,R)]) → ∃ (N : List RdT) (v1 v2 v3' : Option V),[some (V.int day),some (.int size),some (.int goal),some (.ref pc),some (.ref pr),some (.int (k : Int)),some (.int c0),v3] = [some (.int day),some (.int size),some (.int goal),some (.ref pc),some (.ref pr),v1,v2,v3'] ∧ Same H H3 ∧ NA H3 pr N ∧ NFr H N ∧ RoadsIn day size N ∧ N.length ≤ i + 1 ∧ ∀ m ∈ N,m.2.2.2.length ≤ i + 1 := fun H3 s3 h3 =>
   ⟨_,_,_,_,rfl,s3,h3,hfr,hIn,by simp; omega,fun m hm => Nat.le_succ_of_le (hl3 m hm)⟩
  refine ⟨_,rfl,_,_,rfl,rfl,⟨by decide,by decide⟩,_,_,rfl,rfl,(by show (0 : Int) < 7; decide),rfl,_,rfl,ite2 (fun _ => ?_) (fun _ => done H2 s2 hN)⟩
  obtain ⟨vs,r,hv1,at1,er⟩ := hN.last
  have hb := hN.bd (s,e,b,R) (by simp)
  obtain ⟨us,hu1,hu2,_⟩ := hb.1.lst
  obtain ⟨c1,hc1⟩ := at_int (ns := ms) (k := (k : Int) + 1) (by omega) (by omega)
  obtain ⟨c2,hc2⟩ := at_int (ns := ms) (k := (k : Int) + 2) (by omega) (by omega)
  obtain ⟨c3,hc3⟩ := at_int (ns := ms) (k := (k : Int) + 3) (by omega) (by omega)
  have hS2 := s2.seq hS
  refine ⟨_,rfl,_,rfl,pr,_,_,_,rfl,rfl,SqL.of hv1,at1,r,_,_,_,rfl,rfl,SqT.of er,rfl,.inl ⟨rfl,_,SqL.of hu1⟩,_,rfl,_,rfl,_,rfl,_,_,rfl,rfl,pc,_,_,_,rfl,rfl,hS2,hc1,_,rfl,_,rfl,_,_,rfl,rfl,pc,_,_,_,rfl,rfl,hS2,hc2,_,rfl,_,rfl,_,_,rfl,rfl,pc,_,_,_,rfl,rfl,hS2,hc3,day,c1,c2,c3,rfl,d1,d2,fun r2 H3 wa wb wc s3 tw w0 w1 w2 w3 w4 => ?_⟩
  have hl4 := hl3 (s,e,b,R) (by simp)
  dsimp only at hl4 hu2
  refine ⟨b,us,.ref r2,rfl,rfl,s3 _ _ hu1,line_of (by omega),?_⟩
  have fb : H b = none := hfr (s,e,b,R) (by simp)
  refine ⟨N ++ [(s,e,b,R ++ [(wa,wb,wc)])],_,_,_,rfl,same_wr fb (s2.trans s3),(hN.same s3).push (s3 _ _ hu1) tw,fun m hm => ?_,fun m hm => ?_,by simp; omega,fun m hm => ?_⟩
  ·rcases List.mem_append.mp hm with hm | hm
   ·exact hfr m (List.mem_append_left _ hm)
   ·rw [List.mem_singleton] at hm
    subst hm
    exact fb
  ·rcases List.mem_append.mp hm with hm | hm
   ·exact hIn m (List.mem_append_left _ hm)
   ·rw [List.mem_singleton] at hm
    subst hm
    obtain ⟨i1,i2,i3,i4⟩ := hIn (s,e,b,R) (by simp)
    refine ⟨i1,i2,by simp; omega,fun w hw => ?_⟩
    rcases List.mem_append.mp hw with hw | hw
    ·exact i4 w hw
    ·rw [List.mem_singleton] at hw
     subst hw
     exact ⟨w0,w1,w2,w3,w4⟩
  ·rcases List.mem_append.mp hm with hm | hm
   ·exact Nat.le_succ_of_le (hl3 m (List.mem_append_left _ hm))
   ·rw [List.mem_singleton] at hm
    subst hm
    simp
    omega
 ·rintro σ H2 ⟨N,v1,v2,v3,rfl,s2,hN,hfr,hIn,hl2,hl3⟩
  exact ⟨_,rfl,q pr N H2 s2 hpr hN hfr hIn (by omega)⟩
end
def winT (w : T3) : Str := if w.1 < w.2.1 then Str.empty ++ (Str.ofString (toString w.1)) ++ "-" ++ (Str.ofString (toString w.2.1)) ++ "+" ++ (Str.ofString (toString w.2.2)) else Str.empty ++ (Str.ofString (toString w.1)) ++ "+" ++ (Str.ofString (toString w.2.2))
def boardT (R : List T3) : Str := Txt.join " " (R.map winT)
def roadT (s e : Str) (R : List T3) : Str := if R = [] then Str.empty ++ s ++ ">" ++ e else Str.empty ++ s ++ ">" ++ e ++ " " ++ boardT R
def nmT (names : List Str) (i : Int) : Str := names.getD i.toNat Str.empty
def roadN (names : List Str) (m : RdT) : Str := roadT (nmT names m.1) (nmT names m.2.1) m.2.2.2
def netT (day : Int) (names : List Str) (N : List RdT) : Str := Txt.join "; " ((Str.empty ++ "day " ++ (Str.ofString (toString day))) :: N.map (roadN names))
def Sm (x : Int) : Prop := 0 ≤ x ∧ x < 10000000000000000
def SmW (R : List T3) : Prop := ∀ w ∈ R,Sm w.1 ∧ Sm w.2.1 ∧ Sm w.2.2
theorem Sm.len {x : Int} (h : Sm x) : (Str.ofString (toString x)).length ≤ 16 := toString_length_le h.1 (by decide) (by have := h.2; have e : (10 : Int) ^ 16 = 10000000000000000 := (by decide); rw [e]; exact this)
theorem Sm.log {x : Int} (h : Sm x) : x.natAbs.log2 < 1920 := by
 rcases Nat.eq_zero_or_pos x.natAbs with z | z
 ·rw [z]; decide
 ·rw [Nat.log2_lt (by omega)]
  have h1 : x.natAbs < 10000000000000000 := by have := h.1; have := h.2; omega
  exact Nat.lt_of_lt_of_le h1 (Nat.le_trans (by decide : 10000000000000000 ≤ 2 ^ 54) (Nat.pow_le_pow_right (by decide) (by decide)))
theorem L.le {n : Nat} (h : n ≤ 16000000) : n ≤ sizeLine := Nat.le_of_lt (line_of h)
theorem len_empty : Str.empty.length = 0 := rfl
theorem winT_len {w : T3} (h : Sm w.1 ∧ Sm w.2.1 ∧ Sm w.2.2) : (winT w).length ≤ 50 := by
 have h1 := h.1.len
 have h2 := h.2.1.len
 have h3 := h.2.2.len
 have e1 : ("-" : Str).length = 1 := by decide
 have e2 : ("+" : Str).length = 1 := by decide
 unfold winT
 split <;> simp only [Str.length_append,len_empty,e1,e2] <;> omega
theorem joinOk_of {sep : Str} {ts : List Str} {B : Nat} (hB : ∀ y ∈ ts,y.length ≤ B) (h : ts.length * B + ts.length * sep.length ≤ 16777216) : JoinOk sep ts = true := by
 unfold JoinOk
 rw [StrLaws.joinFits hB h]
 rfl
theorem join_len {sep : Str} {ts : List Str} {B : Nat} (hB : ∀ y ∈ ts,y.length ≤ B) : (Txt.join sep ts).length ≤ ts.length * B + ts.length * sep.length := by
 unfold Txt.join
 rw [StrLaws.glued_eq_join]
 have h1 := StrLaws.join_length_le sep ts
 have h2 := StrLaws.sumLen_le ts hB
 omega
theorem boardT_len {R : List T3} (h : SmW R) (hl : R.length ≤ 100) : (boardT R).length ≤ 5100 := by
 have e1 : (" " : Str).length = 1 := by decide
 have := join_len (sep := " ") (ts := R.map winT) (B := 50) fun y hy => by
  obtain ⟨w,hw,rfl⟩ := List.mem_map.mp hy
  exact winT_len (h w hw)
 rw [List.length_map,e1] at this
 unfold boardT
 omega
theorem roadT_len {s e : Str} {R : List T3} (h : SmW R) (hl : R.length ≤ 100) (hs : s.length ≤ 100) (he : e.length ≤ 100) : (roadT s e R).length ≤ 5400 := by
 have e1 : (" " : Str).length = 1 := by decide
 have e2 : (">" : Str).length = 1 := by decide
 have hb := boardT_len h hl
 unfold roadT
 split <;> simp only [Str.length_append,len_empty,e1,e2] <;> omega
def spShowW : Sp := fun vs H Q _ => ∃ a b c : Int,vs = [.int a,.int b,.int c] ∧ Sm a ∧ Sm b ∧ Sm c ∧ Q (.str (winT (a,b,c))) H
def spShowB : Sp := fun vs H Q _ => ∃ (p : Addr) (R : List T3),vs = [.ref p] ∧ LA enc3 H p R ∧ SmW R ∧ R.length ≤ 100 ∧ ∀ H',Same H H' → Q (.str (boardT R)) H'
def spShowR : Sp := fun vs H Q _ => ∃ (s e : Str) (p : Addr) (R : List T3),vs = [.str s,.str e,.ref p] ∧ s.length ≤ 100 ∧ e.length ≤ 100 ∧ LA enc3 H p R ∧ SmW R ∧ R.length ≤ 100 ∧ ∀ H',Same H H' → Q (.str (roadT s e R)) H'
structure NetOk (names : List Str) (N : List RdT) : Prop where
 few : N.length ≤ 100
 nm : ∀ x ∈ names,x.length ≤ 100
 rd : ∀ m ∈ N,0 ≤ m.1 ∧ m.1 < names.length ∧ 0 ≤ m.2.1 ∧ m.2.1 < names.length ∧ SmW m.2.2.2 ∧ m.2.2.2.length ≤ 100
def spShowN : Sp := fun vs H Q _ => ∃ (day : Int) (pn pr : Addr) (names : List Str) (N : List RdT),vs = [.int day,.ref pn,.ref pr] ∧ Sm day ∧ H pn = some (.lst (names.map V.str)) ∧ NA H pr N ∧ NetOk names N ∧ ∀ H',Same H H' → Q (.str (netT day names N)) H'
theorem at_nm {names : List Str} {i : Int} (h0 : 0 ≤ i) (h1 : i < names.length) : atI (names.map V.str) i = some (.str (nmT names i)) := by
 obtain ⟨k,rfl⟩ := Int.eq_ofNat_of_zero_le h0
 refine atI_nat ?_
 have hk : k < names.length := by omega
 rw [List.getElem?_map,List.getElem?_eq_getElem hk]
 simp [nmT,List.getD,List.getElem?_eq_getElem hk]
theorem nm_len {names : List Str} {B : Nat} (h : ∀ x ∈ names,x.length ≤ B) (i : Int) : (nmT names i).length ≤ B := by
 unfold nmT
 rcases Nat.lt_or_ge i.toNat names.length with z | z
 ·have e : names.getD i.toNat Str.empty = names[i.toNat] := by simp [List.getD,List.getElem?_eq_getElem z]
  rw [e]
  exact h _ (List.getElem_mem z)
 ·have e : names.getD i.toNat Str.empty = Str.empty := by simp [List.getD,List.getElem?_eq_none z]
  rw [e]
  exact Nat.zero_le _
section
variable {P : Program} {w : World} {K : PySem.W.Frag} {mg : Str → Option Value} {base : Heap} {f : Addr} {fd : FuncData} {n : Nat}
theorem ok_showw (F : Fun K "show_window" "show_window" st_show_window f fd) : FnOk P w K mg base CX0 (n + 1) f fd ["a","b","c"] spShowW := by
 refine F.okQ sc_show_window (fun vs H Q E h => ?_) (fun cdv A outer s H vs Q E hr h => ?_)
 ·obtain ⟨_,_,_,rfl,_⟩ := h
  rfl
 obtain ⟨a,b,c,rfl,ha,hb,hc,q⟩ := h
 refine ⟨_,(qss_one (qs_ret (qe_ifExp (qt_cmpR qop_lt (qv 0) (qv 1) (nomark _)) (qe_fstr (qf_val (qv 0) (qf_str (qf_val (qv 1) (qf_str (qf_val (qv 2) qf_nil)))))) (qe_fstr (qf_val (qv 0) (qf_str (qf_val (qv 2) qf_nil))))))),?_⟩
 try dsimp only [cx_k,cx_kn,as_nil,as_name,Nat.reduceAdd]
 have h1 := ha.len
 have h2 := hb.len
 have h3 := hc.len
 have e1 : ("-" : Str).length = 1 := by decide
 have e2 : ("+" : Str).length = 1 := by decide
 unfold winT at q
 dsimp only at q
 refine ⟨_,rfl,_,rfl,_,_,rfl,rfl,_,rfl,ite2 (fun z => ?_) (fun z => ?_)⟩
 ·rw [if_pos (of_decide_eq_true z)] at q
  refine ⟨_,rfl,.inl ⟨_,rfl,ha.log,L.le (by simp only [Str.length_append,len_empty]; omega),L.le (by simp only [Str.length_append,len_empty,e1]; omega),_,rfl,.inl ⟨_,rfl,hb.log,L.le (by simp only [Str.length_append,len_empty,e1]; omega),L.le (by simp only [Str.length_append,len_empty,e1,e2]; omega),_,rfl,.inl ⟨_,rfl,hc.log,L.le (by simp only [Str.length_append,len_empty,e1,e2]; omega),L.le (by simp only [Str.length_append,len_empty,e1,e2]; omega),q⟩⟩⟩⟩
 ·rw [if_neg (fun y => z (decide_eq_true y))] at q
  refine ⟨_,rfl,.inl ⟨_,rfl,ha.log,L.le (by simp only [Str.length_append,len_empty]; omega),L.le (by simp only [Str.length_append,len_empty,e2]; omega),_,rfl,.inl ⟨_,rfl,hc.log,L.le (by simp only [Str.length_append,len_empty,e2]; omega),L.le (by simp only [Str.length_append,len_empty,e2]; omega),q⟩⟩⟩
theorem ok_showb (F : Fun K "show_board" "show_board" st_show_board f fd) (C_show_window : Callee P w K mg base n "show_window" ["a","b","c"] spShowW) : FnOk P w K mg base CX0 (n + 1) f fd ["board"] spShowB := by
 refine F.okQ sc_show_board (fun vs H Q E h => ?_) (fun cdv A outer s H vs Q E hr h => ?_)
 ·obtain ⟨_,_,rfl,_⟩ := h
  rfl
 obtain ⟨p,R,rfl,hR,hW,hl,q⟩ := h
 refine ⟨_,(qss_one (qs_ret (qe_join qe_str (qa_c (qe_comp ["a","b","c"] [none,none,none] (BlkOk.of rfl rfl (SubL.to subN) rfl) rfl (qi_list (qv 0)) (fun _ _ _ _ => (qg_tupK (n := 3) K rfl rfl (qgs_cons (qg_name (i := 0) (show (["a","b","c"] : List Str).Nodup by decide) rfl (Or.inl rfl)) (qgs_cons (qg_name (i := 1) (show (["a","b","c"] : List Str).Nodup by decide) rfl (Or.inl rfl)) (qgs_cons (qg_name (i := 2) (show (["a","b","c"] : List Str).Nodup by decide) rfl (Or.inl rfl)) qgs_nil))))) (fun _ _ _ _ => (qe_fn C_show_window hr rfl (qa_c (qv 0) (qa_c (qv 1) (qa_c (qv 2) qa_nil)))))) qa_nil)))),?_⟩
 try dsimp only [cx_k,cx_kn,as_nil,as_name,Nat.reduceAdd]
 obtain ⟨ws,hw1,hw2,hw3⟩ := hR.lst
 refine ⟨rfl,_,rfl,p,rfl,⟨_,SqL.of hw1⟩,?_⟩
 refine comp_list0 (K := K) (a := p) (xs := ws) (fun D i H' => Same H H' ∧ H' D = some (.lst (((R.take i).map winT).map V.str))) (fun D hD => ⟨same_new hD _,upd_same⟩) (fun D i H' _ _ h => SqL.of (h.1 _ _ hw1)) ?_ ?_
 ·rintro D i y H' hD hi ⟨sD,eD⟩
  obtain ⟨r,x,rfl,ex,er⟩ := hw3 i y hi
  obtain ⟨a,b,c⟩ := x
  obtain ⟨s1,s2,s3⟩ := hW _ (List.mem_of_getElem? ex)
  have hi2 := (List.getElem?_eq_some_iff.mp hi).1
  refine ⟨r,_,rfl,SqT.of (sD _ _ er),rfl,_,_,rfl,_,_,rfl,_,_,rfl,rfl,fun k v e => ?_,?_⟩
  ·match k,e with
   | 0,e => cases e
   | 1,e => cases e
   | 2,e => cases e
   | k + 3,e => cases e
  refine ⟨_,rfl,_,rfl,_,rfl,a,b,c,rfl,s1,s2,s3,_,eD,line_of (by rw [List.length_map,List.length_map,List.length_take]; omega),same_wr hD sD,?_⟩
  rw [upd_same,take_snoc winT ex,List.map_append]
  rfl
 ·rintro D H' hD ⟨sD,eD⟩
  rw [hw2,List.take_length] at eD
  have e1 : (" " : Str).length = 1 := by decide
  refine ⟨_,D,_,rfl,rfl,SqL.of eD,joinOk_of (B := 50) (fun y hy => ?_) (by rw [List.length_map,e1]; omega),q H' sD⟩
  obtain ⟨x,hx,rfl⟩ := List.mem_map.mp hy
  exact winT_len (hW x hx)
theorem ok_showr (F : Fun K "show_road" "show_road" st_show_road f fd) (B : Bl mg) (C_show_board : Callee P w K mg base n "show_board" ["board"] spShowB) : FnOk P w K mg base CX0 (n + 1) f fd ["start","end","board"] spShowR := by
 refine F.okQ sc_show_road (fun vs H Q E h => ?_) (fun cdv A outer s H vs Q E hr h => ?_)
 ·obtain ⟨_,_,_,_,rfl,_⟩ := h
  rfl
 obtain ⟨sv,ev,p,R,rfl,hs,he,hR,hW,hl,q⟩ := h
 refine ⟨_,(qss_cons (qs_set (i := 3) sc_show_road.nd rfl (Or.inl rfl) (qe_fn C_show_board hr rfl (qa_c (qv 2) qa_nil))) (qss_one (qs_ret (qe_ifExp (qt_cmpR qop_gt (qe_cb qcall_len rfl B.len bt_len (qa_c (qv 2) qa_nil)) qe_int (nomark _)) (qe_fstr (qf_val (qv 0) (qf_str (qf_val (qv 1) (qf_str (qf_val (qv 3) qf_nil)))))) (qe_fstr (qf_val (qv 0) (qf_str (qf_val (qv 1) qf_nil)))))))),?_⟩
 try dsimp only [cx_k,cx_kn,as_nil,as_name,Nat.reduceAdd]
 refine ⟨_,rfl,p,R,rfl,hR,hW,hl,fun H1 s1 => ?_⟩
 have hb := boardT_len hW hl
 have e1 : (" " : Str).length = 1 := by decide
 have e2 : (">" : Str).length = 1 := by decide
 obtain ⟨ws,hw1,hw2,hw3⟩ := hR.lst
 have q1 := q H1 s1
 unfold roadT at q1
 refine ⟨_,rfl,p,_,rfl,.inl (SqL.of (s1 _ _ hw1)),_,_,rfl,rfl,_,rfl,ite2 (fun z => ?_) (fun z => ?_)⟩
 ·have z' : (0 : Int) < ((ws.length : Nat) : Int) := of_decide_eq_true z
  rw [if_neg (fun e => by rw [e] at hw2; simp at hw2; rw [hw2] at z'; simp at z')] at q1
  refine ⟨_,rfl,.inr ⟨_,rfl,L.le (by omega),L.le (by simp only [Str.length_append,len_empty]; omega),L.le (by simp only [Str.length_append,len_empty,e2]; omega),_,rfl,.inr ⟨_,rfl,L.le (by omega),L.le (by simp only [Str.length_append,len_empty,e2]; omega),L.le (by simp only [Str.length_append,len_empty,e1,e2]; omega),_,rfl,.inr ⟨_,rfl,L.le (by omega),L.le (by simp only [Str.length_append,len_empty,e1,e2]; omega),L.le (by simp only [Str.length_append,len_empty,e1,e2]; omega),q1⟩⟩⟩⟩
 ·have z' : ¬ (0 : Int) < ((ws.length : Nat) : Int) := fun y => z (decide_eq_true y)
  rw [if_pos (List.length_eq_zero_iff.mp (by omega))] at q1
  refine ⟨_,rfl,.inr ⟨_,rfl,L.le (by omega),L.le (by simp only [Str.length_append,len_empty]; omega),L.le (by simp only [Str.length_append,len_empty,e2]; omega),_,rfl,.inr ⟨_,rfl,L.le (by omega),L.le (by simp only [Str.length_append,len_empty,e2]; omega),L.le (by simp only [Str.length_append,len_empty,e2]; omega),q1⟩⟩⟩
theorem ok_shown (F : Fun K "show_net" "show_net" st_show_net f fd) (C_show_road : Callee P w K mg base n "show_road" ["start","end","board"] spShowR) : FnOk P w K mg base CX0 (n + 1) f fd ["day","names","roads"] spShowN := by
 refine F.okQ sc_show_net (fun vs H Q E h => ?_) (fun cdv A outer s H vs Q E hr h => ?_)
 ·obtain ⟨_,_,_,_,_,rfl,_⟩ := h
  rfl
 obtain ⟨day,pn,pr,names,N,rfl,hd,hn,hN,hok,q⟩ := h
 refine ⟨_,(qss_one (qs_ret (qe_join qe_str (qa_c (qe_op qop_cat (qe_lst (qa_c (qe_fstr (qf_str (qf_val (qv 0) qf_nil))) qa_nil)) (qe_comp ["start","end","board","names"] [none,none,none,some 1] (BlkOk.of rfl rfl (SubL.to (subC rfl subN)) rfl) rfl (qi_list (qv 2)) (fun _ _ _ _ => (qg_tupK (n := 3) K rfl rfl (qgs_cons (qg_name (i := 0) (show (["start","end","board","names"] : List Str).Nodup by decide) rfl (Or.inl rfl)) (qgs_cons (qg_name (i := 1) (show (["start","end","board","names"] : List Str).Nodup by decide) rfl (Or.inl rfl)) (qgs_cons (qg_name (i := 2) (show (["start","end","board","names"] : List Str).Nodup by decide) rfl (Or.inl rfl)) qgs_nil))))) (fun _ _ _ _ => (qe_fn C_show_road hr rfl (qa_c (qe_ix (qix_listK K rfl) (qv 3) (qv 0) (fun _ _ => rfl)) (qa_c (qe_ix (qix_listK K rfl) (qv 3) (qv 1) (fun _ _ => rfl)) (qa_c (qv 2) qa_nil))))))) qa_nil)))),?_⟩
 try dsimp only [cx_k,cx_kn,as_nil,as_name,Nat.reduceAdd]
 have h1 := hd.len
 have e1 : ("day " : Str).length = 4 := by decide
 refine ⟨rfl,L.le (by simp only [Str.length_append,len_empty,e1]; omega),_,rfl,.inl ⟨_,rfl,hd.log,L.le (by simp only [Str.length_append,len_empty,e1]; omega),L.le (by simp only [Str.length_append,len_empty,e1]; omega),?_⟩⟩
 refine ⟨(by show 1 ≤ sizeLine; decide),fun p1 hp1 => ?_⟩
 generalize hgH1 : upd _ p1 _ = H1
 obtain ⟨s1,e2⟩ := fresh_of hp1 hgH1
 clear hgH1
 obtain ⟨ws,hw1,hw2,hw3⟩ := hN.la.lst
 rw [List.length_map] at hw2
 have hw11 := s1 _ _ hw1
 have nf := hok.few
 refine ⟨_,rfl,pr,rfl,⟨_,SqL.of hw11⟩,?_⟩
 refine comp_list0 (K := K) (a := pr) (xs := ws) (fun D i H' => Same H1 H' ∧ H' D = some (.lst (((N.take i).map (roadN names)).map V.str))) (fun D hD => ⟨same_new hD _,upd_same⟩) (fun D i H' _ _ h => SqL.of (h.1 _ _ hw11)) ?_ ?_
 ·rintro D i y H' hD hi ⟨sD,eD⟩
  obtain ⟨r,x,rfl,ex,er⟩ := hw3 i y hi
  have hi2 : i < N.length := by
   have := (List.getElem?_eq_some_iff.mp hi).1
   omega
  have em := List.getElem?_eq_getElem hi2
  rw [List.getElem?_map,em] at ex
  cases ex
  obtain ⟨m1,m2,m3,m4,m5,m6⟩ := hok.rd _ (List.getElem_mem hi2)
  have hb := (hN.bd _ (List.getElem_mem hi2)).1
  generalize hm : N[i] = m at *
  refine ⟨r,_,rfl,SqT.of (sD _ _ (s1 _ _ er)),rfl,_,_,rfl,_,_,rfl,_,_,rfl,rfl,fun k v e => ?_,?_⟩
  ·match k,e with
   | 0,e => cases e
   | 1,e => cases e
   | 2,e => cases e
   | 3,e => exact e
   | k + 4,e => cases e
  have hn' := sD _ _ (s1 _ _ hn)
  refine ⟨_,rfl,_,rfl,pn,_,_,_,rfl,rfl,SqL.of hn',at_nm m1 m2,_,rfl,_,rfl,pn,_,_,_,rfl,rfl,SqL.of hn',at_nm m3 m4,_,rfl,_,_,m.2.2.1,m.2.2.2,rfl,nm_len hok.nm _,nm_len hok.nm _,(hb.same s1).same sD,m5,m6,fun H2 s2 => ?_⟩
  refine ⟨_,s2 _ _ eD,line_of (by rw [List.length_map,List.length_map,List.length_take]; omega),same_wr hD (sD.trans s2),?_⟩
  rw [upd_same,take_snoc (roadN names) em,List.map_append]
  rfl
 ·rintro D H' hD ⟨sD,eD⟩
  rw [hw2,List.take_length] at eD
  refine ⟨p1,D,_,_,rfl,rfl,sD _ _ e2,eD,L.le (by simp; omega),fun p3 hp3 => ?_⟩
  generalize hgH3 : upd _ p3 _ = H3
  obtain ⟨s3,e3⟩ := fresh_of hp3 hgH3
  clear hgH3
  have e5 : ("; " : Str).length = 2 := by decide
  refine ⟨_,p3,(Str.empty ++ "day " ++ (Str.ofString (toString day))) :: N.map (roadN names),rfl,rfl,SqL.of e3,joinOk_of (B := 5400) (fun y hy => ?_) (by rw [List.length_cons,List.length_map,e5]; omega),q H3 ((s1.trans sD).trans s3)⟩
  rcases List.mem_cons.mp hy with rfl | hy
  ·simp only [Str.length_append,len_empty,e1]
   omega
  ·obtain ⟨m,hm,rfl⟩ := List.mem_map.mp hy
   obtain ⟨_,_,_,_,m5,m6⟩ := hok.rd m hm
   exact roadT_len m5 m6 (nm_len hok.nm _) (nm_len hok.nm _)
end
section
open PySem.Spec PyProof.Rows
theorem qcall_max3 {X : Cx} (hc : X.calm = true) : QCall X (.builtin "max") (fun xs H Q => ∃ i j k,xs = [.int i,.int j,.int k] ∧ ∀ m : Int,i ≤ m → j ≤ m → k ≤ m → (m = i ∨ m = j ∨ m = k) → Q (.int m) H) := ⟨by
 intro pins s σ H xs us Q I r h
 obtain ⟨i,j,k,rfl,q⟩ := h
 obtain ⟨t,u,x,rfl⟩ : ∃ t u x,us = [.int i t,.int j u,.int k x] := by
  cases r with
  | cons p q =>
   cases q with
   | cons p' q' =>
    cases q' with
    | cons p'' q'' =>
     cases q''
     obtain ⟨t,rfl⟩ := p
     obtain ⟨u,rfl⟩ := p'
     obtain ⟨x,rfl⟩ := p''
     exact ⟨_,_,_,rfl⟩
 refine max_three_ints (I.ok.hd hc) fun h' tk kp => ?_
 by_cases c1 : j > i
 ·rw [if_pos c1]
  by_cases c2 : k > j
  ·rw [if_pos c2]
   exact ⟨.int k,H,I.kept kp,⟨_,rfl⟩,q k (by omega) (by omega) (by omega) (by omega)⟩
  ·rw [if_neg c2]
   exact ⟨.int j,H,I.kept kp,⟨_,rfl⟩,q j (by omega) (by omega) (by omega) (by omega)⟩
 ·rw [if_neg c1]
  by_cases c2 : k > i
  ·rw [if_pos c2]
   exact ⟨.int k,H,I.kept kp,⟨_,rfl⟩,q k (by omega) (by omega) (by omega) (by omega)⟩
  ·rw [if_neg c2]
   exact ⟨.int i,H,I.kept kp,⟨_,rfl⟩,q i (by omega) (by omega) (by omega) (by omega)⟩⟩
end
theorem join_fold (sep : Str) : ∀ (rest : List Str) (x : Str),Txt.join sep (x :: rest) = rest.foldl (fun acc p => acc ++ sep ++ p) x := by
 have h : ∀ (rest : List Str) (x : Str),Str.join sep (x :: rest) = rest.foldl (fun acc p => acc ++ sep ++ p) x := by
  intro rest
  induction rest with
  | nil => intro x; rfl
  | cons y r ih =>
   intro x
   rw [List.foldl_cons,← ih (x ++ sep ++ y),StrLaws.join_shift]
   rfl
 intro rest x
 unfold Txt.join
 rw [StrLaws.glued_eq_join]
 exact h rest x
def wStep (acc : Str) (w : T3) : Str := (if w.1 < w.2.1 then acc ++ " " ++ Str.ofString (toString w.1) ++ "-" ++ Str.ofString (toString w.2.1) else acc ++ " " ++ Str.ofString (toString w.1)) ++ "+" ++ Str.ofString (toString w.2.2)
theorem wStep_eq (acc : Str) (w : T3) : wStep acc w = acc ++ " " ++ winT w := by
 unfold wStep winT
 split <;> simp only [Str.append_assoc,Str.empty_append]
theorem foldl_pre {α : Type} (g : α → Str) (sep : Str) : ∀ (l : List α) (x y : Str),l.foldl (fun acc p => acc ++ sep ++ g p) (x ++ y) = x ++ l.foldl (fun acc p => acc ++ sep ++ g p) y
 | [],x,y => rfl
 | p :: l,x,y => by
  rw [List.foldl_cons,List.foldl_cons,← foldl_pre g sep l x (y ++ sep ++ g p)]
  simp only [Str.append_assoc]
theorem foldl_w (R : List T3) (acc : Str) : R.foldl wStep acc = if R = [] then acc else acc ++ " " ++ boardT R := by
 have e : wStep = fun acc w => acc ++ " " ++ winT w := by
  funext acc w
  exact wStep_eq acc w
 cases R with
 | nil => rfl
 | cons w R =>
  rw [if_neg (by simp),e,List.foldl_cons]
  unfold boardT
  rw [List.map_cons,join_fold,List.foldl_map,foldl_pre]
def rStep (names : List Str) (acc : Str) (m : RdT) : Str := m.2.2.2.foldl wStep (acc ++ "; " ++ nmT names m.1 ++ ">" ++ nmT names m.2.1)
theorem rStep_eq (names : List Str) (acc : Str) (m : RdT) : rStep names acc m = acc ++ "; " ++ roadN names m := by
 unfold rStep roadN roadT
 rw [foldl_w]
 split <;> simp only [Str.append_assoc,Str.empty_append]
theorem net_eq (day : Int) (names : List Str) (N : List RdT) : N.foldl (rStep names) ("day " ++ Str.ofString (toString day)) = netT day names N := by
 have e : rStep names = fun acc m => acc ++ "; " ++ roadN names m := by
  funext acc m
  exact rStep_eq names acc m
 unfold netT
 rw [join_fold,List.foldl_map,e,Str.empty_append]
theorem wStep_len {acc : Str} {w : T3} (h : Sm w.1 ∧ Sm w.2.1 ∧ Sm w.2.2) : (wStep acc w).length ≤ acc.length + 51 := by
 have e1 : (" " : Str).length = 1 := by decide
 have := winT_len h
 rw [wStep_eq]
 simp only [Str.length_append,e1]
 omega
theorem foldw_len : ∀ (R : List T3) (acc : Str),SmW R → (R.foldl wStep acc).length ≤ acc.length + 51 * R.length
 | [],acc,_ => by simp
 | w :: R,acc,h => by
  have h1 := foldw_len R (wStep acc w) fun x hx => h x (List.mem_cons_of_mem _ hx)
  have h2 := wStep_len (acc := acc) (h w (List.mem_cons_self ..))
  rw [List.foldl_cons,List.length_cons]
  omega
def spText : Sp := fun vs H Q _ => ∃ (day : Int) (pn pr : Addr) (names : List Str) (N : List RdT),vs = [.int day,.ref pn,.ref pr] ∧ Sm day ∧ H pn = some (.lst (names.map V.str)) ∧ NA H pr N ∧ NetOk names N ∧ Q (.str (netT day names N)) H
theorem NA.add {H : Hp} {p r b : Addr} {N : List RdT} {s e : Int} {vs : List V} {R : List T3} (h : NA H p N) (fb : b ≠ p ∧ b ∉ N.map fun m => m.2.2.1) (hx : H p = some (.lst vs)) (hb : LA enc3 H b R) (hr : H r = some (.tup [.int s,.int e,.ref b])) : NA (upd H p (.lst (vs ++ [.ref r]))) p (N ++ [(s,e,b,R)]) := by
 refine ⟨?_,fun m hm => ?_,?_⟩
 ·rw [List.map_append]
  exact h.la.append (x := (s,e,b)) hx hr
 ·rcases List.mem_append.mp hm with hm | hm
  ·obtain ⟨h1,h2⟩ := h.bd m hm
   exact ⟨la_clear h1 hx h2,h2⟩
  ·rw [List.mem_singleton] at hm
   subst hm
   exact ⟨la_clear hb hx fb.1,fb.1⟩
 ·rw [List.map_append]
  refine List.nodup_append.mpr ⟨h.nd,by simp,fun x hx y hy => ?_⟩
  simp only [List.map_cons,List.map_nil,List.mem_singleton] at hy
  subst hy
  exact fun z => fb.2 (z ▸ hx)
def strip (m : RdT) : Int × Int × List T3 := (m.1,m.2.1,m.2.2.2)
def datS (x : Int × Int × List T3) : PyData := .tuple [.int x.1,.int x.2.1,datB x.2.2]
theorem datN_strip (N : List RdT) : N.map datN = (N.map strip).map datS := by rw [List.map_map]; rfl
def spCopy : Sp := fun vs H Q _ => ∃ (p : Addr) (N : List RdT),vs = [.ref p] ∧ NA H p N ∧ N.length ≤ 100 ∧ ∀ (l : Addr) (M : List RdT) (H' : Hp),Same H H' → NA H' l M → M.map strip = N.map strip → Q (.ref l) H'
section
variable {P : Program} {w : World} {K : PySem.W.Frag} {mg : Str → Option Value} {base : Heap} {f : Addr} {fd : FuncData} {n : Nat}
theorem ok_text (F : Fun K "_law_text" "_law_text" st__law_text f fd) (B : Bl mg) : FnOk P w K mg base CX0 (n + 1) f fd ["day","names","roads"] spText := by
 refine F.okQ sc__law_text (fun vs H Q E h => ?_) (fun cdv A outer s H vs Q E hr h => ?_)
 ·obtain ⟨_,_,_,_,_,rfl,_⟩ := h
  rfl
 obtain ⟨day,pn,pr,names,N,rfl,hd,hn,hN,hok,q⟩ := h
 refine ⟨_,(qss_cons (qs_set (i := 3) sc__law_text.nd rfl (Or.inl rfl) (qe_op qop_addS qe_str (qe_ct qcall_str rfl B.str_ bt_str (qa_c (qv 0) qa_nil)))) (qss_cons (qs_for PassesOwn.never rfl (qi_list (qv 2)) (qg_tup rfl (qgs_cons (qg_name (i := 4) sc__law_text.nd rfl (Or.inl rfl)) (qgs_cons (qg_name (i := 5) sc__law_text.nd rfl (Or.inl rfl)) (qgs_cons (qg_name (i := 6) sc__law_text.nd rfl (Or.inl rfl)) qgs_nil)))) (qss_cons (qs_set (i := 3) sc__law_text.nd rfl (Or.inl rfl) (qe_op qop_addS (qe_op qop_addS (qe_op qop_addS (qe_op qop_addS (qv 3) qe_str) (qe_ix qix_list (qv 1) (qv 4) (fun _ _ => rfl))) qe_str) (qe_ix qix_list (qv 1) (qv 5) (fun _ _ => rfl)))) (qss_one (qs_for PassesOwn.never rfl (qi_list (qv 6)) (qg_tup rfl (qgs_cons (qg_name (i := 7) sc__law_text.nd rfl (Or.inl rfl)) (qgs_cons (qg_name (i := 8) sc__law_text.nd rfl (Or.inl rfl)) (qgs_cons (qg_name (i := 9) sc__law_text.nd rfl (Or.inl rfl)) qgs_nil)))) (qss_cons (qs_set (i := 3) sc__law_text.nd rfl (Or.inl rfl) (qe_op qop_addS (qe_op qop_addS (qv 3) qe_str) (qe_ct qcall_str rfl B.str_ bt_str (qa_c (qv 7) qa_nil)))) (qss_cut (qs_if (qt_cmpR qop_lt (qv 7) (qv 8) (nomark _)) (qss_one (qs_set (i := 3) sc__law_text.nd rfl (Or.inl rfl) (qe_op qop_addS (qe_op qop_addS (qv 3) qe_str) (qe_ct qcall_str rfl B.str_ bt_str (qa_c (qv 8) qa_nil))))) qss_nil) (qss_one (qs_set (i := 3) sc__law_text.nd rfl (Or.inl rfl) (qe_op qop_addS (qe_op qop_addS (qv 3) qe_str) (qe_ct qcall_str rfl B.str_ bt_str (qa_c (qv 9) qa_nil))))))))))) (qss_one (qs_ret (qv 3))))),?_⟩
 try dsimp only [cx_k,cx_kn,as_nil,as_name,Nat.reduceAdd]
 have h1 := hd.len
 have e1 : ("day " : Str).length = 4 := by decide
 have e2 : ("; " : Str).length = 2 := by decide
 have e3 : (">" : Str).length = 1 := by decide
 have e4 : (" " : Str).length = 1 := by decide
 have e5 : ("-" : Str).length = 1 := by decide
 have e6 : ("+" : Str).length = 1 := by decide
 have nf := hok.few
 refine ⟨_,rfl,_,rfl,hd.log,_,_,rfl,rfl,L.le (by rw [e1]; omega),?_⟩
 obtain ⟨ws,hw1,hw2,hw3⟩ := hN.la.lst
 rw [List.length_map] at hw2
 refine ⟨_,rfl,pr,rfl,⟨_,SqL.of hw1⟩,for_list (K := K) (a := pr) (xs := ws)
  (fun i σ H' => H' = H ∧ (∃ v1 v2 v3 v4 v5 v6 : Option V,σ = [some (.int day),some (.ref pn),some (.ref pr),some (.str ((N.take i).foldl (rStep names) ("day " ++ Str.ofString (toString day)))),v1,v2,v3,v4,v5,v6]) ∧ ((N.take i).foldl (rStep names) ("day " ++ Str.ofString (toString day))).length ≤ 20 + 5500 * i)
  ⟨rfl,⟨_,_,_,_,_,_,rfl⟩,by simp only [List.take_zero,List.foldl_nil,Str.length_append,e1]; omega⟩ (fun i σ H' _ h => by rw [h.1]; exact SqL.of hw1) ?_ ?_⟩
 ·rintro i y σ H' hi ⟨rfl,⟨v1,v2,v3,v4,v5,v6,rfl⟩,hlen⟩
  obtain ⟨r,x,rfl,ex,er⟩ := hw3 i y hi
  have hi2 : i < N.length := by
   have := (List.getElem?_eq_some_iff.mp hi).1
   omega
  have em := List.getElem?_eq_getElem hi2
  rw [List.getElem?_map,em] at ex
  cases ex
  have et : N.take (i + 1) = N.take i ++ [N[i]] := by rw [List.take_add_one,em]; rfl
  obtain ⟨m1,m2,m3,m4,m5,m6⟩ := hok.rd _ (List.getElem_mem hi2)
  have hb := (hN.bd _ (List.getElem_mem hi2)).1
  rw [et,List.foldl_append,List.foldl_cons,List.foldl_nil]
  generalize hm : N[i] = m at *
  generalize (N.take i).foldl (rStep names) ("day " ++ Str.ofString (toString day)) = acc at *
  have l1 := nm_len hok.nm m.1
  have l2 := nm_len hok.nm m.2.1
  have er : H' r = some (.tup [.int m.1,.int m.2.1,.ref m.2.2.1]) := er
  refine ⟨r,_,rfl,SqT.of er,rfl,_,_,rfl,_,_,rfl,_,_,rfl,rfl,?_⟩
  refine ⟨_,rfl,_,_,rfl,rfl,L.le (by rw [e2]; omega),_,rfl,_,rfl,pn,_,_,_,rfl,rfl,SqL.of hn,at_nm m1 m2,_,_,rfl,rfl,L.le (by simp only [Str.length_append,e2]; omega),_,_,rfl,rfl,L.le (by simp only [Str.length_append,e2,e3]; omega),_,rfl,_,rfl,pn,_,_,_,rfl,rfl,SqL.of hn,at_nm m3 m4,_,_,rfl,rfl,L.le (by simp only [Str.length_append,e2,e3]; omega),?_⟩
  have al : (acc ++ "; " ++ nmT names m.1 ++ ">" ++ nmT names m.2.1).length ≤ 300 + 5500 * i := by simp only [Str.length_append,e2,e3]; omega
  unfold rStep
  have fl := foldw_len m.2.2.2 (acc ++ "; " ++ nmT names m.1 ++ ">" ++ nmT names m.2.1) m5
  generalize acc ++ "; " ++ nmT names m.1 ++ ">" ++ nmT names m.2.1 = ac at *
  obtain ⟨bs,hb1,hb2,hb3⟩ := hb.lst
  refine ⟨_,rfl,m.2.2.1,rfl,⟨_,SqL.of hb1⟩,for_list (K := K) (a := m.2.2.1) (xs := bs)
   (fun j σ H'' => H'' = H' ∧ (∃ v4 v5 v6 : Option V,σ = [some (.int day),some (.ref pn),some (.ref pr),some (.str ((m.2.2.2.take j).foldl wStep ac)),some (.int m.1),some (.int m.2.1),some (.ref m.2.2.1),v4,v5,v6]) ∧ ((m.2.2.2.take j).foldl wStep ac).length ≤ ac.length + 51 * j)
   ⟨rfl,⟨_,_,_,rfl⟩,by simp⟩ (fun i σ H'' _ h => by rw [h.1]; exact SqL.of hb1) ?_ ?_⟩
  ·rintro j z σ H'' hj ⟨rfl,⟨v4,v5,v6,rfl⟩,hlj⟩
   obtain ⟨r2,x,rfl,ex,er2⟩ := hb3 j z hj
   have et2 : m.2.2.2.take (j + 1) = m.2.2.2.take j ++ [x] := by rw [List.take_add_one,ex]; rfl
   have jl := (List.getElem?_eq_some_iff.mp ex).1
   obtain ⟨a,b,c⟩ := x
   have sm := m5 _ (List.mem_of_getElem? ex)
   rw [et2,List.foldl_append,List.foldl_cons,List.foldl_nil]
   have wl := wStep_len (acc := (m.2.2.2.take j).foldl wStep ac) sm
   obtain ⟨s1,s2,s3⟩ := sm
   have k1 := s1.len
   have k2 := s2.len
   have k3 := s3.len
   generalize (m.2.2.2.take j).foldl wStep ac = tx at *
   dsimp only at *
   refine ⟨r2,_,rfl,SqT.of er2,rfl,_,_,rfl,_,_,rfl,_,_,rfl,rfl,?_⟩
   refine ⟨_,rfl,_,_,rfl,rfl,L.le (by rw [e4]; omega),_,rfl,_,rfl,s1.log,_,_,rfl,rfl,L.le (by simp only [Str.length_append,e4]; omega),?_⟩
   refine ⟨fun σ' H2 => H2 = H'' ∧ σ' = [some (.int day),some (.ref pn),some (.ref pr),some (.str (if a < b then tx ++ " " ++ Str.ofString (toString a) ++ "-" ++ Str.ofString (toString b) else tx ++ " " ++ Str.ofString (toString a))),some (.int m.1),some (.int m.2.1),some (.ref m.2.2.1),some (.int a),some (.int b),some (.int c)],?_,?_⟩
   ·refine ⟨_,rfl,_,rfl,_,_,rfl,rfl,_,rfl,ite2 (fun y => ?_) (fun y => ?_)⟩
    ·rw [if_pos (of_decide_eq_true y)]
     exact ⟨_,rfl,_,_,rfl,rfl,L.le (by simp only [Str.length_append,e4,e5]; omega),_,rfl,_,rfl,s2.log,_,_,rfl,rfl,L.le (by simp only [Str.length_append,e4,e5]; omega),rfl,rfl⟩
    ·rw [if_neg (fun z => y (decide_eq_true z))]
     exact ⟨rfl,rfl⟩
   rintro σ' H2 ⟨rfl,rfl⟩
   have tl : (if a < b then tx ++ " " ++ Str.ofString (toString a) ++ "-" ++ Str.ofString (toString b) else tx ++ " " ++ Str.ofString (toString a)).length ≤ tx.length + 40 := by
    split <;> simp only [Str.length_append,e4,e5] <;> omega
   refine ⟨_,rfl,_,_,rfl,rfl,L.le (by rw [e6]; omega),_,rfl,_,rfl,s3.log,_,_,rfl,rfl,L.le (by simp only [Str.length_append,e6]; omega),?_⟩
   exact ⟨rfl,⟨_,_,_,rfl⟩,by show (wStep tx (a,b,c)).length ≤ _; omega⟩
  ·rintro σ H'' ⟨rfl,⟨v4,v5,v6,rfl⟩,hlj⟩
   rw [hb2,List.take_length]
   exact ⟨rfl,⟨_,_,_,_,_,_,rfl⟩,by omega⟩
 ·rintro σ H' ⟨rfl,⟨v1,v2,v3,v4,v5,v6,rfl⟩,hlen⟩
  rw [hw2,List.take_length,net_eq]
  exact ⟨_,rfl,q⟩
theorem ok_copy (F : Fun K "_law_copy" "_law_copy" st__law_copy f fd) (B : Bl mg) : FnOk P w K mg base CX0 (n + 1) f fd ["roads"] spCopy := by
 refine F.okQ sc__law_copy (fun vs H Q E h => ?_) (fun cdv A outer s H vs Q E hr h => ?_)
 ·obtain ⟨_,_,rfl,_⟩ := h
  rfl
 obtain ⟨pr,N,rfl,hN,hl,q⟩ := h
 refine ⟨_,(qss_one (qs_ret (qe_comp ["start","end","board"] [none,none,none] (BlkOk.of rfl rfl (SubL.to subN) rfl) rfl (qi_list (qv 0)) (fun _ _ _ _ => (qg_tupK (n := 3) K rfl rfl (qgs_cons (qg_name (i := 0) (show (["start","end","board"] : List Str).Nodup by decide) rfl (Or.inl rfl)) (qgs_cons (qg_name (i := 1) (show (["start","end","board"] : List Str).Nodup by decide) rfl (Or.inl rfl)) (qgs_cons (qg_name (i := 2) (show (["start","end","board"] : List Str).Nodup by decide) rfl (Or.inl rfl)) qgs_nil))))) (fun _ _ _ _ => (qe_tup (qa_c (qv 0) (qa_c (qv 1) (qa_c (qe_ct (qcall_listK K rfl) rfl B.list_ bt_list (qa_c (qv 2) qa_nil)) qa_nil)))))))),?_⟩
 try dsimp only [cx_k,cx_kn,as_nil,as_name,Nat.reduceAdd]
 obtain ⟨ws,hw1,hw2,hw3⟩ := hN.la.lst
 rw [List.length_map] at hw2
 refine ⟨_,rfl,pr,rfl,⟨_,SqL.of hw1⟩,?_⟩
 refine comp_list0 (K := K) (a := pr) (xs := ws) (fun D i H' => Same H H' ∧ ∃ M,NA H' D M ∧ M.map strip = (N.take i).map strip) (fun D hD => ⟨same_new hD _,[],NA.nil upd_same,rfl⟩) (fun D i H' _ _ h => SqL.of (h.1 _ _ hw1)) ?_ ?_
 ·rintro D i y H' hD hi ⟨sD,M,hM,eM⟩
  obtain ⟨r,x,rfl,ex,er⟩ := hw3 i y hi
  have hi2 : i < N.length := by
   have := (List.getElem?_eq_some_iff.mp hi).1
   omega
  have em := List.getElem?_eq_getElem hi2
  rw [List.getElem?_map,em] at ex
  cases ex
  have hb := (hN.bd _ (List.getElem_mem hi2)).1
  generalize hm : N[i] = m at *
  refine ⟨r,_,rfl,SqT.of (sD _ _ er),rfl,_,_,rfl,_,_,rfl,_,_,rfl,rfl,fun k v e => ?_,?_⟩
  ·match k,e with
   | 0,e => cases e
   | 1,e => cases e
   | 2,e => cases e
   | k + 3,e => cases e
  obtain ⟨bs,hb1,hb2,hb3⟩ := (hb.same sD).lst
  refine ⟨_,rfl,_,rfl,_,rfl,m.2.2.1,_,rfl,.inl (SqL.of hb1),fun p1 hp1 => ?_⟩
  have fb := hM.fresh hp1
  generalize hgH1 : upd _ p1 _ = H1
  obtain ⟨s1,e1⟩ := fresh_of hp1 hgH1
  clear hgH1
  have hc := (hb.same sD).copy s1 hb1 e1
  refine ⟨(by show 3 ≤ sizeLine; decide),fun rr hrr => ?_⟩
  generalize hgH2 : upd _ rr _ = H2
  obtain ⟨s2,e2⟩ := fresh_of hrr hgH2
  clear hgH2
  obtain ⟨vs,hv1,hv2,_⟩ := ((hM.same s1).same s2).la.lst
  have ml : M.length = i := by
   have := congrArg List.length eM
   rw [List.length_map,List.length_map,List.length_take] at this
   omega
  rw [List.length_map] at hv2
  refine ⟨_,hv1,line_of (by omega),same_wr hD ((sD.trans s1).trans s2),M ++ [(m.1,m.2.1,p1,m.2.2.2)],((hM.same s1).same s2).add fb hv1 (hc.same s2) e2,?_⟩
  rw [List.map_append,eM,take_snoc strip em]
  rfl
 ·rintro D H' hD ⟨sD,M,hM,eM⟩
  rw [hw2,List.take_length] at eM
  exact q D M H' sD hM eM
theorem lay_small : ∀ {ns : List Int},(∀ x ∈ ns,0 ≤ x ∧ x < 4) → PyData.weightAll (ns.map .int) ≤ 4 * ns.length
 | [],_ => by simp [PyData.weightAll]
 | x :: ns,h => by
  have h1 := lay_small (ns := ns) fun y hy => h y (List.mem_cons_of_mem _ hy)
  have h2 : PyData.weight (.int x) ≤ 3 := by
   obtain ⟨a,b⟩ := h x (List.mem_cons_self ..)
   rcases (by omega : x = 0 ∨ x = 1 ∨ x = 2 ∨ x = 3) with rfl | rfl | rfl | rfl <;> simp [PyData.weight] <;> decide
  simp only [List.map_cons,PyData.weightAll,List.length_cons]
  omega
theorem lay_ok {ns : List Int} (h : ∀ x ∈ ns,0 ≤ x ∧ x < 4) (hl : ns.length ≤ 1000) : PyData.layable0 (.list (ns.map .int)) = true := by
 unfold PyData.layable0
 have h1 := lay_small h
 have h2 := PyProof.Rows.canLayAll_ints ns
 have h3 := PyProof.Rows.depthAll_ints ns
 simp only [PyData.canLay0,PyData.depth,PyData.weight,h2,h3,Bool.and_eq_true,decide_eq_true_eq]
 exact ⟨⟨trivial,by decide⟩,decide_eq_true (Nat.le_trans h1 (Nat.le_trans (Nat.mul_le_mul_left 4 hl) (by decide : 4 * 1000 ≤ 2 ^ 20)))⟩
theorem in_ints {x : Int} {ns : List Int} : inV (.int x) (ns.map V.int) = decide (x ∈ ns) := by
 unfold inV
 rw [Bool.eq_iff_iff,List.any_eq_true,decide_eq_true_iff]
 constructor
 ·rintro ⟨y,hy,e⟩
  obtain ⟨z,hz,rfl⟩ := List.mem_map.mp hy
  have : z = x := by simpa [eqV] using e
  exact this ▸ hz
 ·intro h
  exact ⟨.int x,List.mem_map.mpr ⟨x,h,rfl⟩,by simp [eqV]⟩
theorem flat_ints (ns : List Int) : (ns.map V.int).all flatV = true := by
 rw [List.all_eq_true]
 intro y hy
 obtain ⟨z,_,rfl⟩ := List.mem_map.mp hy
 rfl
end
def okS (x : Str) : Prop := ∀ c ∈ x.cps.toList,c < 128
theorem okS.ok {x : Str} (h : okS x) : PyData.strOk x = true := by
 unfold PyData.strOk
 rw [Array.all_eq_true']
 intro c hc
 have := h c (Array.mem_toList_iff.mpr hc)
 exact decide_eq_true (by omega)
theorem okS.app {x y : Str} (h : okS x) (h' : okS y) : okS (x ++ y) := fun c hc => by
 have hc : c ∈ (x.cps ++ y.cps).toList := hc
 rw [Array.toList_append,List.mem_append] at hc
 rcases hc with hc | hc
 ·exact h c hc
 ·exact h' c hc
theorem okS.slice {x : Str} (h : okS x) (l u : Option Int) : okS (Txt.slice x l u) := fun c hc => by
 unfold Txt.slice at hc
 split at hc
 ·exact h c hc
 ·have hc : c ∈ (Builtin.Str.strSliceIndices l u 1 x.length).filterMap (x.cps[·]?) := by simpa using hc
  obtain ⟨i,_,e⟩ := List.mem_filterMap.mp hc
  exact h c (Array.mem_toList_iff.mpr (Array.mem_of_getElem? e))
theorem mulOk8 {x : Str} (h : x.length ≤ 8) : MulOk x 8 := by
 refine ⟨by decide,fun _ _ => ?_,fun _ _ => ?_⟩
 ·have : ((2 : Int) ^ 63 - 1) / 8 = 1152921504606846975 := by decide
  rw [this]
  omega
 ·unfold Builtin.Str.tooLong
  refine decide_eq_false ?_
  have : x.length * (8 : Int).toNat = x.length * 8 := rfl
  have := line_of (n := x.length * 8) (by omega)
  omega
def lettersT : Str := "abcdefghijklmnopqrstuvwxyz"
def spRoads (K : PySem.W.Frag) : Sp := fun vs H Q _ => ∃ (day size goal : Int) (a : Addr) (ns : List Int),vs = [.int day,.int size,.int goal,.ref a] ∧ SqL K H a (ns.map V.int) ∧ ns.length ≤ 63 ∧ 1 ≤ day ∧ day ≤ 1000000000000000 ∧ 1 ≤ size ∧
 ∀ (l : Addr) (N : List RdT) (H' : Hp),Same H H' → NA H' l N → RoadsIn day size N → N.length ≤ 16 → Q (.ref l) H'
theorem netT_strip {day : Int} {names : List Str} {N M : List RdT} (h : M.map strip = N.map strip) : netT day names M = netT day names N := by
 have e : ∀ N : List RdT,N.map (roadN names) = (N.map strip).map fun x => roadT (nmT names x.1) (nmT names x.2.1) x.2.2 := fun N => by rw [List.map_map]; rfl
 unfold netT
 rw [e M,e N,h]
theorem rd_strs {K : PySem.W.Frag} {H : Hp} : ∀ xs : List Str,RdAll K H (xs.map V.str) (xs.map PyData.str)
 | [] => .nil
 | x :: xs => .cons (.str _) (rd_strs xs)
section
open PySem.StrLaws PySem.Builtin.Str
theorem part_free2 {x sep : Str} {c a b : Nat} (hx : ∀ k,x.cps.toList[k]? = some c → At x sep x.length k) (hn : ∀ k,a ≤ k → k < b → ¬ At x sep x.length k) : c ∉ (strSub x a b).cps.toList := by
 intro hm
 rw [strSub_toList] at hm
 obtain ⟨j,hj⟩ := List.getElem?_of_mem hm
 have hlt : j < b - a := by
  have h1 : j < ((x.cps.toList.drop a).take (b - a)).length := (List.getElem?_eq_some_iff.mp hj).1
  simp at h1
  omega
 rw [List.getElem?_take_of_lt hlt,List.getElem?_drop] at hj
 exact hn (a + j) (by omega) (by omega) (hx _ hj)
theorem parts_free2 {x sep : Str} {c : Nat} (hx : ∀ k,x.cps.toList[k]? = some c → At x sep x.length k) : ∀ (cuts : List Nat) (a f : Nat),ChainG x sep x.length a cuts f → (∀ k,f ≤ k → ¬ At x sep x.length k) → ∀ p ∈ partsFrom x sep.length a cuts,c ∉ p.cps.toList
 | [],a,f,h,hn,p,hp => by
  have e : f = a := h
  subst e
  rw [List.mem_singleton.mp hp]
  exact part_free2 hx fun k h1 _ => hn k h1
 | d :: r,a,f,h,hn,p,hp => by
  rcases List.mem_cons.mp hp with rfl | hp'
  ·exact part_free2 hx h.2.2.1
  ·exact parts_free2 hx r _ f h.2.2.2 hn p hp'
theorem split_free2 {x sep : Str} {c : Nat} (hs : 1 ≤ sep.length) (hk : ¬ PySem.Builtin.Str.strKind x < PySem.Builtin.Str.strKind sep) (hx : ∀ k,x.cps.toList[k]? = some c → At x sep x.length k) : ∀ p ∈ Txt.split x sep,c ∉ p.cps.toList := by
 obtain ⟨f,hG,hn⟩ := occ_tight x sep hs
 unfold Txt.split
 split
 ·rename_i hc
  intro p hp
  rw [List.mem_singleton.mp hp]
  intro hm
  obtain ⟨j,hj⟩ := List.getElem?_of_mem hm
  have hA := hx j hj
  rw [Bool.or_eq_true,decide_eq_true_eq,decide_eq_true_eq] at hc
  rcases hc with h | h
  ·have := hA.1; omega
  ·exact hk h
 ·split
  ·rename_i he
   intro p hp
   rw [List.mem_singleton.mp hp]
   have e0 : occurrences x sep 0 x.length (x.length + 1) = [] := List.isEmpty_iff.mp he
   rw [e0] at hG
   have ef : f = 0 := hG
   subst ef
   rw [← sub_whole x]
   exact part_free2 hx fun k h1 _ => hn k h1
  ·rw [partsBetween_eq]
   exact parts_free2 hx _ 0 f hG hn
theorem join_cps (sep : Str) : ∀ (x : Str) (r : List Str),(Str.join sep (x :: r)).cps.toList = x.cps.toList ++ r.flatMap fun p => sep.cps.toList ++ p.cps.toList
 | x,[] => by simp [Str.join]
 | x,y :: r => by
  show (x ++ sep ++ Str.join sep (y :: r)).cps.toList = _
  have e : ∀ a b : Str,(a ++ b).cps.toList = a.cps.toList ++ b.cps.toList := fun a b => by
   show (a.cps ++ b.cps).toList = _
   simp
  rw [e,e,join_cps sep y r,List.flatMap_cons]
  simp
theorem cut_first {c : Nat} : ∀ {a b s t : List Nat},c ∉ a → c ∉ b → a ++ c :: s = b ++ c :: t → a = b ∧ s = t
 | [],[],s,t,_,_,e => ⟨rfl,by simpa using e⟩
 | [],y :: b,s,t,_,hb,e => by
  simp at e
  exact absurd (List.mem_cons.mpr (.inl e.1)) hb
 | x :: a,[],s,t,ha,_,e => by
  simp at e
  exact absurd (List.mem_cons.mpr (.inl e.1.symm)) ha
 | x :: a,y :: b,s,t,ha,hb,e => by
  rw [List.cons_append,List.cons_append] at e
  injection e with e1 e2
  obtain ⟨h1,h2⟩ := cut_first (fun h => ha (List.mem_cons_of_mem _ h)) (fun h => hb (List.mem_cons_of_mem _ h)) e2
  exact ⟨by rw [e1,h1],h2⟩
theorem cps_inj {x y : Str} (h : x.cps.toList = y.cps.toList) : x = y := by
 cases x
 cases y
 congr
 exact Array.toList_inj.mp h
theorem join_inj {sep : Str} {c : Nat} {cs : List Nat} (hs : sep.cps.toList = c :: cs) : ∀ {xs ys : List Str},xs ≠ [] → ys ≠ [] → (∀ p ∈ xs,c ∉ p.cps.toList) → (∀ p ∈ ys,c ∉ p.cps.toList) → Str.join sep xs = Str.join sep ys → xs = ys
 | [],_,h,_,_,_,_ => absurd rfl h
 | _,[],_,h,_,_,_ => absurd rfl h
 | x :: xs,y :: ys,_,_,hx,hy,e => by
  have e := congrArg (fun z : Str => z.cps.toList) e
  rw [join_cps,join_cps] at e
  have fx := hx x (List.mem_cons_self ..)
  have fy := hy y (List.mem_cons_self ..)
  cases xs with
  | nil =>
   cases ys with
   | nil =>
    rw [List.flatMap_nil,List.append_nil,List.append_nil] at e
    rw [cps_inj (x := x) (y := y) e]
   | cons y' ys =>
    rw [List.flatMap_nil,List.append_nil,List.flatMap_cons,hs] at e
    exact absurd (by rw [e]; simp) fx
  | cons x' xs =>
   cases ys with
   | nil =>
    rw [List.flatMap_nil,List.append_nil,List.flatMap_cons,hs] at e
    exact absurd (by rw [← e]; simp) fy
   | cons y' ys =>
    have e' : x.cps.toList ++ c :: (cs ++ x'.cps.toList ++ xs.flatMap fun p => sep.cps.toList ++ p.cps.toList) = y.cps.toList ++ c :: (cs ++ y'.cps.toList ++ ys.flatMap fun p => sep.cps.toList ++ p.cps.toList) := by
     rw [List.flatMap_cons,List.flatMap_cons,hs] at e
     simpa [hs] using e
    obtain ⟨e1,e2⟩ := cut_first fx fy e'
    rw [List.append_assoc,List.append_assoc] at e2
    have e3 := List.append_cancel_left e2
    rw [← join_cps,← join_cps] at e3
    have := join_inj hs (xs := x' :: xs) (ys := y' :: ys) (by simp) (by simp) (fun p hp => hx p (List.mem_cons_of_mem _ hp)) (fun p hp => hy p (List.mem_cons_of_mem _ hp)) (cps_inj e3)
    rw [cps_inj e1,this]
theorem split_ne (x sep : Str) : Txt.split x sep ≠ [] := by
 unfold Txt.split
 split
 ·simp
 ·split
  ·simp
  ·rw [partsBetween_eq]
   obtain ⟨p,r,e⟩ := partsFrom_ne x sep.length 0 (occurrences x sep 0 x.length (x.length + 1))
   rw [e]
   simp
theorem at_join {sep : Str} {c : Nat} {cs : List Nat} (hs : sep.cps.toList = c :: cs) (hc : c ∉ cs) : ∀ {ts : List Str},(∀ p ∈ ts,c ∉ p.cps.toList) → ∀ k,(Str.join sep ts).cps.toList[k]? = some c → (((Str.join sep ts).cps.toList.drop k).take sep.length = sep.cps.toList)
 | [],_,k,h => by simp [Str.join,Str.empty] at h
 | [x],hf,k,h => absurd (List.mem_of_getElem? h) (hf x (List.mem_cons_self ..))
 | x :: y :: r,hf,k,h => by
  have ls : sep.length = (c :: cs).length := by rw [← hs]; simp [Str.length]
  have e : (Str.join sep (x :: y :: r)).cps.toList = x.cps.toList ++ (sep.cps.toList ++ (Str.join sep (y :: r)).cps.toList) := by
   rw [join_cps,join_cps,List.flatMap_cons,List.append_assoc]
  rw [e] at h ⊢
  rcases Nat.lt_or_ge k x.cps.toList.length with z | z
  ·rw [List.getElem?_append_left z] at h
   exact absurd (List.mem_of_getElem? h) (hf x (List.mem_cons_self ..))
  rw [List.getElem?_append_right z] at h
  rw [List.drop_append,List.drop_eq_nil_of_le z,List.nil_append]
  generalize k - x.cps.toList.length = j at h
  have lsep : sep.cps.toList.length = sep.length := by simp [Str.length]
  rcases Nat.lt_or_ge j sep.cps.toList.length with y1 | y1
  ·rw [List.getElem?_append_left y1,hs] at h
   cases j with
   | zero =>
    rw [List.drop_zero,← lsep,List.take_left]
   | succ j => exact absurd (List.mem_of_getElem? (by simpa using h)) hc
  ·rw [List.getElem?_append_right y1] at h
   rw [List.drop_append,List.drop_eq_nil_of_le y1,List.nil_append]
   exact at_join hs hc (ts := y :: r) (fun p hp => hf p (List.mem_cons_of_mem _ hp)) _ h
theorem split_join {sep : Str} {c : Nat} {cs : List Nat} (hs : sep.cps.toList = c :: cs) (hc : c ∉ cs) (ha : PySem.Builtin.Str.strKind sep = 1) {ts : List Str} (h0 : ts ≠ []) (hf : ∀ p ∈ ts,c ∉ p.cps.toList) : Txt.split (Str.join sep ts) sep = ts := by
 have ls : sep.length = (c :: cs).length := by rw [← hs]; simp [Str.length]
 have hk : ¬ PySem.Builtin.Str.strKind (Str.join sep ts) < PySem.Builtin.Str.strKind sep := by
  rw [ha]
  unfold PySem.Builtin.Str.strKind
  split
  ·omega
  ·split <;> omega
 refine join_inj hs (split_ne _ _) h0 (split_free2 (by rw [ls]; simp) hk fun k hkk => ?_) hf (join_split _ _)
 have e := at_join hs hc hf k hkk
 have hl : k + sep.length ≤ (Str.join sep ts).length := by
  have := congrArg List.length e
  rw [List.length_take,List.length_drop] at this
  have l1 : sep.cps.toList.length = sep.length := by simp [Str.length]
  have l2 : (Str.join sep ts).cps.toList.length = (Str.join sep ts).length := by simp [Str.length]
  have : 1 ≤ sep.length := by rw [ls]; simp
  omega
 refine ⟨hl,?_⟩
 rw [subAt_eq,e]
 simp
theorem part_join {c : Nat} {x y : Str} (hx : c ∉ x.cps.toList) : Txt.partition (x ++ ⟨#[c]⟩ ++ y) ⟨#[c]⟩ = (x,⟨#[c]⟩,y) := by
 have ea : ∀ a b : Str,(a ++ b).cps.toList = a.cps.toList ++ b.cps.toList := fun a b => by
  show (a.cps ++ b.cps).toList = _
  simp
 have e : (x ++ (⟨#[c]⟩ : Str) ++ y).cps.toList = x.cps.toList ++ c :: y.cps.toList := by
  rw [ea,ea]
  simp
 have lx : x.cps.toList.length = x.length := by simp [Str.length]
 have at_ : (x ++ (⟨#[c]⟩ : Str) ++ y).cps.toList[x.length]? = some c := by
  rw [e,List.getElem?_append_right (by omega),lx,Nat.sub_self]
  rfl
 unfold Txt.partition
 rcases occ_head (x ++ (⟨#[c]⟩ : Str) ++ y) ⟨#[c]⟩ 1 (Nat.le_refl _) with ⟨_,h⟩ | ⟨i,r,h,hA,hn⟩
 ·exact absurd ((subAt_one _ c _).mpr at_) (h x.length)
 ·have hi := (subAt_one _ c i).mp hA
  have i1 : i = x.length := by
   rcases Nat.lt_trichotomy i x.length with z | z | z
   ·rw [e,List.getElem?_append_left (by omega)] at hi
    exact absurd (List.mem_of_getElem? hi) hx
   ·exact z
   ·exact absurd ((subAt_one _ c _).mpr at_) (hn _ z)
  subst i1
  rw [h]
  have l1 : (⟨#[c]⟩ : Str).length = 1 := rfl
  have s1 : strSub (x ++ (⟨#[c]⟩ : Str) ++ y) 0 x.length = x := cps_inj (by
   rw [strSub_toList,e,List.drop_zero,Nat.sub_zero,← lx,List.take_left])
  have s2 : strSub (x ++ (⟨#[c]⟩ : Str) ++ y) (x.length + 1) (x ++ (⟨#[c]⟩ : Str) ++ y).length = y := cps_inj (by
   have l2 : (x ++ (⟨#[c]⟩ : Str) ++ y).length = x.length + 1 + y.length := by
    rw [Str.length_append,Str.length_append,l1]
   have ly : y.cps.toList.length = y.length := by simp [Str.length]
   rw [strSub_toList,e,l2,List.drop_append,List.drop_eq_nil_of_le (by omega),List.nil_append,lx,show x.length + 1 - x.length = 1 by omega,show x.length + 1 + y.length - (x.length + 1) = y.length by omega,List.drop_succ_cons,List.drop_zero,← ly,List.take_length])
  show (strSub _ 0 x.length,_,strSub _ (x.length + 1) _) = _
  rw [s1,s2]
theorem part_none {c : Nat} {x : Str} (hx : c ∉ x.cps.toList) : Txt.partition x ⟨#[c]⟩ = (x,Str.empty,Str.empty) := by
 unfold Txt.partition
 rcases occ_head x ⟨#[c]⟩ 1 (Nat.le_refl _) with ⟨h,_⟩ | ⟨i,r,h,hA,hn⟩
 ·rw [h]
 ·exact absurd (List.mem_of_getElem? ((subAt_one _ c i).mp hA)) hx
end
abbrev numT (n : Int) : Str := Str.ofString (toString n)
theorem len_ge10 (m : Nat) : 1 ≤ (Nat.toDigits 10 m).length := Nat.length_toDigits_pos
theorem dig_first : ∀ m : Nat,1 ≤ m → (Nat.toDigits 10 m).head? ≠ some '0' := by
 intro m
 induction m using Nat.strongRecOn with
 | _ m ih =>
  intro h1
  by_cases h : m < 10
  ·rw [Nat.toDigits_of_lt_base h]
   have : ∀ m : Fin 10,1 ≤ m.val → [Nat.digitChar m.val].head? ≠ some '0' := by decide
   exact this ⟨m,h⟩ h1
  ·have hm : m % 10 < 10 := Nat.mod_lt m (by decide)
   have t : Nat.toDigits 10 (m / 10) ++ Nat.toDigits 10 (m % 10) = Nat.toDigits 10 (10 * (m / 10) + m % 10) := Nat.toDigits_append_toDigits (by decide) (by omega) hm
   rw [Nat.div_add_mod] at t
   rw [← t]
   have := ih (m / 10) (by omega) (by omega)
   cases e : Nat.toDigits 10 (m / 10) with
   | nil =>
    have h := len_ge10 (m / 10)
    rw [e] at h
    exact absurd h (by decide)
   | cons a l =>
    rw [e] at this
    exact this
theorem num_cps {n : Int} (h : 0 ≤ n) : (numT n).cps.toList = (Nat.toDigits 10 n.toNat).map Char.toNat := by
 obtain ⟨m,rfl⟩ := Int.eq_ofNat_of_zero_le h
 exact PySem.W.KIN.signs_num m
theorem num_dig {n : Int} (h : 0 ≤ n) : ∀ c ∈ (numT n).cps.toList,48 ≤ c ∧ c ≤ 57 := fun c hc => by
 rw [num_cps h] at hc
 obtain ⟨ch,hch,e⟩ := List.mem_map.mp hc
 have r := PyProof.Rows.digit_range (Nat.isDigit_of_mem_toDigits (by decide) (by decide) hch)
 rw [← e]
 exact r
theorem num_ne {n : Int} (h : 0 ≤ n) : 1 ≤ (numT n).length := by
 have e : (numT n).length = (numT n).cps.toList.length := by simp [Str.length]
 rw [e,num_cps h,List.length_map]
 exact len_ge10 _
theorem num_int {n : Int} (h : Sm n) : PySem.intText? (numT n) = some n := by
 have hl := h.len
 have h0 := h.1
 have hd : PySem.NumText.AllDigits (numT n).cps.toList := fun c hc => num_dig h0 c hc
 have hne : (numT n).cps.toList ≠ [] := fun e => by
  have := num_ne h0
  have e' : (numT n).length = (numT n).cps.toList.length := by simp [Str.length]
  rw [e',e] at this
  exact absurd this (by decide)
 have e := intText_digits hd hne (Nat.le_trans hl (by decide))
 rw [num_cps h0,PySem.W.KIN.val_back] at e
 rw [e]
 congr 1
 omega
theorem num_first {n : Int} (h : 0 ≤ n) (hl : 1 < (numT n).length) : ∃ c,(numT n).cps[0]? = some c ∧ c ≠ 48 := by
 have e : (numT n).length = (numT n).cps.toList.length := by simp [Str.length]
 have ec := num_cps h
 have h1 : 1 ≤ n.toNat := by
  rcases Nat.eq_zero_or_pos n.toNat with z | z
  ·rw [e,ec,z] at hl
   exact absurd hl (by decide)
  ·exact z
 have hf := dig_first n.toNat h1
 cases hd : Nat.toDigits 10 n.toNat with
 | nil =>
  have := len_ge10 n.toNat
  rw [hd] at this
  exact absurd this (by decide)
 | cons a l =>
  rw [hd] at hf ec
  refine ⟨a.toNat,?_,fun z => hf ?_⟩
  ·rw [← Array.getElem?_toList,ec]
   rfl
  ·have : a = '0' := Char.toNat_inj.mp z
   rw [this]
   rfl
structure Low (x : Str) : Prop where
 all : ∀ c ∈ x.cps.toList,97 ≤ c ∧ c ≤ 122
 l1 : 1 ≤ x.length
 l8 : x.length ≤ 8
structure Gt (mg : Str → Option Value) (t1 t2 t3 t4 : Tok) : Prop where
 fig : mg "FIGURES" = some (.str "0123456789" t1)
 lets : mg "LETTERS" = some (.str "abcdefghijklmnopqrstuvwxyz" t2)
 mf : mg "MOST_FIGURES" = some (.int 16 t3)
 mo : mg "MOST" = some (.int 1000000000000000 t4)
theorem fig_in {c : Nat} (h : 48 ≤ c ∧ c ≤ 57) : c ∈ ("0123456789" : Str).cps.toList := by
 have : ∀ c : Fin 58,48 ≤ c.val → c.val ∈ ("0123456789" : Str).cps.toList := by decide +kernel
 exact this ⟨c,by omega⟩ h.1
theorem let_in {c : Nat} (h : 97 ≤ c ∧ c ≤ 122) : c ∈ ("abcdefghijklmnopqrstuvwxyz" : Str).cps.toList := by
 have : ∀ c : Fin 123,97 ≤ c.val → c.val ∈ ("abcdefghijklmnopqrstuvwxyz" : Str).cps.toList := by decide +kernel
 exact this ⟨c,by omega⟩ h.1
theorem ascii_of {x : Str} (h : ∀ c ∈ x.cps.toList,c < 128) : x.cps.all (· < 128) = true := by
 rw [← Array.all_toList,List.all_eq_true]
 exact fun c hc => decide_eq_true (h c hc)
def spNumR : Sp := fun vs H Q _ => ∃ n : Int,vs = [.str (numT n),.int 16] ∧ Sm n ∧ ∀ H',Same H H' → Q (.int n) H'
def spNameR : Sp := fun vs H Q _ => ∃ x : Str,vs = [.str x] ∧ Low x ∧ ∀ H',Same H H' → Q (.bl true) H'
def spEnds : Sp := fun vs H Q _ => ∃ s e : Str,vs = [.str (s ++ ">" ++ e)] ∧ Low s ∧ Low e ∧ ∀ (r : Addr) (H' : Hp),Same H H' → H' r = some (.tup [.str s,.str e]) → Q (.ref r) H'
section
variable {P : Program} {w : World} {K : PySem.W.Frag} {mg : Str → Option Value} {base : Heap} {f : Addr} {fd : FuncData} {n : Nat} {t1 t2 t3 t4 : Tok}
theorem comp_signs {x y : Str} {σ : L2.St} {H : Hp} {Q : VK} (h : ∀ c ∈ x.cps.toList,c ∈ y.cps.toList) (hl : x.length ≤ 100) (q : ∀ D H',Same H H' → H' D = some (.lst ((List.replicate x.length true).map V.bl)) → Q (.ref D) H') :
  cBody [none] (gName 0) tTrue (tOp (fun x y H Q => ∃ (c : Nat) (j : Str),x = .str ⟨#[c]⟩ ∧ y = .str j ∧ Q (.bl (decide (c ∈ j.cps.toList))) H) (tVar 0) (tC (.str y))) σ Q (Its x) H := by
 refine comp_str (fun D i H' => Same H H' ∧ H' D = some (.lst ((List.replicate i true).map V.bl))) (fun D hD => ⟨same_new hD _,upd_same⟩) ?_ (fun D H' hD h => q D H' h.1 h.2)
 rintro D i c H' hD hc ⟨sD,eD⟩
 have hi : i < x.length := by
  have := (Array.getElem?_eq_some_iff.mp hc).1
  exact this
 refine ⟨fun k v e => ?_,?_⟩
 ·match k,e with
  | 0,e => cases e
  | k + 1,e => cases e
 refine ⟨_,rfl,c,y,rfl,rfl,_,eD,line_of (by rw [List.length_map,List.length_replicate]; omega),same_wr hD sD,?_⟩
 rw [upd_same,List.replicate_succ',List.map_append,decide_eq_true (h c (List.mem_of_getElem? (by rw [Array.getElem?_toList]; exact hc)))]
 rfl
theorem all_rep (k : Nat) : (List.replicate k true).all id = true := by
 rw [List.all_eq_true]
 intro x hx
 rw [List.eq_of_mem_replicate hx]
 rfl
theorem ok_numR (gt : Gt mg t1 t2 t3 t4) (F : Fun K "read_number" "read_number" st_read_number f fd) (B : Bl mg) : FnOk P w K mg base CX0 (n + 1) f fd ["text","most_figures"] spNumR := by
 refine F.okQ sc_read_number (fun vs H Q E h => ?_) (fun cdv A outer s H vs Q E hr h => ?_)
 ·obtain ⟨_,rfl,_⟩ := h
  rfl
 obtain ⟨n,rfl,sm,q⟩ := h
 refine ⟨_,(qss_cons (qs_if (qt_cut (QW.pt (qw_or (qt_not (qt_chain qop_le qop_le qe_int (qe_cb qcall_lenS rfl B.len bt_len (qa_c (qv 0) qa_nil)) (qv 1))) (qw_or1 (qt_not (qt_val (qe_cb (qcall_all rfl) rfl B.all bt_all (qa_c (qe_comp ["sign"] [none] (BlkOk.of rfl rfl (SubL.to subN) rfl) rfl (qi_str (qv 0)) (fun _ _ _ _ => (qg_name (i := 0) (show (["sign"] : List Str).Nodup by decide) rfl (Or.inl rfl))) (fun _ _ _ _ => (qe_cmpR qop_inS (qv 0) (qe_gStr rfl gt.fig) rfl))) qa_nil)))))))) (qss_one (qs_ret qe_non)) qss_nil) (qss_cons (qs_if (qt_cut (QW.pt (qw_and (qt_cmpR qop_gt (qe_cb qcall_lenS rfl B.len bt_len (qa_c (qv 0) qa_nil)) qe_int (nomark _)) (qw_and1 (qt_cmpR qop_eq (qe_ix qix_str (qv 0) qe_int (fun _ _ => rfl)) qe_str (nomark _)))))) (qss_one (qs_ret qe_non)) qss_nil) (qss_one (qs_ret (qe_ct qcall_intS rfl B.int_ bt_int (qa_c (qv 0) qa_nil)))))),?_⟩
 try dsimp only [cx_k,cx_kn,as_nil,as_name,Nat.reduceAdd]
 have hl : (numT n).length ≤ 16 := sm.len
 have hz := L.le (n := (numT n).length) (by omega)
 have l1 := num_ne sm.1
 have h64 : sizeLine > 100 := by decide
 refine ⟨fun b H' => b = false ∧ Same H H',?_,?_⟩
 ·refine ⟨_,rfl,_,rfl,hz,_,_,rfl,rfl,_,rfl,iteP (decide_eq_true (by omega)) ⟨_,rfl,_,_,rfl,rfl,_,rfl,iteN (by simp; omega) ?_⟩⟩
  refine ⟨_,rfl,_,rfl,ascii_of (fun c hc => by have := num_dig sm.1 c hc; omega),comp_signs (fun c hc => fig_in (num_dig sm.1 c hc)) (by omega) fun D H1 s1 e1 => ?_⟩
  exact ⟨D,_,rfl,SqL.of e1,_,rfl,by rw [all_rep]; rfl,s1⟩
 rintro b H1 ⟨rfl,s1⟩
 refine iteF ?_
 refine ⟨fun b H' => b = false ∧ H' = H1,?_,?_⟩
 ·refine ⟨_,rfl,_,rfl,hz,_,_,rfl,rfl,_,rfl,ite2 (fun c => ?_) (fun c => ⟨rfl,rfl⟩)⟩
  have c' : 1 < (numT n).length := by
   have := of_decide_eq_true c
   omega
  obtain ⟨c,hc,n48⟩ := num_first sm.1 c'
  refine ⟨_,rfl,_,0,c,rfl,rfl,hz,atI_nat (j := 0) (by rw [Array.getElem?_toList]; exact hc),rfl,_,rfl,decide_eq_false fun z => n48 ?_,rfl⟩
  have z : (⟨#[c]⟩ : Str) = "0" := by
   injection z
  have := congrArg (fun s : Str => s.cps.toList) z
  have e0 : (("0" : Str)).cps.toList = [48] := by decide +kernel
  rw [e0] at this
  simpa using this
 rintro b H2 ⟨rfl,rfl⟩
 refine iteF ?_
 exact ⟨_,rfl,_,n,rfl,num_int sm,by omega,q _ s1⟩
theorem ok_nameR (gt : Gt mg t1 t2 t3 t4) (F : Fun K "is_name" "is_name" st_is_name f fd) (B : Bl mg) : FnOk P w K mg base CX0 (n + 1) f fd ["text"] spNameR := by
 refine F.okQ sc_is_name (fun vs H Q E h => ?_) (fun cdv A outer s H vs Q E hr h => ?_)
 ·obtain ⟨_,rfl,_⟩ := h
  rfl
 obtain ⟨x,rfl,lo,q⟩ := h
 refine ⟨_,(qss_one (qs_ret (qe_and (qe_chain qop_le qop_le qe_int (qe_cb qcall_lenS rfl B.len bt_len (qa_c (qv 0) qa_nil)) qe_int) (qe_one (qe_cb (qcall_all rfl) rfl B.all bt_all (qa_c (qe_comp ["sign"] [none] (BlkOk.of rfl rfl (SubL.to subN) rfl) rfl (qi_str (qv 0)) (fun _ _ _ _ => (qg_name (i := 0) (show (["sign"] : List Str).Nodup by decide) rfl (Or.inl rfl))) (fun _ _ _ _ => (qe_cmpR qop_inS (qv 0) (qe_gStr rfl gt.lets) rfl))) qa_nil)))))),?_⟩
 try dsimp only [cx_k,cx_kn,as_nil,as_name,Nat.reduceAdd]
 have l1 := lo.l1
 have l8 := lo.l8
 refine ⟨_,rfl,_,rfl,L.le (by omega),_,_,rfl,rfl,_,rfl,iteP (decide_eq_true (by omega)) ⟨_,_,rfl,rfl,_,rfl,iteP (by simp; omega) ?_⟩⟩
 refine ⟨_,rfl,_,rfl,ascii_of (fun c hc => by have := lo.all c hc; omega),comp_signs (fun c hc => let_in (lo.all c hc)) (by omega) fun D H1 s1 e1 => ?_⟩
 refine ⟨D,_,rfl,SqL.of e1,?_⟩
 rw [all_rep]
 exact q H1 s1
theorem low_free {x : Str} (h : Low x) {c : Nat} (hc : c < 97 ∨ 122 < c) : c ∉ x.cps.toList := fun z => by
 have := h.all c z
 omega
theorem num_free {n : Int} (h : 0 ≤ n) {c : Nat} (hc : c < 48 ∨ 57 < c) : c ∉ (numT n).cps.toList := fun z => by
 have := num_dig h c z
 omega
theorem ok_ends (F : Fun K "read_ends" "read_ends" st_read_ends f fd) (C_is_name : Callee P w K mg base n "is_name" ["text"] spNameR) : FnOk P w K mg base CX0 (n + 1) f fd ["text"] spEnds := by
 refine F.okQ sc_read_ends (fun vs H Q E h => ?_) (fun cdv A outer s H vs Q E hr h => ?_)
 ·obtain ⟨_,_,rfl,_⟩ := h
  rfl
 obtain ⟨x,y,rfl,lx,ly,q⟩ := h
 refine ⟨_,(qss_cons (qs_set (i := 1) sc_read_ends.nd rfl (Or.inl rfl) (qe_part K rfl (qv 0) (qa_c qe_str qa_nil))) (qss_cons (qs_if (qt_cut (QW.pt (qw_or (qt_not (qt_val (qe_fn C_is_name hr rfl (qa_c (qe_ix qix_tup (qv 1) qe_int (fun _ _ => rfl)) qa_nil)))) (qw_or1 (qt_not (qt_val (qe_fn C_is_name hr rfl (qa_c (qe_ix qix_tup (qv 1) qe_int (fun _ _ => rfl)) qa_nil)))))))) (qss_one (qs_ret qe_non)) qss_nil) (qss_one (qs_ret (qe_tup (qa_c (qe_ix qix_tup (qv 1) qe_int (fun _ _ => rfl)) (qa_c (qe_ix qix_tup (qv 1) qe_int (fun _ _ => rfl)) qa_nil))))))),?_⟩
 try dsimp only [cx_k,cx_kn,as_nil,as_name,Nat.reduceAdd]
 have ep : Txt.partition (x ++ ">" ++ y) ">" = (x,(">" : Str),y) := part_join (c := 62) (low_free lx (by omega))
 have e1' : (">" : Str).length = 1 := by decide
 have l1 := lx.l8
 have l2 := ly.l8
 refine ⟨_,rfl,rfl,_,_,rfl,rfl,by decide,L.le (by simp only [Str.length_append,e1']; omega),fun l hl => ?_⟩
 rw [ep]
 generalize hgH1 : upd _ l _ = H1
 obtain ⟨s1,e1⟩ := fresh_of hl hgH1
 clear hgH1
 refine ⟨fun b H' => b = false ∧ Same H1 H',?_,?_⟩
 ·refine ⟨_,rfl,l,_,_,_,rfl,rfl,SqT.of e1,rfl,x,rfl,lx,fun H2 s2 => ⟨_,rfl,iteF ?_⟩⟩
  exact ⟨_,rfl,l,_,_,_,rfl,rfl,SqT.of (s2 _ _ e1),rfl,y,rfl,ly,fun H3 s3 => ⟨_,rfl,rfl,s2.trans s3⟩⟩
 rintro b H2 ⟨rfl,s2⟩
 refine iteF ?_
 refine ⟨_,rfl,l,_,_,_,rfl,rfl,SqT.of (s2 _ _ e1),rfl,_,rfl,l,_,_,_,rfl,rfl,SqT.of (s2 _ _ e1),rfl,(by show 2 ≤ sizeLine; decide),fun rr hrr => ?_⟩
 generalize hgH3 : upd _ rr _ = H3
 obtain ⟨s3,e3⟩ := fresh_of hrr hgH3
 clear hgH3
 exact q rr H3 (s1.trans (s2.trans s3)) e3
def spanT (a b : Int) : Str := if a < b then numT a ++ "-" ++ numT b else numT a
def spSpan : Sp := fun vs H Q _ => ∃ a b : Int,vs = [.str (spanT a b)] ∧ Sm a ∧ Sm b ∧ a ≤ b ∧ ∀ (r : Addr) (H' : Hp),Same H H' → H' r = some (.tup [.int a,.int b]) → Q (.ref r) H'
def spWinR : Sp := fun vs H Q _ => ∃ (day : Int) (x : T3),vs = [.int day,.str (winT x)] ∧ 0 ≤ x.1 ∧ x.1 ≤ x.2.1 ∧ x.2.1 < day ∧ day ≤ 1000000000000000 ∧ 1 ≤ x.2.2 ∧ x.2.2 ≤ 1000000000000000 ∧ ∀ (r : Addr) (H' : Hp),Same H H' → H' r = some (.tup (enc3 x)) → Q (.ref r) H'
def spDayR : Sp := fun vs H Q _ => ∃ day : Int,vs = [.str ("day " ++ numT day)] ∧ 1 ≤ day ∧ day ≤ 1000000000000000 ∧ ∀ H',Same H H' → Q (.int day) H'
theorem ok_span (gt : Gt mg t1 t2 t3 t4) (F : Fun K "read_span" "read_span" st_read_span f fd) (C_read_number : Callee P w K mg base n "read_number" ["text","most_figures"] spNumR) : FnOk P w K mg base CX0 (n + 1) f fd ["text"] spSpan := by
 refine F.okQ sc_read_span (fun vs H Q E h => ?_) (fun cdv A outer s H vs Q E hr h => ?_)
 ·obtain ⟨_,_,rfl,_⟩ := h
  rfl
 obtain ⟨a,b,rfl,sa,sb,ab,q⟩ := h
 refine ⟨_,(qss_cons (qs_set (i := 1) sc_read_span.nd rfl (Or.inl rfl) (qe_part K rfl (qv 0) (qa_c qe_str qa_nil))) (qss_cons (qs_set (i := 2) sc_read_span.nd rfl (Or.inl rfl) (qe_fn C_read_number hr rfl (qa_c (qe_ix qix_tup (qv 1) qe_int (fun _ _ => rfl)) (qa_c (qe_gInt rfl gt.mf) qa_nil)))) (qss_cons (qs_if (qt_cmpR qop_eq (qe_ix qix_tup (qv 1) qe_int (fun _ _ => rfl)) qe_str (nomark _)) (qss_one (qs_ret (qe_ifExp (qt_isN (qv 2)) qe_non (qe_tup (qa_c (qv 2) (qa_c (qv 2) qa_nil)))))) qss_nil) (qss_cons (qs_set (i := 3) sc_read_span.nd rfl (Or.inl rfl) (qe_fn C_read_number hr rfl (qa_c (qe_ix qix_tup (qv 1) qe_int (fun _ _ => rfl)) (qa_c (qe_gInt rfl gt.mf) qa_nil)))) (qss_cons (qs_if (qt_cut (QW.pt (qw_or (qt_isN (qv 2)) (qw_or (qt_isN (qv 3)) (qw_or1 (qt_cmpR qop_ge (qv 2) (qv 3) (nomark _))))))) (qss_one (qs_ret qe_non)) qss_nil) (qss_one (qs_ret (qe_tup (qa_c (qv 2) (qa_c (qv 3) qa_nil)))))))))),?_⟩
 try dsimp only [cx_k,cx_kn,as_nil,as_name,Nat.reduceAdd]
 have e1' : ("-" : Str).length = 1 := by decide
 have l1 : (numT a).length ≤ 16 := sa.len
 have l2 : (numT b).length ≤ 16 := sb.len
 by_cases c : a < b
 ·have et : spanT a b = numT a ++ "-" ++ numT b := if_pos c
  have ep : Txt.partition (spanT a b) "-" = (numT a,("-" : Str),numT b) := by
   rw [et]
   exact part_join (c := 45) (num_free sa.1 (by omega))
  refine ⟨_,rfl,rfl,_,_,rfl,rfl,by decide,L.le (by rw [et]; simp only [Str.length_append,e1']; omega),fun l hl => ?_⟩
  rw [ep]
  generalize hgH1 : upd _ l _ = H1
  obtain ⟨s1,e1⟩ := fresh_of hl hgH1
  clear hgH1
  refine ⟨_,rfl,l,_,_,_,rfl,rfl,SqT.of e1,rfl,a,rfl,sa,fun H2 s2 => ?_⟩
  have e2 := s2 _ _ e1
  refine ⟨_,rfl,l,_,_,_,rfl,rfl,SqT.of e2,rfl,rfl,_,rfl,iteN (by show ¬ decide (V.str (("-" : Str)) = V.str "") = true; decide +kernel) ?_⟩
  refine ⟨_,rfl,l,_,_,_,rfl,rfl,SqT.of e2,rfl,b,rfl,sb,fun H3 s3 => ?_⟩
  refine ⟨fun z H' => z = false ∧ H' = H3,?_,?_⟩
  ·exact ⟨_,rfl,_,rfl,iteF ⟨_,rfl,_,rfl,iteF ⟨_,rfl,_,rfl,_,_,rfl,rfl,_,rfl,decide_eq_false (by omega),rfl⟩⟩⟩
  rintro z H4 ⟨rfl,rfl⟩
  refine iteF ?_
  refine ⟨_,rfl,_,rfl,(by show 2 ≤ sizeLine; decide),fun rr hrr => ?_⟩
  generalize hgH5 : upd _ rr _ = H5
  obtain ⟨s5,e5⟩ := fresh_of hrr hgH5
  clear hgH5
  exact q rr H5 (s1.trans (s2.trans (s3.trans s5))) e5
 ·have et : spanT a b = numT a := if_neg c
  have eab : a = b := by omega
  subst eab
  have ep : Txt.partition (spanT a a) "-" = (numT a,Str.empty,Str.empty) := by
   rw [et]
   exact part_none (c := 45) (num_free sa.1 (by omega))
  refine ⟨_,rfl,rfl,_,_,rfl,rfl,by decide,L.le (by rw [et]; omega),fun l hl => ?_⟩
  rw [ep]
  generalize hgH1 : upd _ l _ = H1
  obtain ⟨s1,e1⟩ := fresh_of hl hgH1
  clear hgH1
  refine ⟨_,rfl,l,_,_,_,rfl,rfl,SqT.of e1,rfl,a,rfl,sa,fun H2 s2 => ?_⟩
  have e2 := s2 _ _ e1
  refine ⟨_,rfl,l,_,_,_,rfl,rfl,SqT.of e2,rfl,rfl,_,rfl,iteP (decide_eq_true rfl) ?_⟩
  refine ⟨_,rfl,_,rfl,iteF ⟨_,rfl,_,rfl,(by show 2 ≤ sizeLine; decide),fun rr hrr => ?_⟩⟩
  generalize hgH5 : upd _ rr _ = H5
  obtain ⟨s5,e5⟩ := fresh_of hrr hgH5
  clear hgH5
  exact q rr H5 (s1.trans (s2.trans s5)) e5
theorem win_span {x : T3} : winT x = spanT x.1 x.2.1 ++ "+" ++ numT x.2.2 := by
 unfold winT spanT
 split <;> simp only [Str.empty_append]
theorem span_free {a b : Int} (ha : 0 ≤ a) (hb : 0 ≤ b) {c : Nat} (hc : (c < 48 ∨ 57 < c) ∧ c ≠ 45) : c ∉ (spanT a b).cps.toList := by
 unfold spanT
 split
 ·intro z
  have e : ∀ u v : Str,(u ++ v).cps.toList = u.cps.toList ++ v.cps.toList := fun u v => by
   show (u.cps ++ v.cps).toList = _
   simp
  rw [e,e,List.mem_append,List.mem_append] at z
  rcases z with (z | z) | z
  ·exact num_free ha hc.1 z
  ·have : (("-" : Str)).cps.toList = [45] := by decide +kernel
   rw [this] at z
   exact hc.2 (by simpa using z)
  ·exact num_free hb hc.1 z
 ·exact num_free ha hc.1
theorem dv2_three {H : Hp} {r : Addr} {a b c : Int} (e : H r = some (.tup [.int a,.int b,.int c])) : Dv2 H (.ref r) := ⟨.tup e,fun zs ez z hz => by
 have : tupV H (.ref r) = some [V.int a,V.int b,V.int c] := by simp [tupV,e]
 rw [this] at ez
 cases ez
 simp only [List.mem_cons,List.not_mem_nil,or_false] at hz
 rcases hz with rfl | rfl | rfl <;> exact .int _⟩
theorem ok_winR (gt : Gt mg t1 t2 t3 t4) (F : Fun K "read_window" "read_window" st_read_window f fd) (C_read_span : Callee P w K mg base n "read_span" ["text"] spSpan) (C_read_number : Callee P w K mg base n "read_number" ["text","most_figures"] spNumR) (C_is_window : Callee P w K mg base n "is_window" ["day","thing"] spWindow) : FnOk P w K mg base CX0 (n + 1) f fd ["day","text"] spWinR := by
 refine F.okQ sc_read_window (fun vs H Q E h => ?_) (fun cdv A outer s H vs Q E hr h => ?_)
 ·obtain ⟨_,_,rfl,_⟩ := h
  rfl
 obtain ⟨day,⟨a,b,c⟩,rfl,a0,ab,bd,d2,c1,c2,q⟩ := h
 dsimp only at a0 ab bd d2 c1 c2
 refine ⟨_,(qss_cons (qs_set (i := 2) sc_read_window.nd rfl (Or.inl rfl) (qe_part K rfl (qv 1) (qa_c qe_str qa_nil))) (qss_cons (qs_set (i := 3) sc_read_window.nd rfl (Or.inl rfl) (qe_fn C_read_span hr rfl (qa_c (qe_ix qix_tup (qv 2) qe_int (fun _ _ => rfl)) qa_nil))) (qss_cons (qs_set (i := 4) sc_read_window.nd rfl (Or.inl rfl) (qe_fn C_read_number hr rfl (qa_c (qe_ix qix_tup (qv 2) qe_int (fun _ _ => rfl)) (qa_c (qe_gInt rfl gt.mf) qa_nil)))) (qss_cons (qs_if (qt_cut (QW.pt (qw_or (qt_isN (qv 3)) (qw_or (qt_isN (qv 4)) (qw_or1 (qt_not (qt_chain qop_le qop_le qe_int (qv 4) (qe_gInt rfl gt.mo)))))))) (qss_one (qs_ret qe_non)) qss_nil) (qss_cons (qs_set (i := 5) sc_read_window.nd rfl (Or.inl rfl) (qe_tup (qa_c (qe_ix qix_tup (qv 3) qe_int (fun _ _ => rfl)) (qa_c (qe_ix qix_tup (qv 3) qe_int (fun _ _ => rfl)) (qa_c (qv 4) qa_nil))))) (qss_one (qs_ret (qe_ifExp (qt_val (qe_fn C_is_window hr rfl (qa_c (qv 0) (qa_c (qv 5) qa_nil)))) (qv 5) qe_non)))))))),?_⟩
 try dsimp only [cx_k,cx_kn,as_nil,as_name,Nat.reduceAdd]
 have sa : Sm a := ⟨a0,by omega⟩
 have sb : Sm b := ⟨by omega,by omega⟩
 have sc : Sm c := ⟨by omega,by omega⟩
 have ep : Txt.partition (winT (a,b,c)) "+" = (spanT a b,("+" : Str),numT c) := by
  rw [win_span]
  exact part_join (c := 43) (span_free (a := a) (b := b) a0 (by omega) ⟨by omega,by omega⟩)
 refine ⟨_,rfl,rfl,_,_,rfl,rfl,by decide,L.le (Nat.le_trans (winT_len ⟨sa,sb,sc⟩) (by decide)),fun l hl => ?_⟩
 rw [ep]
 generalize hgH1 : upd _ l _ = H1
 obtain ⟨s1,e1⟩ := fresh_of hl hgH1
 clear hgH1
 refine ⟨_,rfl,l,_,_,_,rfl,rfl,SqT.of e1,rfl,a,b,rfl,sa,sb,ab,fun r2 H2 s2 e2 => ?_⟩
 refine ⟨_,rfl,l,_,_,_,rfl,rfl,SqT.of (s2 _ _ e1),rfl,c,rfl,sc,fun H3 s3 => ?_⟩
 have e3 := s3 _ _ e2
 refine ⟨fun z H' => z = false ∧ H' = H3,?_,?_⟩
 ·exact ⟨_,rfl,_,rfl,iteF ⟨_,rfl,_,rfl,iteF ⟨_,rfl,_,_,rfl,rfl,_,rfl,iteP (decide_eq_true c1) ⟨_,_,rfl,rfl,_,rfl,by simp; omega,rfl⟩⟩⟩⟩
 rintro z H4 ⟨rfl,rfl⟩
 refine iteF ?_
 refine ⟨_,rfl,r2,_,_,_,rfl,rfl,SqT.of e3,rfl,_,rfl,r2,_,_,_,rfl,rfl,SqT.of e3,rfl,_,rfl,(by show 3 ≤ sizeLine; decide),fun rr hrr => ?_⟩
 generalize hgH5 : upd _ rr _ = H5
 obtain ⟨s5,e5⟩ := fresh_of hrr hgH5
 clear hgH5
 have wv : winV H5 day (.ref rr) = true := by
  have : tupV H5 (.ref rr) = some [V.int a,V.int b,V.int c] := by simp [tupV,e5]
  unfold winV
  rw [this]
  simp [winL,isWh]
  omega
 refine ⟨_,rfl,_,rfl,day,.ref rr,rfl,dv2_three e5,fun H6 s6 => ?_⟩
 rw [wv]
 exact ⟨_,rfl,iteT ⟨_,rfl,q rr H6 (s1.trans (s2.trans (s3.trans (s5.trans s6)))) (s6 _ _ e5)⟩⟩
theorem ok_dayR (gt : Gt mg t1 t2 t3 t4) (F : Fun K "read_day" "read_day" st_read_day f fd) (C_read_number : Callee P w K mg base n "read_number" ["text","most_figures"] spNumR) : FnOk P w K mg base CX0 (n + 1) f fd ["text"] spDayR := by
 refine F.okQ sc_read_day (fun vs H Q E h => ?_) (fun cdv A outer s H vs Q E hr h => ?_)
 ·obtain ⟨_,rfl,_⟩ := h
  rfl
 obtain ⟨day,rfl,d1,d2,q⟩ := h
 refine ⟨_,(qss_cons (qs_set (i := 1) sc_read_day.nd rfl (Or.inl rfl) (qe_part K rfl (qv 0) (qa_c qe_str qa_nil))) (qss_cons (qs_set (i := 2) sc_read_day.nd rfl (Or.inl rfl) (qe_fn C_read_number hr rfl (qa_c (qe_ix qix_tup (qv 1) qe_int (fun _ _ => rfl)) (qa_c (qe_gInt rfl gt.mf) qa_nil)))) (qss_cons (qs_if (qt_cut (QW.pt (qw_or (qt_cmpR qop_ne (qe_ix qix_tup (qv 1) qe_int (fun _ _ => rfl)) qe_str (nomark _)) (qw_or (qt_isN (qv 2)) (qw_or1 (qt_not (qt_chain qop_le qop_le qe_int (qv 2) (qe_gInt rfl gt.mo)))))))) (qss_one (qs_ret qe_non)) qss_nil) (qss_one (qs_ret (qv 2)))))),?_⟩
 try dsimp only [cx_k,cx_kn,as_nil,as_name,Nat.reduceAdd]
 have sd : Sm day := ⟨by omega,by omega⟩
 have hd : (numT day).length ≤ 16 := sd.len
 have e4 : ("day " : Str).length = 4 := by decide
 have ep : Txt.partition ("day " ++ numT day) " " = (("day" : Str),(" " : Str),numT day) := by
  have e : ("day " : Str) = ("day" : Str) ++ (" " : Str) := by decide +kernel
  rw [e]
  exact part_join (c := 32) (by decide +kernel)
 refine ⟨_,rfl,rfl,_,_,rfl,rfl,by decide,L.le (by simp only [Str.length_append,e4]; omega),fun l hl => ?_⟩
 rw [ep]
 generalize hgH1 : upd _ l _ = H1
 obtain ⟨s1,e1⟩ := fresh_of hl hgH1
 clear hgH1
 refine ⟨_,rfl,l,_,_,_,rfl,rfl,SqT.of e1,rfl,day,rfl,sd,fun H2 s2 => ?_⟩
 have e2 := s2 _ _ e1
 refine ⟨fun z H' => z = false ∧ H' = H2,?_,?_⟩
 ·refine ⟨_,rfl,l,_,_,_,rfl,rfl,SqT.of e2,rfl,rfl,_,rfl,iteN (by simp) ?_⟩
  exact ⟨_,rfl,_,rfl,iteF ⟨_,rfl,_,_,rfl,rfl,_,rfl,iteP (decide_eq_true d1) ⟨_,_,rfl,rfl,_,rfl,by simp; omega,rfl⟩⟩⟩
 rintro z H4 ⟨rfl,rfl⟩
 refine iteF ?_
 exact ⟨_,rfl,q H4 (s1.trans s2)⟩
def WinsR (day : Int) (R : List T3) : Prop := ∀ x ∈ R,0 ≤ x.1 ∧ x.1 ≤ x.2.1 ∧ x.2.1 < day ∧ 1 ≤ x.2.2 ∧ x.2.2 ≤ 1000000000000000
def spBoardR (K : PySem.W.Frag) : Sp := fun vs H Q _ => ∃ (day : Int) (p : Addr) (R : List T3),vs = [.int day,.ref p] ∧ H p = some (.lst ((R.map winT).map V.str)) ∧ WinsR day R ∧ day ≤ 1000000000000000 ∧ R.length ≤ 100 ∧ ∀ (l : Addr) (H' : Hp),Same H H' → H l = none → LA enc3 H' l R → Q (.ref l) H'
theorem ok_boardR (F : Fun K "read_board" "read_board" st_read_board f fd) (B : Bl mg) (C_read_window : Callee P w K mg base n "read_window" ["day","text"] spWinR) : FnOk P w K mg base CX0 (n + 1) f fd ["day","words"] (spBoardR K) := by
 refine F.okQ sc_read_board (fun vs H Q E h => ?_) (fun cdv A outer s H vs Q E hr h => ?_)
 ·obtain ⟨_,_,_,rfl,_⟩ := h
  rfl
 obtain ⟨day,p,R,rfl,hp,hW,d2,hl,q⟩ := h
 refine ⟨_,(qss_cons (qs_setComp (i := 2) ["word","day"] [none,some 0] sc_read_board.nd rfl (Or.inl rfl) (BlkOk.of rfl rfl (SubL.to (subC rfl subN)) rfl) rfl (qi_list (qv 1)) (fun _ _ _ _ => (qg_name (i := 0) (show (["word","day"] : List Str).Nodup by decide) rfl (Or.inl rfl))) (fun _ _ _ _ => (qe_fn C_read_window hr rfl (qa_c (qv 1) (qa_c (qv 0) qa_nil))))) (qss_one (qs_ret (qe_ifExp (qt_val (qe_cb (qcall_any rfl) rfl B.any bt_any (qa_c (qe_comp ["window"] [none] (BlkOk.of rfl rfl (SubL.to subN) rfl) rfl (qi_list (qv 2)) (fun _ _ _ _ => (qg_name (i := 0) (show (["window"] : List Str).Nodup by decide) rfl (Or.inl rfl))) (fun _ _ _ _ => (qe_isN (qv 0)))) qa_nil))) qe_non (qv 2))))),?_⟩
 try dsimp only [cx_k,cx_kn,as_nil,as_name,Nat.reduceAdd]
 refine ⟨_,rfl,p,rfl,⟨_,SqL.of hp⟩,?_⟩
 refine comp_list0 (K := K) (a := p) (xs := (R.map winT).map V.str) (fun D i H' => Same H H' ∧ LA enc3 H' D (R.take i)) (fun D hD => ⟨same_new hD _,LA.nil upd_same⟩) (fun D i H' _ _ h => SqL.of (h.1 _ _ hp)) ?_ ?_
 ·rintro D i y H' hD hi ⟨sD,hL⟩
  rw [List.getElem?_map,List.getElem?_map] at hi
  cases hx : R[i]? with
  | none => rw [hx] at hi; cases hi
  | some x =>
   rw [hx] at hi
   cases hi
   have li := (List.getElem?_eq_some_iff.mp hx).1
   obtain ⟨x0,x1,x2,x3,x4⟩ := hW x (List.mem_of_getElem? hx)
   refine ⟨fun k v e => ?_,?_⟩
   ·match k,e with
    | 0,e => cases e
    | 1,e => exact e
    | k + 2,e => cases e
   refine ⟨_,rfl,_,rfl,day,x,rfl,x0,x1,x2,d2,x3,x4,fun r H2 s2 e2 => ?_⟩
   have hL2 := hL.same s2
   obtain ⟨ys,y1,yl,_⟩ := hL2.lst
   refine ⟨ys,y1,line_of (by rw [yl,List.length_take]; omega),same_wr hD (sD.trans s2),?_⟩
   have e : R.take (i + 1) = R.take i ++ [x] := by rw [List.take_add_one,hx]; rfl
   rw [e]
   exact hL2.append y1 e2
 ·rintro D H1 hD ⟨s1,hL⟩
  rw [List.length_map,List.length_map,List.take_length] at hL
  obtain ⟨us,u1,u2,u3⟩ := hL.lst
  refine ⟨_,rfl,D,rfl,⟨_,SqL.of u1⟩,?_⟩
  refine comp_list0 (K := K) (a := D) (xs := us) (fun D' i H' => Same H1 H' ∧ H' D' = some (.lst ((List.replicate i false).map V.bl))) (fun D' hD' => ⟨same_new hD' _,upd_same⟩) (fun D' i H' _ _ h => SqL.of (h.1 _ _ u1)) ?_ ?_
  ·rintro D' i y H' hD' hi ⟨sD,eD⟩
   obtain ⟨r,x,rfl,_,_⟩ := u3 i y hi
   have li := (List.getElem?_eq_some_iff.mp hi).1
   refine ⟨fun k v e => ?_,?_⟩
   ·match k,e with
    | 0,e => cases e
    | k + 1,e => cases e
   refine ⟨_,rfl,_,eD,line_of (by rw [List.length_map,List.length_replicate]; omega),same_wr hD' sD,?_⟩
   rw [upd_same,List.replicate_succ',List.map_append]
   rfl
  ·rintro D' H2 hD' ⟨s2,e2⟩
   refine ⟨D',_,rfl,SqL.of e2,_,rfl,?_⟩
   have : (List.replicate us.length false).any id = false := by
    rw [Bool.eq_false_iff]
    intro z
    obtain ⟨x,hx,e⟩ := List.any_eq_true.mp z
    rw [List.eq_of_mem_replicate hx] at e
    cases e
   rw [this]
   exact iteF ⟨_,rfl,q D H2 (s1.trans s2) hD (hL.same s2)⟩
def spNumOf (K : PySem.W.Frag) : Sp := fun vs H Q _ => ∃ (p : Addr) (z : Str) (ys : List Str),vs = [.ref p,.str z] ∧ H p = some (.lst (ys.map V.str)) ∧ ys.length ≤ 1000 ∧ ∀ (v : Int) (ys' : List Str),(z ∈ ys ∧ v = ((ys.idxOf z : Nat) : Int) ∧ ys' = ys) ∨ (z ∉ ys ∧ v = (ys.length : Int) ∧ ys' = ys ++ [z]) → Q (.int v) (upd H p (.lst (ys'.map V.str)))
theorem upd_id {H : Hp} {p : Addr} {o : HO} (h : H p = some o) : upd H p o = H := funext fun b => by
 by_cases e : b = p
 ·rw [e,upd_same,h]
 ·rw [upd_ne e]
theorem in_strs {x : Str} {ns : List Str} : inV (.str x) (ns.map V.str) = decide (x ∈ ns) := by
 unfold inV
 rw [Bool.eq_iff_iff,List.any_eq_true,decide_eq_true_iff]
 constructor
 ·rintro ⟨y,hy,e⟩
  obtain ⟨z,hz,rfl⟩ := List.mem_map.mp hy
  have : z = x := by simpa [eqV] using e
  exact this ▸ hz
 ·intro h
  exact ⟨.str x,List.mem_map.mpr ⟨x,h,rfl⟩,by simp [eqV]⟩
theorem ok_numOf (F : Fun K "number_of" "number_of" st_number_of f fd) : FnOk P w K mg base CX0 (n + 1) f fd ["names","name"] (spNumOf K) := by
 refine F.okQ sc_number_of (fun vs H Q E h => ?_) (fun cdv A outer s H vs Q E hr h => ?_)
 ·obtain ⟨_,_,_,rfl,_⟩ := h
  rfl
 obtain ⟨p,z,ys,rfl,hp,hl,qq⟩ := h
 refine ⟨_,(qss_cut (qs_if (qt_cmpR qop_notInL (qv 1) (qv 0) rfl) (qss_one (qs_expr (qe_append (qv 0) (qa_c (qv 1) qa_nil)))) qss_nil) (qss_one (qs_ret (qe_indexS K rfl (qv 0) (qa_c (qv 1) qa_nil))))),?_⟩
 try dsimp only [cx_k,cx_kn,as_nil,as_name,Nat.reduceAdd]
 have q1 : z ∈ ys → Q (.int ((ys.idxOf z : Nat) : Int)) H := fun c => by
  have := qq _ ys (.inl ⟨c,rfl,rfl⟩)
  rw [upd_id hp] at this
  exact this
 have q2 : z ∉ ys → Q (.int (ys.length : Int)) (upd H p (.lst ((ys ++ [z]).map V.str))) := fun c => qq _ _ (.inr ⟨c,rfl,rfl⟩)
 have hz := L.le (n := ys.length) (by omega)
 have hz2 := L.le (n := ys.length + 1) (by omega)
 by_cases c : z ∈ ys
 ·refine ⟨fun σ' H' => σ' = [some (.ref p),some (.str z)] ∧ H' = H,?_,?_⟩
  ·refine ⟨_,rfl,_,rfl,p,_,rfl,.inl (SqL.of hp),rfl,flat_strs _,_,rfl,?_⟩
   rw [in_strs,decide_eq_true c]
   exact iteN (by decide) ⟨rfl,rfl⟩
  rintro σ' H' ⟨rfl,rfl⟩
  exact ⟨_,rfl,.inl ⟨rfl,_,SqL.of hp⟩,_,rfl,p,z,ys,rfl,rfl,SqL.of hp,c,hz,q1 c⟩
 ·refine ⟨fun σ' H' => σ' = [some (.ref p),some (.str z)] ∧ H' = upd H p (.lst ((ys ++ [z]).map V.str)),?_,?_⟩
  ·refine ⟨_,rfl,_,rfl,p,_,rfl,.inl (SqL.of hp),rfl,flat_strs _,_,rfl,?_⟩
   rw [in_strs,decide_eq_false c]
   refine iteP (by decide) ⟨_,rfl,.inl ⟨rfl,_,SqL.of hp⟩,_,rfl,p,_,_,rfl,rfl,hp,line_of (by rw [List.length_map]; omega),rfl,?_⟩
   rw [List.map_append]
   rfl
  rintro σ' H' ⟨rfl,rfl⟩
  have e : upd H p (.lst ((ys ++ [z]).map V.str)) p = some (.lst ((ys ++ [z]).map V.str)) := upd_same
  refine ⟨_,rfl,.inl ⟨rfl,_,SqL.of e⟩,_,rfl,p,z,ys ++ [z],rfl,rfl,SqL.of e,by simp,by rw [List.length_append,List.length_singleton]; exact hz2,?_⟩
  rw [List.idxOf_append,if_neg c]
  simpa using q2 c
end
def StN (k : Nat) (i : Int) (k' : Nat) : Prop := (0 ≤ i ∧ i < (k : Int) ∧ k' = k) ∨ (i = (k : Int) ∧ k' = k + 1)
def AC : Nat → List RdT → Nat → Prop
 | k,[],k' => k = k'
 | k,m :: N,k' => ∃ k1 k2,StN k m.1 k1 ∧ StN k1 m.2.1 k2 ∧ AC k2 N k'
theorem StN.le {k k' : Nat} {i : Int} (h : StN k i k') : k ≤ k' := by
 rcases h with ⟨_,_,e⟩ | ⟨_,e⟩ <;> omega
theorem AC.le : ∀ {N : List RdT} {k k' : Nat},AC k N k' → k ≤ k'
 | [],k,k',h => Nat.le_of_eq h
 | m :: N,k,k',⟨k1,k2,h1,h2,h⟩ => Nat.le_trans h1.le (Nat.le_trans h2.le (AC.le h))
theorem nm_get {names : List Str} {j : Nat} (h : j < names.length) : nmT names (j : Int) = names[j] := by
 simp [nmT,List.getD,List.getElem?_eq_getElem h]
theorem nm_step {names : List Str} (nd : names.Nodup) {k k' : Nat} {i : Int} (h : StN k i k') (hk : k' ≤ names.length) : (nmT names i ∈ names.take k ∧ ((((names.take k).idxOf (nmT names i) : Nat) : Int) = i) ∧ k' = k) ∨ (nmT names i ∉ names.take k ∧ (((names.take k).length : Nat) : Int) = i ∧ k' = k + 1 ∧ names.take k ++ [nmT names i] = names.take (k + 1)) := by
 rcases h with ⟨h0,h1,rfl⟩ | ⟨rfl,rfl⟩
 ·obtain ⟨j,rfl⟩ := Int.eq_ofNat_of_zero_le h0
  have hj : j < k' := by omega
  have hl : j < names.length := by omega
  rw [nm_get hl]
  have hjt : j < (names.take k').length := by rw [List.length_take]; omega
  have e : (names.take k')[j] = names[j] := List.getElem_take
  have hm : names[j] ∈ names.take k' := by rw [← e]; exact List.getElem_mem _
  refine .inl ⟨hm,?_,rfl⟩
  have hi := List.idxOf_lt_length_of_mem hm
  have := List.getElem_idxOf hi
  have e2 : (names.take k')[(names.take k').idxOf names[j]] = (names.take k')[j] := this.trans e.symm
  have := (List.getElem_inj (nd.sublist (List.take_sublist _ _))).mp e2
  omega
 ·have hl : k < names.length := by omega
  rw [nm_get hl]
  refine .inr ⟨fun z => ?_,by rw [List.length_take]; omega,rfl,?_⟩
  ·obtain ⟨j,hj,e⟩ := List.mem_iff_getElem.mp z
   rw [List.length_take] at hj
   rw [List.getElem_take] at e
   have := (List.getElem_inj nd).mp e
   omega
  ·rw [List.take_add_one,List.getElem?_eq_getElem hl]
   rfl
theorem NA.wr {H : Hp} {p x : Addr} {N : List RdT} {zs ys : List V} (h : NA H p N) (e : H x = some (.lst zs)) (ne : p ≠ x) (nb : ∀ m ∈ N,m.2.2.1 ≠ x) : NA (upd H x (.lst ys)) p N := ⟨la_clear h.la e ne,fun m hm => ⟨la_clear (h.bd m hm).1 e (nb m hm),(h.bd m hm).2⟩,h.nd⟩
theorem road_words {s e : Str} {R : List T3} : roadT s e R = Str.join " " ((s ++ ">" ++ e) :: R.map winT) := by
 have h : ∀ (x : Str) (r : List Str),Str.join " " (x :: r) = Txt.join " " (x :: r) := fun x r => by
  unfold Txt.join
  rw [StrLaws.glued_eq_join]
 unfold roadT boardT
 cases R with
 | nil => rw [if_pos rfl,Str.empty_append]; rfl
 | cons w R =>
  rw [if_neg (by simp),List.map_cons,← h,Str.empty_append]
  rfl
theorem app_mem {c : Nat} {u v : Str} : c ∈ (u ++ v).cps.toList ↔ c ∈ u.cps.toList ∨ c ∈ v.cps.toList := by
 have e : (u ++ v).cps.toList = u.cps.toList ++ v.cps.toList := by
  show (u.cps ++ v.cps).toList = _
  simp
 rw [e,List.mem_append]
theorem win_free {x : T3} (h0 : 0 ≤ x.1) (h1 : 0 ≤ x.2.1) (h2 : 0 ≤ x.2.2) {c : Nat} (hc : (c < 48 ∨ 57 < c) ∧ c ≠ 45 ∧ c ≠ 43) : c ∉ (winT x).cps.toList := fun z => by
 rw [win_span,app_mem,app_mem] at z
 rcases z with (z | z) | z
 ·exact span_free h0 h1 ⟨hc.1,hc.2.1⟩ z
 ·have : (("+" : Str)).cps.toList = [43] := by decide +kernel
  rw [this] at z
  exact hc.2.2 (by simpa using z)
 ·exact num_free h2 hc.1 z
theorem ends_free {s e : Str} (hs : Low s) (he : Low e) {c : Nat} (hc : (c < 97 ∨ 122 < c) ∧ c ≠ 62) : c ∉ (s ++ ">" ++ e).cps.toList := fun z => by
 rw [app_mem,app_mem] at z
 rcases z with (z | z) | z
 ·exact low_free hs hc.1 z
 ·have : ((">" : Str)).cps.toList = [62] := by decide +kernel
  rw [this] at z
  exact hc.2 (by simpa using z)
 ·exact low_free he hc.1 z
theorem split_road {s e : Str} {R : List T3} {day : Int} (hs : Low s) (he : Low e) (hR : WinsR day R) : Txt.split (roadT s e R) " " = (s ++ ">" ++ e) :: R.map winT := by
 rw [road_words]
 refine split_join (c := 32) (cs := []) (by decide +kernel) (by simp) (by decide +kernel) (by simp) fun p hp => ?_
 rcases List.mem_cons.mp hp with rfl | hp
 ·exact ends_free hs he ⟨by omega,by omega⟩
 ·obtain ⟨x,hx,rfl⟩ := List.mem_map.mp hp
  obtain ⟨a,b,c,d,_⟩ := hR x hx
  exact win_free a (by omega) (by omega) ⟨by omega,by omega,by omega⟩
theorem road_free {s e : Str} {R : List T3} {day : Int} (hs : Low s) (he : Low e) (hR : WinsR day R) : 59 ∉ (roadT s e R).cps.toList := by
 rw [road_words,join_cps]
 intro z
 rcases List.mem_append.mp z with z | z
 ·exact ends_free hs he ⟨by omega,by omega⟩ z
 ·obtain ⟨p,hp,z⟩ := List.mem_flatMap.mp z
  rcases List.mem_append.mp z with z | z
  ·exact absurd z (by decide +kernel)
  ·obtain ⟨x,hx,rfl⟩ := List.mem_map.mp hp
   obtain ⟨a,b,c,d,_⟩ := hR x hx
   exact win_free a (by omega) (by omega) ⟨by omega,by omega,by omega⟩ z
structure NtR (day : Int) (names : List Str) (N : List RdT) : Prop where
 d1 : 1 ≤ day
 d2 : day ≤ 1000000000000000
 low : ∀ x ∈ names,Low x
 nd : names.Nodup
 few : names.length ≤ 300
 ac : AC 0 N names.length
 l : N.length ≤ 100
 rd : ∀ m ∈ N,(0 ≤ m.1 ∧ m.1 < names.length ∧ 0 ≤ m.2.1 ∧ m.2.1 < names.length) ∧ WinsR day m.2.2.2 ∧ m.2.2.2.length ≤ 100
theorem nm_low {names : List Str} (h : ∀ x ∈ names,Low x) {i : Int} (h0 : 0 ≤ i) (h1 : i < names.length) : Low (nmT names i) := by
 obtain ⟨j,rfl⟩ := Int.eq_ofNat_of_zero_le h0
 have hl : j < names.length := by omega
 rw [nm_get hl]
 exact h _ (List.getElem_mem hl)
theorem split_net {day : Int} {names : List Str} {N : List RdT} (ok : NtR day names N) : Txt.split (netT day names N) "; " = ("day " ++ numT day) :: N.map (roadN names) := by
 have h : netT day names N = Str.join "; " (("day " ++ numT day) :: N.map (roadN names)) := by
  unfold netT Txt.join
  rw [StrLaws.glued_eq_join,Str.empty_append]
 rw [h]
 refine split_join (c := 59) (cs := [32]) (by decide +kernel) (by simp) (by decide +kernel) (by simp) fun p hp => ?_
 rcases List.mem_cons.mp hp with rfl | hp
 ·intro z
  rw [app_mem] at z
  rcases z with z | z
  ·exact absurd z (by decide +kernel)
  ·exact num_free (by have := ok.d1; omega) (by omega) z
 ·obtain ⟨m,hm,rfl⟩ := List.mem_map.mp hp
  obtain ⟨⟨a,b,c,d⟩,e,_⟩ := ok.rd m hm
  exact road_free (nm_low ok.low a b) (nm_low ok.low c d) e
def spReadN : Sp := fun vs H Q _ => ∃ (day : Int) (names : List Str) (N : List RdT),vs = [.str (netT day names N)] ∧ NtR day names N ∧
 ∀ (r pn pr : Addr) (M : List RdT) (H' : Hp),Same H H' → H' r = some (.tup [.int day,.ref pn,.ref pr]) → H' pn = some (.lst (names.map V.str)) → H pn = none → NA H' pr M → H pr = none → NFr H M → pn ≠ pr → (∀ m ∈ M,m.2.2.1 ≠ pn) → M.map strip = N.map strip → Q (.ref r) H'
theorem parts_few {x sep : Str} (h : x.length ≤ 1000000) : (Builtin.Str.partsBetween x (Builtin.Str.occurrences x sep 0 x.length (x.length + 1)) sep.length).length ≤ sizeLine := by
 rw [length_partsBetween]
 have := StrLaws.occ_length_le x sep 0 x.length (x.length + 1)
 exact L.le (by omega)
section
variable {P : Program} {w : World} {K : PySem.W.Frag} {mg : Str → Option Value} {base : Heap} {f : Addr} {fd : FuncData} {n : Nat}
theorem roadN_len {day : Int} {names : List Str} {N : List RdT} (ok : NtR day names N) {m : RdT} (hm : m ∈ N) : (roadN names m).length ≤ 5400 := by
 obtain ⟨⟨a,b,c,d⟩,e,l⟩ := ok.rd m hm
 have d2 := ok.d2
 refine roadT_len (fun x hx => ?_) l (by have := (nm_low ok.low a b).l8; omega) (by have := (nm_low ok.low c d).l8; omega)
 obtain ⟨x0,x1,x2,x3,x4⟩ := e x hx
 exact ⟨⟨x0,by omega⟩,⟨by omega,by omega⟩,⟨by omega,by omega⟩⟩
theorem ok_readN (F : Fun K "read_net" "read_net" st_read_net f fd) (B : Bl mg) (C_read_day : Callee P w K mg base n "read_day" ["text"] spDayR) (C_read_ends : Callee P w K mg base n "read_ends" ["text"] spEnds) (C_read_board : Callee P w K mg base n "read_board" ["day","words"] (spBoardR K)) (C_number_of : Callee P w K mg base n "number_of" ["names","name"] (spNumOf K)) : FnOk P w K mg base CX0 (n + 1) f fd ["text"] spReadN := by
 refine F.okQ sc_read_net (fun vs H Q E h => ?_) (fun cdv A outer s H vs Q E hr h => ?_)
 ·obtain ⟨_,_,_,rfl,_⟩ := h
  rfl
 obtain ⟨day,names,N,rfl,ok,q⟩ := h
 refine ⟨_,(qss_cons (qs_if (qt_not (qt_val (qe_cb qcall_isi rfl B.isinstance bt_isinstance (qa_c (qv 0) (qa_c (qe_bltn (v := .ty "str") rfl B.str_ bt_str rfl) qa_nil))))) (qss_one qs_never) qss_nil) (qss_cons (qs_set (i := 1) sc_read_net.nd rfl (Or.inl rfl) (qe_split K rfl (qv 0) (qa_c qe_str qa_nil))) (qss_cons (qs_set (i := 2) sc_read_net.nd rfl (Or.inl rfl) (qe_fn C_read_day hr rfl (qa_c (qe_ix qix_list (qv 1) qe_int (fun _ _ => rfl)) qa_nil))) (qss_cons (qs_if (qt_isN (qv 2)) (qss_one qs_never) qss_nil) (qss_cons (qs_set (i := 3) sc_read_net.nd rfl (Or.inl rfl) (qe_lst qa_nil)) (qss_cons (qs_set (i := 4) sc_read_net.nd rfl (Or.inl rfl) (qe_lst qa_nil)) (qss_cons (qs_for PassesOwn.never rfl (qi_list (qe_slL (qv 1) (qo_some qe_int) qo_none)) (qg_name (i := 5) sc_read_net.nd rfl (Or.inl rfl)) (qss_cons (qs_set (i := 6) sc_read_net.nd rfl (Or.inl rfl) (qe_split K rfl (qv 5) (qa_c qe_str qa_nil))) (qss_cons (qs_set (i := 7) sc_read_net.nd rfl (Or.inl rfl) (qe_fn C_read_ends hr rfl (qa_c (qe_ix qix_list (qv 6) qe_int (fun _ _ => rfl)) qa_nil))) (qss_cons (qs_set (i := 8) sc_read_net.nd rfl (Or.inl rfl) (qe_fn C_read_board hr rfl (qa_c (qv 2) (qa_c (qe_slL (qv 6) (qo_some qe_int) qo_none) qa_nil)))) (qss_cons (qs_if (QW.pt (qw_or (qt_isN (qv 7)) (qw_or1 (qt_isN (qv 8))))) (qss_one qs_never) qss_nil) (qss_cons (qs_set (i := 9) sc_read_net.nd rfl (Or.inl rfl) (qe_fn C_number_of hr rfl (qa_c (qv 3) (qa_c (qe_ix qix_tup (qv 7) qe_int (fun _ _ => rfl)) qa_nil)))) (qss_one (qs_expr (qe_append (qv 4) (qa_c (qe_tup (qa_c (qv 9) (qa_c (qe_fn C_number_of hr rfl (qa_c (qv 3) (qa_c (qe_ix qix_tup (qv 7) qe_int (fun _ _ => rfl)) qa_nil))) (qa_c (qv 8) qa_nil)))) qa_nil)))))))))) (qss_one (qs_ret (qe_tup (qa_c (qv 2) (qa_c (qv 3) (qa_c (qv 4) qa_nil))))))))))))),?_⟩
 try dsimp only [cx_k,cx_kn,as_nil,as_name,Nat.reduceAdd]
 have sd : Sm day := ⟨by have := ok.d1; omega,by have := ok.d2; omega⟩
 have hd : (numT day).length ≤ 16 := sd.len
 have e4 : ("day " : Str).length = 4 := by decide
 have lN := ok.l
 have hlen : (netT day names N).length ≤ 600000 := by
  unfold netT
  have := join_len (sep := "; ") (ts := (Str.empty ++ "day " ++ Str.ofString (toString day)) :: N.map (roadN names)) (B := 5400) fun y hy => by
   rcases List.mem_cons.mp hy with rfl | hy
   ·rw [Str.empty_append,Str.length_append,e4]
    have : (Str.ofString (toString day)).length ≤ 16 := hd
    omega
   ·obtain ⟨m,hm,rfl⟩ := List.mem_map.mp hy
    exact roadN_len ok hm
  have e2 : ("; " : Str).length = 2 := by decide
  rw [List.length_cons,List.length_map,e2] at this
  omega
 refine ⟨_,rfl,_,"str",_,_,rfl,.str _,rfl,_,rfl,iteF ?_⟩
 have es := split_net ok
 have hpt : (Builtin.Str.partsBetween (netT day names N) (Builtin.Str.occurrences (netT day names N) "; " 0 (netT day names N).length ((netT day names N).length + 1)) ("; " : Str).length).length ≤ sizeLine := by
  exact parts_few (by omega)
 refine ⟨_,rfl,rfl,_,_,rfl,rfl,by decide,L.le (by omega),hpt,L.le (by rw [es,List.length_cons,List.length_map]; omega),fun ps hps => ?_⟩
 rw [es]
 generalize hgH1 : upd _ ps _ = H1
 obtain ⟨s1,e1⟩ := fresh_of hps hgH1
 clear hgH1
 have e1 : H1 ps = some (.lst ((("day " ++ numT day) :: N.map (roadN names)).map V.str)) := e1
 refine ⟨_,rfl,ps,_,_,_,rfl,rfl,SqL.of e1,atI_nat (j := 0) rfl,day,rfl,ok.d1,ok.d2,fun H2 s2 => ?_⟩
 refine ⟨_,rfl,_,rfl,iteF ?_⟩
 refine ⟨(by show 0 ≤ sizeLine; decide),fun pn hpn => ?_⟩
 have fpn : H pn = none := s1.free (s2.free hpn)
 generalize hgH3 : upd _ pn _ = H3
 obtain ⟨s3,e3⟩ := fresh_of hpn hgH3
 clear hgH3
 refine ⟨(by show 0 ≤ sizeLine; decide),fun pr hpr => ?_⟩
 have fpr : H pr = none := s1.free (s2.free (s3.free hpr))
 have npr : pn ≠ pr := fun z => by rw [← z,e3] at hpr; cases hpr
 generalize hgH4 : upd _ pr _ = H4
 obtain ⟨s4,e4'⟩ := fresh_of hpr hgH4
 clear hgH4
 have s04 := s1.trans (s2.trans (s3.trans s4))
 have s14 := s2.trans (s3.trans s4)
 refine ⟨_,rfl,_,rfl,ps,_,rfl,SqL.of (s14 _ _ e1),fun p5 hp5 => ?_⟩
 have ec : cutV ((("day " ++ numT day) :: N.map (roadN names)).map V.str) (some 1) none = (N.map (roadN names)).map V.str := cut1 _
 rw [ec]
 have n5n : p5 ≠ pn := fun z => by rw [z,s4 _ _ e3] at hp5; cases hp5
 have n5r : p5 ≠ pr := fun z => by rw [z,e4'] at hp5; cases hp5
 generalize hgH5 : upd _ p5 _ = H5
 obtain ⟨s5,e5⟩ := fresh_of hp5 hgH5
 clear hgH5
 refine ⟨p5,rfl,⟨_,SqL.of e5⟩,for_list (K := K) (a := p5) (xs := (N.map (roadN names)).map V.str) (fun i σ H' => ∃ (k : Nat) (M : List RdT) (v5 v6 v7 v8 v9 : Option V),σ = [some (.str (netT day names N)),some (.ref ps),some (.int day),some (.ref pn),some (.ref pr),v5,v6,v7,v8,v9] ∧ Same H H' ∧ H' p5 = some (.lst ((N.map (roadN names)).map V.str)) ∧ H' pn = some (.lst ((names.take k).map V.str)) ∧ NA H' pr M ∧ NFr H M ∧ (∀ m ∈ M,m.2.2.1 ≠ pn) ∧ M.map strip = (N.take i).map strip ∧ AC k (N.drop i) names.length)
  ⟨0,[],_,_,_,_,_,rfl,s04.trans s5,e5,s5 _ _ (s4 _ _ e3),NA.nil (s5 _ _ e4'),(by intro m hm; cases hm),(by simp),rfl,ok.ac⟩ (fun i σ H' _ h => ?_) ?_ ?_⟩
 ·obtain ⟨_,_,_,_,_,_,_,_,_,h,_⟩ := h
  exact SqL.of h
 ·rintro i y σ H6 hi ⟨k,M,v5,v6,v7,v8,v9,rfl,s6,e6,n6,hM,fM,bM,eM,ac⟩
  rw [List.getElem?_map,List.getElem?_map] at hi
  cases hx : N[i]? with
  | none => rw [hx] at hi; cases hi
  | some m =>
  rw [hx] at hi
  cases hi
  have li := (List.getElem?_eq_some_iff.mp hx).1
  have mm := List.mem_of_getElem? hx
  obtain ⟨⟨a0,a1,b0,b1⟩,wR,lR⟩ := ok.rd m mm
  have ls := nm_low ok.low a0 a1
  have le := nm_low ok.low b0 b1
  have rl := roadN_len ok mm
  have er : Txt.split (roadN names m) " " = (nmT names m.1 ++ ">" ++ nmT names m.2.1) :: m.2.2.2.map winT := split_road ls le wR
  have ed : N.drop i = m :: N.drop (i + 1) := by
   rw [List.drop_eq_getElem_cons li,(List.getElem?_eq_some_iff.mp hx).2]
  rw [ed] at ac
  obtain ⟨k1,k2,st1,st2,ac⟩ := ac
  have k2n := AC.le ac
  have k1n := Nat.le_trans st2.le k2n
  have fewn := ok.few
  have lM : M.length = i := by
   have := congrArg List.length eM
   rw [List.length_map,List.length_map,List.length_take] at this
   omega
  refine ⟨_,rfl,rfl,_,_,rfl,rfl,by decide,L.le (by omega),parts_few (by omega),L.le (by rw [er,List.length_cons,List.length_map]; omega),fun pw hpw => ?_⟩
  rw [er]
  generalize hgH7 : upd _ pw _ = H7
  obtain ⟨s7,e7⟩ := fresh_of hpw hgH7
  clear hgH7
  have e7 : H7 pw = some (.lst (((nmT names m.1 ++ ">" ++ nmT names m.2.1) :: m.2.2.2.map winT).map V.str)) := e7
  refine ⟨_,rfl,pw,_,_,_,rfl,rfl,SqL.of e7,atI_nat (j := 0) rfl,_,_,rfl,ls,le,fun r8 H8 s8 e8 => ?_⟩
  refine ⟨_,rfl,_,rfl,_,rfl,pw,_,rfl,SqL.of (s8 _ _ e7),fun p9 hp9 => ?_⟩
  have ec9 : cutV (((nmT names m.1 ++ ">" ++ nmT names m.2.1) :: m.2.2.2.map winT).map V.str) (some 1) none = (m.2.2.2.map winT).map V.str := cut1 _
  rw [ec9]
  generalize hgH9 : upd _ p9 _ = H9
  obtain ⟨s9,e9⟩ := fresh_of hp9 hgH9
  clear hgH9
  refine ⟨day,p9,m.2.2.2,rfl,e9,wR,ok.d2,lR,fun pb H10 s10 fb la => ?_⟩
  have s610 := s7.trans (s8.trans (s9.trans s10))
  have n10 := s610 _ _ n6
  have nbn : pb ≠ pn := fun z => by
   rw [z] at fb
   rw [(s7.trans (s8.trans s9)) _ _ n6] at fb
   cases fb
  have fpb : H pb = none := s6.free (s7.free (s8.free (s9.free fb)))
  have hM9 := hM.same (s7.trans (s8.trans s9))
  have fbM := hM9.fresh fb
  have hM10 := hM9.same s10
  have e8' := s10 _ _ (s9 _ _ e8)
  have e510 := s610 _ _ e6
  have s010 := s6.trans s610
  have nr8 : r8 ≠ pn := fun z => by rw [z,n10] at e8'; cases e8'
  refine ⟨_,rfl,_,rfl,iteF ⟨_,rfl,_,rfl,iteF ?_⟩⟩
  refine ⟨_,rfl,_,rfl,r8,_,_,_,rfl,rfl,SqT.of e8',rfl,pn,_,names.take k,rfl,n10,by rw [List.length_take]; omega,fun v ys' alt => ?_⟩
  obtain ⟨rfl,rfl⟩ : v = m.1 ∧ ys' = names.take k1 := by
   rcases nm_step ok.nd st1 k1n with ⟨z1,z2,z3⟩ | ⟨z1,z2,z3,z4⟩
   ·rcases alt with ⟨_,a,b⟩ | ⟨a,_⟩
    ·exact ⟨a.trans z2,by rw [b,z3]⟩
    ·exact absurd z1 a
   ·rcases alt with ⟨a,_⟩ | ⟨_,a,b⟩
    ·exact absurd a z1
    ·exact ⟨a.trans z2,by rw [b,z4,z3]⟩
  have n11 : upd H10 pn (.lst ((names.take k1).map V.str)) pn = some (.lst ((names.take k1).map V.str)) := upd_same
  have e511 : upd H10 pn (.lst ((names.take k1).map V.str)) p5 = some (.lst ((N.map (roadN names)).map V.str)) := by rw [upd_ne n5n]; exact e510
  have e811 : upd H10 pn (.lst ((names.take k1).map V.str)) r8 = some (.tup [.str (nmT names m.1),.str (nmT names m.2.1)]) := by rw [upd_ne nr8]; exact e8'
  have la11 : LA enc3 (upd H10 pn (.lst ((names.take k1).map V.str))) pb m.2.2.2 := la_clear la n10 nbn
  have hM11 : NA (upd H10 pn (.lst ((names.take k1).map V.str))) pr M := hM10.wr n10 npr.symm bM
  have s011 : Same H (upd H10 pn (.lst ((names.take k1).map V.str))) := same_wr fpn s010
  clear alt
  generalize upd H10 pn (.lst ((names.take k1).map V.str)) = H11 at *
  obtain ⟨vs,hv1,hv2,_⟩ := hM11.la.lst
  refine ⟨_,rfl,.inl ⟨rfl,_,SqL.of hv1⟩,_,rfl,_,rfl,_,rfl,r8,_,_,_,rfl,rfl,SqT.of e811,rfl,pn,_,names.take k1,rfl,n11,by rw [List.length_take]; omega,fun v ys' alt => ?_⟩
  obtain ⟨rfl,rfl⟩ : v = m.2.1 ∧ ys' = names.take k2 := by
   rcases nm_step ok.nd st2 k2n with ⟨z1,z2,z3⟩ | ⟨z1,z2,z3,z4⟩
   ·rcases alt with ⟨_,a,b⟩ | ⟨a,_⟩
    ·exact ⟨a.trans z2,by rw [b,z3]⟩
    ·exact absurd z1 a
   ·rcases alt with ⟨a,_⟩ | ⟨_,a,b⟩
    ·exact absurd a z1
    ·exact ⟨a.trans z2,by rw [b,z4,z3]⟩
  have n12 : upd H11 pn (.lst ((names.take k2).map V.str)) pn = some (.lst ((names.take k2).map V.str)) := upd_same
  have e512 : upd H11 pn (.lst ((names.take k2).map V.str)) p5 = some (.lst ((N.map (roadN names)).map V.str)) := by rw [upd_ne n5n]; exact e511
  have la12 : LA enc3 (upd H11 pn (.lst ((names.take k2).map V.str))) pb m.2.2.2 := la_clear la11 n11 nbn
  have hM12 : NA (upd H11 pn (.lst ((names.take k2).map V.str))) pr M := hM11.wr n11 npr.symm bM
  have s012 : Same H (upd H11 pn (.lst ((names.take k2).map V.str))) := same_wr fpn s011
  have hv12 : upd H11 pn (.lst ((names.take k2).map V.str)) pr = some (.lst vs) := by rw [upd_ne npr.symm]; exact hv1
  clear alt
  generalize upd H11 pn (.lst ((names.take k2).map V.str)) = H12 at *
  refine ⟨_,rfl,(by show 3 ≤ sizeLine; decide),fun rr hrr => ?_⟩
  generalize hgH13 : upd _ rr _ = H13
  obtain ⟨s13,e13⟩ := fresh_of hrr hgH13
  clear hgH13
  rw [List.length_map] at hv2
  refine ⟨pr,_,_,rfl,rfl,s13 _ _ hv12,line_of (by omega),?_⟩
  refine ⟨k2,M ++ [(m.1,m.2.1,pb,m.2.2.2)],_,_,_,_,_,rfl,same_wr fpr (s012.trans s13),?_,?_,(hM12.same s13).add fbM (s13 _ _ hv12) (la12.same s13) e13,?_,?_,?_,ac⟩
  ·rw [upd_ne n5r]
   exact s13 _ _ e512
  ·rw [upd_ne npr]
   exact s13 _ _ n12
  ·intro m' hm'
   rcases List.mem_append.mp hm' with z | z
   ·exact fM m' z
   ·rw [List.mem_singleton] at z
    subst z
    exact fpb
  ·intro m' hm'
   rcases List.mem_append.mp hm' with z | z
   ·exact bM m' z
   ·rw [List.mem_singleton] at z
    subst z
    exact nbn
  ·rw [List.map_append,eM,List.take_add_one,hx,List.map_append]
   rfl
 ·rintro σ H6 ⟨k,M,v5,v6,v7,v8,v9,rfl,s6,e6,n6,hM,fM,bM,eM,ac⟩
  rw [List.length_map,List.length_map] at eM ac
  rw [List.take_length] at eM
  rw [List.drop_length] at ac
  have ek : k = names.length := ac
  subst ek
  rw [List.take_length] at n6
  refine ⟨_,rfl,_,rfl,_,rfl,(by show 3 ≤ sizeLine; decide),fun rr hrr => ?_⟩
  generalize hgH7 : upd _ rr _ = H7
  obtain ⟨s7,e7⟩ := fresh_of hrr hgH7
  clear hgH7
  exact q rr pn pr M H7 (s6.trans s7) e7 (s7 _ _ n6) fpn (hM.same s7) fpr fM npr bM eM
end
def addN (os : List Int) (x : Int) : List Int := if x ∈ os then os else os ++ [x]
def ordF (os : List Int) (N : List RdT) : List Int := N.foldl (fun os m => addN (addN os m.1) m.2.1) os
abbrev ordR (N : List RdT) : List Int := ordF [] N
def cmS (os : List Int) (m : RdT) : Int × Int × List T3 := (((os.idxOf m.1 : Nat) : Int),((os.idxOf m.2.1 : Nat) : Int),m.2.2.2)
theorem addN_mem {os : List Int} {x : Int} : x ∈ addN os x := by
 unfold addN
 split
 ·assumption
 ·simp
theorem addN_pre (os : List Int) (x : Int) : os <+: addN os x := by
 unfold addN
 split
 ·exact List.prefix_rfl
 ·exact List.prefix_append _ _
theorem addN_len (os : List Int) (x : Int) : (addN os x).length ≤ os.length + 1 := by
 unfold addN
 split
 ·omega
 ·simp
theorem ordF_pre : ∀ (N : List RdT) (os : List Int),os <+: ordF os N
 | [],os => List.prefix_rfl
 | m :: N,os => ((addN_pre os m.1).trans (addN_pre _ m.2.1)).trans (ordF_pre N _)
theorem ordF_len : ∀ (N : List RdT) (os : List Int),(ordF os N).length ≤ os.length + 2 * N.length
 | [],os => by simp [ordF]
 | m :: N,os => by
  have h := ordF_len N (addN (addN os m.1) m.2.1)
  have h1 := addN_len os m.1
  have h2 := addN_len (addN os m.1) m.2.1
  show (ordF (addN (addN os m.1) m.2.1) N).length ≤ _
  rw [List.length_cons]
  omega
theorem addN_in {os : List Int} {x : Int} {P : Int → Prop} (h : ∀ y ∈ os,P y) (hx : P x) : ∀ y ∈ addN os x,P y := fun y hy => by
 unfold addN at hy
 split at hy
 ·exact h y hy
 ·rcases List.mem_append.mp hy with z | z
  ·exact h y z
  ·rw [List.mem_singleton] at z
   subst z
   exact hx
theorem ordF_in {P : Int → Prop} : ∀ (N : List RdT) (os : List Int),(∀ y ∈ os,P y) → (∀ m ∈ N,P m.1 ∧ P m.2.1) → ∀ y ∈ ordF os N,P y
 | [],os,h,_ => h
 | m :: N,os,h,hN => ordF_in N _ (addN_in (addN_in h (hN m (List.mem_cons_self ..)).1) (hN m (List.mem_cons_self ..)).2) fun x hx => hN x (List.mem_cons_of_mem _ hx)
theorem ordF_has : ∀ (N : List RdT) (os : List Int),∀ m ∈ N,m.1 ∈ ordF os N ∧ m.2.1 ∈ ordF os N
 | [],os,m,hm => by cases hm
 | a :: N,os,m,hm => by
  rcases List.mem_cons.mp hm with rfl | hm
  ·have h := ordF_pre N (addN (addN os m.1) m.2.1)
   exact ⟨h.subset ((addN_pre _ m.2.1).subset addN_mem),h.subset addN_mem⟩
  ·exact ordF_has N _ m hm
theorem ordF_snoc (N : List RdT) (os : List Int) (m : RdT) : ordF os (N ++ [m]) = addN (addN (ordF os N) m.1) m.2.1 := by
 unfold ordF
 rw [List.foldl_append]
 rfl
theorem idx_step {os full : List Int} {x : Int} (h : addN os x <+: full) : StN os.length ((full.idxOf x : Nat) : Int) (addN os x).length := by
 obtain ⟨rest,e⟩ := h
 unfold addN at e ⊢
 split at e
 ·rename_i hx
  rw [if_pos hx]
  refine .inl ⟨by omega,?_,rfl⟩
  rw [← e,List.idxOf_append,if_pos hx]
  have := List.idxOf_lt_length_of_mem hx
  omega
 ·rename_i hx
  rw [if_neg hx]
  refine .inr ⟨?_,by simp⟩
  rw [← e,List.append_assoc,List.idxOf_append,if_neg hx]
  simp
theorem ac_of : ∀ (N M : List RdT) (os full : List Int),ordF os N = full → M.map strip = N.map (cmS full) → AC os.length M full.length
 | [],M,os,full,e,h => by
  have : M = [] := by simpa using h
  subst this
  exact congrArg List.length e
 | m :: N,[],os,full,e,h => by simp at h
 | m :: N,a :: M,os,full,e,h => by
  rw [List.map_cons,List.map_cons] at h
  injection h with h1 h2
  have e' : ordF (addN (addN os m.1) m.2.1) N = full := e
  have p2 := ordF_pre N (addN (addN os m.1) m.2.1)
  rw [e'] at p2
  have p1 := (addN_pre (addN os m.1) m.2.1).trans p2
  simp only [strip,cmS,Prod.mk.injEq] at h1
  refine ⟨(addN os m.1).length,(addN (addN os m.1) m.2.1).length,?_,?_,ac_of N M _ full e' h2⟩
  ·rw [h1.1]
   exact idx_step p1
  ·rw [h1.2.1]
   exact idx_step p2
def spCome81 : Sp := fun vs H Q _ => ∃ (p : Addr) (N : List RdT),vs = [.ref p] ∧ NA H p N ∧ N.length ≤ 100 ∧ (∀ m ∈ N,(0 ≤ m.1 ∧ m.1 < 4) ∧ (0 ≤ m.2.1 ∧ m.2.1 < 4)) ∧
 ∀ (l : Addr) (M : List RdT) (H' : Hp),Same H H' → NA H' l M → M.map strip = N.map (cmS (ordR N)) → Q (.ref l) H'
section
variable {P : Program} {w : World} {K : PySem.W.Frag} {mg : Str → Option Value} {base : Heap} {f : Addr} {fd : FuncData} {n : Nat}
theorem ok_come81 (F : Fun K "_law_as_they_come" "_law_as_they_come" st__law_as_they_come f fd) (B : Bl mg) : FnOk P w K mg base CX0 (n + 1) f fd ["roads"] spCome81 := by
 refine F.okQ sc__law_as_they_come (fun vs H Q E h => ?_) (fun cdv A outer s H vs Q E hr h => ?_)
 ·obtain ⟨_,_,rfl,_⟩ := h
  rfl
 obtain ⟨pr,N,rfl,hN,hl,hin,q⟩ := h
 refine ⟨_,(qss_cons (qs_set (i := 1) sc__law_as_they_come.nd rfl (Or.inr rfl) (qe_lst qa_nil)) (qss_cons (qs_for PassesOwn.never rfl (qi_list (qv 0)) (qg_tup rfl (qgs_cons (qg_name (i := 2) sc__law_as_they_come.nd rfl (Or.inl rfl)) (qgs_cons (qg_name (i := 3) sc__law_as_they_come.nd rfl (Or.inl rfl)) (qgs_cons (qg_name (i := 4) sc__law_as_they_come.nd rfl (Or.inl rfl)) qgs_nil)))) (qss_one (qs_for PassesOwn.never rfl (qi_list (qe_lst (qa_c (qv 2) (qa_c (qv 3) qa_nil)))) (qg_name (i := 5) sc__law_as_they_come.nd rfl (Or.inl rfl)) (qss_one (qs_if (qt_cmpR qop_notInL (qv 5) (qv 1) rfl) (qss_one (qs_expr (qe_append (qv 1) (qa_c (qv 5) qa_nil)))) qss_nil))))) (qss_one (qs_ret (qe_comp ["start","end","board","order"] [none,none,none,some 1] (BlkOk.of rfl rfl (SubL.to (subC rfl subN)) rfl) rfl (qi_list (qv 0)) (fun _ _ _ _ => (qg_tupK (n := 3) K rfl rfl (qgs_cons (qg_name (i := 0) (show (["start","end","board","order"] : List Str).Nodup by decide) rfl (Or.inl rfl)) (qgs_cons (qg_name (i := 1) (show (["start","end","board","order"] : List Str).Nodup by decide) rfl (Or.inl rfl)) (qgs_cons (qg_name (i := 2) (show (["start","end","board","order"] : List Str).Nodup by decide) rfl (Or.inl rfl)) qgs_nil))))) (fun _ _ _ _ => (qe_tup (qa_c (qe_indexK K rfl (qv 3) (qa_c (qv 0) qa_nil)) (qa_c (qe_indexK K rfl (qv 3) (qa_c (qv 1) qa_nil)) (qa_c (qe_ct (qcall_listK K rfl) rfl B.list_ bt_list (qa_c (qv 2) qa_nil)) qa_nil)))))))))),?_⟩
 try dsimp only [cx_k,cx_kn,as_nil,as_name,Nat.reduceAdd]
 refine ⟨(by show 0 ≤ sizeLine; decide),fun po hpo => ?_⟩
 generalize hgH1 : upd _ po _ = H1
 obtain ⟨s1,e1⟩ := fresh_of hpo hgH1
 clear hgH1
 obtain ⟨ws,hw1,hw2,hw3⟩ := hN.la.lst
 rw [List.length_map] at hw2
 refine ⟨_,rfl,pr,rfl,⟨_,SqL.of (s1 _ _ hw1)⟩,for_list (K := K) (a := pr) (xs := ws)
  (fun i σ H' => ∃ v1 v2 v3 v4 : Option V,σ = [some (.ref pr),some (.ref po),v1,v2,v3,v4] ∧ Same H H' ∧ H' po = some (.lst ((ordR (N.take i)).map V.int)))
  ⟨_,_,_,_,rfl,s1,e1⟩ (fun i σ H' _ ⟨_,_,_,_,_,s,_⟩ => SqL.of (s _ _ hw1)) ?_ ?_⟩
 ·rintro i y σ H2 hi ⟨v1,v2,v3,v4,rfl,s2,e2⟩
  have ol0 : (ordR (N.take i)).length ≤ 2 * i := by
   have := ordF_len (N.take i) []
   rw [List.length_take,List.length_nil] at this
   show (ordF [] (N.take i)).length ≤ _
   omega
  generalize hos : ordR (N.take i) = os at *
  obtain ⟨r,x,rfl,ex,er⟩ := hw3 i y hi
  have hi2 : i < N.length := by
   have := (List.getElem?_eq_some_iff.mp hi).1
   omega
  have em := List.getElem?_eq_getElem hi2
  rw [List.getElem?_map,em] at ex
  cases ex
  have et : N.take (i + 1) = N.take i ++ [N[i]] := by rw [List.take_add_one,em]; rfl
  obtain ⟨g1,g2⟩ := hin _ (List.getElem_mem hi2)
  rw [et]
  generalize hm : N[i] = m at *
  have er : H r = some (.tup [.int m.1,.int m.2.1,.ref m.2.2.1]) := er
  refine ⟨r,_,rfl,SqT.of (s2 _ _ er),rfl,_,_,rfl,_,_,rfl,_,_,rfl,rfl,?_⟩
  refine ⟨_,rfl,_,rfl,(by show 2 ≤ sizeLine; decide),fun p3 hp3 => ?_⟩
  generalize hgH3 : upd _ p3 _ = H3
  obtain ⟨s3,e3⟩ := fresh_of hp3 hgH3
  clear hgH3
  have np : p3 ≠ po := fun z => by rw [z,e2] at hp3; cases hp3
  refine ⟨p3,rfl,⟨_,SqL.of e3⟩,for_list (K := K) (a := p3) (xs := [V.int m.1,V.int m.2.1])
   (fun j σ H' => ∃ v4 : Option V,σ = [some (.ref pr),some (.ref po),some (.int m.1),some (.int m.2.1),some (.ref m.2.2.1),v4] ∧ Same H H' ∧ H' p3 = some (.lst [V.int m.1,V.int m.2.1]) ∧ H' po = some (.lst ((match j with | 0 => os | 1 => addN os m.1 | _ => addN (addN os m.1) m.2.1).map V.int)))
   ⟨_,rfl,s2.trans s3,e3,s3 _ _ e2⟩ (fun j σ H' _ ⟨_,_,_,e,_⟩ => SqL.of e) ?_ ?_⟩
  ·rintro j z σ H4 hj ⟨v4,rfl,s4,e4,e5⟩
   obtain ⟨pl,o1,rfl,ol,eo,en⟩ : ∃ (pl : Int) (o1 : List Int),z = .int pl ∧ o1.length ≤ 1000 ∧ (match j with | 0 => os | 1 => addN os m.1 | _ => addN (addN os m.1) m.2.1) = o1 ∧ (match j + 1 with | 0 => os | 1 => addN os m.1 | _ => addN (addN os m.1) m.2.1) = addN o1 pl := by
    match j,hj with
    | 0,hj => cases hj; exact ⟨_,os,rfl,by omega,rfl,rfl⟩
    | 1,hj => cases hj; exact ⟨_,addN os m.1,rfl,by have := addN_len os m.1; omega,rfl,rfl⟩
    | j + 2,hj => simp at hj
   rw [eo] at e5
   rw [en]
   refine ⟨_,rfl,_,rfl,po,_,rfl,.inl (SqL.of e5),rfl,flat_ints _,_,rfl,?_⟩
   rw [in_ints]
   refine ite2 (fun c => ?_) (fun c => ?_)
   ·have c' : pl ∉ o1 := by
     have : (if true = true then !decide (pl ∈ o1) else decide (pl ∈ o1)) = true := c
     simpa using this
    refine ⟨_,rfl,.inl ⟨rfl,_,SqL.of e5⟩,_,rfl,po,_,_,rfl,rfl,e5,line_of (by rw [List.length_map]; omega),?_⟩
    refine ⟨_,rfl,same_wr hpo s4,by rw [upd_ne np]; exact e4,?_⟩
    rw [upd_same,show addN o1 pl = o1 ++ [pl] from if_neg c',List.map_append]
    rfl
   ·have c' : pl ∈ o1 := by
     have : (if true = true then !decide (pl ∈ o1) else decide (pl ∈ o1)) ≠ true := c
     simpa using this
    exact ⟨_,rfl,s4,e4,by rw [show addN o1 pl = o1 from if_pos c']; exact e5⟩
  ·rintro σ H4 ⟨v4,rfl,s4,e4,e5⟩
   refine ⟨_,_,_,_,rfl,s4,?_⟩
   have e9 : ordR (N.take i ++ [m]) = addN (addN os m.1) m.2.1 := by
    rw [← hos]
    exact ordF_snoc _ _ _
   rw [e9]
   exact e5
 rintro σ H2 ⟨v1,v2,v3,v4,rfl,s2,e2⟩
 rw [hw2,List.take_length] at e2
 have ol : (ordR N).length ≤ 2 * N.length := by
  have := ordF_len N []
  rw [List.length_nil] at this
  show (ordF [] N).length ≤ _
  omega
 have oin : ∀ x ∈ ordR N,0 ≤ x ∧ x < 4 := ordF_in (P := fun x => 0 ≤ x ∧ x < 4) N [] (by simp) hin
 have oall : ∀ m ∈ N,m.1 ∈ ordR N ∧ m.2.1 ∈ ordR N := ordF_has N []
 generalize hos : ordR N = os at *
 have hlay := lay_ok oin (by omega)
 have hw12 := s2 _ _ hw1
 refine ⟨_,rfl,pr,rfl,⟨_,SqL.of hw12⟩,?_⟩
 refine comp_list0 (K := K) (a := pr) (xs := ws) (fun D i H' => Same H2 H' ∧ ∃ M,NA H' D M ∧ M.map strip = (N.take i).map (cmS os)) (fun D hD => ⟨same_new hD _,[],NA.nil upd_same,rfl⟩) (fun D i H' _ _ h => SqL.of (h.1 _ _ hw12)) ?_ ?_
 ·rintro D i y H' hD hi ⟨sD,M,hM,eM⟩
  obtain ⟨r,x,rfl,ex,er⟩ := hw3 i y hi
  have hi2 : i < N.length := by
   have := (List.getElem?_eq_some_iff.mp hi).1
   omega
  have em := List.getElem?_eq_getElem hi2
  rw [List.getElem?_map,em] at ex
  cases ex
  have hmem := List.getElem_mem hi2
  have et : N.take (i + 1) = N.take i ++ [N[i]] := by rw [List.take_add_one,em]; rfl
  rw [et]
  have ml : M.length = i := by
   have := congrArg List.length eM
   rw [List.length_map,List.length_map,List.length_take] at this
   omega
  have hb := ((hN.bd _ hmem).1.same s2).same sD
  obtain ⟨q1,q2⟩ := oall _ hmem
  generalize hm : N[i] = m at *
  have er : H' r = some (.tup [.int m.1,.int m.2.1,.ref m.2.2.1]) := sD _ _ (s2 _ _ er)
  have i1 := List.idxOf_lt_length_of_mem q1
  have i2 := List.idxOf_lt_length_of_mem q2
  refine ⟨r,_,rfl,SqT.of er,rfl,_,_,rfl,_,_,rfl,_,_,rfl,rfl,fun k v e => ?_,?_⟩
  ·match k,e with
   | 0,e => cases e
   | 1,e => cases e
   | 2,e => cases e
   | 3,e => exact e
   | k + 4,e => cases e
  obtain ⟨bs,hb1,hb2,hb3⟩ := hb.lst
  have e2' := sD _ _ e2
  refine ⟨_,rfl,.inl ⟨rfl,_,SqL.of e2'⟩,_,rfl,po,m.1,os,rfl,rfl,SqL.of e2',hlay,q1,_,rfl,.inl ⟨rfl,_,SqL.of e2'⟩,_,rfl,po,m.2.1,os,rfl,rfl,SqL.of e2',hlay,q2,_,rfl,m.2.2.1,_,rfl,.inl (SqL.of hb1),fun p1 hp1 => ?_⟩
  have fb := hM.fresh hp1
  generalize hgH3 : upd _ p1 _ = H3
  obtain ⟨s3,e3⟩ := fresh_of hp1 hgH3
  clear hgH3
  have hc := hb.copy s3 hb1 e3
  refine ⟨(by show 3 ≤ sizeLine; decide),fun rr hrr => ?_⟩
  generalize hgH4 : upd _ rr _ = H4
  obtain ⟨s4,e4⟩ := fresh_of hrr hgH4
  clear hgH4
  obtain ⟨vs,hv1,hv2,_⟩ := ((hM.same s3).same s4).la.lst
  rw [List.length_map] at hv2
  refine ⟨_,hv1,line_of (by omega),same_wr hD ((sD.trans s3).trans s4),M ++ [(((os.idxOf m.1 : Nat) : Int),((os.idxOf m.2.1 : Nat) : Int),p1,m.2.2.2)],((hM.same s3).same s4).add fb hv1 (hc.same s4) e4,?_⟩
  rw [List.map_append,List.map_append,eM]
  rfl
 ·rintro D H' hD ⟨sD,M,hM,eM⟩
  rw [hw2,List.take_length] at eM
  exact q D M H' (s2.trans sD) hM eM
def spMany81 : Sp := fun vs H Q _ => ∃ (p : Addr) (N : List RdT) (k : Nat),vs = [.ref p] ∧ NA H p N ∧ AC 0 N k ∧ Q (.int (k : Int)) H
theorem ok_many81 (F : Fun K "_law_many" "_law_many" st__law_many f fd) (B : Bl mg) : FnOk P w K mg base CX0 (n + 1) f fd ["roads"] spMany81 := by
 refine F.okQ sc__law_many (fun vs H Q E h => ?_) (fun cdv A outer s H vs Q E hr h => ?_)
 ·obtain ⟨_,_,_,rfl,_⟩ := h
  rfl
 obtain ⟨pr,N,kk,rfl,hN,ac0,q⟩ := h
 refine ⟨_,(qss_cons (qs_set (i := 1) sc__law_many.nd rfl (Or.inl rfl) qe_int) (qss_cons (qs_for PassesOwn.never rfl (qi_list (qv 0)) (qg_tup rfl (qgs_cons (qg_name (i := 2) sc__law_many.nd rfl (Or.inl rfl)) (qgs_cons (qg_name (i := 3) sc__law_many.nd rfl (Or.inl rfl)) (qgs_cons (qg_name (i := 4) sc__law_many.nd rfl (Or.inl rfl)) qgs_nil)))) (qss_one (qs_set (i := 1) sc__law_many.nd rfl (Or.inl rfl) (qe_cb (qcall_max3 rfl) rfl B.max bt_max (qa_c (qv 1) (qa_c (qe_op qop_add (qv 2) qe_int) (qa_c (qe_op qop_add (qv 3) qe_int) qa_nil))))))) (qss_one (qs_ret (qv 1))))),?_⟩
 try dsimp only [cx_k,cx_kn,as_nil,as_name,Nat.reduceAdd]
 obtain ⟨ws,hw1,hw2,hw3⟩ := hN.la.lst
 rw [List.length_map] at hw2
 refine ⟨_,rfl,pr,rfl,⟨_,SqL.of hw1⟩,for_list (K := K) (a := pr) (xs := ws)
  (fun i σ H' => H' = H ∧ ∃ (k : Nat) (v1 v2 v3 : Option V),σ = [some (.ref pr),some (.int (k : Int)),v1,v2,v3] ∧ AC k (N.drop i) kk)
  ⟨rfl,0,_,_,_,rfl,ac0⟩ (fun i σ H' _ h => by rw [h.1]; exact SqL.of hw1) ?_ ?_⟩
 ·rintro i y σ H' hi ⟨rfl,k,v1,v2,v3,rfl,ac⟩
  obtain ⟨r,x,rfl,ex,er⟩ := hw3 i y hi
  have hi2 : i < N.length := by
   have := (List.getElem?_eq_some_iff.mp hi).1
   omega
  have em := List.getElem?_eq_getElem hi2
  rw [List.getElem?_map,em] at ex
  cases ex
  rw [List.drop_eq_getElem_cons hi2] at ac
  generalize hm : N[i] = m at *
  obtain ⟨k1,k2,st1,st2,ac⟩ := ac
  have er : H' r = some (.tup [.int m.1,.int m.2.1,.ref m.2.2.1]) := er
  refine ⟨r,_,rfl,SqT.of er,rfl,_,_,rfl,_,_,rfl,_,_,rfl,rfl,?_⟩
  refine ⟨_,rfl,_,rfl,_,_,rfl,rfl,_,rfl,_,_,rfl,rfl,_,_,_,rfl,fun M l1 l2 l3 l4 => ?_⟩
  have eM : M = (k2 : Int) := by
   rcases st1 with ⟨_,_,e1⟩ | ⟨_,e1⟩ <;> rcases st2 with ⟨_,_,e2⟩ | ⟨_,e2⟩ <;> omega
  rw [eM]
  exact ⟨rfl,k2,_,_,_,rfl,ac⟩
 ·rintro σ H' ⟨rfl,k,v1,v2,v3,rfl,ac⟩
  rw [hw2,List.drop_length] at ac
  have : k = kk := ac
  subst this
  exact ⟨_,rfl,q⟩
end
theorem letter81 {j : Int} (h0 : 0 ≤ j) (h1 : j < 26) : atI lettersT.cps.toList j = some (97 + j.toNat) := by
 obtain ⟨k,rfl⟩ := Int.eq_ofNat_of_zero_le h0
 have all : ∀ k : Fin 26,lettersT.cps.toList[k.val]? = some (97 + k.val) := by decide +kernel
 exact atI_nat (all ⟨k,by omega⟩)
def lowS (x : Str) : Prop := ∀ c ∈ x.cps.toList,97 ≤ c ∧ c ≤ 122
theorem lowS.app {x y : Str} (h : lowS x) (h' : lowS y) : lowS (x ++ y) := fun c hc => by
 rcases app_mem.mp hc with hc | hc
 ·exact h c hc
 ·exact h' c hc
theorem lowS.slice {x : Str} (h : lowS x) (l u : Option Int) : lowS (Txt.slice x l u) := fun c hc => by
 unfold Txt.slice at hc
 split at hc
 ·exact h c hc
 ·have hc : c ∈ (Builtin.Str.strSliceIndices l u 1 x.length).filterMap (x.cps[·]?) := by simpa using hc
  obtain ⟨i,_,e⟩ := List.mem_filterMap.mp hc
  exact h c (Array.mem_toList_iff.mpr (Array.mem_of_getElem? e))
theorem lowS.mul {x : Str} (h : lowS x) (h1 : 1 ≤ x.length) : lowS (Txt.mul x 8) ∧ (Txt.mul x 8).length = 8 * x.length := by
 unfold Txt.mul
 rw [if_neg (by decide),if_neg (by simp; omega)]
 have e : (List.replicate (8 : Int).toNat x.cps).foldl (· ++ ·) #[] = x.cps ++ x.cps ++ x.cps ++ x.cps ++ x.cps ++ x.cps ++ x.cps ++ x.cps := by
  show (((((((#[] ++ x.cps) ++ x.cps) ++ x.cps) ++ x.cps) ++ x.cps) ++ x.cps) ++ x.cps) ++ x.cps = _
  rw [Array.empty_append]
 rw [e]
 refine ⟨fun c hc => ?_,?_⟩
 ·have hc : c ∈ (x.cps ++ x.cps ++ x.cps ++ x.cps ++ x.cps ++ x.cps ++ x.cps ++ x.cps).toList := hc
  simp only [Array.toList_append,List.mem_append] at hc
  refine h c ?_
  rcases hc with ((((((hc | hc) | hc) | hc) | hc) | hc) | hc) | hc <;> exact hc
 ·show (x.cps ++ x.cps ++ x.cps ++ x.cps ++ x.cps ++ x.cps ++ x.cps ++ x.cps).size = 8 * x.cps.size
  simp only [Array.size_append]
  omega
theorem slice_len {x : Str} {j : Int} (h0 : 0 ≤ j) (h1 : j ≤ x.length) : ((Txt.slice x none (some j)).length : Int) = j := by
 have hi : Builtin.Str.strSliceIndices none (some j) 1 x.length = List.range j.toNat := by
  unfold Builtin.Str.strSliceIndices sliceRange
  simp only [show (1 : Int) > 0 by decide,if_true]
  rw [show (if j < 0 then j + (x.length : Int) else j) = j from if_neg (by omega),show max 0 (min j (x.length : Int)) = j by omega]
  have ec : (if (0 : Int) < j then (j - 0 + 1 - 1) / 1 else 0).toNat = j.toNat := by
   split
   ·rw [Int.ediv_one]
    congr 1
    omega
   ·omega
  rw [ec]
  refine List.ext_getElem? fun k => ?_
  rw [List.getElem?_map]
  by_cases c : k < j.toNat
  ·rw [List.getElem?_range c]
   simp
  ·rw [List.getElem?_eq_none (by simpa using c)]
   rfl
 unfold Txt.slice
 rw [hi]
 split
 ·rename_i c
  have : j.toNat = x.length := by simpa using c
  omega
 ·show ((((List.range j.toNat).filterMap (x.cps[·]?)).toArray.size : Nat) : Int) = j
  rw [List.size_toArray]
  have : ∀ m : Nat,m ≤ x.cps.size → ((List.range m).filterMap (x.cps[·]?)).length = m := by
   intro m
   induction m with
   | zero => intro _; rfl
   | succ m ih =>
    intro hm
    rw [List.range_succ,List.filterMap_append,List.length_append,ih (by omega)]
    simp [Array.getElem?_eq_getElem (show m < x.cps.size by omega)]
  rw [this j.toNat (by have : x.length = x.cps.size := rfl; omega)]
  omega
def fRest (cell : Int) : Nat → Int
 | 0 => cell / 192
 | j + 1 => fRest cell j / 26
def NmD (cell at_ : Int) (k : Nat) (y : Str) : Prop := (cell % 3 ≠ 1 → y.cps.toList[at_.toNat]? = some (97 + ((fRest cell at_.toNat + at_ + (k : Int)) % 26).toNat)) ∧ (cell % 3 = 1 → (y.length : Int) = 1 + ((k : Int) + cell / 24) % 8)
theorem nm_nodup {cell at_ : Int} {xs : List Str} (hl : xs.length ≤ 8) (h : ∀ (k : Nat) y,xs[k]? = some y → NmD cell at_ k y) : xs.Nodup := by
 refine List.pairwise_iff_getElem.mpr fun i j hi hj hij ey => ?_
 have hi' := List.getElem?_eq_getElem hi
 have hj' := List.getElem?_eq_getElem hj
 have a := h i _ hi'
 have b := h j _ hj'
 rw [ey] at a
 by_cases c : cell % 3 = 1
 ·have a2 := a.2 c
  have b2 := b.2 c
  omega
 ·have a1 := a.1 c
  have b1 := b.1 c
  rw [a1] at b1
  have := Option.some.inj b1
  omega
def spNames81 : Sp := fun vs H Q _ => ∃ cell many : Int,vs = [.int cell,.int many] ∧ 0 ≤ many ∧ many ≤ 8 ∧ ∀ (l : Addr) (xs : List Str) (H' : Hp),Same H H' → H' l = some (.lst (xs.map V.str)) → xs.length = many.toNat → (∀ x ∈ xs,Low x) → xs.Nodup → Q (.ref l) H'
section
variable {P : Program} {w : World} {K : PySem.W.Frag} {mg : Str → Option Value} {base : Heap} {f : Addr} {fd : FuncData} {n : Nat}
theorem ok_names81 (F : Fun K "_law_names" "_law_names" st__law_names f fd) (B : Bl mg) : FnOk P w K mg base CX0 (n + 1) f fd ["cell","many"] spNames81 := by
 refine F.okQ sc__law_names (fun vs H Q E h => ?_) (fun cdv A outer s H vs Q E hr h => ?_)
 ·obtain ⟨_,_,rfl,_⟩ := h
  rfl
 obtain ⟨cell,many,rfl,m0,m1,q⟩ := h
 refine ⟨_,(qss_cons (qs_set (i := 2) sc__law_names.nd rfl (Or.inl rfl) qe_str) (qss_cons (qs_set (i := 3) sc__law_names.nd rfl (Or.inl rfl) (qe_op qop_add qe_int (qe_op qop_mod (qe_op qop_fdivB (qv 0) qe_int) qe_int))) (qss_cons (qs_set (i := 4) sc__law_names.nd rfl (Or.inl rfl) (qe_op qop_mod (qe_op qop_fdivB (qv 0) qe_int) (qv 3))) (qss_cons (qs_set (i := 5) sc__law_names.nd rfl (Or.inl rfl) (qe_lst qa_nil)) (qss_cons (qs_for PassesOwn.never rfl (qi_range1 rfl B.range (qa_c (qv 1) qa_nil)) (qg_name (i := 6) sc__law_names.nd rfl (Or.inl rfl)) (qss_cons (qs_set (i := 7) sc__law_names.nd rfl (Or.inl rfl) (qe_op qop_fdivB (qv 0) qe_int)) (qss_cons (qs_set (i := 8) sc__law_names.nd rfl (Or.inl rfl) qe_str) (qss_cons (qs_for PassesOwn.never rfl (qi_range1 rfl B.range (qa_c (qv 3) qa_nil)) (qg_name (i := 9) sc__law_names.nd rfl (Or.inl rfl)) (qss_cons (qs_set (i := 10) sc__law_names.nd rfl (Or.inl rfl) (qe_op qop_add (qv 7) (qv 9))) (qss_cons (qs_set (i := 7) sc__law_names.nd rfl (Or.inl rfl) (qe_op qop_fdivB (qv 7) qe_int)) (qss_cut (qs_if (qt_cut (QW.pt (qw_and (qt_cmpR qop_eq (qv 9) (qv 4) (nomark _)) (qw_and1 (qt_cmpR qop_ne (qe_op qop_mod (qv 0) qe_int) qe_int (nomark _)))))) (qss_one (qs_set (i := 10) sc__law_names.nd rfl (Or.inl rfl) (qe_op qop_add (qv 10) (qv 6)))) qss_nil) (qss_cut (qs_if (qt_cut (QW.pt (qw_and (qt_cmpR qop_ne (qv 9) (qv 4) (nomark _)) (qw_and1 (qt_cmpR qop_eq (qe_op qop_mod (qv 0) qe_int) qe_int (nomark _)))))) (qss_one (qs_set (i := 10) sc__law_names.nd rfl (Or.inl rfl) (qe_op qop_add (qv 10) (qe_op qop_mul (qe_op qop_mul qe_int (qv 6)) (qe_op qop_add (qv 9) qe_int))))) qss_nil) (qss_one (qs_set (i := 8) sc__law_names.nd rfl (Or.inl rfl) (qe_op qop_addS (qv 8) (qe_ix qix_str (qv 2) (qe_op qop_mod (qv 10) qe_int) (fun _ _ => rfl)))))))))) (qss_cut (qs_if (qt_cmpR qop_eq (qe_op qop_mod (qv 0) qe_int) qe_int (nomark _)) (qss_one (qs_set (i := 8) sc__law_names.nd rfl (Or.inl rfl) (qe_slS (qe_op qop_mulS (qv 8) qe_int) qo_none (qo_some (qe_op qop_add qe_int (qe_op qop_mod (qe_op qop_add (qv 6) (qe_op qop_fdivB (qv 0) qe_int)) qe_int)))))) qss_nil) (qss_one (qs_expr (qe_append (qv 5) (qa_c (qv 8) qa_nil))))))))) (qss_one (qs_ret (qv 5)))))))),?_⟩
 try dsimp only [cx_k,cx_kn,as_nil,as_name,Nat.reduceAdd]
 have z8 := emod_b (cell / 3) (show (0 : Int) < 8 by decide)
 refine ⟨_,rfl,_,_,rfl,rfl,⟨by decide,by decide⟩,_,_,rfl,rfl,(by show (0 : Int) < 8; decide),_,_,rfl,rfl,?_⟩
 dsimp only
 generalize hsz : 1 + cell / 3 % 8 = size
 refine ⟨_,rfl,_,_,rfl,rfl,⟨by decide,by decide⟩,_,rfl,_,_,rfl,rfl,(by show (0 : Int) < size; omega),?_⟩
 dsimp only
 have ab := emod_b (cell / 24) (show (0 : Int) < size by omega)
 generalize cell / 24 % size = at_ at ab
 refine ⟨(by show 0 ≤ sizeLine; decide),fun pn hpn => ?_⟩
 generalize hgH1 : upd _ pn _ = H1
 obtain ⟨s1,e1⟩ := fresh_of hpn hgH1
 clear hgH1
 refine ⟨_,rfl,many,rfl,by omega,by omega,for_range (lo := 0) (n := many.toNat)
  (fun i σ H' => ∃ (xs : List Str) (v1 v2 v3 v4 v5 : Option V),σ = [some (.int cell),some (.int many),some (.str lettersT),some (.int size),some (.int at_),some (.ref pn),v1,v2,v3,v4,v5] ∧ Same H H' ∧ H' pn = some (.lst (xs.map V.str)) ∧ xs.length = i ∧ (∀ x ∈ xs,Low x) ∧ ∀ (k : Nat) y,xs[k]? = some y → NmD cell at_ k y)
  ⟨[],_,_,_,_,_,rfl,s1,e1,rfl,by simp,by simp⟩ ?_ ?_⟩
 ·rintro i σ H2 hi ⟨xs,v1,v2,v3,v4,v5,rfl,s2,e2,xl,xall,xd⟩
  rw [show (0 : Int) + ((i : Nat) : Int) = (i : Int) by omega]
  refine ⟨_,rfl,_,_,rfl,rfl,⟨by decide,by decide⟩,?_⟩
  dsimp only
  refine ⟨_,rfl,_,rfl,by omega,by omega,for_range (lo := 0) (n := size.toNat)
   (fun j σ H' => H' = H2 ∧ ∃ (rest : Int) (x : Str) (v4 v5 : Option V),σ = [some (.int cell),some (.int many),some (.str lettersT),some (.int size),some (.int at_),some (.ref pn),some (.int (i : Int)),some (.int rest),some (.str x),v4,v5] ∧ x.length = j ∧ lowS x ∧ rest = fRest cell j ∧ (cell % 3 ≠ 1 → at_ < (j : Int) → x.cps.toList[at_.toNat]? = some (97 + ((fRest cell at_.toNat + at_ + (i : Int)) % 26).toNat)))
   ⟨rfl,_,Str.empty,_,_,rfl,rfl,(fun c hc => by cases hc),rfl,fun _ h => by omega⟩ ?_ ?_⟩
  ·rintro j σ H' hj ⟨rfl,rest,x,v4,v5,rfl,xlen,xok,er,xat⟩
   rw [show (0 : Int) + ((j : Nat) : Int) = (j : Int) by omega]
   refine ⟨_,rfl,_,rfl,_,_,rfl,rfl,?_⟩
   refine ⟨_,rfl,_,_,rfl,rfl,⟨by decide,by decide⟩,?_⟩
   dsimp only
   have er2 : rest / 26 = fRest cell (j + 1) := by rw [er]; rfl
   generalize rest / 26 = rest2 at er2
   generalize hpl0 : rest + (j : Int) = pl0
   refine ⟨fun σ' H3 => H3 = H' ∧ ∃ pl : Int,σ' = [some (.int cell),some (.int many),some (.str lettersT),some (.int size),some (.int at_),some (.ref pn),some (.int (i : Int)),some (.int rest2),some (.str x),some (.int (j : Int)),some (.int pl)] ∧ ((j : Int) = at_ → cell % 3 ≠ 1 → pl = rest + (j : Int) + (i : Int)),?_,?_⟩
   ·refine ⟨fun b H3 => H3 = H' ∧ (b = true ↔ ((j : Int) = at_ ∧ cell % 3 ≠ 1)),?_,?_⟩
    ·refine ⟨_,rfl,_,rfl,rfl,_,rfl,ite2 (fun c => ?_) (fun c => ⟨rfl,?_⟩)⟩
     ·have c' : (j : Int) = at_ := by
       have := of_decide_eq_true c
       injection this
      refine ⟨_,rfl,_,_,rfl,rfl,(by show (0 : Int) < 3; decide),rfl,_,rfl,rfl,?_⟩
      simp [c']
     ·have c' : ¬ (j : Int) = at_ := fun z => c (decide_eq_true (by rw [z]))
      simp [c']
    rintro b H3 ⟨rfl,hb⟩
    refine ite2 (fun z => ?_) (fun z => ⟨rfl,pl0,rfl,fun h1 h2 => absurd (hb.mpr ⟨h1,h2⟩) z⟩)
    exact ⟨_,rfl,_,rfl,_,_,rfl,rfl,rfl,_,rfl,fun _ _ => by rw [hpl0]⟩
   rintro σ' H3 ⟨rfl,pl,rfl,hpl⟩
   refine ⟨fun σ' H4 => H4 = H3 ∧ ∃ pl : Int,σ' = [some (.int cell),some (.int many),some (.str lettersT),some (.int size),some (.int at_),some (.ref pn),some (.int (i : Int)),some (.int rest2),some (.str x),some (.int (j : Int)),some (.int pl)] ∧ ((j : Int) = at_ → cell % 3 ≠ 1 → pl = rest + (j : Int) + (i : Int)),?_,?_⟩
   ·refine ⟨fun b H4 => H4 = H3 ∧ (b = true → (j : Int) ≠ at_),?_,?_⟩
    ·refine ⟨_,rfl,_,rfl,rfl,_,rfl,ite2 (fun c => ?_) (fun c => ⟨rfl,fun z => by cases z⟩)⟩
     refine ⟨_,rfl,_,_,rfl,rfl,(by show (0 : Int) < 3; decide),rfl,_,rfl,rfl,fun _ z => ?_⟩
     rw [z] at c
     simp at c
    rintro b H4 ⟨rfl,hb⟩
    refine ite2 (fun z => ?_) (fun _ => ⟨rfl,_,rfl,hpl⟩)
    exact ⟨_,rfl,_,rfl,_,_,rfl,rfl,.inl ⟨by decide,by decide⟩,_,rfl,_,_,rfl,rfl,_,_,rfl,rfl,.inr ⟨by omega,by omega⟩,_,_,rfl,rfl,rfl,_,rfl,fun h1 _ => absurd h1 (hb z)⟩
   clear hpl
   rintro σ' H4 ⟨rfl,pl,rfl,hpl⟩
   have e26 := emod_b pl (show (0 : Int) < 26 by decide)
   have hc := letter81 e26.1 e26.2
   have ll : lettersT.length = 26 := by decide +kernel
   have jl : j < 8 := by omega
   refine ⟨_,rfl,_,rfl,_,rfl,_,_,rfl,rfl,(by show (0 : Int) < 26; decide),_,_,_,rfl,rfl,L.le (by rw [ll]; omega),hc,_,_,rfl,rfl,L.le (by show x.length + 1 ≤ _; omega),?_⟩
   have exl : x.cps.toList.length = j := by
    rw [← xlen]
    simp [Str.length]
   have eap : ∀ c : Nat,(x ++ (⟨#[c]⟩ : Str)).cps.toList = x.cps.toList ++ [c] := fun c => by
    show (x.cps ++ #[c]).toList = _
    simp
   refine ⟨rfl,rest2,_,_,_,rfl,?_,xok.app fun d hd => ?_,er2,fun h1 h2 => ?_⟩
   ·rw [Str.length_append,xlen]
    rfl
   ·have hd : d ∈ [97 + (pl % 26).toNat] := hd
    rw [List.mem_singleton] at hd
    omega
   ·rw [eap]
    rcases (by omega : at_ < (j : Int) ∨ at_ = (j : Int)) with z | z
    ·rw [List.getElem?_append_left (by omega)]
     exact xat h1 z
    ·have ej : at_.toNat = j := by omega
     rw [List.getElem?_append_right (by omega),exl,ej,Nat.sub_self,hpl z.symm h1,er,z]
     rfl
  ·rintro σ H' ⟨rfl,rest,x,v4,v5,rfl,xlen,xok,er,xat⟩
   have xl8 : x.length ≤ 8 := by omega
   have xl1 : 1 ≤ x.length := by omega
   refine ⟨fun σ' H3 => H3 = H' ∧ ∃ y : Str,σ' = [some (.int cell),some (.int many),some (.str lettersT),some (.int size),some (.int at_),some (.ref pn),some (.int (i : Int)),some (.int rest),some (.str y),v4,v5] ∧ Low y ∧ NmD cell at_ i y,?_,?_⟩
   ·refine ⟨_,rfl,_,_,rfl,rfl,(by show (0 : Int) < 3; decide),rfl,_,rfl,ite2 (fun c => ?_) (fun c => ⟨rfl,x,rfl,⟨xok,xl1,xl8⟩,fun h => xat h (by omega),fun h => absurd (decide_eq_true (by show V.int (cell % 3) = V.int 1; rw [h])) c⟩)⟩
    have c' : cell % 3 = 1 := by
     have := of_decide_eq_true c
     injection this
    obtain ⟨m1,m2⟩ := xok.mul xl1
    have e8 := emod_b ((i : Int) + cell / 24) (show (0 : Int) < 8 by decide)
    have sl := slice_len (x := Txt.mul x 8) (j := 1 + ((i : Int) + cell / 24) % 8) (by omega) (by omega)
    refine ⟨_,rfl,_,_,rfl,rfl,mulOk8 xl8,_,rfl,_,rfl,_,_,rfl,rfl,⟨by decide,by decide⟩,_,_,rfl,rfl,_,_,rfl,rfl,(by show (0 : Int) < 8; decide),_,_,rfl,rfl,_,rfl,_,rfl,rfl,⟨_,rfl⟩,L.le (by omega),rfl,_,rfl,⟨m1.slice _ _,?_,?_⟩,fun h => absurd c' h,fun _ => sl⟩
    ·omega
    ·omega
   rintro σ' H3 ⟨rfl,y,rfl,yl,yd⟩
   refine ⟨_,rfl,.inl ⟨rfl,_,SqL.of e2⟩,_,rfl,pn,_,_,rfl,rfl,e2,line_of (by rw [List.length_map]; omega),?_⟩
   refine ⟨xs ++ [y],_,_,_,_,_,rfl,same_wr hpn s2,by rw [upd_same,List.map_append]; rfl,by simp [xl],fun z hz => ?_,fun k z hz => ?_⟩
   ·rcases List.mem_append.mp hz with hz | hz
    ·exact xall z hz
    ·rw [List.mem_singleton] at hz
     subst hz
     exact yl
   ·rcases Nat.lt_or_ge k xs.length with c | c
    ·rw [List.getElem?_append_left c] at hz
     exact xd k z hz
    ·have := (List.getElem?_eq_some_iff.mp hz).1
     rw [List.length_append,List.length_singleton] at this
     have ek : k = i := by omega
     subst ek
     rw [List.getElem?_append_right c,show k - xs.length = 0 by omega] at hz
     cases hz
     exact yd
 ·rintro σ H2 ⟨xs,v1,v2,v3,v4,v5,rfl,s2,e2,xl,xall,xd⟩
  exact ⟨_,rfl,q pn xs H2 s2 e2 xl xall (nm_nodup (by omega) xd)⟩
end
theorem pig : ∀ (n : Nat) (os : List Int),os.Nodup → (∀ x ∈ os,0 ≤ x ∧ x < (n : Int)) → os.length ≤ n
 | 0,os,_,h => by
  cases os with
  | nil => simp
  | cons x os =>
   have := h x (List.mem_cons_self ..)
   omega
 | n + 1,os,nd,h => by
  by_cases c : (n : Int) ∈ os
  ·have h1 := pig n (os.erase (n : Int)) (nd.erase _) fun x hx => by
    have := (List.Nodup.mem_erase_iff nd).mp hx
    have := h x this.2
    have := ((List.Nodup.mem_erase_iff nd).mp hx).1
    omega
   rw [List.length_erase_of_mem c] at h1
   omega
  ·have := pig n os nd fun x hx => by
    have := h x hx
    have : x ≠ (n : Int) := fun z => c (z ▸ hx)
    omega
   omega
theorem addN_nd {os : List Int} {x : Int} (h : os.Nodup) : (addN os x).Nodup := by
 unfold addN
 split
 ·exact h
 ·rename_i c
  rw [List.nodup_append]
  exact ⟨h,by simp,fun a ha b hb => by rw [List.mem_singleton] at hb; subst hb; exact fun z => c (z ▸ ha)⟩
theorem ordF_nd : ∀ (N : List RdT) (os : List Int),os.Nodup → (ordF os N).Nodup
 | [],os,h => h
 | m :: N,os,h => ordF_nd N _ (addN_nd (addN_nd h))
theorem StN.rng {k k' : Nat} {i : Int} (h : StN k i k') : 0 ≤ i ∧ i < (k' : Int) := by
 rcases h with ⟨a,b,e⟩ | ⟨a,e⟩ <;> omega
theorem AC.rng : ∀ {N : List RdT} {k K : Nat},AC k N K → ∀ m ∈ N,(0 ≤ m.1 ∧ m.1 < (K : Int)) ∧ (0 ≤ m.2.1 ∧ m.2.1 < (K : Int))
 | [],k,K,_,m,hm => by cases hm
 | a :: N,k,K,⟨k1,k2,h1,h2,h⟩,m,hm => by
  have l1 := h1.rng
  have l2 := h2.rng
  have l3 := h2.le
  have l4 := AC.le h
  rcases List.mem_cons.mp hm with rfl | hm
  ·exact ⟨⟨l1.1,by omega⟩,⟨l2.1,by omega⟩⟩
  ·exact AC.rng h m hm
def spNetBy81 (K : PySem.W.Frag) : Sp := fun vs H Q _ => ∃ (day : Int) (a : Addr) (ns : List Int),vs = [.int day,.ref a] ∧ SqL K H a (ns.map V.int) ∧ ns.length ≤ 63 ∧ 1 ≤ day ∧ day ≤ 1000000000000000 ∧
 ∀ (l : Addr) (N : List RdT) (H' : Hp) (k : Nat),Same H H' → NA H' l N → N.length ≤ 16 → k ≤ 4 → AC 0 N k → (∀ m ∈ N,WinsR day m.2.2.2 ∧ m.2.2.2.length ≤ 16) → Q (.ref l) H'
def spWinA : Sp := fun vs H Q _ => ∃ (day : Int) (r : Addr) (x : T3),vs = [.int day,.ref r] ∧ H r = some (.tup (enc3 x)) ∧ 0 ≤ x.1 ∧ x.1 ≤ x.2.1 ∧ x.2.1 < day ∧ 0 ≤ x.2.2 ∧ Q (.bl true) H
def spFormed : Sp := fun vs H Q _ => ∃ (day d : Int) (r pn pr : Addr) (names : List Str) (M : List RdT),vs = [.int day,.ref r] ∧ H r = some (.tup [.int d,.ref pn,.ref pr]) ∧ H pn = some (.lst (names.map V.str)) ∧ NA H pr M ∧ (∀ m ∈ M,WinsR day m.2.2.2) ∧ Q (.bl true) H
section
variable {P : Program} {w : World} {K : PySem.W.Frag} {mg : Str → Option Value} {base : Heap} {f : Addr} {fd : FuncData} {n : Nat}
theorem ok_whole (F : Fun K "_law_whole" "_law_whole" st__law_whole f fd) (B : Bl mg) : FnOk P w K mg base CX0 (n + 1) f fd ["thing"] spIsWhole := by
 refine F.okQ sc__law_whole (fun vs H Q E h => ?_) (fun cdv A outer s H vs Q E hr h => ?_)
 ·obtain ⟨_,rfl,_⟩ := h
  rfl
 obtain ⟨x,rfl,dv,q⟩ := h
 refine ⟨_,(qss_one (qs_ret (qe_and (qe_cb qcall_isi rfl B.isinstance bt_isinstance (qa_c (qv 0) (qa_c (qe_bltn (v := .ty "int") rfl B.int_ bt_int rfl) qa_nil))) (qe_one (qe_not (qe_cb qcall_isi rfl B.isinstance bt_isinstance (qa_c (qv 0) (qa_c (qe_bltn (v := .ty "bool") rfl B.bool_ bt_bool rfl) qa_nil)))))))),?_⟩
 try dsimp only [cx_k,cx_kn,as_nil,as_name,Nat.reduceAdd]
 cases dv with
 | non => exact ⟨_,rfl,_,"int",_,_,rfl,.non,rfl,_,rfl,iteF q⟩
 | bl b => exact ⟨_,rfl,_,"int",_,_,rfl,.bl _,rfl,_,rfl,iteT ⟨_,rfl,_,"bool",_,_,rfl,.bl _,rfl,_,rfl,q⟩⟩
 | int i => exact ⟨_,rfl,_,"int",_,_,rfl,.int _,rfl,_,rfl,iteT ⟨_,rfl,_,"bool",_,_,rfl,.int _,rfl,_,rfl,q⟩⟩
 | str z => exact ⟨_,rfl,_,"int",_,_,rfl,.str _,rfl,_,rfl,iteF q⟩
 | lst e => exact ⟨_,rfl,_,"int",_,_,rfl,.lst e,rfl,_,rfl,iteF q⟩
 | tup e => exact ⟨_,rfl,_,"int",_,_,rfl,.tup e,rfl,_,rfl,iteF q⟩
theorem ok_winA (F : Fun K "_law_is_window" "_law_is_window" st__law_is_window f fd) (B : Bl mg) (C_law_whole : Callee P w K mg base n "_law_whole" ["thing"] spIsWhole) : FnOk P w K mg base CX0 (n + 1) f fd ["day","thing"] spWinA := by
 refine F.okQ sc__law_is_window (fun vs H Q E h => ?_) (fun cdv A outer s H vs Q E hr h => ?_)
 ·obtain ⟨_,_,_,rfl,_⟩ := h
  rfl
 obtain ⟨day,r,x,rfl,er,x0,x1,x2,x3,q⟩ := h
 refine ⟨_,(qss_cons (qs_if (qt_cut (QW.pt (qw_or (qt_not (qt_val (qe_cb qcall_isi rfl B.isinstance bt_isinstance (qa_c (qv 1) (qa_c (qe_bltn (v := .ty "tuple") rfl B.tuple_ bt_tuple rfl) qa_nil))))) (qw_or1 (qt_cmpR qop_ne (qe_cb qcall_len rfl B.len bt_len (qa_c (qv 1) qa_nil)) qe_int (nomark _)))))) (qss_one (qs_ret qe_bl)) qss_nil) (qss_cons (qs_for PassesOwn.never rfl (qi_tup (qv 1)) (qg_name (i := 2) sc__law_is_window.nd rfl (Or.inl rfl)) (qss_one (qs_if (qt_not (qt_val (qe_fn C_law_whole hr rfl (qa_c (qv 2) qa_nil)))) (qss_one (qs_ret qe_bl)) qss_nil))) (qss_one (qs_ret (qe_and (qe_cmpR qop_le qe_int (qe_ix qix_tup (qv 1) qe_int (fun _ _ => rfl)) (nomark _)) (qe_and (qe_cmpR qop_le (qe_ix qix_tup (qv 1) qe_int (fun _ _ => rfl)) (qe_ix qix_tup (qv 1) qe_int (fun _ _ => rfl)) (nomark _)) (qe_and (qe_cmpR qop_lt (qe_ix qix_tup (qv 1) qe_int (fun _ _ => rfl)) (qv 0) (nomark _)) (qe_one (qe_cmpR qop_ge (qe_ix qix_tup (qv 1) qe_int (fun _ _ => rfl)) qe_int (nomark _)))))))))),?_⟩
 try dsimp only [cx_k,cx_kn,as_nil,as_name,Nat.reduceAdd]
 refine ⟨fun b H' => b = false ∧ H' = H,?_,?_⟩
 ·exact ⟨_,rfl,_,"tuple",_,_,rfl,.tup er,rfl,_,rfl,iteF ⟨_,rfl,r,_,rfl,.inr (SqT.of er),rfl,_,rfl,by simp [enc3],rfl⟩⟩
 rintro b H ⟨rfl,rfl⟩
 refine iteF ?_
 refine ⟨_,rfl,r,rfl,⟨_,SqT.of er⟩,for_tup (K := K) (a := r) (xs := enc3 x) (fun i σ H' => H' = H ∧ ∃ v : Option V,σ = [some (.int day),some (.ref r),v]) ⟨rfl,_,rfl⟩ (fun i σ H' _ h => by rw [h.1]; exact SqT.of er) ?_ ?_⟩
 ·rintro i y σ H' hi ⟨rfl,v,rfl⟩
  obtain ⟨z,rfl⟩ : ∃ z : Int,y = .int z := by
   match i,hi with
   | 0,hi => exact ⟨x.1,by simpa [enc3] using hi.symm⟩
   | 1,hi => exact ⟨x.2.1,by simpa [enc3] using hi.symm⟩
   | 2,hi => exact ⟨x.2.2,by simpa [enc3] using hi.symm⟩
   | k + 3,hi => simp [enc3] at hi
  exact ⟨_,rfl,_,rfl,.int z,_,rfl,iteF ⟨rfl,_,rfl⟩⟩
 ·rintro σ H' ⟨rfl,v,rfl⟩
  refine ⟨_,rfl,r,_,_,_,rfl,rfl,SqT.of er,rfl,_,_,rfl,rfl,_,rfl,iteP (decide_eq_true x0) ?_⟩
  refine ⟨_,rfl,r,_,_,_,rfl,rfl,SqT.of er,rfl,_,rfl,r,_,_,_,rfl,rfl,SqT.of er,rfl,_,_,rfl,rfl,_,rfl,iteP (decide_eq_true x1) ?_⟩
  refine ⟨_,rfl,r,_,_,_,rfl,rfl,SqT.of er,rfl,_,rfl,_,_,rfl,rfl,_,rfl,iteP (decide_eq_true x2) ?_⟩
  refine ⟨_,rfl,r,_,_,_,rfl,rfl,SqT.of er,rfl,_,_,rfl,rfl,?_⟩
  have z : ∀ b : Bool,b = true → Q (.bl b) H' := fun b e => by rw [e]; exact q
  exact z _ (decide_eq_true x3)
theorem ok_roads80 (F : Fun K "_law_roads" "_law_roads" st__law_roads f fd) (C_law_cell : Callee P w K mg base n "_law_cell" ["script","k"] (spCell K)) (C_law_net : Callee P w K mg base n "_law_net" ["day","size","goal","cells"] (spNet K)) : FnOk P w K mg base CX0 (n + 1) f fd ["day","size","goal","script"] (spRoads K) := by
 refine F.okQ sc__law_roads (fun vs H Q E h => ?_) (fun cdv A outer s H vs Q E hr h => ?_)
 ·obtain ⟨_,_,_,_,_,rfl,_⟩ := h
  rfl
 obtain ⟨day,size,goal,a,ns,rfl,hS,h63,d1,d2,z1,q⟩ := h
 refine ⟨_,(qss_cons (qs_set (i := 4) sc__law_roads.nd rfl (Or.inl rfl) (qe_fn C_law_cell hr rfl (qa_c (qv 3) (qa_c qe_int qa_nil)))) (qss_cons (qs_set (i := 5) sc__law_roads.nd rfl (Or.inl rfl) (qe_ix qix_list (qe_lst (qa_c qe_int (qa_c qe_int (qa_c (qe_op qop_mod (qe_op qop_fdivB (qv 4) qe_int) qe_int) (qa_c (qe_op qop_mul qe_int (qe_op qop_mod (qe_op qop_fdivB (qv 4) qe_int) qe_int)) qa_nil))))) (qe_op qop_mod (qv 4) qe_int) (fun _ _ => rfl))) (qss_one (qs_ret (qe_fn C_law_net hr rfl (qa_c (qv 0) (qa_c (qv 1) (qa_c (qv 2) (qa_c (qe_slL (qv 3) (qo_some qe_int) (qo_some (qe_op qop_add qe_int (qv 5)))) qa_nil))))))))),?_⟩
 try dsimp only [cx_k,cx_kn,as_nil,as_name,Nat.reduceAdd]
 refine ⟨_,rfl,a,ns,3,rfl,hS,by decide,fun c => ?_⟩
 refine ⟨_,rfl,_,_,rfl,rfl,⟨by decide,by decide⟩,_,_,rfl,rfl,(by show (0 : Int) < 25; decide),_,rfl,_,_,rfl,rfl,⟨by decide,by decide⟩,_,_,rfl,rfl,(by show (0 : Int) < 3; decide),_,_,rfl,rfl,.inl ⟨by decide,by decide⟩,(by show 4 ≤ sizeLine; decide),fun p1 hp1 => ?_⟩
 generalize hgH1 : upd _ p1 _ = H1
 obtain ⟨s1,e1⟩ := fresh_of hp1 hgH1
 clear hgH1
 have em := emod_b c (show (0 : Int) < 4 by decide)
 obtain ⟨v,hv,vv⟩ := menu4 (a := 24) (b := 24) (c := c / 4 % 25) (e := 4 * (c / 4 % 3)) em.1 em.2
 refine ⟨_,rfl,_,_,rfl,rfl,(by show (0 : Int) < 4; decide),p1,_,_,.int v,rfl,rfl,SqL.of e1,hv,?_⟩
 refine ⟨_,rfl,_,rfl,_,rfl,_,rfl,_,rfl,_,rfl,_,_,rfl,rfl,_,rfl,a,_,rfl,s1.seq hS,fun p2 hp2 => ?_⟩
 obtain ⟨ms,hms,hml⟩ := cut_ints (ns := ns) (some 4) (some (4 + v))
 rw [hms]
 generalize hgH2 : upd _ p2 _ = H2
 obtain ⟨s2,e2⟩ := fresh_of hp2 hgH2
 clear hgH2
 exact ⟨day,size,goal,p2,ms,rfl,SqL.of e2,by omega,d1,d2,z1,fun l N H3 s3 _ hN _ hIn hl => q l N H3 ((s1.trans s2).trans s3) hN hIn hl⟩
theorem ok_netby81 (F : Fun K "_law_net_by" "_law_net_by" st__law_net_by f fd) (C_law_cell : Callee P w K mg base n "_law_cell" ["script","k"] (spCell K)) (C_law_size : Callee P w K mg base n "_law_size" ["cell"] spSize) (C_law_roads : Callee P w K mg base n "_law_roads" ["day","size","goal","script"] (spRoads K)) (C_law_as_they_come : Callee P w K mg base n "_law_as_they_come" ["roads"] spCome81) : FnOk P w K mg base CX0 (n + 1) f fd ["day","script"] (spNetBy81 K) := by
 refine F.okQ sc__law_net_by (fun vs H Q E h => ?_) (fun cdv A outer s H vs Q E hr h => ?_)
 ·obtain ⟨_,_,_,rfl,_⟩ := h
  rfl
 obtain ⟨day,a,ns,rfl,hS,h63,d1,d2,q⟩ := h
 refine ⟨_,(qss_cons (qs_set (i := 2) sc__law_net_by.nd rfl (Or.inl rfl) (qe_fn C_law_size hr rfl (qa_c (qe_fn C_law_cell hr rfl (qa_c (qv 1) (qa_c qe_int qa_nil))) qa_nil))) (qss_cons (qs_set (i := 3) sc__law_net_by.nd rfl (Or.inl rfl) (qe_fn C_law_roads hr rfl (qa_c (qv 0) (qa_c (qv 2) (qa_c (qe_op qop_mod (qe_op qop_fdivB (qe_fn C_law_cell hr rfl (qa_c (qv 1) (qa_c qe_int qa_nil))) qe_int) (qv 2)) (qa_c (qv 1) qa_nil)))))) (qss_one (qs_ret (qe_fn C_law_as_they_come hr rfl (qa_c (qv 3) qa_nil)))))),?_⟩
 try dsimp only [cx_k,cx_kn,as_nil,as_name,Nat.reduceAdd]
 refine ⟨_,rfl,a,ns,1,rfl,hS,by decide,fun c => ⟨c,rfl,fun sz H1 z1 z2 s1 => ?_⟩⟩
 refine ⟨_,rfl,_,rfl,_,rfl,a,ns,1,rfl,s1.seq hS,by decide,fun c1 => ⟨_,_,rfl,rfl,⟨by decide,by decide⟩,_,rfl,_,_,rfl,rfl,(by show 0 < sz; omega),_,rfl,day,sz,_,a,ns,rfl,s1.seq hS,h63,d1,d2,z1,fun pr N H2 s2 hN hIn hl => ?_⟩⟩
 refine ⟨_,rfl,pr,N,rfl,hN,by omega,fun m hm => ?_,fun l M H3 s3 hM eM => ?_⟩
 ·obtain ⟨i1,i2,_⟩ := hIn m hm
  exact ⟨⟨i1.1,by omega⟩,⟨i2.1,by omega⟩⟩
 ·have ml : M.length = N.length := by
   have := congrArg List.length eM
   rw [List.length_map,List.length_map] at this
   exact this
  have inn : ∀ x ∈ ordR N,0 ≤ x ∧ x < ((4 : Nat) : Int) := ordF_in (P := fun x => 0 ≤ x ∧ x < ((4 : Nat) : Int)) N [] (by simp) fun m hm => by
   obtain ⟨i1,i2,_⟩ := hIn m hm
   exact ⟨⟨i1.1,by omega⟩,⟨i2.1,by omega⟩⟩
  refine q l M H3 (ordR N).length ((s1.trans s2).trans s3) hM (by omega) (pig 4 _ (ordF_nd N [] List.nodup_nil) inn) (ac_of N M [] (ordR N) rfl eM) fun m hm => ?_
  have : strip m ∈ N.map (cmS (ordR N)) := by
   rw [← eM]
   exact List.mem_map.mpr ⟨m,hm,rfl⟩
  obtain ⟨m',hm',e⟩ := List.mem_map.mp this
  simp only [strip,cmS,Prod.mk.injEq] at e
  obtain ⟨_,_,i3,i4⟩ := hIn m' hm'
  rw [← e.2.2]
  exact ⟨fun w hw => i4 w hw,by omega⟩
theorem ok_formed (F : Fun K "_law_formed" "_law_formed" st__law_formed f fd) (B : Bl mg) (C_law_whole : Callee P w K mg base n "_law_whole" ["thing"] spIsWhole) (C_law_is_window : Callee P w K mg base n "_law_is_window" ["day","thing"] spWinA) : FnOk P w K mg base CX0 (n + 1) f fd ["day","found"] spFormed := by
 refine F.okQ sc__law_formed (fun vs H Q E h => ?_) (fun cdv A outer s H vs Q E hr h => ?_)
 ·obtain ⟨_,_,_,_,_,_,_,rfl,_⟩ := h
  rfl
 obtain ⟨day,d,r,pn,pr,names,M,rfl,er,en,hM,hW,q⟩ := h
 refine ⟨_,(qss_cons (qs_if (qt_cut (QW.pt (qw_or (qt_not (qt_val (qe_cb qcall_isi rfl B.isinstance bt_isinstance (qa_c (qv 1) (qa_c (qe_bltn (v := .ty "tuple") rfl B.tuple_ bt_tuple rfl) qa_nil))))) (qw_or (qt_cmpR qop_ne (qe_cb qcall_len rfl B.len bt_len (qa_c (qv 1) qa_nil)) qe_int (nomark _)) (qw_or1 (qt_not (qt_val (qe_fn C_law_whole hr rfl (qa_c (qe_ix qix_tup (qv 1) qe_int (fun _ _ => rfl)) qa_nil))))))))) (qss_one (qs_ret qe_bl)) qss_nil) (qss_cons (qs_if (qt_cut (QW.pt (qw_or (qt_not (qt_val (qe_cb qcall_isi rfl B.isinstance bt_isinstance (qa_c (qe_ix qix_tup (qv 1) qe_int (fun _ _ => rfl)) (qa_c (qe_bltn (v := .ty "list") rfl B.list_ bt_list rfl) qa_nil))))) (qw_or1 (qt_not (qt_val (qe_cb qcall_isi rfl B.isinstance bt_isinstance (qa_c (qe_ix qix_tup (qv 1) qe_int (fun _ _ => rfl)) (qa_c (qe_bltn (v := .ty "list") rfl B.list_ bt_list rfl) qa_nil))))))))) (qss_one (qs_ret qe_bl)) qss_nil) (qss_cons (qs_for PassesOwn.never rfl (qi_list (qe_ix qix_tup (qv 1) qe_int (fun _ _ => rfl))) (qg_name (i := 2) sc__law_formed.nd rfl (Or.inl rfl)) (qss_one (qs_if (qt_not (qt_val (qe_cb qcall_isi rfl B.isinstance bt_isinstance (qa_c (qv 2) (qa_c (qe_bltn (v := .ty "str") rfl B.str_ bt_str rfl) qa_nil))))) (qss_one (qs_ret qe_bl)) qss_nil))) (qss_cons (qs_for PassesOwn.never rfl (qi_list (qe_ix qix_tup (qv 1) qe_int (fun _ _ => rfl))) (qg_name (i := 3) sc__law_formed.nd rfl (Or.inl rfl)) (qss_cons (qs_if (qt_cut (QW.pt (qw_or (qt_not (qt_val (qe_cb qcall_isi rfl B.isinstance bt_isinstance (qa_c (qv 3) (qa_c (qe_bltn (v := .ty "tuple") rfl B.tuple_ bt_tuple rfl) qa_nil))))) (qw_or (qt_cmpR qop_ne (qe_cb qcall_len rfl B.len bt_len (qa_c (qv 3) qa_nil)) qe_int (nomark _)) (qw_or1 (qt_not (qt_val (qe_cb qcall_isi rfl B.isinstance bt_isinstance (qa_c (qe_ix qix_tup (qv 3) qe_int (fun _ _ => rfl)) (qa_c (qe_bltn (v := .ty "list") rfl B.list_ bt_list rfl) qa_nil)))))))))) (qss_one (qs_ret qe_bl)) qss_nil) (qss_cons (qs_if (qt_cut (QW.pt (qw_or (qt_not (qt_val (qe_fn C_law_whole hr rfl (qa_c (qe_ix qix_tup (qv 3) qe_int (fun _ _ => rfl)) qa_nil)))) (qw_or1 (qt_not (qt_val (qe_fn C_law_whole hr rfl (qa_c (qe_ix qix_tup (qv 3) qe_int (fun _ _ => rfl)) qa_nil)))))))) (qss_one (qs_ret qe_bl)) qss_nil) (qss_one (qs_for PassesOwn.never rfl (qi_list (qe_ix qix_tup (qv 3) qe_int (fun _ _ => rfl))) (qg_name (i := 4) sc__law_formed.nd rfl (Or.inl rfl)) (qss_one (qs_if (qt_not (qt_val (qe_fn C_law_is_window hr rfl (qa_c (qv 0) (qa_c (qv 4) qa_nil))))) (qss_one (qs_ret qe_bl)) qss_nil))))))) (qss_one (qs_ret qe_bl)))))),?_⟩
 try dsimp only [cx_k,cx_kn,as_nil,as_name,Nat.reduceAdd]
 obtain ⟨vs,v1,v2,v3⟩ := hM.la.lst
 rw [List.length_map] at v2
 refine ⟨fun b H' => b = false ∧ H' = H,?_,?_⟩
 ·refine ⟨_,rfl,_,"tuple",_,_,rfl,.tup er,rfl,_,rfl,iteF ?_⟩
  refine ⟨_,rfl,r,_,rfl,.inr (SqT.of er),rfl,_,rfl,iteN (by simp) ?_⟩
  exact ⟨_,rfl,r,_,_,_,rfl,rfl,SqT.of er,rfl,_,rfl,.int _,_,rfl,rfl,rfl⟩
 rintro b H' ⟨rfl,rfl⟩
 refine iteF ?_
 refine ⟨fun b H2 => b = false ∧ H2 = H',?_,?_⟩
 ·refine ⟨_,rfl,r,_,_,_,rfl,rfl,SqT.of er,rfl,_,"list",_,_,rfl,.lst en,rfl,_,rfl,iteF ?_⟩
  exact ⟨_,rfl,r,_,_,_,rfl,rfl,SqT.of er,rfl,_,"list",_,_,rfl,.lst v1,rfl,_,rfl,rfl,rfl⟩
 rintro b H2 ⟨rfl,rfl⟩
 refine iteF ?_
 refine ⟨_,rfl,r,_,_,_,rfl,rfl,SqT.of er,rfl,pn,rfl,⟨_,SqL.of en⟩,for_list (K := K) (a := pn) (xs := names.map V.str) (fun i σ H'' => H'' = H2 ∧ ∃ v : Option V,σ = [some (.int day),some (.ref r),v,none,none]) ⟨rfl,_,rfl⟩ (fun i σ H'' _ h => by rw [h.1]; exact SqL.of en) ?_ ?_⟩
 ·rintro i y σ H'' hi ⟨rfl,v,rfl⟩
  rw [List.getElem?_map] at hi
  obtain ⟨z,_,rfl⟩ := Option.map_eq_some_iff.mp hi
  exact ⟨_,rfl,_,"str",_,_,rfl,.str _,rfl,_,rfl,iteF ⟨rfl,_,rfl⟩⟩
 rintro σ H'' ⟨rfl,v,rfl⟩
 refine ⟨_,rfl,r,_,_,_,rfl,rfl,SqT.of er,rfl,pr,rfl,⟨_,SqL.of v1⟩,for_list (K := K) (a := pr) (xs := vs) (fun i σ H3 => H3 = H'' ∧ ∃ v' w' : Option V,σ = [some (.int day),some (.ref r),v,v',w']) ⟨rfl,_,_,rfl⟩ (fun i σ H3 _ h => by rw [h.1]; exact SqL.of v1) ?_ ?_⟩
 ·rintro i y σ H3 hi ⟨rfl,v',w',rfl⟩
  obtain ⟨rr,x,rfl,ex,er3⟩ := v3 i y hi
  obtain ⟨m,hm,rfl⟩ := List.mem_map.mp (List.mem_of_getElem? ex)
  have er3 : H3 rr = some (.tup [.int m.1,.int m.2.1,.ref m.2.2.1]) := er3
  obtain ⟨bs,b1,b2,b3⟩ := (hM.bd m hm).1.lst
  refine ⟨fun b H2 => b = false ∧ H2 = H3,?_,?_⟩
  ·refine ⟨_,rfl,_,"tuple",_,_,rfl,.tup er3,rfl,_,rfl,iteF ?_⟩
   refine ⟨_,rfl,rr,_,rfl,.inr (SqT.of er3),rfl,_,rfl,iteN (by simp) ?_⟩
   exact ⟨_,rfl,rr,_,_,_,rfl,rfl,SqT.of er3,rfl,_,"list",_,_,rfl,.lst b1,rfl,_,rfl,rfl,rfl⟩
  rintro b H4 ⟨rfl,rfl⟩
  refine iteF ?_
  refine ⟨fun b H2 => b = false ∧ H2 = H4,?_,?_⟩
  ·refine ⟨_,rfl,rr,_,_,_,rfl,rfl,SqT.of er3,rfl,_,rfl,.int _,_,rfl,iteF ?_⟩
   exact ⟨_,rfl,rr,_,_,_,rfl,rfl,SqT.of er3,rfl,_,rfl,.int _,_,rfl,rfl,rfl⟩
  rintro b H5 ⟨rfl,rfl⟩
  refine iteF ?_
  refine ⟨_,rfl,rr,_,_,_,rfl,rfl,SqT.of er3,rfl,m.2.2.1,rfl,⟨_,SqL.of b1⟩,for_list (K := K) (a := m.2.2.1) (xs := bs) (fun i σ H3 => H3 = H5 ∧ ∃ w' : Option V,σ = [some (.int day),some (.ref r),v,some (.ref rr),w']) ⟨rfl,_,rfl⟩ (fun i σ H3 _ h => by rw [h.1]; exact SqL.of b1) ?_ ?_⟩
  ·rintro j y σ H6 hj ⟨rfl,w'',rfl⟩
   obtain ⟨rw',x,rfl,ex',erw⟩ := b3 j y hj
   obtain ⟨x0,x1,x2,x3,x4⟩ := hW m hm x (List.mem_of_getElem? ex')
   exact ⟨_,rfl,_,rfl,day,rw',x,rfl,erw,x0,x1,x2,by omega,_,rfl,iteF ⟨rfl,_,rfl⟩⟩
  ·rintro σ H6 ⟨rfl,w'',rfl⟩
   exact ⟨rfl,_,_,rfl⟩
 ·rintro σ H3 ⟨rfl,v',w',rfl⟩
  exact q
end
def dat81 (day : Int) (names : List Str) (S : List (Int × Int × List T3)) : PyData := .tuple [.int day,.list (names.map PyData.str),.list (S.map datS)]
theorem sh81 {day : Int} {names : List Str} {S : List (Int × Int × List T3)} (h : ∀ x ∈ names,PyData.strOk x = true) : SeqAt.shaped (dat81 day names S) = true ∧ (dat81 day names S).eqv (dat81 day names S) = true := by
 have h1 : PyData.canLayAll0 (names.map PyData.str) = true := by
  induction names with
  | nil => simp [PyData.canLayAll0]
  | cons x xs ih =>
   have hx := h x (List.mem_cons_self ..)
   have hr := ih fun y hy => h y (List.mem_cons_of_mem _ hy)
   simp [PyData.canLayAll0,PyData.canLay0,hx,hr]
 have h2 : PyData.depthAll (names.map PyData.str) = 0 := by
  clear h h1
  induction names with
  | nil => simp [PyData.depthAll]
  | cons x xs ih => simp [PyData.depthAll,PyData.depth,ih]
 have c3 : ∀ x : Int × Int × List T3,PyData.canLay0 (datS x) = true := fun x => by
  have := canB x.2.2
  simp [datS,PyData.canLay0,PyData.canLayAll0,this]
 have h3 : PyData.canLayAll0 (S.map datS) = true := canLay_map c3 S
 have h4 : PyData.depthAll (S.map datS) ≤ 5 := depth_map (fun x => by
  have := depB x.2.2
  simp only [datS,PyData.depth,PyData.depthAll]
  omega) S
 have hc : PyData.canLay0 (dat81 day names S) = true := by
  simp [dat81,PyData.canLay0,PyData.canLayAll0,h1,h3]
 refine ⟨?_,SeqAt.eqv_refl _ hc⟩
 show (PyData.canLay0 (dat81 day names S) && decide (PyData.depth (dat81 day names S) ≤ 64)) = true
 rw [hc,Bool.true_and,decide_eq_true_iff]
 simp only [dat81,PyData.depth,PyData.depthAll,h2]
 omega
theorem rd81 {K : PySem.W.Frag} {H : Hp} {r pn pr : Addr} {day : Int} {names : List Str} {N : List RdT} (e : H r = some (.tup [.int day,.ref pn,.ref pr])) (en : H pn = some (.lst (names.map V.str))) (hN : NA H pr N) : RdV K H (.ref r) (dat81 day names (N.map strip)) := by
 refine .tup (SqT.of e) (.cons (.int _) (.cons (.lst (SqL.of en) (rd_strs names)) (.cons ?_ .nil)))
 rw [← datN_strip]
 exact hN.rd
section
variable {P : Program} {w : World} {K : PySem.W.Frag} {mg : Str → Option Value} {base : Heap} {f : Addr} {fd : FuncData} {n : Nat}
theorem ok_law (F : Fun K "law" "law" st_law f fd) (B : Bl mg) (C_law_cell : Callee P w K mg base n "_law_cell" ["script","k"] (spCell K)) (C_law_day : Callee P w K mg base n "_law_day" ["cell"] spDay) (C_law_net_by : Callee P w K mg base n "_law_net_by" ["day","script"] (spNetBy81 K)) (C_law_names : Callee P w K mg base n "_law_names" ["cell","many"] spNames81) (C_law_many : Callee P w K mg base n "_law_many" ["roads"] spMany81)
  (C_law_copy : Callee P w K mg base n "_law_copy" ["roads"] spCopy) (C_show_net : Callee P w K mg base n "show_net" ["day","names","roads"] spShowN) (C_law_text : Callee P w K mg base n "_law_text" ["day","names","roads"] spText) (C_read_net : Callee P w K mg base n "read_net" ["text"] spReadN) (C_law_formed : Callee P w K mg base n "_law_formed" ["day","found"] spFormed) : FnOk P w K mg base CX0 (n + 1) f fd ["script"] (spLaw K) := by
 refine F.okQ sc_law (fun vs H Q E h => ?_) (fun cdv A outer s H vs Q E hr h => ?_)
 ·obtain ⟨_,_,rfl,_⟩ := h
  rfl
 obtain ⟨a,ns,rfl,hS,h63,q⟩ := h
 refine ⟨_,(qss_cons (qs_set (i := 1) sc_law.nd rfl (Or.inl rfl) (qe_fn C_law_day hr rfl (qa_c (qe_fn C_law_cell hr rfl (qa_c (qv 0) (qa_c qe_int qa_nil))) qa_nil))) (qss_cons (qs_set (i := 2) sc_law.nd rfl (Or.inl rfl) (qe_fn C_law_net_by hr rfl (qa_c (qv 1) (qa_c (qv 0) qa_nil)))) (qss_cons (qs_set (i := 3) sc_law.nd rfl (Or.inl rfl) (qe_fn C_law_names hr rfl (qa_c (qe_fn C_law_cell hr rfl (qa_c (qv 0) (qa_c qe_int qa_nil))) (qa_c (qe_fn C_law_many hr rfl (qa_c (qv 2) qa_nil)) qa_nil)))) (qss_cons (qs_set (i := 4) sc_law.nd rfl (Or.inl rfl) (qe_fn C_law_text hr rfl (qa_c (qv 1) (qa_c (qv 3) (qa_c (qv 2) qa_nil))))) (qss_cons (qs_set (i := 5) sc_law.nd rfl (Or.inl rfl) (qe_fn C_read_net hr rfl (qa_c (qv 4) qa_nil))) (qss_cons (qs_if (qt_cut (QW.pt (qw_or (qt_not (qt_val (qe_fn C_law_formed hr rfl (qa_c (qv 1) (qa_c (qv 5) qa_nil))))) (qw_or1 (qt_cmpR (qop_neD hr.units) (qv 5) (qe_tup (qa_c (qv 1) (qa_c (qv 3) (qa_c (qv 2) qa_nil)))) (nomark _)))))) (qss_one (qs_ret qe_bl)) qss_nil) (qss_cons (qs_if (qt_cmpR qop_ne (qe_fn C_show_net hr rfl (qa_c (qv 1) (qa_c (qe_ct qcall_list rfl B.list_ bt_list (qa_c (qv 3) qa_nil)) (qa_c (qe_fn C_law_copy hr rfl (qa_c (qv 2) qa_nil)) qa_nil)))) (qv 4) (nomark _)) (qss_one (qs_ret qe_bl)) qss_nil) (qss_cons (qs_expr (qe_append (qe_ix qix_tup (qv 5) qe_int (fun _ _ => rfl)) (qa_c qe_str qa_nil))) (qss_cons (qs_for PassesOwn.never rfl (qi_list (qe_ix qix_tup (qv 5) qe_int (fun _ _ => rfl))) (qg_name (i := 6) sc_law.nd rfl (Or.inl rfl)) (qss_one (qs_expr (qe_append (qe_ix qix_tup (qv 6) qe_int (fun _ _ => rfl)) (qa_c (qe_tup (qa_c qe_int (qa_c qe_int (qa_c qe_int qa_nil)))) qa_nil))))) (qss_cons (qs_expr (qe_append (qe_ix qix_tup (qv 5) qe_int (fun _ _ => rfl)) (qa_c (qe_tup (qa_c qe_int (qa_c qe_int (qa_c (qe_lst qa_nil) qa_nil)))) qa_nil))) (qss_one (qs_ret (qe_cmpR (qop_eqD hr.units) (qe_fn C_read_net hr rfl (qa_c (qv 4) qa_nil)) (qe_tup (qa_c (qv 1) (qa_c (qv 3) (qa_c (qv 2) qa_nil)))) (nomark _)))))))))))))),?_⟩
 try dsimp only [cx_k,cx_kn,as_nil,as_name,Nat.reduceAdd]
 refine ⟨_,rfl,a,ns,0,rfl,hS,by decide,fun c0 => ⟨c0,rfl,fun d H1 d1 d2 s1 => ?_⟩⟩
 refine ⟨_,rfl,_,rfl,d,a,ns,rfl,s1.seq hS,h63,d1,d2,fun pr N H2 k s2 hN hl k4 ac hall => ?_⟩
 have s02 := s1.trans s2
 refine ⟨_,rfl,a,ns,2,rfl,s02.seq hS,by decide,fun c2 => ⟨_,rfl,pr,N,k,rfl,hN,ac,⟨c2,k,rfl,by omega,by omega,fun pn xs H3 s3 e3 xl xall xnd => ?_⟩⟩⟩
 have xk : xs.length = k := by omega
 have hN3 := hN.same s3
 have dS : Sm d := ⟨by omega,by omega⟩
 have rng := ac.rng
 have smw : ∀ m ∈ N,SmW m.2.2.2 := fun m hm x hx => by
  obtain ⟨x0,x1,x2,x3,x4⟩ := (hall m hm).1 x hx
  exact ⟨⟨x0,by omega⟩,⟨by omega,by omega⟩,⟨by omega,by omega⟩⟩
 have okN : NetOk xs N := ⟨by omega,fun x hx => by have := (xall x hx).l8; omega,fun m hm => by
  obtain ⟨⟨a1,a2⟩,a3,a4⟩ := rng m hm
  exact ⟨a1,by omega,a3,by omega,smw m hm,by have := (hall m hm).2; omega⟩⟩
 have ntr : NtR d xs N := ⟨d1,d2,xall,xnd,by omega,by rw [xk]; exact ac,by omega,fun m hm => by
  obtain ⟨⟨a1,a2⟩,a3,a4⟩ := rng m hm
  exact ⟨⟨a1,by omega,a3,by omega⟩,(hall m hm).1,by have := (hall m hm).2; omega⟩⟩
 have xok : ∀ x ∈ xs,PyData.strOk x = true := fun x hx => okS.ok fun c hc => by
  have := (xall x hx).all c hc
  omega
 refine ⟨_,rfl,_,rfl,_,rfl,d,pn,pr,xs,N,rfl,dS,e3,hN3,okN,?_⟩
 refine ⟨_,rfl,d,xs,N,rfl,ntr,fun r qn qr M H4 s4 er en fn hM fr fM nqr bM eM => ?_⟩
 have hW : ∀ m ∈ M,WinsR d m.2.2.2 ∧ m.2.2.2.length ≤ 16 := fun m hm => by
  have : strip m ∈ N.map strip := by
   rw [← eM]
   exact List.mem_map.mpr ⟨m,hm,rfl⟩
  obtain ⟨m',hm',e⟩ := List.mem_map.mp this
  simp only [strip,Prod.mk.injEq] at e
  rw [← e.2.2]
  exact hall m' hm'
 obtain ⟨shp,eqv⟩ := sh81 (day := d) (S := N.map strip) xok
 refine ⟨fun b H' => b = false ∧ Same H4 H',?_,?_⟩
 ·refine ⟨_,rfl,_,rfl,d,d,r,qn,qr,xs,M,rfl,er,en,hM,fun m hm => (hW m hm).1,_,rfl,iteF ?_⟩
  refine ⟨_,rfl,_,rfl,_,rfl,_,rfl,(by show 3 ≤ sizeLine; decide),fun r5 hr5 => ?_⟩
  generalize hgH5 : upd _ r5 _ = H5
  obtain ⟨s5,e5⟩ := fresh_of hr5 hgH5
  clear hgH5
  refine ⟨_,_,rd81 (s5 _ _ er) (s5 _ _ en) (hM.same s5),rd81 e5 (s5 _ _ (s4 _ _ e3)) ((hN3.same s4).same s5),by rw [eM]; exact shp,shp,_,rfl,?_,s5⟩
  rw [eM,eqv]
  rfl
 rintro b H5 ⟨rfl,s5⟩
 refine iteF ?_
 have s35 := s4.trans s5
 refine ⟨_,rfl,_,rfl,pn,_,rfl,.inl (SqL.of (s35 _ _ e3)),fun pk hpk => ?_⟩
 generalize hgH6 : upd _ pk _ = H6
 obtain ⟨s6,e6⟩ := fresh_of hpk hgH6
 clear hgH6
 have s36 := s35.trans s6
 refine ⟨_,rfl,pr,N,rfl,hN3.same s36,by omega,fun ph M2 H7 s7 hM2 eM2 => ?_⟩
 have okM2 : NetOk xs M2 := ⟨by
   have := congrArg List.length eM2
   rw [List.length_map,List.length_map] at this
   omega,okN.nm,fun m hm => by
  have : strip m ∈ N.map strip := by
   rw [← eM2]
   exact List.mem_map.mpr ⟨m,hm,rfl⟩
  obtain ⟨m',hm',e⟩ := List.mem_map.mp this
  have h := okN.rd m' hm'
  simp only [strip,Prod.mk.injEq] at e
  rw [e.1,e.2.1,e.2.2] at h
  exact h⟩
 refine ⟨d,pk,ph,xs,M2,rfl,dS,s7 _ _ e6,hM2,okM2,fun H8 s8 => ?_⟩
 rw [netT_strip eM2]
 refine ⟨_,rfl,rfl,_,rfl,iteN (by simp) ?_⟩
 have s58 := s6.trans (s7.trans s8)
 have s48 := s5.trans s58
 have s38 := s4.trans s48
 have er8 := s48 _ _ er
 have en8 := s48 _ _ en
 have hM8 := hM.same s48
 obtain ⟨vs,v1,v2,v3⟩ := hM8.la.lst
 rw [List.length_map] at v2
 have lM : M.length = N.length := by
  have := congrArg List.length eM
  rw [List.length_map,List.length_map] at this
  exact this
 refine ⟨_,rfl,r,_,_,_,rfl,rfl,SqT.of er8,rfl,.inl ⟨rfl,_,SqL.of en8⟩,qn,_,_,rfl,rfl,en8,line_of (by rw [List.length_map]; omega),?_⟩
 have s9 : Same H3 (upd H8 qn (.lst (xs.map V.str ++ [.str "other"]))) := same_wr fn s38
 have er9 : upd H8 qn (.lst (xs.map V.str ++ [.str "other"])) r = some (.tup [.int d,.ref qn,.ref qr]) := by
  rw [upd_ne (fun z => by rw [z,en8] at er8; cases er8)]
  exact er8
 have v19 : upd H8 qn (.lst (xs.map V.str ++ [.str "other"])) qr = some (.lst vs) := by
  rw [upd_ne nqr.symm]
  exact v1
 have tp9 : ∀ (x : Addr) o,H8 x = some (.tup o) → upd H8 qn (.lst (xs.map V.str ++ [.str "other"])) x = some (.tup o) := fun x o e => by
  rw [upd_ne (fun z => by rw [z,en8] at e; cases e)]
  exact e
 have bd9 : ∀ m ∈ M,∃ ys,upd H8 qn (.lst (xs.map V.str ++ [.str "other"])) m.2.2.1 = some (.lst ys) ∧ ys.length ≤ 100 := fun m hm => by
  obtain ⟨ys,y1,y2,_⟩ := (hM8.bd m hm).1.lst
  refine ⟨ys,?_,by have := (hW m hm).2; omega⟩
  rw [upd_ne (bM m hm)]
  exact y1
 generalize upd H8 qn (.lst (xs.map V.str ++ [.str "other"])) = H9 at *
 refine ⟨_,rfl,r,_,_,_,rfl,rfl,SqT.of er9,rfl,qr,rfl,⟨_,SqL.of v19⟩,for_list (K := K) (a := qr) (xs := vs) (fun i σ H' => ∃ v6 : Option V,σ = [some (.ref a),some (.int d),some (.ref pr),some (.ref pn),some (.str (netT d xs N)),some (.ref r),v6] ∧ Same H3 H' ∧ H' qr = some (.lst vs) ∧ (∀ (x : Addr) o,H8 x = some (.tup o) → H' x = some (.tup o)) ∧ ∀ m ∈ M,∃ ys,H' m.2.2.1 = some (.lst ys) ∧ ys.length ≤ 100 + i)
  ⟨_,rfl,s9,v19,tp9,bd9⟩ (fun i σ H' _ h => ?_) ?_ ?_⟩
 ·obtain ⟨_,_,_,h,_⟩ := h
  exact SqL.of h
 ·rintro i y σ H' hi ⟨v6,rfl,sI,vI,tI,bI⟩
  obtain ⟨rr,x,rfl,ex,er3⟩ := v3 i y hi
  obtain ⟨m,hm,rfl⟩ := List.mem_map.mp (List.mem_of_getElem? ex)
  have er3 : H8 rr = some (.tup [.int m.1,.int m.2.1,.ref m.2.2.1]) := er3
  have li := (List.getElem?_eq_some_iff.mp hi).1
  obtain ⟨ys,y1,y2⟩ := bI m hm
  refine ⟨_,rfl,rr,_,_,_,rfl,rfl,SqT.of (tI _ _ er3),rfl,.inl ⟨rfl,_,SqL.of y1⟩,(by show 3 ≤ sizeLine; decide),fun rt hrt => ?_⟩
  generalize hgH10 : upd _ rt _ = H10
  obtain ⟨s10,e10⟩ := fresh_of hrt hgH10
  clear hgH10
  refine ⟨m.2.2.1,ys,_,rfl,rfl,s10 _ _ y1,line_of (by omega),?_⟩
  have nbr := (hM8.bd m hm).2
  refine ⟨_,rfl,same_wr (fM m hm) (sI.trans s10),?_,fun z o e => ?_,fun m' hm' => ?_⟩
  ·rw [upd_ne nbr.symm]
   exact s10 _ _ vI
  ·have := s10 _ _ (tI z o e)
   rw [upd_ne (fun w => by rw [w,s10 _ _ y1] at this; cases this)]
   exact this
  ·by_cases c : m'.2.2.1 = m.2.2.1
   ·rw [c]
    exact ⟨_,upd_same,by rw [List.length_append,List.length_singleton]; omega⟩
   ·obtain ⟨zs,z1,z2⟩ := bI m' hm'
    exact ⟨zs,by rw [upd_ne c]; exact s10 _ _ z1,by omega⟩
 rintro σ H10 ⟨v6,rfl,s10,v10,t10,_⟩
 have er10 := t10 _ _ er8
 refine ⟨_,rfl,r,_,_,_,rfl,rfl,SqT.of er10,rfl,.inl ⟨rfl,_,SqL.of v10⟩,(by show 0 ≤ sizeLine; decide),fun pz hpz => ?_⟩
 generalize hgH11 : upd _ pz _ = H11
 obtain ⟨s11,e11⟩ := fresh_of hpz hgH11
 clear hgH11
 refine ⟨(by show 3 ≤ sizeLine; decide),fun rz hrz => ?_⟩
 generalize hgH12 : upd _ rz _ = H12
 obtain ⟨s12,e12⟩ := fresh_of hrz hgH12
 clear hgH12
 refine ⟨qr,vs,_,rfl,rfl,s12 _ _ (s11 _ _ v10),line_of (by omega),?_⟩
 have s13 : Same H3 (upd H12 qr (.lst (vs ++ [.ref rz]))) := same_wr fr (s10.trans (s11.trans s12))
 generalize upd H12 qr (.lst (vs ++ [.ref rz])) = H13 at *
 refine ⟨_,rfl,d,xs,N,rfl,ntr,fun r2 qn2 qr2 M3 H14 s14 er14 en14 _ hM3 _ _ _ _ eM3 => ?_⟩
 refine ⟨_,rfl,_,rfl,_,rfl,(by show 3 ≤ sizeLine; decide),fun r5 hr5 => ?_⟩
 generalize hgH15 : upd _ r5 _ = H15
 obtain ⟨s15,e15⟩ := fresh_of hr5 hgH15
 clear hgH15
 have s315 := s13.trans (s14.trans s15)
 refine ⟨_,_,rd81 (s15 _ _ er14) (s15 _ _ en14) (hM3.same s15),rd81 e15 (s315 _ _ e3) (hN3.same s315),by rw [eM3]; exact shp,shp,?_⟩
 rw [eM3,eqv]
 exact q _
end
theorem all_mk {l : PySem.W.OpenLaw} {w : World} {K : PySem.W.Frag} {h : Heap} {mg : Str → Option Value} {fa : Addr} (X : K.In h) (G : h.Ns mainGlobals mg) (hfa : mg "law" = some (.ref fa))
  {f0 f1 f2 f3 f4 f5 f6 f7 f8 f9 f10 f11 f12 f13 f14 f15 f16 f17 f18 f19 f20 f21 f22 f23 f24 f25 f26 f27 f28 f29 f30 : Addr} {od0 an0 od1 an1 od2 an2 od3 an3 od4 an4 od5 an5 od6 an6 od7 an7 od8 an8 od9 an9 od10 an10 od11 an11 od12 an12 od13 an13 od14 an14 od15 an15 od16 an16 od17 an17 od18 an18 od19 an19 od20 an20 od21 an21 od22 an22 od23 an23 od24 an24 od25 an25 od26 an26 od27 an27 od28 an28 od29 an29 od30 an30 : Option Addr} {sl0 sl1 sl2 sl3 sl4 sl5 sl6 sl7 sl8 sl9 sl10 sl11 sl12 sl13 sl14 sl15 sl16 sl17 sl18 sl19 sl20 sl21 sl22 sl23 sl24 sl25 sl26 sl27 sl28 sl29 sl30 : Array (Option Value)} {oc0 kV0 dc0 pm0 cd0 ct0 oc1 kV1 dc1 pm1 cd1 ct1 oc2 kV2 dc2 pm2 cd2 ct2 oc3 kV3 dc3 pm3 cd3 ct3 oc4 kV4 dc4 pm4 cd4 ct4 oc5 kV5 dc5 pm5 cd5 ct5 oc6 kV6 dc6 pm6 cd6 ct6 oc7 kV7 dc7 pm7 cd7 ct7 oc8 kV8 dc8 pm8 cd8 ct8 oc9 kV9 dc9 pm9 cd9 ct9 oc10 kV10 dc10 pm10 cd10 ct10 oc11 kV11 dc11 pm11 cd11 ct11 oc12 kV12 dc12 pm12 cd12 ct12 oc13 kV13 dc13 pm13 cd13 ct13 oc14 kV14 dc14 pm14 cd14 ct14 oc15 kV15 dc15 pm15 cd15 ct15 oc16 kV16 dc16 pm16 cd16 ct16 oc17 kV17 dc17 pm17 cd17 ct17 oc18 kV18 dc18 pm18 cd18 ct18 oc19 kV19 dc19 pm19 cd19 ct19 oc20 kV20 dc20 pm20 cd20 ct20 oc21 kV21 dc21 pm21 cd21 ct21 oc22 kV22 dc22 pm22 cd22 ct22 oc23 kV23 dc23 pm23 cd23 ct23 oc24 kV24 dc24 pm24 cd24 ct24 oc25 kV25 dc25 pm25 cd25 ct25 oc26 kV26 dc26 pm26 cd26 ct26 oc27 kV27 dc27 pm27 cd27 ct27 oc28 kV28 dc28 pm28 cd28 ct28 oc29 kV29 dc29 pm29 cd29 ct29 oc30 kV30 dc30 pm30 cd30 ct30 : Value} {tk1 tk2 tk3 tk4 : Tok}
  (a0 : PySem.W.nsIn K mainGlobals "is_whole" = some (some (.ref f0))) (l0 : K.lookup f0 = some ⟨oc0,od0,.func (PySem.W.fnOf "is_whole" "is_whole" (defArgs st_is_whole) (defBody st_is_whole) (defScope st_is_whole) .none kV0 dc0 pm0 an0 cd0 ct0),sl0⟩) (c0 : PySem.W.codeIn K cd0 "is_whole" = true) (k0 : PySem.W.keepIn K (.ref f0) = true)
  (a1 : PySem.W.nsIn K mainGlobals "is_window" = some (some (.ref f1))) (l1 : K.lookup f1 = some ⟨oc1,od1,.func (PySem.W.fnOf "is_window" "is_window" (defArgs st_is_window) (defBody st_is_window) (defScope st_is_window) .none kV1 dc1 pm1 an1 cd1 ct1),sl1⟩) (c1 : PySem.W.codeIn K cd1 "is_window" = true) (k1 : PySem.W.keepIn K (.ref f1) = true)
  (a2 : PySem.W.nsIn K mainGlobals "read_number" = some (some (.ref f2))) (l2 : K.lookup f2 = some ⟨oc2,od2,.func (PySem.W.fnOf "read_number" "read_number" (defArgs st_read_number) (defBody st_read_number) (defScope st_read_number) .none kV2 dc2 pm2 an2 cd2 ct2),sl2⟩) (c2 : PySem.W.codeIn K cd2 "read_number" = true) (k2 : PySem.W.keepIn K (.ref f2) = true)
  (a3 : PySem.W.nsIn K mainGlobals "is_name" = some (some (.ref f3))) (l3 : K.lookup f3 = some ⟨oc3,od3,.func (PySem.W.fnOf "is_name" "is_name" (defArgs st_is_name) (defBody st_is_name) (defScope st_is_name) .none kV3 dc3 pm3 an3 cd3 ct3),sl3⟩) (c3 : PySem.W.codeIn K cd3 "is_name" = true) (k3 : PySem.W.keepIn K (.ref f3) = true)
  (a4 : PySem.W.nsIn K mainGlobals "read_ends" = some (some (.ref f4))) (l4 : K.lookup f4 = some ⟨oc4,od4,.func (PySem.W.fnOf "read_ends" "read_ends" (defArgs st_read_ends) (defBody st_read_ends) (defScope st_read_ends) .none kV4 dc4 pm4 an4 cd4 ct4),sl4⟩) (c4 : PySem.W.codeIn K cd4 "read_ends" = true) (k4 : PySem.W.keepIn K (.ref f4) = true)
  (a5 : PySem.W.nsIn K mainGlobals "read_span" = some (some (.ref f5))) (l5 : K.lookup f5 = some ⟨oc5,od5,.func (PySem.W.fnOf "read_span" "read_span" (defArgs st_read_span) (defBody st_read_span) (defScope st_read_span) .none kV5 dc5 pm5 an5 cd5 ct5),sl5⟩) (c5 : PySem.W.codeIn K cd5 "read_span" = true) (k5 : PySem.W.keepIn K (.ref f5) = true)
  (a6 : PySem.W.nsIn K mainGlobals "read_window" = some (some (.ref f6))) (l6 : K.lookup f6 = some ⟨oc6,od6,.func (PySem.W.fnOf "read_window" "read_window" (defArgs st_read_window) (defBody st_read_window) (defScope st_read_window) .none kV6 dc6 pm6 an6 cd6 ct6),sl6⟩) (c6 : PySem.W.codeIn K cd6 "read_window" = true) (k6 : PySem.W.keepIn K (.ref f6) = true)
  (a7 : PySem.W.nsIn K mainGlobals "read_day" = some (some (.ref f7))) (l7 : K.lookup f7 = some ⟨oc7,od7,.func (PySem.W.fnOf "read_day" "read_day" (defArgs st_read_day) (defBody st_read_day) (defScope st_read_day) .none kV7 dc7 pm7 an7 cd7 ct7),sl7⟩) (c7 : PySem.W.codeIn K cd7 "read_day" = true) (k7 : PySem.W.keepIn K (.ref f7) = true)
  (a8 : PySem.W.nsIn K mainGlobals "read_board" = some (some (.ref f8))) (l8 : K.lookup f8 = some ⟨oc8,od8,.func (PySem.W.fnOf "read_board" "read_board" (defArgs st_read_board) (defBody st_read_board) (defScope st_read_board) .none kV8 dc8 pm8 an8 cd8 ct8),sl8⟩) (c8 : PySem.W.codeIn K cd8 "read_board" = true) (k8 : PySem.W.keepIn K (.ref f8) = true)
  (a9 : PySem.W.nsIn K mainGlobals "number_of" = some (some (.ref f9))) (l9 : K.lookup f9 = some ⟨oc9,od9,.func (PySem.W.fnOf "number_of" "number_of" (defArgs st_number_of) (defBody st_number_of) (defScope st_number_of) .none kV9 dc9 pm9 an9 cd9 ct9),sl9⟩) (c9 : PySem.W.codeIn K cd9 "number_of" = true) (k9 : PySem.W.keepIn K (.ref f9) = true)
  (a10 : PySem.W.nsIn K mainGlobals "read_net" = some (some (.ref f10))) (l10 : K.lookup f10 = some ⟨oc10,od10,.func (PySem.W.fnOf "read_net" "read_net" (defArgs st_read_net) (defBody st_read_net) (defScope st_read_net) .none kV10 dc10 pm10 an10 cd10 ct10),sl10⟩) (c10 : PySem.W.codeIn K cd10 "read_net" = true) (k10 : PySem.W.keepIn K (.ref f10) = true)
  (a11 : PySem.W.nsIn K mainGlobals "show_window" = some (some (.ref f11))) (l11 : K.lookup f11 = some ⟨oc11,od11,.func (PySem.W.fnOf "show_window" "show_window" (defArgs st_show_window) (defBody st_show_window) (defScope st_show_window) .none kV11 dc11 pm11 an11 cd11 ct11),sl11⟩) (c11 : PySem.W.codeIn K cd11 "show_window" = true) (k11 : PySem.W.keepIn K (.ref f11) = true)
  (a12 : PySem.W.nsIn K mainGlobals "show_board" = some (some (.ref f12))) (l12 : K.lookup f12 = some ⟨oc12,od12,.func (PySem.W.fnOf "show_board" "show_board" (defArgs st_show_board) (defBody st_show_board) (defScope st_show_board) .none kV12 dc12 pm12 an12 cd12 ct12),sl12⟩) (c12 : PySem.W.codeIn K cd12 "show_board" = true) (k12 : PySem.W.keepIn K (.ref f12) = true)
  (a13 : PySem.W.nsIn K mainGlobals "show_road" = some (some (.ref f13))) (l13 : K.lookup f13 = some ⟨oc13,od13,.func (PySem.W.fnOf "show_road" "show_road" (defArgs st_show_road) (defBody st_show_road) (defScope st_show_road) .none kV13 dc13 pm13 an13 cd13 ct13),sl13⟩) (c13 : PySem.W.codeIn K cd13 "show_road" = true) (k13 : PySem.W.keepIn K (.ref f13) = true)
  (a14 : PySem.W.nsIn K mainGlobals "show_net" = some (some (.ref f14))) (l14 : K.lookup f14 = some ⟨oc14,od14,.func (PySem.W.fnOf "show_net" "show_net" (defArgs st_show_net) (defBody st_show_net) (defScope st_show_net) .none kV14 dc14 pm14 an14 cd14 ct14),sl14⟩) (c14 : PySem.W.codeIn K cd14 "show_net" = true) (k14 : PySem.W.keepIn K (.ref f14) = true)
  (a15 : PySem.W.nsIn K mainGlobals "_law_cell" = some (some (.ref f15))) (l15 : K.lookup f15 = some ⟨oc15,od15,.func (PySem.W.fnOf "_law_cell" "_law_cell" (defArgs st__law_cell) (defBody st__law_cell) (defScope st__law_cell) .none kV15 dc15 pm15 an15 cd15 ct15),sl15⟩) (c15 : PySem.W.codeIn K cd15 "_law_cell" = true) (k15 : PySem.W.keepIn K (.ref f15) = true)
  (a16 : PySem.W.nsIn K mainGlobals "_law_day" = some (some (.ref f16))) (l16 : K.lookup f16 = some ⟨oc16,od16,.func (PySem.W.fnOf "_law_day" "_law_day" (defArgs st__law_day) (defBody st__law_day) (defScope st__law_day) .none kV16 dc16 pm16 an16 cd16 ct16),sl16⟩) (c16 : PySem.W.codeIn K cd16 "_law_day" = true) (k16 : PySem.W.keepIn K (.ref f16) = true)
  (a17 : PySem.W.nsIn K mainGlobals "_law_whole" = some (some (.ref f17))) (l17 : K.lookup f17 = some ⟨oc17,od17,.func (PySem.W.fnOf "_law_whole" "_law_whole" (defArgs st__law_whole) (defBody st__law_whole) (defScope st__law_whole) .none kV17 dc17 pm17 an17 cd17 ct17),sl17⟩) (c17 : PySem.W.codeIn K cd17 "_law_whole" = true) (k17 : PySem.W.keepIn K (.ref f17) = true)
  (a18 : PySem.W.nsIn K mainGlobals "_law_is_window" = some (some (.ref f18))) (l18 : K.lookup f18 = some ⟨oc18,od18,.func (PySem.W.fnOf "_law_is_window" "_law_is_window" (defArgs st__law_is_window) (defBody st__law_is_window) (defScope st__law_is_window) .none kV18 dc18 pm18 an18 cd18 ct18),sl18⟩) (c18 : PySem.W.codeIn K cd18 "_law_is_window" = true) (k18 : PySem.W.keepIn K (.ref f18) = true)
  (a19 : PySem.W.nsIn K mainGlobals "_law_size" = some (some (.ref f19))) (l19 : K.lookup f19 = some ⟨oc19,od19,.func (PySem.W.fnOf "_law_size" "_law_size" (defArgs st__law_size) (defBody st__law_size) (defScope st__law_size) .none kV19 dc19 pm19 an19 cd19 ct19),sl19⟩) (c19 : PySem.W.codeIn K cd19 "_law_size" = true) (k19 : PySem.W.keepIn K (.ref f19) = true)
  (a20 : PySem.W.nsIn K mainGlobals "_law_road_window" = some (some (.ref f20))) (l20 : K.lookup f20 = some ⟨oc20,od20,.func (PySem.W.fnOf "_law_road_window" "_law_road_window" (defArgs st__law_road_window) (defBody st__law_road_window) (defScope st__law_road_window) .none kV20 dc20 pm20 an20 cd20 ct20),sl20⟩) (c20 : PySem.W.codeIn K cd20 "_law_road_window" = true) (k20 : PySem.W.keepIn K (.ref f20) = true)
  (a21 : PySem.W.nsIn K mainGlobals "_law_net" = some (some (.ref f21))) (l21 : K.lookup f21 = some ⟨oc21,od21,.func (PySem.W.fnOf "_law_net" "_law_net" (defArgs st__law_net) (defBody st__law_net) (defScope st__law_net) .none kV21 dc21 pm21 an21 cd21 ct21),sl21⟩) (c21 : PySem.W.codeIn K cd21 "_law_net" = true) (k21 : PySem.W.keepIn K (.ref f21) = true)
  (a22 : PySem.W.nsIn K mainGlobals "_law_copy" = some (some (.ref f22))) (l22 : K.lookup f22 = some ⟨oc22,od22,.func (PySem.W.fnOf "_law_copy" "_law_copy" (defArgs st__law_copy) (defBody st__law_copy) (defScope st__law_copy) .none kV22 dc22 pm22 an22 cd22 ct22),sl22⟩) (c22 : PySem.W.codeIn K cd22 "_law_copy" = true) (k22 : PySem.W.keepIn K (.ref f22) = true)
  (a23 : PySem.W.nsIn K mainGlobals "_law_roads" = some (some (.ref f23))) (l23 : K.lookup f23 = some ⟨oc23,od23,.func (PySem.W.fnOf "_law_roads" "_law_roads" (defArgs st__law_roads) (defBody st__law_roads) (defScope st__law_roads) .none kV23 dc23 pm23 an23 cd23 ct23),sl23⟩) (c23 : PySem.W.codeIn K cd23 "_law_roads" = true) (k23 : PySem.W.keepIn K (.ref f23) = true)
  (a24 : PySem.W.nsIn K mainGlobals "_law_names" = some (some (.ref f24))) (l24 : K.lookup f24 = some ⟨oc24,od24,.func (PySem.W.fnOf "_law_names" "_law_names" (defArgs st__law_names) (defBody st__law_names) (defScope st__law_names) .none kV24 dc24 pm24 an24 cd24 ct24),sl24⟩) (c24 : PySem.W.codeIn K cd24 "_law_names" = true) (k24 : PySem.W.keepIn K (.ref f24) = true)
  (a25 : PySem.W.nsIn K mainGlobals "_law_as_they_come" = some (some (.ref f25))) (l25 : K.lookup f25 = some ⟨oc25,od25,.func (PySem.W.fnOf "_law_as_they_come" "_law_as_they_come" (defArgs st__law_as_they_come) (defBody st__law_as_they_come) (defScope st__law_as_they_come) .none kV25 dc25 pm25 an25 cd25 ct25),sl25⟩) (c25 : PySem.W.codeIn K cd25 "_law_as_they_come" = true) (k25 : PySem.W.keepIn K (.ref f25) = true)
  (a26 : PySem.W.nsIn K mainGlobals "_law_many" = some (some (.ref f26))) (l26 : K.lookup f26 = some ⟨oc26,od26,.func (PySem.W.fnOf "_law_many" "_law_many" (defArgs st__law_many) (defBody st__law_many) (defScope st__law_many) .none kV26 dc26 pm26 an26 cd26 ct26),sl26⟩) (c26 : PySem.W.codeIn K cd26 "_law_many" = true) (k26 : PySem.W.keepIn K (.ref f26) = true)
  (a27 : PySem.W.nsIn K mainGlobals "_law_text" = some (some (.ref f27))) (l27 : K.lookup f27 = some ⟨oc27,od27,.func (PySem.W.fnOf "_law_text" "_law_text" (defArgs st__law_text) (defBody st__law_text) (defScope st__law_text) .none kV27 dc27 pm27 an27 cd27 ct27),sl27⟩) (c27 : PySem.W.codeIn K cd27 "_law_text" = true) (k27 : PySem.W.keepIn K (.ref f27) = true)
  (a28 : PySem.W.nsIn K mainGlobals "_law_net_by" = some (some (.ref f28))) (l28 : K.lookup f28 = some ⟨oc28,od28,.func (PySem.W.fnOf "_law_net_by" "_law_net_by" (defArgs st__law_net_by) (defBody st__law_net_by) (defScope st__law_net_by) .none kV28 dc28 pm28 an28 cd28 ct28),sl28⟩) (c28 : PySem.W.codeIn K cd28 "_law_net_by" = true) (k28 : PySem.W.keepIn K (.ref f28) = true)
  (a29 : PySem.W.nsIn K mainGlobals "_law_formed" = some (some (.ref f29))) (l29 : K.lookup f29 = some ⟨oc29,od29,.func (PySem.W.fnOf "_law_formed" "_law_formed" (defArgs st__law_formed) (defBody st__law_formed) (defScope st__law_formed) .none kV29 dc29 pm29 an29 cd29 ct29),sl29⟩) (c29 : PySem.W.codeIn K cd29 "_law_formed" = true) (k29 : PySem.W.keepIn K (.ref f29) = true)
  (a30 : PySem.W.nsIn K mainGlobals "law" = some (some (.ref f30))) (l30 : K.lookup f30 = some ⟨oc30,od30,.func (PySem.W.fnOf "law" "law" (defArgs st_law) (defBody st_law) (defScope st_law) .none kV30 dc30 pm30 an30 cd30 ct30),sl30⟩) (c30 : PySem.W.codeIn K cd30 "law" = true) (k30 : PySem.W.keepIn K (.ref f30) = true)
  (z0 : PySem.W.nsIn K mainGlobals "len" = some none) (z1 : PySem.W.nsIn K mainGlobals "max" = some none) (z2 : PySem.W.nsIn K mainGlobals "min" = some none) (z3 : PySem.W.nsIn K mainGlobals "all" = some none) (z4 : PySem.W.nsIn K mainGlobals "any" = some none) (z5 : PySem.W.nsIn K mainGlobals "range" = some none) (z6 : PySem.W.nsIn K mainGlobals "isinstance" = some none) (z7 : PySem.W.nsIn K mainGlobals "bool" = some none) (z8 : PySem.W.nsIn K mainGlobals "int" = some none) (z9 : PySem.W.nsIn K mainGlobals "tuple" = some none) (z10 : PySem.W.nsIn K mainGlobals "list" = some none) (z11 : PySem.W.nsIn K mainGlobals "str" = some none) (xg1 : PySem.W.nsIn K mainGlobals "FIGURES" = some (some (.str "0123456789" tk1))) (xg2 : PySem.W.nsIn K mainGlobals "LETTERS" = some (some (.str "abcdefghijklmnopqrstuvwxyz" tk2))) (xg3 : PySem.W.nsIn K mainGlobals "MOST_FIGURES" = some (some (.int 16 tk3))) (xg4 : PySem.W.nsIn K mainGlobals "MOST" = some (some (.int 1000000000000000 tk4))) :
  ∃ fd : FuncData,(∀ (s : Shared) (v : Value),BindsTo s fd ⟨[v],[]⟩ [("script",v)]) ∧ ∀ base : Heap,K.In base → base.Ns mainGlobals mg → FnOk l.prog w K mg base CX0 12 fa fd ["script"] (spLaw K) := by
 have e := hfa.symm.trans (PySem.W.mg_of X G a30)
 cases e
 have F0 := fun_mk (st := st_is_whole) l0 c0 k0
 have b0 := F0.binds (ps := ["thing"]) fun _ _ _ _ _ _ us hl => by
  obtain ⟨_,rfl⟩ := bl_1 hl
  rfl
 have m0 := PySem.W.mg_of X G a0
 have F1 := fun_mk (st := st_is_window) l1 c1 k1
 have b1 := F1.binds (ps := ["day","thing"]) fun _ _ _ _ _ _ us hl => by
  obtain ⟨_,_,rfl⟩ := bl_2 hl
  rfl
 have m1 := PySem.W.mg_of X G a1
 have F2 := fun_mk (st := st_read_number) l2 c2 k2
 have b2 := F2.binds (ps := ["text","most_figures"]) fun _ _ _ _ _ _ us hl => by
  obtain ⟨_,_,rfl⟩ := bl_2 hl
  rfl
 have m2 := PySem.W.mg_of X G a2
 have F3 := fun_mk (st := st_is_name) l3 c3 k3
 have b3 := F3.binds (ps := ["text"]) fun _ _ _ _ _ _ us hl => by
  obtain ⟨_,rfl⟩ := bl_1 hl
  rfl
 have m3 := PySem.W.mg_of X G a3
 have F4 := fun_mk (st := st_read_ends) l4 c4 k4
 have b4 := F4.binds (ps := ["text"]) fun _ _ _ _ _ _ us hl => by
  obtain ⟨_,rfl⟩ := bl_1 hl
  rfl
 have m4 := PySem.W.mg_of X G a4
 have F5 := fun_mk (st := st_read_span) l5 c5 k5
 have b5 := F5.binds (ps := ["text"]) fun _ _ _ _ _ _ us hl => by
  obtain ⟨_,rfl⟩ := bl_1 hl
  rfl
 have m5 := PySem.W.mg_of X G a5
 have F6 := fun_mk (st := st_read_window) l6 c6 k6
 have b6 := F6.binds (ps := ["day","text"]) fun _ _ _ _ _ _ us hl => by
  obtain ⟨_,_,rfl⟩ := bl_2 hl
  rfl
 have m6 := PySem.W.mg_of X G a6
 have F7 := fun_mk (st := st_read_day) l7 c7 k7
 have b7 := F7.binds (ps := ["text"]) fun _ _ _ _ _ _ us hl => by
  obtain ⟨_,rfl⟩ := bl_1 hl
  rfl
 have m7 := PySem.W.mg_of X G a7
 have F8 := fun_mk (st := st_read_board) l8 c8 k8
 have b8 := F8.binds (ps := ["day","words"]) fun _ _ _ _ _ _ us hl => by
  obtain ⟨_,_,rfl⟩ := bl_2 hl
  rfl
 have m8 := PySem.W.mg_of X G a8
 have F9 := fun_mk (st := st_number_of) l9 c9 k9
 have b9 := F9.binds (ps := ["names","name"]) fun _ _ _ _ _ _ us hl => by
  obtain ⟨_,_,rfl⟩ := bl_2 hl
  rfl
 have m9 := PySem.W.mg_of X G a9
 have F10 := fun_mk (st := st_read_net) l10 c10 k10
 have b10 := F10.binds (ps := ["text"]) fun _ _ _ _ _ _ us hl => by
  obtain ⟨_,rfl⟩ := bl_1 hl
  rfl
 have m10 := PySem.W.mg_of X G a10
 have F11 := fun_mk (st := st_show_window) l11 c11 k11
 have b11 := F11.binds (ps := ["a","b","c"]) fun _ _ _ _ _ _ us hl => by
  obtain ⟨_,_,_,rfl⟩ := bl_3 hl
  rfl
 have m11 := PySem.W.mg_of X G a11
 have F12 := fun_mk (st := st_show_board) l12 c12 k12
 have b12 := F12.binds (ps := ["board"]) fun _ _ _ _ _ _ us hl => by
  obtain ⟨_,rfl⟩ := bl_1 hl
  rfl
 have m12 := PySem.W.mg_of X G a12
 have F13 := fun_mk (st := st_show_road) l13 c13 k13
 have b13 := F13.binds (ps := ["start","end","board"]) fun _ _ _ _ _ _ us hl => by
  obtain ⟨_,_,_,rfl⟩ := bl_3 hl
  rfl
 have m13 := PySem.W.mg_of X G a13
 have F14 := fun_mk (st := st_show_net) l14 c14 k14
 have b14 := F14.binds (ps := ["day","names","roads"]) fun _ _ _ _ _ _ us hl => by
  obtain ⟨_,_,_,rfl⟩ := bl_3 hl
  rfl
 have m14 := PySem.W.mg_of X G a14
 have F15 := fun_mk (st := st__law_cell) l15 c15 k15
 have b15 := F15.binds (ps := ["script","k"]) fun _ _ _ _ _ _ us hl => by
  obtain ⟨_,_,rfl⟩ := bl_2 hl
  rfl
 have m15 := PySem.W.mg_of X G a15
 have F16 := fun_mk (st := st__law_day) l16 c16 k16
 have b16 := F16.binds (ps := ["cell"]) fun _ _ _ _ _ _ us hl => by
  obtain ⟨_,rfl⟩ := bl_1 hl
  rfl
 have m16 := PySem.W.mg_of X G a16
 have F17 := fun_mk (st := st__law_whole) l17 c17 k17
 have b17 := F17.binds (ps := ["thing"]) fun _ _ _ _ _ _ us hl => by
  obtain ⟨_,rfl⟩ := bl_1 hl
  rfl
 have m17 := PySem.W.mg_of X G a17
 have F18 := fun_mk (st := st__law_is_window) l18 c18 k18
 have b18 := F18.binds (ps := ["day","thing"]) fun _ _ _ _ _ _ us hl => by
  obtain ⟨_,_,rfl⟩ := bl_2 hl
  rfl
 have m18 := PySem.W.mg_of X G a18
 have F19 := fun_mk (st := st__law_size) l19 c19 k19
 have b19 := F19.binds (ps := ["cell"]) fun _ _ _ _ _ _ us hl => by
  obtain ⟨_,rfl⟩ := bl_1 hl
  rfl
 have m19 := PySem.W.mg_of X G a19
 have F20 := fun_mk (st := st__law_road_window) l20 c20 k20
 have b20 := F20.binds (ps := ["day","one","two","three"]) fun _ _ _ _ _ _ us hl => by
  obtain ⟨_,_,_,_,rfl⟩ := bl_4 hl
  rfl
 have m20 := PySem.W.mg_of X G a20
 have F21 := fun_mk (st := st__law_net) l21 c21 k21
 have b21 := F21.binds (ps := ["day","size","goal","cells"]) fun _ _ _ _ _ _ us hl => by
  obtain ⟨_,_,_,_,rfl⟩ := bl_4 hl
  rfl
 have m21 := PySem.W.mg_of X G a21
 have F22 := fun_mk (st := st__law_copy) l22 c22 k22
 have b22 := F22.binds (ps := ["roads"]) fun _ _ _ _ _ _ us hl => by
  obtain ⟨_,rfl⟩ := bl_1 hl
  rfl
 have m22 := PySem.W.mg_of X G a22
 have F23 := fun_mk (st := st__law_roads) l23 c23 k23
 have b23 := F23.binds (ps := ["day","size","goal","script"]) fun _ _ _ _ _ _ us hl => by
  obtain ⟨_,_,_,_,rfl⟩ := bl_4 hl
  rfl
 have m23 := PySem.W.mg_of X G a23
 have F24 := fun_mk (st := st__law_names) l24 c24 k24
 have b24 := F24.binds (ps := ["cell","many"]) fun _ _ _ _ _ _ us hl => by
  obtain ⟨_,_,rfl⟩ := bl_2 hl
  rfl
 have m24 := PySem.W.mg_of X G a24
 have F25 := fun_mk (st := st__law_as_they_come) l25 c25 k25
 have b25 := F25.binds (ps := ["roads"]) fun _ _ _ _ _ _ us hl => by
  obtain ⟨_,rfl⟩ := bl_1 hl
  rfl
 have m25 := PySem.W.mg_of X G a25
 have F26 := fun_mk (st := st__law_many) l26 c26 k26
 have b26 := F26.binds (ps := ["roads"]) fun _ _ _ _ _ _ us hl => by
  obtain ⟨_,rfl⟩ := bl_1 hl
  rfl
 have m26 := PySem.W.mg_of X G a26
 have F27 := fun_mk (st := st__law_text) l27 c27 k27
 have b27 := F27.binds (ps := ["day","names","roads"]) fun _ _ _ _ _ _ us hl => by
  obtain ⟨_,_,_,rfl⟩ := bl_3 hl
  rfl
 have m27 := PySem.W.mg_of X G a27
 have F28 := fun_mk (st := st__law_net_by) l28 c28 k28
 have b28 := F28.binds (ps := ["day","script"]) fun _ _ _ _ _ _ us hl => by
  obtain ⟨_,_,rfl⟩ := bl_2 hl
  rfl
 have m28 := PySem.W.mg_of X G a28
 have F29 := fun_mk (st := st__law_formed) l29 c29 k29
 have b29 := F29.binds (ps := ["day","found"]) fun _ _ _ _ _ _ us hl => by
  obtain ⟨_,_,rfl⟩ := bl_2 hl
  rfl
 have m29 := PySem.W.mg_of X G a29
 have F30 := fun_mk (st := st_law) l30 c30 k30
 have b30 := F30.binds (ps := ["script"]) fun _ _ _ _ _ _ us hl => by
  obtain ⟨_,rfl⟩ := bl_1 hl
  rfl
 have m30 := PySem.W.mg_of X G a30
 have B : Bl mg := ⟨PySem.W.mg_none_of X G z0,PySem.W.mg_none_of X G z1,PySem.W.mg_none_of X G z2,PySem.W.mg_none_of X G z3,PySem.W.mg_none_of X G z4,PySem.W.mg_none_of X G z5,PySem.W.mg_none_of X G z6,PySem.W.mg_none_of X G z7,PySem.W.mg_none_of X G z8,PySem.W.mg_none_of X G z9,PySem.W.mg_none_of X G z10,PySem.W.mg_none_of X G z11⟩
 refine ⟨PySem.W.fnOf "law" "law" (defArgs st_law) (defBody st_law) (defScope st_law) .none kV30 dc30 pm30 an30 cd30 ct30,fun s v => .of_eq rfl,fun base _ _ => ?_⟩
 have gt : Gt mg tk1 tk2 tk3 tk4 := ⟨PySem.W.mg_of X G xg1,PySem.W.mg_of X G xg2,PySem.W.mg_of X G xg3,PySem.W.mg_of X G xg4⟩
 have C_is_whole := Callee.mk' (P := l.prog) (w := w) (base := base) (ok_is_whole (n := 0) F0 B) b0 k0 m0
 have C_is_window := Callee.mk' (P := l.prog) (w := w) (base := base) (ok_is_window (n := 1) F1 B C_is_whole) b1 k1 m1
 have C_read_number := Callee.mk' (P := l.prog) (w := w) (base := base) (ok_numR (n := 0) gt F2 B) b2 k2 m2
 have C_is_name := Callee.mk' (P := l.prog) (w := w) (base := base) (ok_nameR (n := 0) gt F3 B) b3 k3 m3
 have C_read_ends := Callee.mk' (P := l.prog) (w := w) (base := base) (ok_ends (n := 1) F4 C_is_name) b4 k4 m4
 have C_read_span := Callee.mk' (P := l.prog) (w := w) (base := base) (ok_span (n := 1) gt F5 C_read_number) b5 k5 m5
 have C_read_window := Callee.mk' (P := l.prog) (w := w) (base := base) (ok_winR (n := 2) gt F6 C_read_span (C_read_number.up (by decide)) C_is_window) b6 k6 m6
 have C_read_day := Callee.mk' (P := l.prog) (w := w) (base := base) (ok_dayR (n := 1) gt F7 C_read_number) b7 k7 m7
 have C_read_board := Callee.mk' (P := l.prog) (w := w) (base := base) (ok_boardR (n := 3) F8 B C_read_window) b8 k8 m8
 have C_number_of := Callee.mk' (P := l.prog) (w := w) (base := base) (ok_numOf (n := 0) F9) b9 k9 m9
 have C_read_net := Callee.mk' (P := l.prog) (w := w) (base := base) (ok_readN (n := 4) F10 B (C_read_day.up (by decide)) (C_read_ends.up (by decide)) C_read_board (C_number_of.up (by decide))) b10 k10 m10
 have C_show_window := Callee.mk' (P := l.prog) (w := w) (base := base) (ok_showw (n := 0) F11) b11 k11 m11
 have C_show_board := Callee.mk' (P := l.prog) (w := w) (base := base) (ok_showb (n := 1) F12 C_show_window) b12 k12 m12
 have C_show_road := Callee.mk' (P := l.prog) (w := w) (base := base) (ok_showr (n := 2) F13 B C_show_board) b13 k13 m13
 have C_show_net := Callee.mk' (P := l.prog) (w := w) (base := base) (ok_shown (n := 3) F14 C_show_road) b14 k14 m14
 have C__law_cell := Callee.mk' (P := l.prog) (w := w) (base := base) (ok_cellA (n := 0) F15 B) b15 k15 m15
 have C__law_day := Callee.mk' (P := l.prog) (w := w) (base := base) (ok_dayA (n := 0) F16) b16 k16 m16
 have C__law_size := Callee.mk' (P := l.prog) (w := w) (base := base) (ok_size (n := 0) F19) b19 k19 m19
 have C__law_whole := Callee.mk' (P := l.prog) (w := w) (base := base) (ok_whole (n := 0) F17 B) b17 k17 m17
 have C__law_is_window := Callee.mk' (P := l.prog) (w := w) (base := base) (ok_winA (n := 1) F18 B C__law_whole) b18 k18 m18
 have C__law_road_window := Callee.mk' (P := l.prog) (w := w) (base := base) (ok_roadwin (n := 0) F20 B) b20 k20 m20
 have C__law_net := Callee.mk' (P := l.prog) (w := w) (base := base) (ok_net (n := 1) F21 B C__law_road_window) b21 k21 m21
 have C__law_copy := Callee.mk' (P := l.prog) (w := w) (base := base) (ok_copy (n := 0) F22 B) b22 k22 m22
 have C__law_roads := Callee.mk' (P := l.prog) (w := w) (base := base) (ok_roads80 (n := 2) F23 (C__law_cell.up (by decide)) C__law_net) b23 k23 m23
 have C__law_names := Callee.mk' (P := l.prog) (w := w) (base := base) (ok_names81 (n := 0) F24 B) b24 k24 m24
 have C__law_as_they_come := Callee.mk' (P := l.prog) (w := w) (base := base) (ok_come81 (n := 0) F25 B) b25 k25 m25
 have C__law_many := Callee.mk' (P := l.prog) (w := w) (base := base) (ok_many81 (n := 0) F26 B) b26 k26 m26
 have C__law_text := Callee.mk' (P := l.prog) (w := w) (base := base) (ok_text (n := 0) F27 B) b27 k27 m27
 have C__law_net_by := Callee.mk' (P := l.prog) (w := w) (base := base) (ok_netby81 (n := 3) F28 (C__law_cell.up (by decide)) (C__law_size.up (by decide)) C__law_roads (C__law_as_they_come.up (by decide))) b28 k28 m28
 have C__law_formed := Callee.mk' (P := l.prog) (w := w) (base := base) (ok_formed (n := 2) F29 B (C__law_whole.up (by decide)) C__law_is_window) b29 k29 m29
 exact (ok_law (n := 10) F30 B (C__law_cell.up (by decide)) (C__law_day.up (by decide)) (C__law_net_by.up (by decide)) (C__law_names.up (by decide)) (C__law_many.up (by decide)) (C__law_copy.up (by decide)) (C_show_net.up (by decide)) (C__law_text.up (by decide)) (C_read_net.up (by decide)) (C__law_formed.up (by decide))).mono (by decide)
theorem walk {l : PySem.W.OpenLaw} {q : Program} {loose : List Str} {XP : (Str → Option Value) → Heap → Prop} {YP : World → Heap → Prop} {d : DefRec} {K : Params → PySem.W.Frag} (hn : l.most = some 63) (hdf : d.params.defaults = [])
  (hY : ∀ (w : World) (h : Heap),YP w h → (K w.params).In h)
  (F : ∀ (w : World) (mg : Str → Option Value) (fa : Addr) (h : Heap),(K w.params).In h → h.Ns mainGlobals mg → mg d.name = some (.ref fa) →
   ∃ fd : FuncData,(∀ (s : Shared) (u : Value),BindsTo s fd ⟨[u],[]⟩ [("script",u)]) ∧ ∀ base : Heap,(K w.params).In base → base.Ns mainGlobals mg → FnOk l.prog w (K w.params) mg base CX0 12 fa fd ["script"] (spLaw (K w.params))) :
  PySem.W.WalkO q loose XP YP l.row.toRowW d [] (fun f vs => PySem.call f vs) :=
 L2.walk_of (n := 63) (k := 12) (x := "script") (CX := fun _ => CX0) (sp := fun w => spLaw (K w.params)) hn (by decide) hdf ⟨rfl,by decide,by decide⟩ hY F (fun _ _ a ns hl _ hS => ⟨a,ns,rfl,hS,hl,fun _ => rfl⟩) fun _ _ _ _ _ z => z
end My
open PySem PySem.W PyProof.Rows
set_option maxRecDepth 100000 in
set_option maxHeartbeats 0 in
theorem PySem.Challenge.cw_fordbook_k81_a_shown_net_read_holds : PySem.Challenge.rw_fordbook_k81_a_shown_net_read.Holds := by
 w_on; o_law; k_head; (case hw => w_witness2)
 k_fill
 refine My.walk (l := PySem.Challenge.rw_fordbook_k81_a_shown_net_read) rfl rfl (fun w h Y => PySem.W.kIn_of Y) ?F
 case F =>
  intro w mg fa h KX G hmg
  refine' My.all_mk KX G hmg ?a0 ?l0 ?c0 ?k0 ?a1 ?l1 ?c1 ?k1 ?a2 ?l2 ?c2 ?k2 ?a3 ?l3 ?c3 ?k3 ?a4 ?l4 ?c4 ?k4 ?a5 ?l5 ?c5 ?k5 ?a6 ?l6 ?c6 ?k6 ?a7 ?l7 ?c7 ?k7 ?a8 ?l8 ?c8 ?k8 ?a9 ?l9 ?c9 ?k9 ?a10 ?l10 ?c10 ?k10 ?a11 ?l11 ?c11 ?k11 ?a12 ?l12 ?c12 ?k12 ?a13 ?l13 ?c13 ?k13 ?a14 ?l14 ?c14 ?k14 ?a15 ?l15 ?c15 ?k15 ?a16 ?l16 ?c16 ?k16 ?a17 ?l17 ?c17 ?k17 ?a18 ?l18 ?c18 ?k18 ?a19 ?l19 ?c19 ?k19 ?a20 ?l20 ?c20 ?k20 ?a21 ?l21 ?c21 ?k21 ?a22 ?l22 ?c22 ?k22 ?a23 ?l23 ?c23 ?k23 ?a24 ?l24 ?c24 ?k24 ?a25 ?l25 ?c25 ?k25 ?a26 ?l26 ?c26 ?k26 ?a27 ?l27 ?c27 ?k27 ?a28 ?l28 ?c28 ?k28 ?a29 ?l29 ?c29 ?k29 ?a30 ?l30 ?c30 ?k30 ?z0 ?z1 ?z2 ?z3 ?z4 ?z5 ?z6 ?z7 ?z8 ?z9 ?z10 ?z11 ?xg1 ?xg2 ?xg3 ?xg4
  (case a0 => k_is)
  (case l0 => k_is)
  (case c0 => k_is)
  (case k0 => k_is)
  (case a1 => k_is)
  (case l1 => k_is)
  (case c1 => k_is)
  (case k1 => k_is)
  (case a2 => k_is)
  (case l2 => k_is)
  (case c2 => k_is)
  (case k2 => k_is)
  (case a3 => k_is)
  (case l3 => k_is)
  (case c3 => k_is)
  (case k3 => k_is)
  (case a4 => k_is)
  (case l4 => k_is)
  (case c4 => k_is)
  (case k4 => k_is)
  (case a5 => k_is)
  (case l5 => k_is)
  (case c5 => k_is)
  (case k5 => k_is)
  (case a6 => k_is)
  (case l6 => k_is)
  (case c6 => k_is)
  (case k6 => k_is)
  (case a7 => k_is)
  (case l7 => k_is)
  (case c7 => k_is)
  (case k7 => k_is)
  (case a8 => k_is)
  (case l8 => k_is)
  (case c8 => k_is)
  (case k8 => k_is)
  (case a9 => k_is)
  (case l9 => k_is)
  (case c9 => k_is)
  (case k9 => k_is)
  (case a10 => k_is)
  (case l10 => k_is)
  (case c10 => k_is)
  (case k10 => k_is)
  (case a11 => k_is)
  (case l11 => k_is)
  (case c11 => k_is)
  (case k11 => k_is)
  (case a12 => k_is)
  (case l12 => k_is)
  (case c12 => k_is)
  (case k12 => k_is)
  (case a13 => k_is)
  (case l13 => k_is)
  (case c13 => k_is)
  (case k13 => k_is)
  (case a14 => k_is)
  (case l14 => k_is)
  (case c14 => k_is)
  (case k14 => k_is)
  (case a15 => k_is)
  (case l15 => k_is)
  (case c15 => k_is)
  (case k15 => k_is)
  (case a16 => k_is)
  (case l16 => k_is)
  (case c16 => k_is)
  (case k16 => k_is)
  (case a17 => k_is)
  (case l17 => k_is)
  (case c17 => k_is)
  (case k17 => k_is)
  (case a18 => k_is)
  (case l18 => k_is)
  (case c18 => k_is)
  (case k18 => k_is)
  (case a19 => k_is)
  (case l19 => k_is)
  (case c19 => k_is)
  (case k19 => k_is)
  (case a20 => k_is)
  (case l20 => k_is)
  (case c20 => k_is)
  (case k20 => k_is)
  (case a21 => k_is)
  (case l21 => k_is)
  (case c21 => k_is)
  (case k21 => k_is)
  (case a22 => k_is)
  (case l22 => k_is)
  (case c22 => k_is)
  (case k22 => k_is)
  (case a23 => k_is)
  (case l23 => k_is)
  (case c23 => k_is)
  (case k23 => k_is)
  (case a24 => k_is)
  (case l24 => k_is)
  (case c24 => k_is)
  (case k24 => k_is)
  (case a25 => k_is)
  (case l25 => k_is)
  (case c25 => k_is)
  (case k25 => k_is)
  (case a26 => k_is)
  (case l26 => k_is)
  (case c26 => k_is)
  (case k26 => k_is)
  (case a27 => k_is)
  (case l27 => k_is)
  (case c27 => k_is)
  (case k27 => k_is)
  (case a28 => k_is)
  (case l28 => k_is)
  (case c28 => k_is)
  (case k28 => k_is)
  (case a29 => k_is)
  (case l29 => k_is)
  (case c29 => k_is)
  (case k29 => k_is)
  (case a30 => k_is)
  (case l30 => k_is)
  (case c30 => k_is)
  (case k30 => k_is)
  (case z0 => k_is)
  (case z1 => k_is)
  (case z2 => k_is)
  (case z3 => k_is)
  (case z4 => k_is)
  (case z5 => k_is)
  (case z6 => k_is)
  (case z7 => k_is)
  (case z8 => k_is)
  (case z9 => k_is)
  (case z10 => k_is)
  (case z11 => k_is)
  (case xg1 => k_is)
  (case xg2 => k_is)
  (case xg3 => k_is)
  (case xg4 => k_is)
