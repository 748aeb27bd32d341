import PyProof.Rows.All
import Wide.All
import OpenK.AllK
import Wide.FinOn
import Lean
import PyProof.EqAt
import PyProof.EqKinds
import PyProof.TupleCall
import PySem.Challenge.RW_viewwood_k06_what_is_a_house
theorem lR {n : Nat} : n ≤ n := Nat.le_refl n
set_option Elab.async false
set_option linter.all false
set_option maxRecDepth 100000
namespace L2
open PySem PySem.Spec PyProof.Rows
noncomputable abbrev Key := Sum Int Str
noncomputable def QT : Key → Value → Bool
 | .inl k, v => Value.isInt k v
 | .inr x, v => Value.isStrOf x v
noncomputable def keyH (w : World) : Key → Int
 | .inl k => hashInt k
 | .inr x => hashStr w x
theorem fK : ∀ {k : Key} {v : Value}, QT k v = true → (∃ i t, k = Sum.inl i ∧ v = Value.int i t) ∨ (∃ x t, k = Sum.inr x ∧ v = Value.str x t)
 | .inl i, v, h => by
  obtain ⟨t, e⟩ := Value.isInt_shape (k := i) (v := v) h
  exact .inl ⟨i, t, rfl, e⟩
 | .inr x, v, h => by
  obtain ⟨t, e⟩ := Value.isStrOf_shape (x := x) (v := v) h
  exact .inr ⟨x, t, rfl, e⟩
theorem KH (i : Int) (t : Tok) : QT (.inl i) (.int i t) = true := by simp [QT, Value.isInt]
theorem aM (x : Str) (t : Tok) : QT (.inr x) (.str x t) = true := by simp [QT, Value.isStrOf]
theorem key_ll (a b : Int) : decide ((Sum.inl a : Key) = Sum.inl b) = (a == b) := by
 by_cases e : a = b
 ·subst e; simp
 ·have h : ¬ (Sum.inl a : Key) = Sum.inl b := fun q => e (Sum.inl.inj q)
  rw [decide_eq_false h]
  exact (beq_eq_false_iff_ne.mpr e).symm
theorem key_rr (a b : Str) : decide ((Sum.inr a : Key) = Sum.inr b) = decide (a = b) := by
 by_cases e : a = b
 ·subst e; simp
 ·have h : ¬ (Sum.inr a : Key) = Sum.inr b := fun q => e (Sum.inr.inj q)
  rw [decide_eq_false h, decide_eq_false e]
theorem key_lr (a : Int) (b : Str) : decide ((Sum.inl a : Key) = Sum.inr b) = false := decide_eq_false (fun q => nomatch q)
theorem key_rl (a : Str) (b : Int) : decide ((Sum.inr a : Key) = Sum.inl b) = false := decide_eq_false (fun q => nomatch q)
noncomputable def iZ (prog : Program) (w : World) : PySem.KeyKind prog w Key where
 is := QT
 hash := keyH w
 inj := fun v a b ha hb => by
  rcases fK ha with ⟨i, t, rfl, rfl⟩ | ⟨x, t, rfl, rfl⟩
  ·rcases fK hb with ⟨j, u, rfl, e⟩ | ⟨y, u, rfl, e⟩
   ·injection e with e1 _; rw [e1]
   ·exact nomatch e
  ·rcases fK hb with ⟨j, u, rfl, e⟩ | ⟨y, u, rfl, e⟩
   ·exact nomatch e
   ·injection e with e1 _; rw [e1]
 byValue := fun k v h => by
  rcases fK h with ⟨i, t, rfl, rfl⟩ | ⟨x, t, rfl, rfl⟩ <;> rfl
 pyHash := fun hv h => by
  rcases fK hv with ⟨i, t, rfl, rfl⟩ | ⟨x, t, rfl, rfl⟩
  ·exact wpAny_pyHash_int h
  ·exact wpAny_pyHash_str h
 eqBool := fun hu hv h => by
  rcases fK hu with ⟨i, t, rfl, rfl⟩ | ⟨x, t, rfl, rfl⟩
  ·rcases fK hv with ⟨j, u, rfl, rfl⟩ | ⟨y, u, rfl, rfl⟩
   ·rw [key_ll] at h; exact wpAny_eqBool_int h
   ·rw [key_lr] at h; exact SeqAt.EqAt.int_str i t y u _ _ _ _ h
  ·rcases fK hv with ⟨j, u, rfl, rfl⟩ | ⟨y, u, rfl, rfl⟩
   ·rw [key_rl] at h; exact SeqAt.EqAt.str_int x t j u _ _ _ _ h
   ·rw [key_rr] at h; exact wpAny_eqBool_str h
 «strs» := fun k x t v h => by
  rcases fK h with ⟨i, u, rfl, e⟩ | ⟨y, u, rfl, e⟩
  ·exact nomatch e
  ·injection e with e1 _
   subst e1
   cases v <;> rfl
theorem X8 (prog : Program) (w : World) (i : Int) (t : Tok) : (iZ prog w).is (.inl i) (.int i t) = true := KH i t
theorem X7 (prog : Program) (w : World) (x : Str) (t : Tok) : (iZ prog w).is (.inr x) (.str x t) = true := aM x t
end L2
namespace L2
open PySem PySem.Spec PyProof.Rows
inductive V where
 | non | bl (b : Bool) | int (i : Int) | str (x : Str) | byt (b : Array UInt8) | flt (b : UInt64) | ref (a : Addr) | ty (n : String)
 deriving DecidableEq
noncomputable def RelV : V → Value → Prop
 | .non, u => u = Value.none
 | .bl b, u => u = Value.bool b
 | .int i, u => ∃ t, u = Value.int i t
 | .str x, u => ∃ t, u = Value.str x t
 | .byt b, u => ∃ t, u = Value.bytes b t
 | .flt b, u => ∃ t, u = Value.float b t
 | .ref a, u => u = Value.ref a
 | .ty n, u => u = Value.type n
noncomputable abbrev Vals : List V → List Value → Prop := Paired RelV
theorem Vals.length {xs : List V} {us : List Value} (r : Vals xs us) : xs.length = us.length := Paired.length r
theorem Vals.get : ∀ {xs : List V} {us : List Value} {i : Nat} {x : V}, Vals xs us → xs[i]? = some x → ∃ u, us[i]? = some u ∧ RelV x u
 | _, _, _, _, .nil, e => by simp at e
 | _, _, 0, _, .cons r _, e => by simp at e; subst e; exact ⟨_, rfl, r⟩
 | _, _, i + 1, x, .cons _ t, e => by
  obtain ⟨u, h1, h2⟩ := Vals.get (i := i) (x := x) t (by simpa using e)
  exact ⟨u, by simpa using h1, h2⟩
theorem Vals.set {x : V} {u : Value} (r : RelV x u) : ∀ {xs : List V} {us : List Value} (i : Nat), Vals xs us → Vals (xs.set i x) (us.set i u)
 | _, _, _, .nil => .nil
 | _, _, 0, .cons _ t => .cons r t
 | _, _, i + 1, .cons q t => .cons q (Vals.set r i t)
theorem Vals.append : ∀ {xs ys : List V} {us ws : List Value}, Vals xs us → Vals ys ws → Vals (xs ++ ys) (us ++ ws)
 | _, _, _, _, .nil, s => s
 | _, _, _, _, .cons r t, s => .cons r (Vals.append t s)
theorem Vals.take : ∀ {xs : List V} {us : List Value} (n : Nat), Vals xs us → Vals (xs.take n) (us.take n)
 | _, _, 0, _ => .nil
 | _, _, _ + 1, .nil => .nil
 | _, _, n + 1, .cons r t => .cons r (Vals.take n t)
theorem Vals.drop : ∀ {xs : List V} {us : List Value} (n : Nat), Vals xs us → Vals (xs.drop n) (us.drop n)
 | _, _, 0, r => r
 | _, _, _ + 1, .nil => .nil
 | _, _, n + 1, .cons _ t => Vals.drop n t
noncomputable def RelO : Option V → Option Value → Prop
 | some v, some u => RelV v u
 | none, none => True
 | _, _ => False
noncomputable def KV {κ : Type} : List (κ × V) → List (κ × Value) → Prop := Paired fun (p : κ × V) (q : κ × Value) => p.1 = q.1 ∧ RelV p.2 q.2
noncomputable def kV : Key → V
 | .inl i => .int i
 | .inr x => .str x
inductive HO where
 | lst (xs : List V)
 | tup (xs : List V)
 | dK (kvs : List (Key × V)) | dT (kvs : List (List Key × V))
 | set (S : Int → Bool) (n : Nat)
 | ins (C dx : Addr) (fs : List (Str × V))
 | own (x : Addr)
 | xd (fs : List (Str × V))
 | met (f x : Addr)
 | rng (lo hi : Int)
 | frz (o : Obj) (u : HO)
 | tbl (ps : Array Value)
 | ext (φ : Heap → Prop)
noncomputable abbrev Hp := Addr → Option HO
noncomputable def upd (H : Hp) (a : Addr) (o : HO) : Hp := fun b => if b = a then some o else H b
theorem zQ {H : Hp} {a : Addr} {o : HO} : upd H a o a = some o := by unfold upd; rw [if_pos rfl]
theorem uX {H : Hp} {a b : Addr} {o : HO} (h : b ≠ a) : upd H a o b = H b := by unfold upd; rw [if_neg h]
theorem sV {H : Hp} {a : Addr} {o u : HO} : upd (upd H a o) a u = upd H a u := by
 funext b; unfold upd; split <;> rfl
theorem yT {H : Hp} {a b : Addr} {o u : HO} (h : H a = some o) (h' : H b = some u) (d : o ≠ u) : a ≠ b := by
 intro e; subst e; rw [h] at h'; exact d (Option.some.inj h')
theorem uZ {H : Hp} {a b : Addr} {o : HO} (h : H a = some o) (h' : H b = none) : a ≠ b := by
 intro e; subst e; rw [h] at h'; cases h'
section
variable (P : Program) (w : World)
noncomputable def ObjOk (H : Hp) (h : Heap) (a : Addr) : HO → Prop
 | .lst xs => xs.length ≤ sizeLine ∧ ∃ (its : List Value) (n : Nat), Vals xs its ∧ h.get? a = some { cls := .type "list", data := .seq its.toArray n }
 | .tup xs => xs.length ≤ sizeLine ∧ ∃ its : List Value, Vals xs its ∧ IsTup h a its.toArray
 | .dK kvs => kvs.length ≤ sizeLine ∧ (a == sysModules) = false ∧ ∃ vs, KV kvs vs ∧ h.DictOf (iZ P w) a vs
 | .dT kvs => kvs.length ≤ sizeLine ∧ (a == sysModules) = false ∧ ∃ xs : List (List Key × Addr × Value),
   Paired (fun (p : List Key × V) (q : List Key × Addr × Value) => p.1 = q.1 ∧ H q.2.1 = some (.tup (p.1.map kV)) ∧ RelV p.2 q.2.2) kvs xs ∧
   ∃ o es ep, h.get? a = some o ∧ o.ExactDict ∧ o.data = .dict es ep ∧ es.toList = xs.map (entryOfKey (tupleKind (iZ P w))) ∧ (xs.map (·.1)).Nodup
 | .set S n => h.SetOf (intKind P w) a S n
 | .ins C dx fs => H dx = some (.own a) ∧ fs.length ≤ 1000 ∧ dx ≠ a ∧ h.get? a = some (W.instObj C dx) ∧
   ∃ mA, h.Ns1 dx mA ∧ (∀ f, RelO (fs.lookup f) (mA f)) ∧ PySem.Within mA (fs.map (·.1))
 | .own _ => ∃ o, h.get? a = some o
 | .xd fs => ∃ mA, h.Ns1 a mA ∧ ∀ f, RelO (fs.lookup f) (mA f)
 | .rng lo hi => ∃ t u v, h.get? a = some { cls := .type "range", data := .fields #[.int lo t, .int hi u, .int 1 v] }
 | .frz o u => h.get? a = some o ∧ ObjOk H h a u
 | .tbl ps => h.get? a = some { cls := .none, data := .fields ps }
 | .met f x => h.get? a = some (W.methodObj (.ref f) (.ref x))
 | .ext φ => φ h ∧ (∃ o, h.get? a = some o) ∧ ∀ h1 h2 : Heap, φ h1 → (∀ o, h1.get? a = some o → h2.get? a = some o) → φ h2
noncomputable def HOk (H : Hp) (h : Heap) : Prop := ∀ a o, H a = some o → ObjOk P w H h a o
end
section
variable {P : Program} {w : World} {H H' : Hp} {h h' : Heap} {a : Addr} {o : HO}
theorem ObjOk.lt (x : ObjOk P w H h a o) : a < h.objs.size := by
 cases o with
 | lst xs => obtain ⟨_, _, _, _, e⟩ := x; exact Heap.lt_size e
 | tup xs => obtain ⟨_, _, _, p⟩ := x; exact p.lt
 | dK kvs => obtain ⟨_, _, _, _, o, _, _, e, _⟩ := x; exact Heap.lt_size e
 | dT kvs => obtain ⟨_, _, _, _, o, _, _, e, _⟩ := x; exact Heap.lt_size e
 | set S n => obtain ⟨o, _, _, _, e, _⟩ := x; exact Heap.lt_size e
 | ins C dx fs => obtain ⟨_, _, _, e, _⟩ := x; exact Heap.lt_size e
 | own y => obtain ⟨_, e⟩ := x; exact Heap.lt_size e
 | xd fs => obtain ⟨_, ⟨_, _, _, e, _⟩, _⟩ := x; exact Heap.lt_size e
 | rng lo hi => obtain ⟨_, _, _, e⟩ := x; exact Heap.lt_size e
 | frz ob u => obtain ⟨e, _⟩ := x; exact Heap.lt_size e
 | tbl ps => exact Heap.lt_size (show h.get? a = some _ from x)
 | met f y => exact Heap.lt_size (show h.get? a = some _ from x)
 | ext φ => obtain ⟨_, ⟨_, e⟩, _⟩ := x; exact Heap.lt_size e
theorem Paired.mapP {α β : Type} {F G : α → β → Prop} : ∀ {l₁ : List α} {l₂ : List β}, Paired F l₁ l₂ → (∀ a b, F a b → G a b) → Paired G l₁ l₂
 | _, _, .nil, _ => .nil
 | _, _, .cons r t, f => .cons (f _ _ r) (Paired.mapP t f)
theorem ObjOk.stay (x : ObjOk P w H h a o) (k : ∀ b u, (b = a ∨ H b = some (.own a)) → h.get? b = some u → h'.get? b = some u)
  (ho : ∀ b, H b = some (.own a) → H' b = some (.own a)) (ht : ∀ b xs, H b = some (.tup xs) → H' b = some (.tup xs)) : ObjOk P w H' h' a o := by
 induction o with
 | lst xs => obtain ⟨z, its, n, r, e⟩ := x; exact ⟨z, its, n, r, k _ _ (.inl rfl) e⟩
 | tup xs => obtain ⟨z, its, r, ob, e, c⟩ := x; exact ⟨z, its, r, ob, k _ _ (.inl rfl) e, c⟩
 | dK kvs => obtain ⟨z, y, vs, r, ob, es, ep, e, c⟩ := x; exact ⟨z, y, vs, r, ob, es, ep, k _ _ (.inl rfl) e, c⟩
 | dT kvs =>
  obtain ⟨z, y, xs, r, ob, es, ep, e, c⟩ := x
  exact ⟨z, y, xs, Paired.mapP r fun p q z => ⟨z.1, ht _ _ z.2.1, z.2.2⟩, ob, es, ep, k _ _ (.inl rfl) e, c⟩
 | set S n => obtain ⟨ob, es, ep, t, e, c⟩ := x; exact ⟨ob, es, ep, t, k _ _ (.inl rfl) e, c⟩
 | ins C dx fs =>
  obtain ⟨d, z, ne, e, mA, ⟨od, es, ep, e2, c⟩, r⟩ := x
  exact ⟨ho _ d, z, ne, k _ _ (.inl rfl) e, mA, ⟨od, es, ep, k _ _ (.inr d) e2, c⟩, r⟩
 | own y => obtain ⟨ob, e⟩ := x; exact ⟨ob, k _ _ (.inl rfl) e⟩
 | xd fs => obtain ⟨mA, ⟨od, es, ep, e, c⟩, r⟩ := x; exact ⟨mA, ⟨od, es, ep, k _ _ (.inl rfl) e, c⟩, r⟩
 | rng lo hi => obtain ⟨t, u, v, e⟩ := x; exact ⟨t, u, v, k _ _ (.inl rfl) e⟩
 | frz ob u ih => obtain ⟨e, q⟩ := x; exact ⟨k _ _ (.inl rfl) e, ih q⟩
 | tbl ps =>
  have e : h.get? a = some { cls := .none, data := .fields ps } := x
  show h'.get? a = some { cls := .none, data := .fields ps }
  exact k a _ (.inl rfl) e
 | met f y =>
  have e : h.get? a = some (W.methodObj (.ref f) (.ref y)) := x
  show h'.get? a = some (W.methodObj (.ref f) (.ref y))
  exact k a _ (.inl rfl) e
 | ext φ => obtain ⟨p, ⟨o, e⟩, st⟩ := x; exact ⟨st _ _ p fun o q => k _ _ (.inl rfl) q, ⟨o, k _ _ (.inl rfl) e⟩, st⟩
theorem HOk.lt (x : HOk P w H h) (e : H a = some o) : a < h.objs.size := (x a o e).lt
theorem HOk.fresh (x : HOk P w H h) (e : h.objs.size ≤ a) : H a = none := by
 cases q : H a with
 | none => rfl
 | some u => exact absurd (Nat.lt_of_lt_of_le (x.lt q) e) (Nat.lt_irrefl _)
theorem HOk.kept (x : HOk P w H h) (k : ∀ b u, h.get? b = some u → h'.get? b = some u) : HOk P w H h' := fun a o e =>
 (x a o e).stay (fun b u _ q => k b u q) (fun _ q => q) fun _ _ q => q
theorem HOk.laid (x : HOk P w H h) (k : ∀ b u, h.get? b = some u → h'.get? b = some u) (hp : h.objs.size ≤ a) (new : ObjOk P w (upd H a o) h' a o) : HOk P w (upd H a o) h' := fun b u e => by
 have hn := x.fresh hp
 by_cases hb : b = a
 ·subst hb; rw [zQ] at e; cases e; exact new
 ·rw [uX hb] at e
  exact (x b u e).stay (fun c v _ q => k c v q) (fun c q => by rw [uX (uZ q hn)]; exact q) fun c xs q => by rw [uX (uZ q hn)]; exact q
end
noncomputable def Rd (H : Hp) (a : Addr) (u : HO) : Prop := H a = some u ∨ ∃ o, H a = some (.frz o u)
theorem Rd.ok {P : Program} {w : World} {H : Hp} {h : Heap} {a : Addr} {u : HO} (r : Rd H a u) (x : HOk P w H h) : ObjOk P w H h a u := by
 rcases r with r | ⟨o, r⟩
 ·exact x a u r
 ·obtain ⟨_, q⟩ := x a _ r
  exact q
noncomputable def Mut : Option HO → Prop
 | some (.lst _) => True
 | some (.dK _) => True
 | some (.dT _) => True
 | some (.set _ _) => True
 | some (.ins _ _ _) => True
 | some (.ext _) => True
 | _ => False
section
variable {P : Program} {w : World} {H : Hp} {h h' : Heap} {x e : Addr} {o' : HO}
theorem HOk.write (ok : HOk P w H h) (mu : Mut (H x)) (he : e = x ∨ H e = some (.own x)) (k : ∀ b u, b ≠ e → h.get? b = some u → h'.get? b = some u) (heo : ∃ u, h'.get? e = some u)
  (new : ObjOk P w (upd H x o') h' x o') : HOk P w (upd H x o') h' := fun b u q => by
 have nown : ∀ c y, H c = some (.own y) → c ≠ x := fun c y r z => by subst z; rw [r] at mu; exact mu
 have ntup : ∀ c xs, H c = some (.tup xs) → c ≠ x := fun c xs r z => by subst z; rw [r] at mu; exact mu
 by_cases hb : b = x
 ·subst hb; rw [zQ] at q; cases q; exact new
 ·rw [uX hb] at q
  by_cases hbe : b = e
  ·have q' : H b = some (.own x) := by
    rcases he with z | z
    ·exact absurd (hbe.trans z) hb
    ·rw [hbe]; exact z
   rw [q] at q'; cases q'
   obtain ⟨v, hv⟩ := heo
   exact ⟨v, by rw [hbe]; exact hv⟩
  ·refine (ok b u q).stay (fun c v hc r => k c v ?_ r) (fun c r => by rw [uX (nown c b r)]; exact r) fun c xs r => by rw [uX (ntup c xs r)]; exact r
   rcases hc with rfl | hc
   ·exact hbe
   ·rintro rfl
    rcases he with z | z
    ·exact nown c b hc z
    ·rw [hc] at z; cases z; exact hb rfl
end
structure Un (fs ex : List Addr) (H H' : Hp) (h h' : Heap) : Prop where
 keep : ∀ b o, h.get? b = some o → H b = none → b ∉ fs → b ∉ ex → h'.get? b = some o
 slot : ∀ b o, h.get? b = some o → H b = none → b ∈ fs → b ∉ ex → ∃ sl, h'.get? b = some { o with slots := sl }
 free : ∀ b o, h.get? b = some o → H b = none → b ∉ ex → H' b = none
 there : ∀ b o, h.get? b = some o → b ∉ ex → ∃ o', h'.get? b = some o'
 tups : ∀ b xs, H b = some (.tup xs) → H' b = some (.tup xs)
 frzs : ∀ b o u, H b = some (.frz o u) → H' b = some (.frz o u)
 tbls : ∀ b ps, H b = some (.tbl ps) → ∃ more, H' b = some (.tbl (ps ++ more))
section
variable {fs fs' ex ex' : List Addr} {H H1 H2 : Hp} {h h1 h2 h' : Heap} {a x e : Addr} {o : HO}
theorem Un.any (u : Un fs ex H H1 h h1) {b : Addr} {ob : Obj} (q : h.get? b = some ob) (n : H b = none) (hx : b ∉ ex) : ∃ sl, h1.get? b = some { ob with slots := sl } := by
 by_cases hb : b ∈ fs
 ·exact u.slot b ob q n hb hx
 ·exact ⟨ob.slots, u.keep b ob q n hb hx⟩
theorem Un.kept (k : ∀ b u, h.get? b = some u → h'.get? b = some u) : Un fs ex H H h h' :=
 ⟨fun b ob q _ _ _ => k b ob q, fun b ob q _ _ _ => ⟨ob.slots, k b ob q⟩, fun _ _ _ n _ => n, fun b ob q _ => ⟨ob, k b ob q⟩, fun _ _ q => q, fun _ _ _ q => q, fun _ ps q => ⟨#[], by rw [q]; simp⟩⟩
theorem Un.refl : Un fs ex H H h h := Un.kept fun _ _ q => q
theorem Un.laid (k : ∀ b u, h.get? b = some u → h'.get? b = some u) (hp : h.objs.size ≤ a) (hn : H a = none) : Un fs ex H (upd H a o) h h' where
 keep := fun b u q _ _ _ => k b u q
 slot := fun b u q _ _ _ => ⟨u.slots, k b u q⟩
 free := fun b u q n _ => by rw [uX (Nat.ne_of_lt (Nat.lt_of_lt_of_le (Heap.lt_size q) hp))]; exact n
 there := fun b u q _ => ⟨u, k b u q⟩
 tups := fun b xs q => by rw [uX (uZ q hn)]; exact q
 frzs := fun b u xs q => by rw [uX (uZ q hn)]; exact q
 tbls := fun b ps q => ⟨#[], by rw [uX (uZ q hn), q]; simp⟩
theorem Un.write (mu : Mut (H x)) (he : e = x ∨ H e = some (.own x)) (k : ∀ b u, b ≠ e → h.get? b = some u → h'.get? b = some u) (heo : ∃ u, h'.get? e = some u) : Un fs ex H (upd H x o) h h' := by
 have hx : ∀ b, H b = none → b ≠ x := fun b n z => by subst z; rw [n] at mu; exact mu
 have hb : ∀ b, H b = none → b ≠ e := fun b n z => by
  subst z
  rcases he with r | r
  ·exact hx b n r
  ·rw [n] at r; cases r
 have hm : ∀ b u, H b = some u → ¬ Mut (some u) → b ≠ x := fun b u q nm z => by subst z; rw [q] at mu; exact nm mu
 refine ⟨fun b u q n _ _ => k b u (hb b n) q, fun b u q n _ _ => ⟨u.slots, k b u (hb b n) q⟩, fun b u q n _ => by rw [uX (hx b n)]; exact n, fun b u q _ => ?_,
  fun b xs q => by rw [uX (hm b _ q fun z => z)]; exact q, fun b u xs q => by rw [uX (hm b _ q fun z => z)]; exact q, fun b ps q => ⟨#[], by rw [uX (hm b _ q fun z => z), q]; simp⟩⟩
 by_cases hbe : b = e
 ·subst hbe; exact heo
 ·exact ⟨u, k b u hbe q⟩
end
noncomputable def trk (h : Heap) (H : Hp) : List Addr := (List.range h.objs.size).filter fun a => (H a).isSome
noncomputable def Xv (h : Heap) (H : Hp) : Heap := W.hideAll h (trk h H)
theorem KM (h : Heap) (H : Hp) : (Xv h H).objs.size = h.objs.size := W.hideAll_size _ _
theorem Wb {h : Heap} {H : Hp} {b : Addr} {o : Obj} (e : h.get? b = some o) (n : H b = none) : (Xv h H).get? b = some o :=
 W.hideAll_get _ e fun hm => by
  have q : (H b).isSome = true := (List.mem_filter.mp hm).2
  rw [n] at q; simp at q
theorem of_hidT {h : Heap} {H : Hp} {b : Addr} {o : Obj} (e : (Xv h H).get? b = some o) : h.get? b = some o ∧ H b = none := by
 have e' : h.get? b = some o := W.of_hideAll (trk h H) e
 refine ⟨e', ?_⟩
 cases q : H b with
 | none => rfl
 | some x =>
  have hm : b ∈ trk h H := List.mem_filter.mpr ⟨List.mem_range.mpr (Heap.lt_size e'), by simp [q]⟩
  have z : (Xv h H).get? b = none := W.hideAll_none (trk h H) hm
  rw [z] at e; cases e
noncomputable def allNews (g h : Heap) (L : Addr) : List (Addr × Obj) := (List.range h.objs.size).filterMap fun a => if a = L ∨ (g.get? a).isSome = true then none else (h.get? a).map fun o => (a, o)
noncomputable def gY (g h : Heap) (L d : Addr) : List (Addr × Obj) := (allNews g h L).filter fun p => decide (p.1 ≠ d)
end L2
namespace L2
open PySem PySem.Spec PyProof.Rows
structure Mod (K : W.Frag) (mg : Str → Option Value) (base : Heap) : Prop where
 kin : K.In base
 glob : base.Ns mainGlobals mg
 blt : ∃ mb, base.Ns builtinsNs mb ∧ ∀ x : Str, x ≠ "__name__" → mb x = bootBuiltins x
 nolimit : base.NoLimit
structure Cx where
 prog : Program
 w : World
 K : W.Frag
 mg : Str → Option Value
 base : Heap
 A : Around
 N : List Str
 s₀ : Shared
 H₀ : Hp
 env : Env
 outer : List Env
 stack : List Env
 ex : List Addr
 fn : Str → Bool
 calm : Bool
 pn : List (Addr × Obj)
 xe : Value → Shared → Prop
noncomputable def frs (l : List Env) : List Addr := l.filterMap (·.frame)
noncomputable abbrev Cx.fs (X : Cx) : List Addr := frs X.outer
noncomputable def Vis (sc : Scope) (x : Str) : Prop := sc.names.lookup x = some .local ∨ sc.names.lookup x = some .cell ∨ sc.names.lookup x = some .free
noncomputable def Loc (sc : Scope) (x : Str) : Prop := sc.names.lookup x = some .local ∨ sc.names.lookup x = some .cell
noncomputable def Look (env : Env) (h : Heap) (m : Str → Option Value) (x : Str) (u : Value) : Prop :=
 (env.kindOf x = some .local ∧ m x = some u) ∨ ((env.kindOf x = some .cell ∨ env.kindOf x = some .free) ∧ ∃ c, env.cells.lookup x = some c ∧ h.IsCell c (some u))
structure Cx.Ok (X : Cx) : Prop where
 mod : Mod X.K X.mg X.base
 kind : X.env.scope.kind = .function
 glob : X.env.globals = mainGlobals
 blt : X.env.builtins = builtinsNs
 above : X.s₀.heap.objs.size ≤ X.env.locals
 inj : ∀ x y c, X.env.cells.lookup x = some c → X.env.cells.lookup y = some c → x = y
 has : ∀ x, (X.env.kindOf x = some .cell ∨ X.env.kindOf x = some .free) → ∃ c, X.env.cells.lookup x = some c
 cab : ∀ x c, X.fn x = true → X.env.cells.lookup x = some c → X.s₀.heap.objs.size ≤ c
 hd : X.calm = true → X.A.handled = none
 frames : X.A.frames = some X.stack
 stk : X.stack = X.outer ∨ (X.stack = X.env :: X.outer ∧ X.env.frame = some X.env.locals)
 exf : ∀ b ∈ X.ex, b ≠ X.env.locals ∧ ∀ x c, X.env.cells.lookup x = some c → c ≠ b
 bs : ∀ b o, X.base.get? b = some o → X.s₀.heap.get? b = some o ∧ X.H₀ b = none
 bsz : X.base.objs.size ≤ X.s₀.heap.objs.size
 noex : ∀ b o, X.base.get? b = some o → b ∉ X.ex
 exfs : ∀ b ∈ X.ex, b ∉ X.fs
 funs : X.s₀.heap.FunFrames X.base X.outer
 frf : ∀ b ∈ X.fs, X.H₀ b = none
structure Inv (X : Cx) (pins : List (Addr × Obj)) (σ : List (Option V)) (H : Hp) (s : Shared) : Prop where
 ok : X.Ok
 os : s.os = X.s₀.os
 bare : AllBare s.gens
 base : Un X.fs X.ex X.H₀ H X.s₀.heap s.heap
 loc : ∃ m, s.heap.Ns X.env.locals m ∧ ∀ (i : Nat) (x : Str) (v : V), X.N[i]? = some x → σ[i]? = some (some v) → Vis X.env.scope x → ∃ u, RelV v u ∧ Look X.env s.heap m x u
 cell : ∀ x c, X.env.cells.lookup x = some c → ∃ v, s.heap.IsCell c v
 free : H X.env.locals = none
 freeC : ∀ x c, X.env.cells.lookup x = some c → H c = none
 pin : ∀ p ∈ X.pn ++ pins, s.heap.get? p.1 = some p.2 ∧ H p.1 = none ∧ p.1 ≠ X.env.locals ∧ p.1 ∉ X.fs ∧ ∀ v, p.2.data ≠ .cell v
 hok : HOk X.prog X.w H s.heap
 len : σ.length = X.N.length
section
variable {X : Cx} {pins : List (Addr × Obj)} {σ : List (Option V)} {H H' : Hp} {s : Shared} {h' : Heap}
theorem Cx.Ok.nofr (ok : X.Ok) {b : Addr} {o : Obj} (e : X.base.get? b = some o) : b ∉ X.fs := fun hb => by
 have := (ok.funs.mem hb).1
 rw [e] at this; cases this
theorem Inv.bs (I : Inv X pins σ H s) : ∀ b o, X.base.get? b = some o → s.heap.get? b = some o ∧ H b = none := fun b o e =>
 ⟨I.base.keep b o (I.ok.bs b o e).1 (I.ok.bs b o e).2 (I.ok.nofr e) (I.ok.noex b o e), I.base.free b o (I.ok.bs b o e).1 (I.ok.bs b o e).2 (I.ok.noex b o e)⟩
theorem Inv.bk (I : Inv X pins σ H s) : ∀ b o, X.base.get? b = some o → s.heap.get? b = some o := fun b o e => (I.bs b o e).1
theorem Inv.mod (I : Inv X pins σ H s) : Mod X.K X.mg X.base := I.ok.mod
theorem Inv.kIn (I : Inv X pins σ H s) : X.K.In s.heap := I.ok.mod.kin.keeps I.bk
theorem Inv.fr (I : Inv X pins σ H s) : ∃ m, Fr X.base X.env.locals s.heap m :=
 let ⟨m, hn, _⟩ := I.loc
 ⟨m, hn, I.bk, Nat.le_trans I.ok.bsz I.ok.above⟩
theorem Inv.lt (I : Inv X pins σ H s) : X.env.locals < s.heap.objs.size := let ⟨_, hn, _⟩ := I.loc; hn.lt
theorem Inv.sz (I : Inv X pins σ H s) : X.s₀.heap.objs.size ≤ s.heap.objs.size := Nat.le_trans I.ok.above (Nat.le_of_lt I.lt)
theorem Inv.nofs (I : Inv X pins σ H s) {a : Addr} (h : s.heap.objs.size ≤ a) : a ∉ X.fs := fun hb => by
 obtain ⟨_, o, ho, _⟩ := I.ok.funs.mem hb
 exact absurd (Nat.lt_of_lt_of_le (Heap.lt_size ho) (Nat.le_trans I.sz h)) (Nat.lt_irrefl _)
theorem Inv.cne (I : Inv X pins σ H s) : ∀ x c, X.env.cells.lookup x = some c → c ≠ X.env.locals := fun x c e z => by
 obtain ⟨v, o, ho, hd⟩ := I.cell x c e
 obtain ⟨m, ⟨o', es, ep, ho', hd', _⟩, _⟩ := I.loc
 rw [z, ho'] at ho; cases ho; rw [hd'] at hd; cases hd
theorem Inv.funs (I : Inv X pins σ H s) : s.heap.FunFrames X.base X.outer := by
 have all : ∀ (l : List Env), (∀ b ∈ frs l, b ∈ X.fs) → X.s₀.heap.FunFrames X.base l → s.heap.FunFrames X.base l := by
  intro l
  induction l with
  | nil => intro _ _; trivial
  | cons env r ih =>
   intro hs hl
   obtain ⟨hk, ⟨L, o, hf, hn, ho, hd⟩, hr⟩ := hl
   have hL : L ∈ X.fs := hs L (by unfold frs; rw [List.filterMap_cons, hf]; exact List.mem_cons_self)
   obtain ⟨sl, e⟩ := I.base.slot L o ho (I.ok.frf L hL) hL fun z => I.ok.exfs L z hL
   exact ⟨hk, ⟨L, _, hf, hn, e, hd⟩, ih (fun b hb => hs b (by unfold frs; rw [List.filterMap_cons, hf]; exact List.mem_cons_of_mem _ hb)) hr⟩
 exact all X.outer (fun _ hb => hb) I.ok.funs
theorem Inv.stack (I : Inv X pins σ H s) : s.heap.FunFrames X.base X.stack := by
 rcases I.ok.stk with e | ⟨e, hf⟩
 ·rw [e]; exact I.funs
 ·rw [e]
  obtain ⟨m, hn, _⟩ := I.loc
  refine .cons (by rw [I.ok.kind]; decide) hf hn ?_ I.funs
  exact Heap.get?_none_of_le (Nat.le_trans I.ok.bsz I.ok.above)
theorem Inv.stkSub (I : Inv X pins σ H s) : ∀ b ∈ frs X.stack, b ∈ X.env.locals :: X.fs := fun b hb => by
 rcases I.ok.stk with e | ⟨e, hf⟩
 ·rw [e] at hb; exact List.mem_cons_of_mem _ hb
 ·rw [e] at hb
  unfold frs at hb
  rw [List.filterMap_cons, hf] at hb
  exact hb
theorem Inv.stkFree (I : Inv X pins σ H s) : ∀ b ∈ frs X.stack, H b = none := fun b hb => by
 rcases List.mem_cons.mp (I.stkSub b hb) with e | hb
 ·rw [e]; exact I.free
 ·obtain ⟨_, o, ho, _⟩ := I.ok.funs.mem hb
  exact I.base.free b o ho (I.ok.frf b hb) fun z => I.ok.exfs b z hb
theorem Inv.step {g' : Array GenState} {t' : Nat} {d' : Drawn} {ch : List Addr} (I : Inv X pins σ H s)
  (hch : ∀ b ∈ ch, (b ∈ X.ex ∨ X.s₀.heap.objs.size ≤ b) ∧ b ≠ X.env.locals ∧ (∀ x c, X.env.cells.lookup x = some c → c ≠ b) ∧ ∀ p ∈ X.pn ++ pins, p.1 ≠ b)
  (keep : ∀ b o, b ≠ X.env.locals → b ∉ X.fs → b ∉ ch → s.heap.get? b = some o → H b = none → h'.get? b = some o)
  (slot : ∀ b o, b ≠ X.env.locals → b ∈ X.fs → b ∉ ch → s.heap.get? b = some o → H b = none → ∃ sl, h'.get? b = some { o with slots := sl }) (free : ∀ b o, b ∉ ch → s.heap.get? b = some o → H b = none → H' b = none)
  (there : ∀ b o, b ∉ ch → s.heap.get? b = some o → ∃ o', h'.get? b = some o')
  (tups : ∀ b xs, H b = some (.tup xs) → H' b = some (.tup xs)) (frzs : ∀ b o u, H b = some (.frz o u) → H' b = some (.frz o u)) (tbls : ∀ b ps, H b = some (.tbl ps) → ∃ more, H' b = some (.tbl (ps ++ more)))
  (ns : ∀ m, s.heap.Ns X.env.locals m → h'.Ns X.env.locals m) (hok : HOk X.prog X.w H' h') (hg : AllBare g') :
  Inv X pins σ H' { s with heap := h', gens := g', drawn := d', toks := t' } := by
 have neL : ∀ b o, X.s₀.heap.get? b = some o → b ≠ X.env.locals := fun b o e => Nat.ne_of_lt (Nat.lt_of_lt_of_le (Heap.lt_size e) I.ok.above)
 have neC : ∀ b o, X.s₀.heap.get? b = some o → b ∉ X.ex → b ∉ ch := fun b o e hx hb => by
  rcases (hch b hb).1 with z | z
  ·exact hx z
  ·exact absurd (Nat.lt_of_lt_of_le (Heap.lt_size e) z) (Nat.lt_irrefl _)
 have cellK : ∀ x c, X.env.cells.lookup x = some c → ∀ v, s.heap.IsCell c v → h'.IsCell c v := fun x c e v ⟨o, ho, hd⟩ => by
  have nch : c ∉ ch := fun z => (hch c z).2.2.1 x c e rfl
  by_cases hc : c ∈ X.fs
  ·obtain ⟨sl, q⟩ := slot c o (I.cne x c e) hc nch ho (I.freeC x c e)
   exact ⟨_, q, hd⟩
  ·exact ⟨o, keep c o (I.cne x c e) hc nch ho (I.freeC x c e), hd⟩
 refine ⟨I.ok, I.os, hg, ⟨fun b o e n hb hx => ?_, fun b o e n hb hx => ?_, fun b o e n hx => ?_, fun b o e hx => ?_, fun b xs e => tups b xs (I.base.tups b xs e), fun b o xs e => frzs b o xs (I.base.frzs b o xs e), fun b ps e => ?_⟩, ?_, fun x c e => ?_, ?_, fun x c e => ?_, fun p hp => ?_, hok, I.len⟩
 ·exact keep b o (neL b o e) hb (neC b o e hx) (I.base.keep b o e n hb hx) (I.base.free b o e n hx)
 ·obtain ⟨sl, e1⟩ := I.base.slot b o e n hb hx
  obtain ⟨sl', e2⟩ := slot b _ (neL b o e) hb (neC b o e hx) e1 (I.base.free b o e n hx)
  exact ⟨sl', e2⟩
 ·obtain ⟨o', e1⟩ := I.base.there b o e hx
  exact free b o' (neC b o e hx) e1 (I.base.free b o e n hx)
 ·obtain ⟨o', e1⟩ := I.base.there b o e hx
  exact there b o' (neC b o e hx) e1
 ·obtain ⟨m1, e1⟩ := I.base.tbls b ps e
  obtain ⟨m2, e2⟩ := tbls b _ e1
  exact ⟨m1 ++ m2, by rw [e2, Array.append_assoc]⟩
 ·obtain ⟨m, hn, hl⟩ := I.loc
  refine ⟨m, ns m hn, fun i x v e1 e2 e3 => ?_⟩
  obtain ⟨u, r, l⟩ := hl i x v e1 e2 e3
  refine ⟨u, r, ?_⟩
  rcases l with l | ⟨k, c, e, z⟩
  ·exact .inl l
  ·exact .inr ⟨k, c, e, cellK x c e _ z⟩
 ·obtain ⟨v, z⟩ := I.cell x c e
  exact ⟨v, cellK x c e v z⟩
 ·obtain ⟨m, ⟨o, _, _, ho, _⟩, _⟩ := I.loc
  exact free _ o (fun z => (hch _ z).2.1 rfl) ho I.free
 ·obtain ⟨v, o, ho, hd⟩ := I.cell x c e
  exact free c o (fun z => (hch c z).2.2.1 x c e rfl) ho (I.freeC x c e)
 ·obtain ⟨e, n, ne, nf, d⟩ := I.pin p hp
  have nch : p.1 ∉ ch := fun z => (hch p.1 z).2.2.2 p hp rfl
  exact ⟨keep p.1 p.2 ne nf nch e n, free p.1 p.2 nch e n, ne, nf, d⟩
theorem Inv.un {t' : Nat} (I : Inv X pins σ H s) (u : Un X.fs [] H H' s.heap h') (hok : HOk X.prog X.w H' h') : Inv X pins σ H' { s with heap := h', toks := t' } := by
 obtain ⟨m, ⟨o, es, ep, ho, r⟩, _⟩ := id I.loc
 obtain ⟨sl, hL⟩ := u.any ho I.free (by simp)
 exact I.step (g' := s.gens) (d' := s.drawn) (ch := []) (fun _ z => nomatch z) (fun b o _ hb _ e n => u.keep b o e n hb (by simp)) (fun b o _ hb _ e n => u.slot b o e n hb (by simp)) (fun b o _ e n => u.free b o e n (by simp)) (fun b o _ e => u.there b o e (by simp)) u.tups u.frzs u.tbls (fun m' hm => by
  obtain ⟨o', es', ep', ho', r'⟩ := hm
  rw [ho] at ho'; cases ho'
  exact ⟨_, es', ep', hL, r'⟩) hok I.bare
theorem Inv.call {g' : Array GenState} {t' : Nat} {d' : Drawn} {ch : List Addr} (I : Inv X pins σ H s) (u : Un (frs X.stack) ch H H' s.heap h') (hok : HOk X.prog X.w H' h') (hg : AllBare g')
  (hch : ∀ b ∈ ch, (b ∈ X.ex ∨ X.s₀.heap.objs.size ≤ b) ∧ b ≠ X.env.locals ∧ (∀ x c, X.env.cells.lookup x = some c → c ≠ b) ∧ ∀ p ∈ X.pn ++ pins, p.1 ≠ b) :
  Inv X pins σ H' { s with heap := h', gens := g', drawn := d', toks := t' } := by
 obtain ⟨m, ⟨o, es, ep, ho, r⟩, _⟩ := id I.loc
 obtain ⟨sl, hL⟩ := u.any ho I.free fun z => (hch _ z).2.1 rfl
 exact I.step (ch := ch) hch (fun b o hL hb hc e n => u.keep b o e n (fun z => (List.mem_cons.mp (I.stkSub b z)).elim hL hb) hc) (fun b o _ _ hc e n => u.any e n hc) (fun b o hc e n => u.free b o e n hc) (fun b o hc e => u.there b o e hc) u.tups u.frzs u.tbls (fun m' hm => by
  obtain ⟨o', es', ep', ho', r'⟩ := hm
  rw [ho] at ho'; cases ho'
  exact ⟨_, es', ep', hL, r'⟩) hok hg
theorem Inv.turned {t' : Nat} {it : Addr} (I : Inv X pins σ H s) (k : ∀ b o, b ≠ it → s.heap.get? b = some o → h'.get? b = some o) (hn : H it = none) (hL : it ≠ X.env.locals)
  (h1 : it ∈ X.ex ∨ X.s₀.heap.objs.size ≤ it) (h2 : ∀ x c, X.env.cells.lookup x = some c → c ≠ it) (h3 : ∀ p ∈ X.pn ++ pins, p.1 ≠ it) : Inv X pins σ H { s with heap := h', toks := t' } := by
 have nit : ∀ b u, H b = some u → b ≠ it := fun b u e z => by rw [z, hn] at e; cases e
 refine I.step (g' := s.gens) (d' := s.drawn) (ch := [it]) (fun b hb => ?_) (fun b o _ _ hc e _ => k b o (fun z => hc (by simp [z])) e) (fun b o _ _ hc e _ => ⟨o.slots, k b o (fun z => hc (by simp [z])) e⟩) (fun _ _ _ _ n => n)
  (fun b o hc e => ⟨o, k b o (fun z => hc (by simp [z])) e⟩) (fun _ _ e => e) (fun _ _ _ e => e) (fun b ps e => ⟨#[], by rw [e]; simp⟩) (fun m hm => ?_) (fun b u e => ?_) I.bare
 ·have e : b = it := by simpa using hb
  subst e
  exact ⟨h1, hL, h2, h3⟩
 ·obtain ⟨o, es, ep, ho, r⟩ := hm
  exact ⟨o, es, ep, k _ o (Ne.symm hL) ho, r⟩
 ·refine (I.hok b u e).stay (fun c v hc q => k c v ?_ q) (fun _ q => q) fun _ _ q => q
  rcases hc with z | z
  ·rw [z]; exact nit b u e
  ·exact nit c _ z
theorem Inv.tok (I : Inv X pins σ H s) (t : Nat) : Inv X pins σ H { s with toks := t } := I.un (h' := s.heap) (t' := t) Un.refl I.hok
theorem Inv.kept {t' : Nat} (I : Inv X pins σ H s) (k : ∀ b u, s.heap.get? b = some u → h'.get? b = some u) : Inv X pins σ H { s with heap := h', toks := t' } := I.un (Un.kept k) (I.hok.kept k)
theorem Inv.laid {a : Addr} {o : HO} {t' : Nat} (I : Inv X pins σ H s) (k : ∀ b u, s.heap.get? b = some u → h'.get? b = some u) (hp : s.heap.objs.size ≤ a) (new : ObjOk X.prog X.w (upd H a o) h' a o) :
  Inv X pins σ (upd H a o) { s with heap := h', toks := t' } := I.un (Un.laid k hp (I.hok.fresh hp)) (I.hok.laid k hp new)
theorem Inv.write {x e : Addr} {o : HO} {t' : Nat} (I : Inv X pins σ H s) (mu : Mut (H x)) (he : e = x ∨ H e = some (.own x)) (k : ∀ b u, b ≠ e → s.heap.get? b = some u → h'.get? b = some u) (heo : ∃ u, h'.get? e = some u)
  (new : ObjOk X.prog X.w (upd H x o) h' x o) : Inv X pins σ (upd H x o) { s with heap := h', toks := t' } := I.un (Un.write mu he k heo) (I.hok.write mu he k heo new)
theorem Inv.weak {σ' : List (Option V)} (I : Inv X pins σ H s) (hl : σ'.length = σ.length) (w : ∀ (i : Nat) v, σ'[i]? = some (some v) → σ[i]? = some (some v)) : Inv X pins σ' H s :=
 ⟨I.ok, I.os, I.bare, I.base, let ⟨m, hn, hl'⟩ := I.loc; ⟨m, hn, fun i x v e1 e2 e3 => hl' i x v e1 (w i v e2) e3⟩, I.cell, I.free, I.freeC, I.pin, I.hok, hl.trans I.len⟩
theorem Inv.pins_of {pins' : List (Addr × Obj)} (I : Inv X pins σ H s) (h : ∀ p ∈ pins', s.heap.get? p.1 = some p.2 ∧ H p.1 = none ∧ p.1 ≠ X.env.locals ∧ p.1 ∉ X.fs ∧ ∀ v, p.2.data ≠ .cell v) : Inv X pins' σ H s :=
 ⟨I.ok, I.os, I.bare, I.base, I.loc, I.cell, I.free, I.freeC, fun p hp => (List.mem_append.mp hp).elim (fun z => I.pin p (List.mem_append_left _ z)) (h p), I.hok, I.len⟩
theorem X5 {N : List Str} (hN : N.Nodup) {i j : Nat} {x : Str} (a : N[i]? = some x) (b : N[j]? = some x) : i = j := by
 obtain ⟨h1, e1⟩ := List.getElem?_eq_some_iff.mp a
 obtain ⟨h2, e2⟩ := List.getElem?_eq_some_iff.mp b
 exact (List.getElem_inj hN).mp (e1.trans e2.symm)
theorem QH {M : Model} {A : Around} {E : Value → Shared → Prop} {i : Nat} {x : Str} {v : V} {u : Value} {Q : Unit → Shared → Prop} (I : Inv X pins σ H s) (hN : X.N.Nodup) (hi : X.N[i]? = some x) (hx : Loc X.env.scope x) (r : RelV v u)
  (h : ∀ s', Inv X pins (σ.set i (some v)) H s' → (∃ a, Heap.SameBut a s.heap s'.heap ∧ (a = X.env.locals ∨ X.env.cells.lookup x = some a)) → Q () s') (hf : X.fn x = true ∨ X.env.scope.names.lookup x = some .local := by first | exact .inl rfl | exact .inr rfl | assumption) : wpAny M A (storeName X.env x u) Q E s := by
 obtain ⟨m, hn, hl⟩ := id I.loc
 have hcls : (X.env.scope.kind == .class || (X.env.scope.kind == .module && X.env.locals != X.env.globals)) = false := by rw [I.ok.kind]; rfl
 have hiσ : i < σ.length := by rw [I.len]; exact (List.getElem?_eq_some_iff.mp hi).1
 have cne := I.cne
 have tracked : ∀ {a : Addr} {h' : Heap}, (∃ o, s.heap.get? a = some o ∧ H a = none) → Heap.SameBut a s.heap h' → HOk X.prog X.w H h' := fun {a h'} ha hs b ob e => by
  obtain ⟨_, _, hfree⟩ := ha
  refine (I.hok b ob e).stay (fun c w' hc q => (hs.2 c ?_).trans q) (fun _ q => q) fun _ _ q => q
  rintro rfl
  rcases hc with rfl | hc
  ·rw [hfree] at e; cases e
  ·rw [hfree] at hc; cases hc
 rcases hx with hk | hk
 ·refine wpAny_storeName_local hk hn (fun h' hn' hs => ?_) hcls
  obtain ⟨oL, _, _, hoL, _⟩ := id hn
  refine h _ ⟨I.ok, I.os, I.bare, ⟨fun b o e n hb hx => ?_, fun b o e n hb hx => ?_, I.base.free, fun b o e hx => ?_, I.base.tups, I.base.frzs, I.base.tbls⟩, ⟨_, hn', fun j y v' e1 e2 e3 => ?_⟩, fun y c e => ?_, I.free, I.freeC, fun p hp => ?_, tracked ⟨oL, hoL, I.free⟩ hs, by simpa using I.len⟩ ⟨_, hs, .inl rfl⟩
  ·exact (hs.2 b (Nat.ne_of_lt (Nat.lt_of_lt_of_le (Heap.lt_size e) I.ok.above))).trans (I.base.keep b o e n hb hx)
  ·obtain ⟨sl, e1⟩ := I.base.slot b o e n hb hx
   exact ⟨sl, (hs.2 b (Nat.ne_of_lt (Nat.lt_of_lt_of_le (Heap.lt_size e) I.ok.above))).trans e1⟩
  ·obtain ⟨o', e1⟩ := I.base.there b o e hx
   exact ⟨o', (hs.2 b (Nat.ne_of_lt (Nat.lt_of_lt_of_le (Heap.lt_size e) I.ok.above))).trans e1⟩
  ·by_cases hj : j = i
   ·subst hj
    rw [hi] at e1; cases e1
    rw [List.getElem?_set_self hiσ] at e2
    cases e2
    exact ⟨u, r, .inl ⟨hk, by simp⟩⟩
   ·rw [List.getElem?_set_ne (Ne.symm hj)] at e2
    obtain ⟨u', r', q⟩ := hl j y v' e1 e2 e3
    refine ⟨u', r', ?_⟩
    rcases q with ⟨k, e⟩ | ⟨k, c, e, z⟩
    ·refine .inl ⟨k, ?_⟩
     have : y ≠ x := fun e => hj (X5 hN e1 (e ▸ hi))
     simp [this, e]
    ·exact .inr ⟨k, c, e, z.sameBut hs (cne y c e)⟩
  ·obtain ⟨w', z⟩ := I.cell y c e
   exact ⟨w', z.sameBut hs (cne y c e)⟩
  ·obtain ⟨e, n, ne, nf, d⟩ := I.pin p hp
   exact ⟨(hs.2 p.1 ne).trans e, n, ne, nf, d⟩
 ·have hfn : X.fn x = true := by
   rcases hf with z | z
   ·exact z
   ·rw [z] at hk; cases hk
  obtain ⟨c, hc⟩ := I.ok.has x (.inl hk)
  obtain ⟨w', z⟩ := I.cell x c hc
  refine wpAny_storeName_cell I.ok.kind hk hc z (fun h' hc' hs => ?_)
  obtain ⟨oc, hoc, hocd⟩ := id z
  refine h { s with heap := h' } ⟨I.ok, I.os, I.bare, ⟨fun b o e n hb hx => ?_, fun b o e n hb hx => ?_, I.base.free, fun b o e hx => ?_, I.base.tups, I.base.frzs, I.base.tbls⟩, ⟨m, hn.sameBut hs (Ne.symm (cne x c hc)), fun j y v' e1 e2 e3 => ?_⟩, fun y c' e => ?_, I.free, I.freeC, fun p hp => ?_, tracked ⟨oc, hoc, I.freeC x c hc⟩ hs, by simpa using I.len⟩ ⟨c, hs, .inr hc⟩
  ·exact (hs.2 b (Nat.ne_of_lt (Nat.lt_of_lt_of_le (Heap.lt_size e) (I.ok.cab x c hfn hc)))).trans (I.base.keep b o e n hb hx)
  ·obtain ⟨sl, e1⟩ := I.base.slot b o e n hb hx
   exact ⟨sl, (hs.2 b (Nat.ne_of_lt (Nat.lt_of_lt_of_le (Heap.lt_size e) (I.ok.cab x c hfn hc)))).trans e1⟩
  ·obtain ⟨o', e1⟩ := I.base.there b o e hx
   exact ⟨o', (hs.2 b (Nat.ne_of_lt (Nat.lt_of_lt_of_le (Heap.lt_size e) (I.ok.cab x c hfn hc)))).trans e1⟩
  ·by_cases hj : j = i
   ·subst hj
    rw [hi] at e1; cases e1
    rw [List.getElem?_set_self hiσ] at e2
    cases e2
    exact ⟨u, r, .inr ⟨.inl hk, c, hc, hc'⟩⟩
   ·rw [List.getElem?_set_ne (Ne.symm hj)] at e2
    obtain ⟨u', r', q⟩ := hl j y v' e1 e2 e3
    refine ⟨u', r', ?_⟩
    rcases q with q | ⟨k, c', e, z'⟩
    ·exact .inl q
    ·refine .inr ⟨k, c', e, z'.sameBut hs ?_⟩
     rintro rfl
     exact hj (X5 hN e1 (I.ok.inj _ _ _ e hc ▸ hi))
  ·by_cases hcc : c' = c
   ·subst hcc; exact ⟨_, hc'⟩
   ·obtain ⟨w2, z2⟩ := I.cell y c' e
    exact ⟨w2, z2.sameBut hs hcc⟩
  ·obtain ⟨e, n, ne, nf, d⟩ := I.pin p hp
   refine ⟨(hs.2 p.1 ?_).trans e, n, ne, nf, d⟩
   intro q
   rw [q, hoc] at e
   have q' : oc = p.2 := Option.some.inj e
   exact d w' (by rw [← q']; exact hocd)
theorem vE {M : Model} {A : Around} {E : Value → Shared → Prop} {i : Nat} {x : Str} {v : V} {u : Value} {Q : Unit → Shared → Prop} (I : Inv X pins σ H s) (hN : X.N.Nodup) (hi : X.N[i]? = some x) (hx : Loc X.env.scope x) (r : RelV v u)
  (h : ∀ s', Inv X pins (σ.set i (some v)) H s' → Q () s') (hf : X.fn x = true ∨ X.env.scope.names.lookup x = some .local := by first | exact .inl rfl | exact .inr rfl | assumption) : wpAny M A (storeName X.env x u) Q E s :=
 QH I hN hi hx r (fun s' I' _ => h s' I') hf
end
noncomputable abbrev XK := Value → Option Addr → Hp → Prop
noncomputable abbrev St := List (Option V)
noncomputable abbrev VK := V → Hp → Prop
noncomputable abbrev TE := St → Hp → VK → Prop
noncomputable abbrev TT := St → Hp → (Bool → Hp → Prop) → Prop
noncomputable abbrev TA := St → Hp → (List V → Hp → Prop) → Prop
structure ZP where
 nx : St → Hp → Prop
 rt : VK
 bk : St → Hp → Prop := fun _ _ => False
 ct : St → Hp → Prop := fun _ _ => False
noncomputable abbrev TS := ZP → St → Hp → Prop
noncomputable def EP (X : Cx) (pins : List (Addr × Obj)) (σ : St) (Q : VK) (u : Value) (s' : Shared) : Prop := ∃ v H', Inv X pins σ H' s' ∧ RelV v u ∧ Q v H'
noncomputable def TP (X : Cx) (pins : List (Addr × Obj)) (σ : St) (Q : Bool → Hp → Prop) (b : Bool) (s' : Shared) : Prop := ∃ H', Inv X pins σ H' s' ∧ Q b H'
noncomputable def AP (X : Cx) (pins : List (Addr × Obj)) (σ : St) (Q : List V → Hp → Prop) (us : List Value) (s' : Shared) : Prop := ∃ vs H', Inv X pins σ H' s' ∧ Vals vs us ∧ Q vs H'
noncomputable def SP (X : Cx) (pins : List (Addr × Obj)) (D : ZP) (f : Flow) (s' : Shared) : Prop :=
 match f with
 | .next => ∃ σ' H', Inv X pins σ' H' s' ∧ D.nx σ' H'
 | .brk => ∃ σ' H', Inv X pins σ' H' s' ∧ D.bk σ' H'
 | .cont => ∃ σ' H', Inv X pins σ' H' s' ∧ D.ct σ' H'
 | .ret u => ∃ v σ' H', Inv X pins σ' H' s' ∧ RelV v u ∧ D.rt v H'
noncomputable def PE (X : Cx) (e : Expr) (t : TE) : Prop :=
 ∀ (pins : List (Addr × Obj)) (s : Shared) (σ : St) (H : Hp) (Q : VK), Inv X pins σ H s → t σ H Q → wpAny (model X.prog X.w) X.A (eval e X.env) (EP X pins σ Q) X.xe s
noncomputable def PT (X : Cx) (e : Expr) (t : TT) : Prop :=
 ∀ (pins : List (Addr × Obj)) (s : Shared) (σ : St) (H : Hp) (Q : Bool → Hp → Prop), Inv X pins σ H s → t σ H Q → wpAny (model X.prog X.w) X.A (isTrue e X.env (eval e X.env)) (TP X pins σ Q) X.xe s
noncomputable def PW (X : Cx) (e : Expr) (t : TT) : Prop :=
 ∀ (whole : Sem Value) (pins : List (Addr × Obj)) (s : Shared) (σ : St) (H : Hp) (Q : Bool → Hp → Prop), Inv X pins σ H s → t σ H Q → wpAny (model X.prog X.w) X.A (isTrue e X.env whole) (TP X pins σ Q) X.xe s
theorem PW.pt {X : Cx} {e : Expr} {t : TT} (h : PW X e t) : PT X e t := h _
noncomputable def PA (X : Cx) (es : List Expr) (t : TA) : Prop :=
 ∀ (pos : Pos) (pins : List (Addr × Obj)) (s : Shared) (σ : St) (H : Hp) (Q : List V → Hp → Prop), Inv X pins σ H s → t σ H Q → wpAny (model X.prog X.w) X.A (spliced (backTo pos (starEach es X.env))) (AP X pins σ Q) X.xe s
noncomputable def PS (X : Cx) (st : Stmt) (t : TS) : Prop :=
 ∀ (pins : List (Addr × Obj)) (s : Shared) (σ : St) (H : Hp) (D : ZP), Inv X pins σ H s → t D σ H → wpAny (model X.prog X.w) X.A (exec st X.env) (SP X pins D) X.xe s
noncomputable def PSs (X : Cx) (st : List Stmt) (t : TS) : Prop :=
 ∀ (pins : List (Addr × Obj)) (s : Shared) (σ : St) (H : Hp) (D : ZP), Inv X pins σ H s → t D σ H → wpAny (model X.prog X.w) X.A (execs st X.env) (SP X pins D) X.xe s
theorem thn {α : Type} {t : Sem α} {Q Q' : α → Shared → Prop} {M : Model} {A : Around} {E : Value → Shared → Prop} {s : Shared} (h : wpAny M A t Q E s) (hQ : ∀ a s, Q a s → Q' a s) : wpAny M A t Q' E s := wpAny_mono h hQ fun _ _ x => x
end L2
namespace L2
open PySem PySem.Spec PyProof.Rows
section
variable {X : Cx}
inductive IVar (i : Nat) (σ : St) (H : Hp) (Q : VK) : Prop
 | mk (v : V) (h : σ[i]? = some (some v)) (q : Q v H) : IVar i σ H Q
noncomputable def Vf (i : Nat) : TE := fun σ H Q => IVar i σ H Q
noncomputable def tC (v : V) : TE := fun _ H Q => Q v H
theorem Vy {i : Nat} {x : Str} {pos : Pos} (hN : X.N[i]? = some x) (hv : Vis X.env.scope x) (hd : (x == ("__debug__" : Str)) = false := by decide) (hcd : (x == ("__classdict__" : Str)) = false := by decide) : PE X (.Name x pos) (Vf i) := by
 intro pins s σ H Q I h
 obtain ⟨v, e, h⟩ := h
 obtain ⟨m, hn, hl⟩ := I.loc
 obtain ⟨u, r, l⟩ := hl i x v hN e hv
 have fin : EP X pins σ Q u s := ⟨v, H, I, r, h⟩
 rcases l with ⟨hk, hm⟩ | ⟨hk, c, hc, hcell⟩
 ·exact wpAny_Name (wpAny_loadName_local I.ok.kind hk hn hm fin) hd
 ·rcases hk with hk | hk
  ·exact wpAny_Name (wpAny_loadName_cell I.ok.kind hk hc hcell fin) hd
  ·exact wpAny_Name (wpAny_loadName_free I.ok.kind hk hc hcell fin hcd) hd
theorem pe_int {i j pos} : PE X (.Constant (.int i) j pos) (tC (.int i)) := fun _ _ _ H _ I h => wpAny_Constant_int ⟨.int i, H, I.tok _, ⟨_, rfl⟩, h⟩
theorem pe_bl {b j pos} : PE X (.Constant (.bool b) j pos) (tC (.bl b)) := fun _ _ _ H _ I h => Constant_bool ⟨.bl b, H, I, rfl, h⟩
theorem pe_non {j pos} : PE X (.Constant .none j pos) (tC .non) := fun _ _ _ H _ I h => Constant_none ⟨.non, H, I, rfl, h⟩
theorem pe_str {x j pos} : PE X (.Constant (.str x) j pos) (tC (.str x)) := fun _ _ _ H _ I h => Calls.Constant_str ⟨.str x, H, I.tok _, ⟨_, rfl⟩, h⟩
noncomputable def Gl (X : Cx) (x : Str) : Prop := X.env.kindOf x = some .globalImplicit
theorem JL {E : Value → Shared → Prop} {pins : List (Addr × Obj)} {s : Shared} {σ : St} {H : Hp} {x : Str} {u : Value} {pos : Pos} {Q : Value → Shared → Prop} (I : Inv X pins σ H s) (hg : Gl X x) (hm : X.mg x = some u) (h : Q u s)
  (hd : (x == ("__debug__" : Str)) = false := by decide) : wpAny (model X.prog X.w) X.A (eval (.Name x pos) X.env) Q E s :=
 Calls.Name_function_global I.ok.kind hg (Calls.loadGlobal_global (by rw [I.ok.glob]; exact I.mod.glob.keeps I.bk) hm h) hd
theorem Xq {E : Value → Shared → Prop} {pins : List (Addr × Obj)} {s : Shared} {σ : St} {H : Hp} {x : Str} {u : Value} {pos : Pos} {Q : Value → Shared → Prop} (I : Inv X pins σ H s) (hg : Gl X x) (hm : X.mg x = none) (hv : bootBuiltins x = some u) (h : Q u s)
  (hn : x ≠ "__name__" := by decide) (hd : (x == ("__debug__" : Str)) = false := by decide) : wpAny (model X.prog X.w) X.A (eval (.Name x pos) X.env) Q E s := by
 obtain ⟨mb, h1, h2⟩ := I.mod.blt
 exact Calls.Name_function_global I.ok.kind hg (Calls.loadGlobal_builtin (by rw [I.ok.glob]; exact I.mod.glob.keeps I.bk) hm (by rw [I.ok.blt]; exact h1.keeps I.bk) ((h2 x hn).trans hv) h) hd
theorem pe_glob {x : Str} {v : V} {u : Value} {pos : Pos} (hg : Gl X x) (hm : X.mg x = some u) (r : RelV v u) (hd : (x == ("__debug__" : Str)) = false := by decide) : PE X (.Name x pos) (tC v) :=
 fun _ _ _ H _ I h => JL I hg hm ⟨v, H, I, r, h⟩ hd
theorem pe_bltn {x : Str} {v : V} {u : Value} {pos : Pos} (hg : Gl X x) (hm : X.mg x = none) (hv : bootBuiltins x = some u) (r : RelV v u) (hn : x ≠ "__name__" := by decide) (hd : (x == ("__debug__" : Str)) = false := by decide) : PE X (.Name x pos) (tC v) :=
 fun _ _ _ H _ I h => Xq I hg hm hv ⟨v, H, I, r, h⟩ hn hd
variable {a b : Expr} {ta tb : TE} {pos : Pos}
inductive IBl (Q : Bool → Hp → Prop) (x : V) (H : Hp) : Prop
 | mk (c : Bool) (h : x = .bl c) (q : Q c H) : IBl Q x H
noncomputable def tB (t : TE) : TT := fun σ H Q => t σ H (IBl Q)
theorem pt_val {e : Expr} {t : TE} (h : PE X e t) (he : ∀ whole, isTrue e X.env whole = (do let v ← whole; standAt e.pos; holding [v] (truthy v)) := by intro _; rfl) : PT X e (tB t) := by
 intro pins s σ H Q I hw
 refine isTrue_plain (thn (h pins s σ H _ I hw) fun v s1 ⟨x, H1, I1, r1, q1⟩ => ?_) (he _)
 obtain ⟨d, rfl, q⟩ := q1
 cases r1
 exact wpAny_truthy_bool ⟨H1, I1, q⟩
variable {tA tB' : TT} {gY : List Expr}
noncomputable def tAnd (t u : TT) : TT := fun σ H Q => t σ H fun c H1 => if c = true then u σ H1 Q else Q false H1
noncomputable def tOr (t u : TT) : TT := fun σ H Q => t σ H fun c H1 => if c = true then Q true H1 else u σ H1 Q
noncomputable def tNot (t : TT) : TT := fun σ H Q => t σ H fun c H1 => Q (!c) H1
theorem pw_and1 (ha : PT X a tA) : PW X (.BoolOp .And [a] pos) tA := by
 intro wh pins s σ H Q I h
 refine isTrue_and (thn (ha pins s σ H Q I h) fun c s1 e => ?_)
 cases c with
 | true => exact isTrue_and_nil e
 | false => exact e
theorem pw_or1 (ha : PT X a tA) : PW X (.BoolOp .Or [a] pos) tA := by
 intro wh pins s σ H Q I h
 refine isTrue_or (thn (ha pins s σ H Q I h) fun c s1 e => ?_)
 cases c with
 | false => exact isTrue_or_nil e
 | true => exact e
theorem pw_and (ha : PT X a tA) (hb : PW X (.BoolOp .And (b :: gY) pos) tB') : PW X (.BoolOp .And (a :: b :: gY) pos) (tAnd tA tB') := by
 intro wh pins s σ H Q I h
 refine isTrue_and (thn (ha pins s σ H _ I h) fun c s1 ⟨H1, I1, q1⟩ => ?_)
 cases c with
 | true => exact hb wh pins s1 σ H1 Q I1 q1
 | false => exact ⟨H1, I1, q1⟩
theorem pw_or (ha : PT X a tA) (hb : PW X (.BoolOp .Or (b :: gY) pos) tB') : PW X (.BoolOp .Or (a :: b :: gY) pos) (tOr tA tB') := by
 intro wh pins s σ H Q I h
 refine isTrue_or (thn (ha pins s σ H _ I h) fun c s1 ⟨H1, I1, q1⟩ => ?_)
 cases c with
 | true => exact ⟨H1, I1, q1⟩
 | false => exact hb wh pins s1 σ H1 Q I1 q1
theorem pt_not (ha : PT X a tA) : PT X (.UnaryOp .Not a pos) (tNot tA) := by
 intro pins s σ H Q I h
 exact isTrue_not (ha pins s σ H (fun c H1 => Q (!c) H1) I h)
noncomputable def tAndV (ta tb : TE) : TE := fun σ H Q => ta σ H fun x H1 => ∃ c, x = .bl c ∧ if c = true then tb σ H1 Q else Q (.bl false) H1
noncomputable def tOrV (ta tb : TE) : TE := fun σ H Q => ta σ H fun x H1 => ∃ c, x = .bl c ∧ if c = true then Q (.bl true) H1 else tb σ H1 Q
noncomputable def tNotV (ta : TE) : TE := fun σ H Q => ta σ H fun x H1 => ∃ c, x = .bl c ∧ Q (.bl (!c)) H1
theorem pe_one {op} {t : TE} (h : PE X a t) : PE X (.BoolOp op [a] pos) t := fun pins s σ H Q I hw => BoolOp_one (h pins s σ H Q I hw)
theorem pe_and (ha : PE X a ta) (hb : PE X (.BoolOp .And (b :: gY) pos) tb) : PE X (.BoolOp .And (a :: b :: gY) pos) (tAndV ta tb) := by
 intro pins s σ H Q I h
 refine BoolOp_and (thn (ha pins s σ H _ I h) fun v s1 ⟨x, H1, I1, r1, q1⟩ => ?_)
 obtain ⟨c, rfl, q1⟩ := q1
 cases r1
 refine wpAny_truthy_bool ?_
 cases c with
 | true => exact hb pins s1 σ H1 Q I1 q1
 | false => exact ⟨.bl false, H1, I1, rfl, q1⟩
theorem pe_or (ha : PE X a ta) (hb : PE X (.BoolOp .Or (b :: gY) pos) tb) : PE X (.BoolOp .Or (a :: b :: gY) pos) (tOrV ta tb) := by
 intro pins s σ H Q I h
 refine BoolOp_or (thn (ha pins s σ H _ I h) fun v s1 ⟨x, H1, I1, r1, q1⟩ => ?_)
 obtain ⟨c, rfl, q1⟩ := q1
 cases r1
 refine wpAny_truthy_bool ?_
 cases c with
 | false => exact hb pins s1 σ H1 Q I1 q1
 | true => exact ⟨.bl true, H1, I1, rfl, q1⟩
theorem pe_not (ha : PE X a ta) : PE X (.UnaryOp .Not a pos) (tNotV ta) := by
 intro pins s σ H Q I h
 refine UnaryOp_ (thn (ha pins s σ H _ I h) fun v s1 ⟨x, H1, I1, r1, q1⟩ => ?_)
 obtain ⟨c, rfl, q1⟩ := q1
 cases r1
 exact not_of (wpAny_truthy_bool ⟨.bl (!c), H1, I1, rfl, q1⟩)
noncomputable def tIf (t : TT) (ta tb : TE) : TE := fun σ H Q => t σ H fun c H1 => if c = true then ta σ H1 Q else tb σ H1 Q
theorem VA {c : Expr} (hc : PT X c tA) (ha : PE X a ta) (hb : PE X b tb) : PE X (.IfExp c a b pos) (tIf tA ta tb) := by
 intro pins s σ H Q I h
 refine wpAny_IfExp (thn (hc pins s σ H _ I h) fun d s1 ⟨H1, I1, q1⟩ => ?_)
 cases d with
 | true => exact ha pins s1 σ H1 Q I1 q1
 | false => exact hb pins s1 σ H1 Q I1 q1
end
end L2
namespace L2
open PySem PySem.Spec PyProof.Rows
noncomputable def SqL (K : W.Frag) (H : Hp) (a : Addr) (xs : List V) : Prop :=
 Rd H a (.lst xs) ∨
  ∃ (o : Obj) (its : Array Value) (n : Nat), K.lookup a = some o ∧ o.cls = .type "list" ∧ o.dict = none ∧ o.data = .seq its n ∧ its.size ≤ sizeLine ∧ Vals xs its.toList
noncomputable def SqT (K : W.Frag) (H : Hp) (a : Addr) (xs : List V) : Prop :=
 Rd H a (.tup xs) ∨
  ∃ (o : Obj) (its : Array Value) (n : Nat), K.lookup a = some o ∧ o.cls = .type "tuple" ∧ o.data = .seq its n ∧ its.size ≤ sizeLine ∧ Vals xs its.toList
noncomputable def absV : Value → Option V
 | .none => some .non
 | .bool b => some (.bl b)
 | .int i _ => some (.int i)
 | .str x _ => some (.str x)
 | .bytes b _ => some (.byt b)
 | .float b _ => some (.flt b)
 | .ref a => some (.ref a)
 | .type n => some (.ty n)
 | _ => none
theorem RelV.abs {x : V} {u : Value} (r : RelV x u) : absV u = some x := by
 cases x with
 | non => cases r; rfl
 | bl _ => cases r; rfl
 | int _ => obtain ⟨t, rfl⟩ := r; rfl
 | str _ => obtain ⟨t, rfl⟩ := r; rfl
 | byt _ => obtain ⟨t, rfl⟩ := r; rfl
 | flt _ => obtain ⟨t, rfl⟩ := r; rfl
 | ref _ => cases r; rfl
 | ty _ => cases r; rfl
theorem RelV.inj {x y : V} {u : Value} (r : RelV x u) (q : RelV y u) : x = y := Option.some.inj (r.abs.symm.trans q.abs)
theorem Vals.inj : ∀ {xs ys : List V} {us : List Value}, Vals xs us → Vals ys us → xs = ys
 | _, _, _, .nil, .nil => rfl
 | _, _, _, .cons r t, .cons r' t' => by rw [r.inj r', Vals.inj t t']
section
variable {X : Cx} {pins : List (Addr × Obj)} {σ : St} {H : Hp} {s : Shared} {a : Addr} {xs ys : List V}
theorem SqL.of {K : W.Frag} (h : H a = some (.lst xs)) : SqL K H a xs := .inl (.inl h)
theorem SqT.of {K : W.Frag} (h : H a = some (.tup xs)) : SqT K H a xs := .inl (.inl h)
theorem Inv.list (I : Inv X pins σ H s) (h : SqL X.K H a xs) : ∃ its : List Value, Vals xs its ∧ PlainL s.heap a its.toArray ∧ xs.length ≤ sizeLine := by
 rcases h with h | ⟨o, its, n, hk, hc, hd, hs, hz, r⟩
 ·obtain ⟨z, its, n, r, e⟩ := h.ok I.hok
  exact ⟨its, r, ⟨_, n, e, rfl, rfl, rfl⟩, z⟩
 ·refine ⟨its.toList, r, ⟨o, n, I.kIn a o hk, hc, hd, by simpa using hs⟩, ?_⟩
  have e := r.length
  simp only [Array.length_toList] at e
  omega
theorem Inv.tuple (I : Inv X pins σ H s) (h : SqT X.K H a xs) : ∃ its : List Value, Vals xs its ∧ IsTup s.heap a its.toArray ∧ xs.length ≤ sizeLine := by
 rcases h with h | ⟨o, its, n, hk, hc, hs, hz, r⟩
 ·obtain ⟨z, its, r, p⟩ := h.ok I.hok
  exact ⟨its, r, p, z⟩
 ·refine ⟨its.toList, r, ⟨o, I.kIn a o hk, hc, n, by simpa using hs⟩, ?_⟩
  have e := r.length
  simp only [Array.length_toList] at e
  omega
theorem Inv.list_inj (I : Inv X pins σ H s) (h : SqL X.K H a xs) (h' : SqL X.K H a ys) : xs = ys := by
 obtain ⟨its, r, ⟨o, n, e, _, _, d⟩, _⟩ := I.list h
 obtain ⟨its', r', ⟨o', n', e', _, _, d'⟩, _⟩ := I.list h'
 rw [e] at e'; cases e'
 rw [d] at d'
 injection d' with d1 _
 have : its = its' := by simpa using congrArg Array.toList d1
 subst this
 exact r.inj r'
theorem Inv.tuple_inj (I : Inv X pins σ H s) (h : SqT X.K H a xs) (h' : SqT X.K H a ys) : xs = ys := by
 obtain ⟨its, r, ⟨o, e, _, n, d⟩, _⟩ := I.tuple h
 obtain ⟨its', r', ⟨o', e', _, n', d'⟩, _⟩ := I.tuple h'
 rw [e] at e'; cases e'
 rw [d] at d'
 injection d' with d1 _
 have : its = its' := by simpa using congrArg Array.toList d1
 subst this
 exact r.inj r'
end
noncomputable abbrev Cx.wish (X : Cx) (E : Value → Shared → Prop) : Cx := { X with xe := E }
noncomputable abbrev Cx.nox (X : Cx) : Cx := X.wish fun _ _ => False
theorem Cx.Ok.wish {X : Cx} (ok : X.Ok) (E : Value → Shared → Prop) : (X.wish E).Ok :=
 ⟨ok.mod, ok.kind, ok.glob, ok.blt, ok.above, ok.inj, ok.has, ok.cab, ok.hd, ok.frames, ok.stk, ok.exf, ok.bs, ok.bsz, ok.noex, ok.exfs, ok.funs, ok.frf⟩
theorem Cx.Ok.unwish {X : Cx} {E : Value → Shared → Prop} (ok : (X.wish E).Ok) : X.Ok :=
 ⟨ok.mod, ok.kind, ok.glob, ok.blt, ok.above, ok.inj, ok.has, ok.cab, ok.hd, ok.frames, ok.stk, ok.exf, ok.bs, ok.bsz, ok.noex, ok.exfs, ok.funs, ok.frf⟩
section
variable {X : Cx} {pins : List (Addr × Obj)} {σ : St} {H : Hp} {s : Shared} {E : Value → Shared → Prop}
theorem Inv.wish (I : Inv X pins σ H s) (E : Value → Shared → Prop) : Inv (X.wish E) pins σ H s := ⟨I.ok.wish E, I.os, I.bare, I.base, I.loc, I.cell, I.free, I.freeC, I.pin, I.hok, I.len⟩
theorem Inv.unwish (I : Inv (X.wish E) pins σ H s) : Inv X pins σ H s := ⟨I.ok.unwish, I.os, I.bare, I.base, I.loc, I.cell, I.free, I.freeC, I.pin, I.hok, I.len⟩
theorem SP.unwish {D : ZP} {f : Flow} {s' : Shared} (h : SP (X.wish E) pins D f s') : SP X pins D f s' := by
 cases f with
 | next => obtain ⟨σ', H', I, q⟩ := h; exact ⟨σ', H', I.unwish, q⟩
 | brk => obtain ⟨σ', H', I, q⟩ := h; exact ⟨σ', H', I.unwish, q⟩
 | cont => obtain ⟨σ', H', I, q⟩ := h; exact ⟨σ', H', I.unwish, q⟩
 | ret u => obtain ⟨v, σ', H', I, r, q⟩ := h; exact ⟨v, σ', H', I.unwish, r, q⟩
theorem PSs.nox {st : List Stmt} {t : TS} (h : PSs X.nox st t) : PSs X st t := fun pins s σ H D I hw =>
 wpAny_mono (h pins s σ H D (I.wish _) hw) (fun _ _ q => q.unwish) fun _ _ z => False.elim z
end
section
variable {X : Cx} {st : Stmt} {gY : List Stmt} {t u : TS} {e : Expr} {te : TE} {pos : Pos}
noncomputable def tNext : TS := fun D σ H => D.nx σ H
noncomputable def tSeq (t u : TS) : TS := fun D σ H => t { D with nx := u D } σ H
theorem pss_nil : PSs X [] tNext := fun _ _ σ H _ I h => wpAny_execs_nil ⟨σ, H, I, h⟩
theorem Vr (h1 : PS X st t) (h2 : PSs X gY u) : PSs X (st :: gY) (tSeq t u) := by
 intro pins s σ H D I h
 refine wpAny_execs_cons (thn (h1 pins s σ H { D with nx := u D } I h) fun f s1 q => ?_)
 cases f with
 | next =>
  obtain ⟨σ', H', I', q⟩ := q
  exact h2 pins s1 σ' H' D I' q
 | ret v => exact q
 | brk => exact q
 | cont => exact q
theorem pss_one (h1 : PS X st t) : PSs X [st] t := by
 intro pins s σ H D I h
 refine wpAny_execs_cons (thn (h1 pins s σ H D I h) fun f s1 q => ?_)
 cases f with
 | next => exact wpAny_execs_nil q
 | ret v => exact q
 | brk => exact q
 | cont => exact q
theorem Inv.quiet {pins : List (Addr × Obj)} {σ : St} {H : Hp} {s : Shared} (I : Inv X pins σ H s) : interactive X.env = false := by simp [interactive, I.ok.kind]
noncomputable def tDrop (te : TE) : TS := fun D σ H => te σ H fun _ H1 => D.nx σ H1
theorem ps_expr (he : PE X e te) (hs : swapsWith e none pos.line X.env = pure false := by rfl) : PS X (.Expr e pos) (tDrop te) := by
 intro pins s σ H D I h
 exact wpAny_Expr_any (thn (he pins s σ H _ I h) fun v s1 ⟨x, H1, I1, r1, q1⟩ => ⟨σ, H1, I1, q1⟩) I.quiet hs
noncomputable def tRet (te : TE) : TS := fun D σ H => te σ H D.rt
theorem ps_ret (he : PE X e te) : PS X (.Return (some e) pos) (tRet te) := by
 intro pins s σ H D I h
 exact wpAny_Return_some (thn (he pins s σ H _ I h) fun v s1 ⟨x, H1, I1, r1, q1⟩ => ⟨x, σ, H1, I1, r1, q1⟩)
noncomputable def tIfS (c : TT) (t u : TS) : TS := fun D σ H => c σ H fun b H1 => if b = true then t D σ H1 else u D σ H1
theorem ps_if {c : Expr} {a b : List Stmt} {tc : TT} (hc : PT X c tc) (ha : PSs X a t) (hb : PSs X b u) : PS X (.If c a b pos) (tIfS tc t u) := by
 intro pins s σ H D I h
 refine wpAny_If (thn (hc pins s σ H _ I h) fun d s1 ⟨H1, I1, q1⟩ => ?_)
 cases d with
 | true => exact ha pins s1 σ H1 D I1 q1
 | false => exact hb pins s1 σ H1 D I1 q1
end
noncomputable abbrev TG := V → St → Hp → (St → Hp → Prop) → Prop
noncomputable abbrev TGs := List V → St → Hp → (St → Hp → Prop) → Prop
noncomputable def PG (X : Cx) (target : Expr) (t : TG) : Prop :=
 ∀ (pins : List (Addr × Obj)) (s : Shared) (σ : St) (H : Hp) (v : V) (u : Value) (Q : St → Hp → Prop), Inv X pins σ H s → RelV v u → t v σ H Q →
  wpAny (model X.prog X.w) X.A (assign target X.env u) (fun _ s' => ∃ σ' H', Inv X pins σ' H' s' ∧ Q σ' H') X.xe s
noncomputable def PGs (X : Cx) (ts : List Expr) (t : TGs) : Prop :=
 ∀ (pins : List (Addr × Obj)) (s : Shared) (σ : St) (H : Hp) (vs : List V) (us : List Value) (Q : St → Hp → Prop), Inv X pins σ H s → Vals vs us → t vs σ H Q →
  wpAny (model X.prog X.w) X.A (assignInOrder ((assignEach ts X.env).map (·.2)) us) (fun _ s' => ∃ σ' H', Inv X pins σ' H' s' ∧ Q σ' H') X.xe s
noncomputable abbrev TSet := V → V → V → Hp → (Hp → Prop) → Prop
noncomputable def PSet (X : Cx) (t : TSet) : Prop :=
 ∀ (pins : List (Addr × Obj)) (s : Shared) (σ : St) (H : Hp) (o i v : V) (ov iv u : Value) (Q : Hp → Prop), Inv X pins σ H s → RelV o ov → RelV i iv → RelV v u → t o i v H Q →
  wpAny (model X.prog X.w) X.A (setItem ov iv u) (fun _ s' => ∃ H', Inv X pins σ H' s' ∧ Q H') X.xe s
noncomputable abbrev TIp := V → V → Hp → VK → Prop
noncomputable def PIp (X : Cx) (op : Operator) (t : TIp) : Prop :=
 ∀ (pins : List (Addr × Obj)) (s : Shared) (σ : St) (H : Hp) (x y : V) (v u : Value) (Q : VK), Inv X pins σ H s → RelV x v → RelV y u → t x y H Q →
  wpAny (model X.prog X.w) X.A (inplaceOp op v u) (EP X pins σ Q) X.xe s
section
variable {X : Cx} {pos : Pos}
noncomputable def nT (i : Nat) : TG := fun v σ H Q => Q (σ.set i (some v)) H
theorem Jy {i : Nat} {x : Str} (hN : X.N.Nodup) (hi : X.N[i]? = some x) (hx : Loc X.env.scope x) (hf : X.fn x = true ∨ X.env.scope.names.lookup x = some .local := by first | exact .inl rfl | exact .inr rfl | assumption) : PG X (.Name x pos) (nT i) := by
 intro pins s σ H v u Q I r h
 exact wpAny_assign_Name (vE I hN hi hx r (fun s' I' => ⟨_, H, I', h⟩) hf)
noncomputable def gNil : TGs := fun vs σ H Q => vs = [] ∧ Q σ H
noncomputable def gCons (t : TG) (u : TGs) : TGs := fun vs σ H Q => ∃ v r, vs = v :: r ∧ t v σ H fun σ' H' => u r σ' H' Q
theorem pgs_nil : PGs X [] gNil := by
 intro pins s σ H vs us Q I r h
 obtain ⟨e, h⟩ := h
 subst e
 cases r
 exact assignInOrder_nil ⟨σ, H, I, h⟩
theorem Vx {e : Expr} {es : List Expr} {t : TG} {u : TGs} (h1 : PG X e t) (h2 : PGs X es u)
  (hs : (assignEach (e :: es) X.env).map (·.2) = assign e X.env :: (assignEach es X.env).map (·.2) := by rfl) : PGs X (e :: es) (gCons t u) := by
 intro pins s σ H vs us Q I r h
 obtain ⟨v, vr, e1, h⟩ := h
 subst e1
 cases r with
 | cons r rr =>
  rw [hs]
  refine assignInOrder_cons (thn (h1 pins s σ H _ _ _ I r h) fun _ s1 ⟨σ1, H1, I1, q1⟩ => ?_)
  exact h2 pins s1 σ1 H1 _ _ Q I1 rr q1
noncomputable def gTup (K : W.Frag) (n : Nat) (t : TGs) : TG := fun v σ H Q => ∃ a xs, v = .ref a ∧ SqT K H a xs ∧ xs.length = n ∧ t xs σ H Q
theorem pg_tup {es : List Expr} {k : Nat} {t : TGs} {n : Nat} (hc : X.calm = true) (h : PGs X es t)
  (hn : (assignEach es X.env).length = n := by rfl) (hst : (assignEach es X.env).findIdx? (·.1) = none := by rfl) : PG X (.Tuple es k pos) (gTup X.K n t) := by
 intro pins s σ H v u Q I r hw
 obtain ⟨a, xs, e1, hq, hl, hw⟩ := hw
 subst e1
 cases r
 obtain ⟨its, rv, ht, hz⟩ := I.tuple hq
 refine assign_Tuple_tuple (I.ok.hd hc) ht (by simp [hn, ← hl, rv.length]) hst fun h' hx => ?_
 have I1 : Inv X pins σ H { s with heap := h' } := I.kept (t' := s.toks) fun b o e => hx b o (Nat.ne_of_lt (Heap.lt_size e)) e
 exact h pins _ σ H xs _ Q I1 (by simpa using rv) hw
noncomputable def gSub (to ti : TE) (t : TSet) : TG := fun v σ H Q => to σ H fun o H1 => ti σ H1 fun i H2 => t o i v H2 fun H3 => Q σ H3
theorem pg_sub {o i : Expr} {to ti : TE} {t : TSet} (ho : PE X o to) (hi : PE X i ti) (hs : PSet X t)
  (ha : ∀ v, assign (.Subscript o i pos) X.env v = (do
   let ov ← holding [v] (eval o X.env)
   let iv ← holding [v, ov] (eval i X.env)
   standAt pos
   holding [v, ov, iv] (setItem ov iv v)
   release [v, ov, iv] []) := by intro _; rfl) : PG X (.Subscript o i pos) (gSub to ti t) := by
 intro pins s σ H v u Q I r h
 rw [ha]
 refine wpAny_bind (wpAny_holding (thn (ho pins s σ H _ I h) fun ov s1 ⟨x, H1, I1, r1, q1⟩ => ?_))
 refine wpAny_bind (wpAny_holding (thn (hi pins s1 σ H1 _ I1 q1) fun iv s2 ⟨y, H2, I2, r2, q2⟩ => ?_))
 refine wpAny_bind (wpAny_standAt (wpAny_bind (wpAny_holding (thn (hs pins s2 σ H2 x y v ov iv u _ I2 r1 r2 r q2) fun _ s3 ⟨H3, I3, q3⟩ => ?_))))
 exact wpAny_release ⟨σ, H3, I3, q3⟩
noncomputable def Ki (te : TE) (g : TG) : TS := fun D σ H => te σ H fun x H1 => g x σ H1 D.nx
theorem ps_asg {tg e : Expr} {te : TE} {g : TG} (he : PE X e te) (hg : PG X tg g) (hs : swapsWithSole [tg] e pos.line X.env = pure false := by rfl) (hw : swappedStores [tg] e X.env = pure none := by rfl)
  (h1 : (assignEach [tg] X.env).map (·.2) = [assign tg X.env] := by rfl) : PS X (.Assign [tg] e pos) (Ki te g) := by
 intro pins s σ H D I h
 refine wpAny_Assign_stores (thn (he pins s σ H _ I h) fun v s1 ⟨x, H1, I1, r1, q1⟩ => ?_) hs hw
 rw [h1]
 exact thn (hg pins s1 σ H1 x v _ I1 r1 q1) fun _ s2 q => q
theorem ps_set {i : Nat} {x : Str} {e : Expr} {te : TE} {pos' : Pos} (hN : X.N.Nodup) (hi : X.N[i]? = some x) (hx : Loc X.env.scope x) (he : PE X e te) (hs : swapsWith e (some (.Name x pos')) pos.line X.env = pure false := by rfl) (hf : X.fn x = true ∨ X.env.scope.names.lookup x = some .local := by first | exact .inl rfl | exact .inr rfl | assumption) :
  PS X (.Assign [.Name x pos'] e pos) (Ki te (nT i)) := by
 intro pins s σ H D I h
 refine wpAny_Assign_Name (thn (he pins s σ H _ I h) fun v s1 ⟨y, H1, I1, r1, q1⟩ => ?_) hs
 exact vE I1 hN hi hx r1 (fun s2 I2 => ⟨_, H1, I2, q1⟩) hf
noncomputable def tAug (i : Nat) (te : TE) (ti : TIp) : TS := fun D σ H => ∃ x, σ[i]? = some (some x) ∧ te σ H fun y H1 => ti x y H1 fun z H2 => D.nx (σ.set i (some z)) H2
theorem ps_aug {i : Nat} {x : Str} {e : Expr} {te : TE} {op : Operator} {ti : TIp} {pos' : Pos} (hN : X.N.Nodup) (hi : X.N[i]? = some x) (hx : Loc X.env.scope x) (he : PE X e te) (ho : PIp X op ti) (hf : X.fn x = true ∨ X.env.scope.names.lookup x = some .local := by first | exact .inl rfl | exact .inr rfl | assumption) :
  PS X (.AugAssign (.Name x pos') op e pos) (tAug i te ti) := by
 intro pins s σ H D I h
 obtain ⟨v, e1, h⟩ := h
 obtain ⟨m, hn, hl⟩ := I.loc
 have vis : Vis X.env.scope x := by rcases hx with k | k; exact .inl k; exact .inr (.inl k)
 obtain ⟨u, r, l⟩ := hl i x v hi e1 vis
 refine wpAny_AugAssign_Name ?_
 have go : wpAny (model X.prog X.w) X.A (eval e X.env) (fun w s₂ => wpAny (model X.prog X.w) X.A (inplaceOp op u w) (fun r s₃ => wpAny (model X.prog X.w) X.A (storeName X.env x r) (fun _ => SP X pins D .next) X.xe s₃) X.xe s₂) X.xe s := by
  refine thn (he pins s σ H _ I h) fun w s1 ⟨y, H1, I1, r1, q1⟩ => ?_
  refine thn (ho pins s1 σ H1 v y u w _ I1 r r1 q1) fun z s2 ⟨zv, H2, I2, r2, q2⟩ => ?_
  exact vE I2 hN hi hx r2 (fun s3 I3 => ⟨_, H2, I3, q2⟩) hf
 rcases l with ⟨hk, hm⟩ | ⟨hk, c, hc, hcell⟩
 ·exact wpAny_loadName_local I.ok.kind hk hn hm go
 ·rcases hk with hk | hk
  ·exact wpAny_loadName_cell I.ok.kind hk hc hcell go
  ·rcases hx with k | k
   ·have : X.env.scope.names.lookup x = some .free := hk
    rw [k] at this; cases this
   ·have : X.env.scope.names.lookup x = some .free := hk
    rw [k] at this; cases this
end
section
variable {X : Cx} {pos : Pos}
noncomputable def Ve (c : TT) (tb : TS) : TS := fun D σ H => ∃ W : Nat → St → Hp → Prop, (∃ m, W m σ H) ∧ ∀ m σ H, W m σ H →
 c σ H fun b H1 => if b = true then ∃ N : St → Hp → Prop, (∀ σ' H', N σ' H' → ∃ m', m' < m ∧ W m' σ' H') ∧ tb { D with nx := N, ct := N, bk := D.nx } σ H1 else D.nx σ H1
theorem Vs {c : Expr} {body : List Stmt} {tc : TT} {tb : TS} (hp : PassesOwn (model X.prog X.w) X.A X.env X.xe) (hc : PT X c tc) (hb : PSs X body tb) : PS X (.While c body [] pos) (Ve tc tb) := by
 intro pins s σ H D I h
 obtain ⟨W, ⟨m0, w0⟩, turn⟩ := h
 refine wpAny_While (codeAny_whileLoop (fun n s' => ∃ σ' H', Inv X pins σ' H' s' ∧ W n σ' H') ?_ m0 ⟨σ, H, I, w0⟩)
 rintro n s1 ⟨σ1, H1, I1, w1⟩
 refine wpAny_passesOwn hp (thn (hc pins s1 σ1 H1 _ I1 (turn n σ1 H1 w1)) fun b s2 ⟨H2, I2, q2⟩ => ?_)
 cases b with
 | true =>
  obtain ⟨N, hN, q2⟩ := q2
  rw [if_pos rfl]
  refine wpAny_passesOwn hp (thn (hb pins s2 σ1 H2 _ I2 q2) fun f s3 q3 => ?_)
  cases f with
  | next =>
   obtain ⟨σ3, H3, I3, n3⟩ := q3
   obtain ⟨m', hm, w3⟩ := hN σ3 H3 n3
   exact ⟨m', hm, σ3, H3, I3, w3⟩
  | cont =>
   obtain ⟨σ3, H3, I3, n3⟩ := q3
   obtain ⟨m', hm, w3⟩ := hN σ3 H3 n3
   exact ⟨m', hm, σ3, H3, I3, w3⟩
  | brk => exact q3
  | ret v => exact q3
 | false =>
  rw [if_neg Bool.false_ne_true]
  exact wpAny_execs_nil ⟨σ1, H2, I2, q2⟩
end
structure It where
 go : Nat → Hp → Prop
 yld : Nat → Hp → V → Hp → Prop
 stop : Nat → Hp → Prop
noncomputable def ZO (X : Cx) (pins : List (Addr × Obj)) (H : Hp) (b : Addr) : Prop :=
 H b = none ∧ b ≠ X.env.locals ∧ b ∉ X.fs ∧ (b ∈ X.ex ∨ X.s₀.heap.objs.size ≤ b) ∧ (∀ x c, X.env.cells.lookup x = some c → c ≠ b) ∧ ∀ p ∈ X.pn ++ pins, p.1 ≠ b
theorem Inv.fpOk {X : Cx} {pins : List (Addr × Obj)} {σ : St} {H H' : Hp} {s : Shared} {b : Addr} (I : Inv X pins σ H s) (hb : s.heap.objs.size ≤ b) (hn : H' b = none) : ZO X pins H' b := by
 refine ⟨hn, Nat.ne_of_gt (Nat.lt_of_lt_of_le I.lt hb), I.nofs hb, .inr (Nat.le_trans I.sz hb), fun x c e z => ?_, fun p hp z => ?_⟩
 ·obtain ⟨v, q⟩ := I.cell x c e
  exact absurd (Nat.lt_of_lt_of_le q.lt (by rw [z]; exact hb)) (Nat.lt_irrefl _)
 ·exact absurd (Nat.lt_of_lt_of_le (Heap.lt_size (I.pin p hp).1) (by rw [z]; exact hb)) (Nat.lt_irrefl _)
structure K1 (P : Program) (w : World) (K : W.Frag) (tg : Expr) (J : It) (fp : List Addr) (it : Addr) (tn : Nat → Heap → Prop) : Prop where
 mem : it ∈ fp
 obj : ∀ i h, tn i h → ∀ b ∈ fp, ∃ o, h.get? b = some o ∧ ∀ v, o.data ≠ .cell v
 keep : ∀ i h h', tn i h → (∀ b ∈ fp, ∀ o, h.get? b = some o → h'.get? b = some o) → tn i h'
 item : ∀ (X : Cx), X.prog = P → X.w = w → X.K = K → X.calm = true → ∀ (i : Nat) (pins : List (Addr × Obj)) (s : Shared) (σ : St) (H : Hp) (E : Value → Shared → Prop), Inv X pins σ H s → (∀ b ∈ fp, ZO X pins H b) → tn i s.heap → J.go i H →
  wpAny (model P w) X.A (pyNext (.ref it)) (fun r s1 => ∃ u, r = some u ∧
   wpAny (model P w) X.A (letOwnedTupleGo tg (.ref it) u) (fun _ s2 => ∃ x H', Inv X pins σ H' s2 ∧ RelV x u ∧ J.yld i H x H' ∧ tn (i + 1) s2.heap ∧ ∀ b ∈ fp, H' b = none) E s1) E s
 done : ∀ (X : Cx), X.prog = P → X.w = w → X.K = K → X.calm = true → ∀ (i : Nat) (pins : List (Addr × Obj)) (s : Shared) (σ : St) (H : Hp) (E : Value → Shared → Prop), Inv X pins σ H s → (∀ b ∈ fp, ZO X pins H b) → tn i s.heap → J.stop i H →
  wpAny (model P w) X.A (pyNext (.ref it)) (fun r s1 => r = none ∧ Inv X pins σ H s1) E s
 self : ∀ (A : Around) (i : Nat) (s : Shared) (Q : Value → Shared → Prop) (E : Value → Shared → Prop), tn i s.heap → Q (.ref it) s → wpAny (model P w) A (pyIter (.ref it)) Q E s
noncomputable abbrev TI := St → Hp → (It → Hp → Prop) → Prop
noncomputable def PIE (X : Cx) (pins : List (Addr × Obj)) (σ : St) (tg : Expr) (R : It → Hp → Prop) (itv : Value) (s2 : Shared) : Prop :=
 ∃ (it : Addr) (fp : List Addr) (tn : Nat → Heap → Prop) (J : It) (H' : Hp), itv = .ref it ∧ Inv X pins σ H' s2 ∧ K1 X.prog X.w X.K tg J fp it tn ∧ tn 0 s2.heap ∧ (∀ b ∈ fp, ZO X pins H' b) ∧ R J H'
noncomputable def PI (X : Cx) (tg iter : Expr) (wi : TI) : Prop :=
 ∀ (pins : List (Addr × Obj)) (s : Shared) (σ : St) (H : Hp) (R : It → Hp → Prop), Inv X pins σ H s → wi σ H R →
  wpAny (model X.prog X.w) X.A (eval iter X.env) (fun v s1 => wpAny (model X.prog X.w) X.A (pyIter v) (PIE X pins σ tg R) X.xe s1) X.xe s
theorem JY {M : Model} {A : Around} {E : Value → Shared → Prop} {s : Shared} {tg : Expr} {it : Addr} {u : Value} {o : Obj} {n : String} {vs : Array Value} {Q : Unit → Shared → Prop} (ho : s.heap.get? it = some o) (hc : o.cls = .type n) (hd : o.data = .fields vs)
  (hn : ["enumerate", "zip", "dict_itemiterator", "dict_reverseitemiterator", "odict_iterator", "itertools.zip_longest", "itertools.pairwise"].contains n = false) (hQ : Q () s) : wpAny M A (letOwnedTupleGo tg (.ref it) u) Q E s := by
 unfold letOwnedTupleGo
 cases tg <;> first
  | exact wpAny_pure hQ
  | (cases u <;> first
    | exact wpAny_pure hQ
    | (refine wpAny_bind (wpAny_load ho ?_)
       rw [hc, hd]
       show wpAny M A (if (["enumerate", "zip", "dict_itemiterator", "dict_reverseitemiterator", "odict_iterator", "itertools.zip_longest", "itertools.pairwise"].contains n && vs[0]? == some (rawInt _)) = true then _ else _) Q E s
       rw [if_neg (by intro h; rw [hn, Bool.false_and] at h; cases h)]
       exact wpAny_pure hQ))
noncomputable def Itl (K : W.Frag) (a : Addr) : It :=
 ⟨fun i H => ∃ xs x, SqL K H a xs ∧ xs[i]? = some x, fun i H x H' => H' = H ∧ ∀ xs, SqL K H a xs → xs[i]? = some x, fun i H => ∃ xs, SqL K H a xs ∧ xs.length ≤ i⟩
noncomputable def Itt (K : W.Frag) (a : Addr) : It :=
 ⟨fun i H => ∃ xs x, SqT K H a xs ∧ xs[i]? = some x, fun i H x H' => H' = H ∧ ∀ xs, SqT K H a xs → xs[i]? = some x, fun i H => ∃ xs, SqT K H a xs ∧ xs.length ≤ i⟩
noncomputable def Itr (lo : Int) (n : Nat) : It := ⟨fun i _ => i < n, fun i H x H' => H' = H ∧ x = .int (lo + i), fun i _ => n ≤ i⟩
theorem Ke {P : Program} {w : World} {K : W.Frag} {tg : Expr} (a it : Addr) : K1 P w K tg (Itl K a) [it] it (fun i h => h.IsListIter it a i) where
 mem := by simp
 obj := fun i h st b hb => by
  have e : b = it := by simpa using hb
  subst e
  obtain ⟨o, e, c, d⟩ := st
  exact ⟨o, e, fun v z => by rw [d] at z; cases z⟩
 keep := fun i h h' st k => st.at fun o e => k it (by simp) o e
 item := by
  intro X hP hw hK hc i pins s σ H E I hf st hg
  subst hP hw hK
  obtain ⟨xs, x, hq, hx⟩ := hg
  obtain ⟨its, rv, p, hz⟩ := I.list hq
  obtain ⟨u, hu, ru⟩ := rv.get hx
  obtain ⟨f0, f1, f2, f3, f4, f5⟩ := hf it (by simp)
  refine wpAny_pyNext_list_item st p.isList (x := u) (by simpa using hu) fun h' st' sb => ?_
  have I1 : Inv X pins σ H { s with heap := h' } := I.turned (t' := s.toks) (fun b o hb e => (sb.2 b hb).trans e) f0 f1 f3 f4 f5
  obtain ⟨o, e, c, d⟩ := id st'
  exact ⟨u, rfl, JY (s := { s with heap := h' }) e c d (by decide) ⟨x, H, I1, ru, ⟨rfl, fun ys hy => by rw [I.list_inj hy hq]; exact hx⟩, st', fun b hb => (hf b hb).1⟩⟩
 done := by
  intro X hP hw hK hc i pins s σ H E I hf st hg
  subst hP hw hK
  obtain ⟨xs, hq, hx⟩ := hg
  obtain ⟨its, rv, p, hz⟩ := I.list hq
  obtain ⟨f0, f1, f2, f3, f4, f5⟩ := hf it (by simp)
  have hl := rv.length
  exact wpAny_pyNext_list_end (I.ok.hd hc) st p.isList (by simp; omega) fun h' eb => ⟨rfl, I.turned (t' := s.toks) (fun b o hb e => eb b o hb e) f0 f1 f3 f4 f5⟩
 self := fun _ _ _ _ _ st h => wpAny_pyIter_listiter st h
theorem ZS {P : Program} {w : World} {K : W.Frag} {tg : Expr} (a it : Addr) : K1 P w K tg (Itt K a) [it] it (fun i h => h.IsTupleIter it a i) where
 mem := by simp
 obj := fun i h st b hb => by
  have e : b = it := by simpa using hb
  subst e
  obtain ⟨o, e, c, d⟩ := st
  exact ⟨o, e, fun v z => by rw [d] at z; cases z⟩
 keep := fun i h h' st k => st.at fun o e => k it (by simp) o e
 item := by
  intro X hP hw hK hc i pins s σ H E I hf st hg
  subst hP hw hK
  obtain ⟨xs, x, hq, hx⟩ := hg
  obtain ⟨its, rv, p, hz⟩ := I.tuple hq
  obtain ⟨u, hu, ru⟩ := rv.get hx
  obtain ⟨f0, f1, f2, f3, f4, f5⟩ := hf it (by simp)
  refine wpAny_pyNext_tuple_item st (show s.heap.IsTuple a its.toArray from p) (x := u) (by simpa using hu) fun h' st' sb => ?_
  have I1 : Inv X pins σ H { s with heap := h' } := I.turned (t' := s.toks) (fun b o hb e => (sb.2 b hb).trans e) f0 f1 f3 f4 f5
  obtain ⟨o, e, c, d⟩ := id st'
  exact ⟨u, rfl, JY (s := { s with heap := h' }) e c d (by decide) ⟨x, H, I1, ru, ⟨rfl, fun ys hy => by rw [I.tuple_inj hy hq]; exact hx⟩, st', fun b hb => (hf b hb).1⟩⟩
 done := by
  intro X hP hw hK hc i pins s σ H E I hf st hg
  subst hP hw hK
  obtain ⟨xs, hq, hx⟩ := hg
  obtain ⟨its, rv, p, hz⟩ := I.tuple hq
  obtain ⟨f0, f1, f2, f3, f4, f5⟩ := hf it (by simp)
  have hl := rv.length
  exact wpAny_pyNext_tuple_end (I.ok.hd hc) st (show s.heap.IsTuple a its.toArray from p) (by simp; omega) fun h' eb => ⟨rfl, I.turned (t' := s.toks) (fun b o hb e => eb b o hb e) f0 f1 f3 f4 f5⟩
 self := fun _ _ _ _ _ st h => wpAny_pyIter_tupleiter st h
theorem ZT {P : Program} {w : World} {K : W.Frag} {tg : Expr} (it : Addr) (lo : Int) (n : Nat) : K1 P w K tg (Itr lo n) [it] it (fun i h => IsRangeIter h it (lo + (i : Nat) * 1) ((n : Int) - (i : Nat)) 1) where
 mem := by simp
 obj := fun i h st b hb => by
  have e : b = it := by simpa using hb
  subst e
  exact ⟨_, st, fun v z => by
   have z' : Data.fields _ = Data.cell v := z
   cases z'⟩
 keep := fun i h h' st k => k it (by simp) _ st
 item := by
  intro X hP hw hK hc i pins s σ H E I hf st hg
  subst hP hw hK
  obtain ⟨f0, f1, f2, f3, f4, f5⟩ := hf it (by simp)
  have W := Walks.range (prog := X.prog) (w := X.w) (I.ok.hd hc) it lo 1 n
  refine W.item i s _ _ hg st fun v h' tk hv st' kk => ?_
  obtain ⟨t, rfl⟩ := hv
  have I1 : Inv X pins σ H { s with heap := h', toks := tk } := I.turned (fun b o hb e => kk b o (by simpa using hb) e) f0 f1 f3 f4 f5
  refine ⟨_, rfl, JY (s := { s with heap := h', toks := tk }) (n := "range_iterator") st' rfl rfl (by decide) ⟨.int (lo + i), H, I1, ⟨t, ?_⟩, ⟨rfl, rfl⟩, st', fun b hb => (hf b hb).1⟩⟩
  rw [Int.mul_one]
 done := by
  intro X hP hw hK hc i pins s σ H E I hf st hg
  subst hP hw hK
  obtain ⟨f0, f1, f2, f3, f4, f5⟩ := hf it (by simp)
  exact wpAny_pyNext_range_end (I.ok.hd hc) st (by have : n ≤ i := hg; omega) fun h' eb => ⟨rfl, I.turned (t' := s.toks) (fun b o hb e => eb b o hb e) f0 f1 f3 f4 f5⟩
 self := fun _ _ _ _ _ st h => wpAny_pyIter_rangeiter st h
end L2
namespace L2
open PySem PySem.Spec PyProof.Rows
section
variable {X : Cx} {tg : Expr}
noncomputable def iList (K : W.Frag) (tl : TE) : TI := fun σ H R => tl σ H fun x H1 => ∃ a, x = .ref a ∧ (∃ xs, SqL K H1 a xs) ∧ R (Itl K a) H1
noncomputable def iTup (K : W.Frag) (tl : TE) : TI := fun σ H R => tl σ H fun x H1 => ∃ a, x = .ref a ∧ (∃ xs, SqT K H1 a xs) ∧ R (Itt K a) H1
theorem pi_list {l : Expr} {tl : TE} (hl : PE X l tl) : PI X tg l (iList X.K tl) := by
 intro pins s σ H R I h
 refine thn (hl pins s σ H _ I h) fun v s1 ⟨x, H1, I1, r1, q1⟩ => ?_
 obtain ⟨a, e, ⟨xs, hq⟩, q⟩ := q1
 subst e
 cases r1
 obtain ⟨its, rv, p, hz⟩ := I1.list hq
 refine wpAny_pyIter_list p.isList ?_
 refine ⟨s1.heap.objs.size, [s1.heap.objs.size], _, _, H1, rfl, I1.kept (t' := s1.toks) fun b o e => Heap.get?_push_of_some _ e, Ke a _, ⟨_, Heap.get?_push_size _ rfl, rfl, rfl⟩, fun b hb => ?_, q⟩
 have e : b = s1.heap.objs.size := by simpa using hb
 subst e
 exact I1.fpOk lR (I1.hok.fresh lR)
theorem pi_tup {l : Expr} {tl : TE} (hl : PE X l tl) : PI X tg l (iTup X.K tl) := by
 intro pins s σ H R I h
 refine thn (hl pins s σ H _ I h) fun v s1 ⟨x, H1, I1, r1, q1⟩ => ?_
 obtain ⟨a, e, ⟨xs, hq⟩, q⟩ := q1
 subst e
 cases r1
 obtain ⟨its, rv, p, hz⟩ := I1.tuple hq
 refine wpAny_pyIter_tuple (show s1.heap.IsTuple a its.toArray from p) ?_
 refine ⟨s1.heap.objs.size, [s1.heap.objs.size], _, _, H1, rfl, I1.kept (t' := s1.toks) fun b o e => Heap.get?_push_of_some _ e, ZS a _, ⟨_, Heap.get?_push_size _ rfl, rfl, rfl⟩, fun b hb => ?_, q⟩
 have e : b = s1.heap.objs.size := by simpa using hb
 subst e
 exact I1.fpOk lR (I1.hok.fresh lR)
theorem Vm {pins : List (Addr × Obj)} {σ : St} {H : Hp} {s : Shared} {R : It → Hp → Prop} {E : Value → Shared → Prop} {lo hi : Int} {t u v : Tok} {tk : Nat} (I : Inv X pins σ H s) (h1 : -(2 ^ 62) ≤ lo) (h2 : lo < 2 ^ 62) (h3 : -(2 ^ 62) ≤ hi) (h4 : hi < 2 ^ 62)
  (q : R (Itr lo (hi - lo).toNat) H) : wpAny (model X.prog X.w) X.A (pyIter (.ref s.heap.objs.size)) (PIE X pins σ tg R) E { s with heap := s.heap.push { cls := .type "range", data := .fields #[.int lo t, .int hi u, .int 1 v] }, toks := tk } := by
 refine wpAny_pyIter_range (IsRange.new ..) (small_one h1 h2 h3 h4) ?_
 have I1 : Inv X pins σ H { s with heap := s.heap.push { cls := .type "range", data := .fields #[.int lo t, .int hi u, .int 1 v] }, toks := tk } := I.kept fun b o e => Heap.get?_push_of_some _ e
 refine ⟨(s.heap.push { cls := .type "range", data := .fields #[.int lo t, .int hi u, .int 1 v] }).objs.size, [(s.heap.push { cls := .type "range", data := .fields #[.int lo t, .int hi u, .int 1 v] }).objs.size], _, _, H, rfl,
  I1.kept (t' := tk) fun b o e => Heap.get?_push_of_some _ e, ZT _ lo (hi - lo).toNat, ?_, fun b hb => ?_, q⟩
 ·have e1 : lo + ((0 : Nat) : Int) * 1 = lo := by simp
  have e2 : (((hi - lo).toNat : Nat) : Int) - ((0 : Nat) : Int) = Builtin.Range.rangeSize lo hi 1 := by rw [rangeSize_one]; split <;> omega
  show IsRangeIter _ _ (lo + ((0 : Nat) : Int) * 1) ((((hi - lo).toNat : Nat) : Int) - ((0 : Nat) : Int)) 1
  rw [e1, e2]
  exact Heap.get?_push_size _ rfl
 ·have e : b = (s.heap.push { cls := .type "range", data := .fields #[.int lo t, .int hi u, .int 1 v] }).objs.size := by simpa using hb
  subst e
  exact I1.fpOk lR (I1.hok.fresh lR)
noncomputable def iRng1 (ta : TA) : TI := fun σ H R => ta σ H fun vs H1 => ∃ j : Int, vs = [.int j] ∧ -(2 ^ 62) ≤ j ∧ j < 2 ^ 62 ∧ R (Itr 0 j.toNat) H1
theorem Kq {a : Expr} {ta : TA} {p pos : Pos} (hg : Gl X "range") (hm : X.mg "range" = none) (ha : PA X [a] ta) (hs : starEach [a] X.env = [(false, eval a X.env)] := by rfl) : PI X tg (.Call (.Name "range" p) [a] [] pos) (iRng1 ta) := by
 intro pins s σ H R I h
 refine Call_ (Xq I hg hm boot_range (PyProof.Rows.callWith_type1 (thn (ha pos pins s σ H _ I h) fun us s1 ⟨vs, H1, I1, r1, q1⟩ => ?_) hs rfl))
 obtain ⟨j, e, q1, q2, q⟩ := q1
 subst e
 cases r1 with
 | cons r rr =>
  cases rr
  obtain ⟨t, rfl⟩ := r
  exact call_range_1 (Vm I1 (by omega) (by omega) q1 q2 (by simpa using q))
noncomputable def tFor (wi : TI) (g : TG) (tb : TS) : TS := fun D σ H => wi σ H fun J H1 => ∃ W : Nat → Nat → St → Hp → Prop, (∃ m, W 0 m σ H1) ∧ ∀ i m σ H, W i m σ H →
 (J.stop i H ∧ D.nx σ H) ∨ (J.go i H ∧ ∃ N : St → Hp → Prop, (∀ σ' H', N σ' H' → ∃ m', m' < m ∧ W (i + 1) m' σ' H') ∧ ∀ x H', J.yld i H x H' → g x σ H' fun σ2 H2 => tb { D with nx := N, ct := N, bk := D.nx } σ2 H2)
noncomputable def qA (fp : List Addr) (h : Heap) : List (Addr × Obj) := fp.filterMap fun b => (h.get? b).map fun o => (b, o)
theorem cF {fp : List Addr} {h : Heap} {b : Addr} {o : Obj} (hb : b ∈ fp) (e : h.get? b = some o) : (b, o) ∈ qA fp h := List.mem_filterMap.mpr ⟨b, hb, by rw [e]; rfl⟩
theorem Kv {fp : List Addr} {h : Heap} {p : Addr × Obj} (hp : p ∈ qA fp h) : p.1 ∈ fp ∧ h.get? p.1 = some p.2 := by
 obtain ⟨b, hb, e⟩ := List.mem_filterMap.mp hp
 cases q : h.get? b with
 | none => rw [q] at e; cases e
 | some o =>
  rw [q] at e
  have e' : (b, o) = p := Option.some.inj e
  subst e'
  exact ⟨hb, q⟩
theorem Inv.pinned {pins : List (Addr × Obj)} {σ : St} {H : Hp} {s : Shared} {fp : List Addr} (I : Inv X pins σ H s) (hf : ∀ b ∈ fp, ZO X pins H b) (ho : ∀ b ∈ fp, ∃ o, s.heap.get? b = some o ∧ ∀ v, o.data ≠ .cell v) : Inv X (pins ++ qA fp s.heap) σ H s :=
 I.pins_of fun p hp => (List.mem_append.mp hp).elim (fun z => I.pin p (List.mem_append_right _ z)) fun z => by
  obtain ⟨hb, e⟩ := Kv z
  obtain ⟨f0, f1, f2, _⟩ := hf p.1 hb
  obtain ⟨o, e', d⟩ := ho p.1 hb
  rw [e] at e'; cases e'
  exact ⟨e, f0, f1, f2, d⟩
theorem Inv.unpinned {pins pl : List (Addr × Obj)} {σ : St} {H : Hp} {s : Shared} (I : Inv X (pins ++ pl) σ H s) : Inv X pins σ H s := I.pins_of fun p hp => I.pin p (List.mem_append_right _ (List.mem_append_left _ hp))
theorem ps_for {iter : Expr} {body : List Stmt} {wi : TI} {g : TG} {tb : TS} {pos : Pos} (hp : PassesOwn (model X.prog X.w) X.A X.env X.xe) (hc : X.calm = true) (hi : PI X tg iter wi) (hg : PG X tg g) (hb : PSs X body tb)
  (hs : ∀ x, foldedSetIterable iter X.env x = pure x := by intro _; rfl) : PS X (.For tg iter body [] pos) (tFor wi g tb) := by
 intro pins s σ H D I h
 refine wpAny_For (thn (hi pins s σ H _ I h) fun v s1 h1 => thn h1 fun itv s2 h2 => ?_) hs
 obtain ⟨it, fp, tn, J, H2, e, I2, T, st2, f2, W, ⟨m0, w0⟩, turn⟩ := h2
 subst e
 have stat : ∀ {H' : Hp}, (∀ b ∈ fp, H' b = none) → ∀ b ∈ fp, ZO X pins H' b := fun hn b hb => ⟨hn b hb, (f2 b hb).2⟩
 refine codeAny_forLoop_any (fun n s' => ∃ i σ' H', Inv X pins σ' H' s' ∧ tn i s'.heap ∧ (∀ b ∈ fp, H' b = none) ∧ W i n σ' H') ?_ m0 ⟨0, σ, H2, I2, st2, fun b hb => (f2 b hb).1, w0⟩
 rintro n s3 ⟨i, σ3, H3, I3, st3, fr3, w3⟩
 rcases turn i n σ3 H3 w3 with ⟨stop, qn⟩ | ⟨go, N, hN, step⟩
 ·refine wpAny_passesOwn hp (thn (T.done X rfl rfl rfl hc i pins s3 σ3 H3 X.xe I3 (stat fr3) st3 stop) fun r s4 ⟨hr, I4⟩ => ?_)
  subst hr
  exact wpAny_execs_nil ⟨σ3, H3, I4, qn⟩
 ·refine wpAny_passesOwn hp (thn (T.item X rfl rfl rfl hc i pins s3 σ3 H3 X.xe I3 (stat fr3) st3 go) fun r s4 ⟨u, hr, h4⟩ => ?_)
  subst hr
  refine wpAny_passesOwn hp (thn h4 fun _ s5 ⟨x, H5, I5, r5, y5, st5, fr5⟩ => ?_)
  have I5' := I5.pinned (stat fr5) (T.obj _ _ st5)
  refine wpAny_passesOwn hp (thn (hg _ s5 σ3 H5 x u _ I5' r5 (step x H5 y5)) fun _ s6 ⟨σ6, H6, I6, q6⟩ => ?_)
  refine wpAny_passesOwn hp (thn (hb _ s6 σ6 H6 _ I6 q6) fun f s7 q7 => ?_)
  have again : ∀ {σ7 : St} {H7 : Hp}, Inv X (pins ++ qA fp s5.heap) σ7 H7 s7 → N σ7 H7 → ∃ m, m < n ∧ ∃ i σ' H', Inv X pins σ' H' s7 ∧ tn i s7.heap ∧ (∀ b ∈ fp, H' b = none) ∧ W i m σ' H' := fun {σ7 H7} I7 n7 => by
   obtain ⟨m', hm, w7⟩ := hN σ7 H7 n7
   refine ⟨m', hm, i + 1, σ7, H7, I7.unpinned, T.keep _ _ _ st5 fun b hb o e => (I7.pin (b, o) (List.mem_append_right _ (List.mem_append_right _ (cF hb e)))).1, fun b hb => ?_, w7⟩
   obtain ⟨o, e, d⟩ := T.obj _ _ st5 b hb
   exact (I7.pin (b, o) (List.mem_append_right _ (List.mem_append_right _ (cF hb e)))).2.1
  cases f with
  | next => obtain ⟨σ7, H7, I7, n7⟩ := q7; exact again I7 n7
  | cont => obtain ⟨σ7, H7, I7, n7⟩ := q7; exact again I7 n7
  | brk => obtain ⟨σ7, H7, I7, q7⟩ := q7; exact ⟨σ7, H7, I7.unpinned, q7⟩
  | ret v => obtain ⟨x7, σ7, H7, I7, r7, q7⟩ := q7; exact ⟨x7, σ7, H7, I7.unpinned, r7, q7⟩
end
theorem Wf {K : W.Frag} {a : Addr} {xs : List V} {g : TG} {tb : TS} {D : ZP} {σ : St} {H : Hp} (Pv : Nat → St → Hp → Prop) (h0 : Pv 0 σ H) (hl : ∀ i σ H, i ≤ xs.length → Pv i σ H → SqL K H a xs)
  (hs : ∀ i x σ H, xs[i]? = some x → Pv i σ H → g x σ H fun σ2 H2 => tb { D with nx := Pv (i + 1), ct := Pv (i + 1), bk := D.nx } σ2 H2) (hd : ∀ σ H, Pv xs.length σ H → D.nx σ H) :
  ∃ W : Nat → Nat → St → Hp → Prop, (∃ m, W 0 m σ H) ∧ ∀ i m σ H, W i m σ H →
   ((Itl K a).stop i H ∧ D.nx σ H) ∨ ((Itl K a).go i H ∧ ∃ N : St → Hp → Prop, (∀ σ' H', N σ' H' → ∃ m', m' < m ∧ W (i + 1) m' σ' H') ∧ ∀ x H', (Itl K a).yld i H x H' → g x σ H' fun σ2 H2 => tb { D with nx := N, ct := N, bk := D.nx } σ2 H2) := by
 refine ⟨fun i m σ H => m = xs.length - i ∧ i ≤ xs.length ∧ Pv i σ H, ⟨xs.length, by simp, Nat.zero_le _, h0⟩, ?_⟩
 rintro i m σ H ⟨rfl, hi, p⟩
 have q := hl i σ H hi p
 by_cases hlt : i < xs.length
 ·refine .inr ⟨⟨xs, xs[i], q, by simp [hlt]⟩, Pv (i + 1), fun σ' H' p' => ⟨xs.length - (i + 1), by omega, rfl, hlt, p'⟩, fun x H' y => ?_⟩
  obtain ⟨e, y⟩ := y
  subst e
  exact hs i x σ _ (y xs q) p
 ·have e : i = xs.length := by omega
  subst e
  exact .inl ⟨⟨xs, q, Nat.le_refl _⟩, hd σ H p⟩
theorem bW {K : W.Frag} {a : Addr} {xs : List V} {g : TG} {tb : TS} {D : ZP} {σ : St} {H : Hp} (Pv : Nat → St → Hp → Prop) (h0 : Pv 0 σ H) (hl : ∀ i σ H, i ≤ xs.length → Pv i σ H → SqT K H a xs)
  (hs : ∀ i x σ H, xs[i]? = some x → Pv i σ H → g x σ H fun σ2 H2 => tb { D with nx := Pv (i + 1), ct := Pv (i + 1), bk := D.nx } σ2 H2) (hd : ∀ σ H, Pv xs.length σ H → D.nx σ H) :
  ∃ W : Nat → Nat → St → Hp → Prop, (∃ m, W 0 m σ H) ∧ ∀ i m σ H, W i m σ H →
   ((Itt K a).stop i H ∧ D.nx σ H) ∨ ((Itt K a).go i H ∧ ∃ N : St → Hp → Prop, (∀ σ' H', N σ' H' → ∃ m', m' < m ∧ W (i + 1) m' σ' H') ∧ ∀ x H', (Itt K a).yld i H x H' → g x σ H' fun σ2 H2 => tb { D with nx := N, ct := N, bk := D.nx } σ2 H2) := by
 refine ⟨fun i m σ H => m = xs.length - i ∧ i ≤ xs.length ∧ Pv i σ H, ⟨xs.length, by simp, Nat.zero_le _, h0⟩, ?_⟩
 rintro i m σ H ⟨rfl, hi, p⟩
 have q := hl i σ H hi p
 by_cases hlt : i < xs.length
 ·refine .inr ⟨⟨xs, xs[i], q, by simp [hlt]⟩, Pv (i + 1), fun σ' H' p' => ⟨xs.length - (i + 1), by omega, rfl, hlt, p'⟩, fun x H' y => ?_⟩
  obtain ⟨e, y⟩ := y
  subst e
  exact hs i x σ _ (y xs q) p
 ·have e : i = xs.length := by omega
  subst e
  exact .inl ⟨⟨xs, q, Nat.le_refl _⟩, hd σ H p⟩
theorem jH {lo : Int} {n : Nat} {g : TG} {tb : TS} {D : ZP} {σ : St} {H : Hp} (Pv : Nat → St → Hp → Prop) (h0 : Pv 0 σ H)
  (hs : ∀ i σ H, i < n → Pv i σ H → g (.int (lo + i)) σ H fun σ2 H2 => tb { D with nx := Pv (i + 1), ct := Pv (i + 1), bk := D.nx } σ2 H2) (hd : ∀ σ H, Pv n σ H → D.nx σ H) :
  ∃ W : Nat → Nat → St → Hp → Prop, (∃ m, W 0 m σ H) ∧ ∀ i m σ H, W i m σ H →
   ((Itr lo n).stop i H ∧ D.nx σ H) ∨ ((Itr lo n).go i H ∧ ∃ N : St → Hp → Prop, (∀ σ' H', N σ' H' → ∃ m', m' < m ∧ W (i + 1) m' σ' H') ∧ ∀ x H', (Itr lo n).yld i H x H' → g x σ H' fun σ2 H2 => tb { D with nx := N, ct := N, bk := D.nx } σ2 H2) := by
 refine ⟨fun i m σ H => m = n - i ∧ i ≤ n ∧ Pv i σ H, ⟨n, by simp, Nat.zero_le _, h0⟩, ?_⟩
 rintro i m σ H ⟨rfl, hi, p⟩
 by_cases hlt : i < n
 ·refine .inr ⟨hlt, Pv (i + 1), fun σ' H' p' => ⟨n - (i + 1), by omega, rfl, hlt, p'⟩, fun x H' y => ?_⟩
  obtain ⟨e, y⟩ := y
  subst e y
  exact hs i σ _ hlt p
 ·have e : i = n := by omega
  subst e
  exact .inl ⟨Nat.le_refl _, hd σ H p⟩
end L2
namespace L2
open PySem PySem.Spec PyProof.Rows
noncomputable abbrev R2 := V → V → Hp → VK → Prop
noncomputable def OpR (X : Cx) (f : Value → Value → Sem Value) (r : R2) : Prop :=
 ∀ (pins : List (Addr × Obj)) (s : Shared) (σ : St) (H : Hp) (x y : V) (v u : Value) (Q : VK), Inv X pins σ H s → RelV x v → RelV y u → r x y H Q →
  wpAny (model X.prog X.w) X.A (f v u) (EP X pins σ Q) X.xe s
noncomputable def UnR (X : Cx) (f : Value → Sem Value) (r : V → Hp → VK → Prop) : Prop :=
 ∀ (pins : List (Addr × Obj)) (s : Shared) (σ : St) (H : Hp) (x : V) (v : Value) (Q : VK), Inv X pins σ H s → RelV x v → r x H Q →
  wpAny (model X.prog X.w) X.A (f v) (EP X pins σ Q) X.xe s
noncomputable def pY (X : Cx) (f : Value) (r : List V → Hp → VK → Prop) : Prop :=
 ∀ (pins : List (Addr × Obj)) (s : Shared) (σ : St) (H : Hp) (xs : List V) (us : List Value) (Q : VK), Inv X pins σ H s → Vals xs us → r xs H Q →
  wpAny (model X.prog X.w) X.A (call f us) (EP X pins σ Q) X.xe s
noncomputable def TruR (X : Cx) (r : V → Hp → (Bool → Hp → Prop) → Prop) : Prop :=
 ∀ (pins : List (Addr × Obj)) (s : Shared) (σ : St) (H : Hp) (x : V) (v : Value) (Q : Bool → Hp → Prop), Inv X pins σ H s → RelV x v → r x H Q →
  wpAny (model X.prog X.w) X.A (truthy v) (TP X pins σ Q) X.xe s
noncomputable def tOp (r : R2) (ta tb : TE) : TE := fun σ H Q => ta σ H fun x H1 => tb σ H1 fun y H2 => r x y H2 Q
noncomputable def tUn (r : V → Hp → VK → Prop) (ta : TE) : TE := fun σ H Q => ta σ H fun x H1 => r x H1 Q
inductive II (C : Int → Int → Prop) (g : Int → Int → V) (x y : V) (H : Hp) (Q : VK) : Prop
 | mk (i j : Int) (h : x = .int i) (h' : y = .int j) (c : C i j) (q : Q (g i j) H) : II C g x y H Q
noncomputable def rI (C : Int → Int → Prop) (g : Int → Int → V) : R2 := II C g
inductive II0 (g : Int → Int → V) (x y : V) (H : Hp) (Q : VK) : Prop
 | mk (i j : Int) (h : x = .int i) (h' : y = .int j) (q : Q (g i j) H) : II0 g x y H Q
noncomputable def rI0 (g : Int → Int → V) : R2 := II0 g
noncomputable def rU (g : Int → V) : V → Hp → VK → Prop := fun x H Q => ∃ i, x = .int i ∧ Q (g i) H
section
variable {X : Cx} {a b c : Expr} {ta tb tc : TE} {pos : Pos}
theorem binT (ha : PE X a ta) (hb : PE X b tb) {pins : List (Addr × Obj)} {s : Shared} {σ : St} {H : Hp} {R : V → V → Hp → Prop} (I : Inv X pins σ H s)
  (h : ta σ H fun x H1 => tb σ H1 fun y H2 => R x y H2) {Q : Value → Shared → Prop} {f : Value → Value → Sem Value}
  (hf : ∀ v u s2 x y H2, Inv X pins σ H2 s2 → RelV x v → RelV y u → R x y H2 → wpAny (model X.prog X.w) X.A (f v u) Q X.xe s2) :
  wpAny (model X.prog X.w) X.A (eval a X.env) (fun v s₁ => wpAny (model X.prog X.w) X.A (eval b X.env) (fun u s₂ => wpAny (model X.prog X.w) X.A (f v u) Q X.xe s₂) X.xe s₁) X.xe s := by
 refine thn (ha pins s σ H _ I h) fun v s1 ⟨x, H1, I1, r1, q1⟩ => ?_
 refine thn (hb pins s1 σ H1 _ I1 q1) fun u s2 ⟨y, H2, I2, r2, q2⟩ => ?_
 exact hf v u s2 x y H2 I2 r1 r2 q2
theorem pe_op {op : Operator} {r : R2} (ho : OpR X (binaryOp op) r) (ha : PE X a ta) (hb : PE X b tb) : PE X (.BinOp a op b pos) (tOp r ta tb) := by
 intro pins s σ H Q I h
 exact wpAny_BinOp (binT ha hb I h fun v u s2 x y H2 I2 rx ry q => ho pins s2 σ H2 x y v u Q I2 rx ry q)
theorem pe_un {op : UnaryOp} {r : V → Hp → VK → Prop} (ho : UnR X (unaryOp op) r) (ha : PE X a ta) : PE X (.UnaryOp op a pos) (tUn r ta) := by
 intro pins s σ H Q I h
 exact UnaryOp_ (thn (ha pins s σ H _ I h) fun v s1 ⟨x, H1, I1, r1, q1⟩ => ho pins s1 σ H1 x v Q I1 r1 q1)
theorem opI {f : Value → Value → Sem Value} {C : Int → Int → Prop} {g : Int → Int → Int}
  (rule : ∀ (i j : Int) (t u : Tok) (s : Shared) (Q : Value → Shared → Prop) (E : Value → Shared → Prop), C i j → Q (.int (g i j) s.toks) { s with toks := s.toks + 1 } → wpAny (model X.prog X.w) X.A (f (.int i t) (.int j u)) Q E s) :
  OpR X f (rI C fun i j => .int (g i j)) := by
 intro pins s σ H x y v u Q I rx ry h
 obtain ⟨i, j, rfl, rfl, hc, q⟩ := h
 obtain ⟨t, rfl⟩ := rx
 obtain ⟨t', rfl⟩ := ry
 exact rule i j t t' s _ _ hc ⟨.int (g i j), H, I.tok _, ⟨_, rfl⟩, q⟩
theorem opI0 {f : Value → Value → Sem Value} {g : Int → Int → Int}
  (rule : ∀ (i j : Int) (t u : Tok) (s : Shared) (Q : Value → Shared → Prop) (E : Value → Shared → Prop), Q (.int (g i j) s.toks) { s with toks := s.toks + 1 } → wpAny (model X.prog X.w) X.A (f (.int i t) (.int j u)) Q E s) :
  OpR X f (rI0 fun i j => .int (g i j)) := by
 intro pins s σ H x y v u Q I rx ry h
 obtain ⟨i, j, rfl, rfl, q⟩ := h
 obtain ⟨t, rfl⟩ := rx
 obtain ⟨t', rfl⟩ := ry
 exact rule i j t t' s _ _ ⟨.int (g i j), H, I.tok _, ⟨_, rfl⟩, q⟩
theorem opB0 {f : Value → Value → Sem Value} {g : Int → Int → Bool}
  (rule : ∀ (i j : Int) (t u : Tok) (s : Shared) (Q : Value → Shared → Prop) (E : Value → Shared → Prop), Q (.bool (g i j)) s → wpAny (model X.prog X.w) X.A (f (.int i t) (.int j u)) Q E s) :
  OpR X f (rI0 fun i j => .bl (g i j)) := by
 intro pins s σ H x y v u Q I rx ry h
 obtain ⟨i, j, rfl, rfl, q⟩ := h
 obtain ⟨t, rfl⟩ := rx
 obtain ⟨t', rfl⟩ := ry
 exact rule i j t t' s _ _ ⟨.bl (g i j), H, I, rfl, q⟩
noncomputable def CPow (i j : Int) : Prop := 0 ≤ j ∧ j ≤ 1000000 ∧ i.natAbs < 2 ^ 64
noncomputable def CMul (i j : Int) : Prop := (-(2 ^ 64) < i ∧ i < 2 ^ 64) ∨ (-(2 ^ 64) < j ∧ j < 2 ^ 64)
theorem CMul.ok {i j : Int} (h : CMul i j) : IntMulOk i j := by
 rcases h with ⟨h1, h2⟩ | ⟨h1, h2⟩
 ·exact .of_left (intBits_le_64 h1 h2)
 ·exact .of_right (intBits_le_64 h1 h2)
theorem fJ : OpR X (binaryOp .Add) (rI0 fun i j => .int (i + j)) := opI0 fun _ _ _ _ _ _ _ q => add_int q
theorem oH : OpR X (binaryOp .Sub) (rI0 fun i j => .int (i - j)) := opI0 fun _ _ _ _ _ _ _ q => sub_int q
theorem vA : OpR X (binaryOp .Mult) (rI CMul fun i j => .int (i * j)) := opI fun _ _ _ _ _ _ _ hc q => mul_int q hc.ok
theorem yF : OpR X (binaryOp .Mod) (rI (fun _ j => 0 < j) fun i j => .int (i % j)) := opI fun i j _ _ _ _ _ hc q => by
 have h1 : (0 : Int) < j := hc
 exact mod_int' (by omega) (by rw [Int.fmod_eq_emod_of_nonneg i (by omega)]; exact q)
theorem xA : OpR X (binaryOp .Pow) (rI CPow fun i j => .int (i ^ j.toNat)) := opI fun _ _ _ _ _ _ _ hc q => pow_int_small hc.1 hc.2.1 hc.2.2 q
theorem JV : OpR X (inplaceOp .Add) (rI0 fun i j => .int (i + j)) := opI0 fun _ _ _ _ _ _ _ q => iadd_int q
theorem unI {f : Value → Sem Value} {g : Int → Int}
  (rule : ∀ (i : Int) (t : Tok) (s : Shared) (Q : Value → Shared → Prop) (E : Value → Shared → Prop), Q (.int (g i) s.toks) { s with toks := s.toks + 1 } → wpAny (model X.prog X.w) X.A (f (.int i t)) Q E s) :
  UnR X f (rU fun i => .int (g i)) := by
 intro pins s σ H x v Q I rx h
 obtain ⟨i, rfl, q⟩ := h
 obtain ⟨t, rfl⟩ := rx
 exact rule i t s _ _ ⟨.int (g i), H, I.tok _, ⟨_, rfl⟩, q⟩
theorem aD : UnR X (unaryOp .USub) (rU fun i => .int (-i)) := unI fun _ _ _ _ _ q => neg_int q
end
noncomputable def scal : V → V → Bool
 | .non, .non => true | .non, .int _ => true | .int _, .non => true | .non, .bl _ => true | .bl _, .non => true | .non, .str _ => true | .str _, .non => true
 | .int _, .int _ => true | .bl _, .bl _ => true | .str _, .str _ => true | .byt _, .byt _ => true
 | .int _, .str _ => true | .str _, .int _ => true | .bl _, .str _ => true | .str _, .bl _ => true
 | _, _ => false
noncomputable def rEq : R2 := fun x y H Q => scal x y = true ∧ Q (.bl (decide (x = y))) H
noncomputable def rNe : R2 := fun x y H Q => scal x y = true ∧ Q (.bl (!decide (x = y))) H
theorem J4 {i j : Int} : decide (V.int i = V.int j) = (i == j) := by
 rw [Bool.eq_iff_iff]
 simp
theorem Wl {i j : Bool} : decide (V.bl i = V.bl j) = (i == j) := by
 rw [Bool.eq_iff_iff]
 simp
theorem J3 {i j : Str} : decide (V.str i = V.str j) = (i == j) := by
 rw [Bool.eq_iff_iff]
 simp
theorem J5 {i j : Array UInt8} : decide (V.byt i = V.byt j) = (i.toList == j.toList) := by
 rw [Bool.eq_iff_iff]
 cases i
 cases j
 simp
section
variable {X : Cx} {a b c : Expr} {ta tb tc : TE} {pos : Pos}
theorem gZ {pins : List (Addr × Obj)} {σ : St} {H : Hp} {s : Shared} {Q : VK} {k k' : Bool} (I : Inv X pins σ H s) (q : Q (.bl k) H) (e : k = k') : EP X pins σ Q (.bool k') s := by
 subst e
 exact ⟨.bl k, H, I, rfl, q⟩
theorem wZ : OpR X (compareOp .Eq) rEq := by
 intro pins s σ H x y v u Q I rx ry h
 obtain ⟨hs, q⟩ := h
 cases x with
 | non =>
  cases rx
  cases y with
  | non => cases ry; exact PySem.EqNone.eq_none_none (gZ I q (by simp))
  | bl j => cases ry; exact PySem.EqNone.eq_none_bool (gZ I q (by simp))
  | int j => obtain ⟨t', rfl⟩ := ry; exact PySem.EqNone.eq_none_int (gZ I q (by simp))
  | str j => obtain ⟨t', rfl⟩ := ry; exact PySem.EqNone.eq_none_str (gZ I q (by simp))
  | _ => exact absurd (show false = true from hs) Bool.false_ne_true
 | bl i =>
  cases rx
  cases y with
  | non => cases ry; exact PySem.EqNone.eq_bool_none (gZ I q (by simp))
  | bl j => cases ry; exact eq_bool (gZ I q Wl)
  | str j => obtain ⟨t', rfl⟩ := ry; exact PySem.EqMixed.eq_bool_str (gZ I q (by simp))
  | _ => exact absurd (show false = true from hs) Bool.false_ne_true
 | int i =>
  obtain ⟨t, rfl⟩ := rx
  cases y with
  | non => cases ry; exact PySem.EqNone.eq_int_none (gZ I q (by simp))
  | int j => obtain ⟨t', rfl⟩ := ry; exact eq_int (gZ I q J4)
  | str j => obtain ⟨t', rfl⟩ := ry; exact PySem.EqMixed.eq_int_str (gZ I q (by simp))
  | _ => exact absurd (show false = true from hs) Bool.false_ne_true
 | str i =>
  obtain ⟨t, rfl⟩ := rx
  cases y with
  | non => cases ry; exact PySem.EqNone.eq_str_none (gZ I q (by simp))
  | bl j => cases ry; exact PySem.EqMixed.eq_str_bool (gZ I q (by simp))
  | int j => obtain ⟨t', rfl⟩ := ry; exact PySem.EqMixed.eq_str_int (gZ I q (by simp))
  | str j => obtain ⟨t', rfl⟩ := ry; exact eq_str (gZ I q J3)
  | _ => exact absurd (show false = true from hs) Bool.false_ne_true
 | byt i =>
  obtain ⟨t, rfl⟩ := rx
  cases y with
  | byt j => obtain ⟨t', rfl⟩ := ry; exact W.eq_bytes (gZ I q J5)
  | _ => exact absurd (show false = true from hs) Bool.false_ne_true
 | _ => cases y <;> exact absurd (show false = true from hs) Bool.false_ne_true
theorem lD : OpR X (compareOp .NotEq) rNe := by
 intro pins s σ H x y v u Q I rx ry h
 obtain ⟨hs, q⟩ := h
 cases x with
 | non =>
  cases rx
  cases y with
  | non => cases ry; exact PySem.EqNone.ne_none_none (gZ I q (by simp))
  | bl j => cases ry; exact PySem.EqNone.ne_none_bool (gZ I q (by simp))
  | int j => obtain ⟨t', rfl⟩ := ry; exact PySem.EqNone.ne_none_int (gZ I q (by simp))
  | str j => obtain ⟨t', rfl⟩ := ry; exact PySem.EqNone.ne_none_str (gZ I q (by simp))
  | _ => exact absurd (show false = true from hs) Bool.false_ne_true
 | bl i =>
  cases rx
  cases y with
  | non => cases ry; exact PySem.EqNone.ne_bool_none (gZ I q (by simp))
  | bl j => cases ry; exact ne_bool (gZ I q (congrArg not Wl))
  | str j => obtain ⟨t', rfl⟩ := ry; exact PySem.EqMixed.ne_bool_str (gZ I q (by simp))
  | _ => exact absurd (show false = true from hs) Bool.false_ne_true
 | int i =>
  obtain ⟨t, rfl⟩ := rx
  cases y with
  | non => cases ry; exact PySem.EqNone.ne_int_none (gZ I q (by simp))
  | int j => obtain ⟨t', rfl⟩ := ry; exact ne_int (gZ I q (congrArg not J4))
  | str j => obtain ⟨t', rfl⟩ := ry; exact PySem.EqMixed.ne_int_str (gZ I q (by simp))
  | _ => exact absurd (show false = true from hs) Bool.false_ne_true
 | str i =>
  obtain ⟨t, rfl⟩ := rx
  cases y with
  | non => cases ry; exact PySem.EqNone.ne_str_none (gZ I q (by simp))
  | bl j => cases ry; exact PySem.EqMixed.ne_str_bool (gZ I q (by simp))
  | int j => obtain ⟨t', rfl⟩ := ry; exact PySem.EqMixed.ne_str_int (gZ I q (by simp))
  | str j => obtain ⟨t', rfl⟩ := ry; exact ne_str (gZ I q (congrArg not J3))
  | _ => exact absurd (show false = true from hs) Bool.false_ne_true
 | byt i =>
  obtain ⟨t, rfl⟩ := rx
  cases y with
  | byt j => obtain ⟨t', rfl⟩ := ry; exact W.ne_bytes (gZ I q (congrArg not J5))
  | _ => exact absurd (show false = true from hs) Bool.false_ne_true
 | _ => cases y <;> exact absurd (show false = true from hs) Bool.false_ne_true
theorem bL : OpR X (compareOp .Lt) (rI0 fun i j => .bl (decide (i < j))) := opB0 fun _ _ _ _ _ _ _ q => lt_int q
theorem rD : OpR X (compareOp .LtE) (rI0 fun i j => .bl (decide (i ≤ j))) := opB0 fun _ _ _ _ _ _ _ q => le_int q
theorem eG : OpR X (compareOp .Gt) (rI0 fun i j => .bl (decide (j < i))) := opB0 fun _ _ _ _ _ _ _ q => gt_int q
theorem op_ge : OpR X (compareOp .GtE) (rI0 fun i j => .bl (decide (j ≤ i))) := opB0 fun _ _ _ _ _ _ _ q => ge_int q
theorem Ks : OpR X (compareOp .In) (fun x y H Q => ∃ i j, x = .str i ∧ y = .str j ∧ Q (.bl (!(Builtin.Str.occurrences j i 0 j.length 1).isEmpty)) H) := by
 intro pins s σ H x y v u Q I rx ry h
 obtain ⟨i, j, rfl, rfl, q⟩ := h
 obtain ⟨t, rfl⟩ := rx
 obtain ⟨t', rfl⟩ := ry
 exact in_str (gZ I q rfl)
theorem Z0 : OpR X (compareOp .Is) (fun x y H Q => y = .non ∧ Q (.bl (decide (x = .non))) H) := by
 intro pins s σ H x y v u Q I rx ry h
 obtain ⟨rfl, q⟩ := h
 cases ry
 refine is_none_gen (gZ I q ?_)
 cases x <;> first
  | (cases rx; rfl)
  | (obtain ⟨t, rfl⟩ := rx; rfl)
theorem JC : OpR X (compareOp .IsNot) (fun x y H Q => y = .non ∧ Q (.bl (!decide (x = .non))) H) := by
 intro pins s σ H x y v u Q I rx ry h
 obtain ⟨rfl, q⟩ := h
 cases ry
 refine isnot_none_gen (gZ I q ?_)
 cases x <;> first
  | (cases rx; rfl)
  | (obtain ⟨t, rfl⟩ := rx; rfl)
theorem oQ (b : Expr) {op : CmpOp} (h : op ≠ .In := by decide) (h2 : op ≠ .NotIn := by decide) : behindInMarks op b = false := by
 have e1 : (op == CmpOp.In) = false := by cases op <;> first | rfl | exact absurd rfl h
 have e2 : (op == CmpOp.NotIn) = false := by cases op <;> first | rfl | exact absurd rfl h2
 cases b <;> simp [behindInMarks, e1, e2]
theorem pe_cmpR {op : CmpOp} {r : R2} (ho : OpR X (compareOp op) r) (ha : PE X a ta) (hb : PE X b tb) (hm : behindInMarks op b = false) : PE X (.Compare a [op] [b] pos) (tOp r ta tb) := by
 intro pins s σ H Q I h
 exact wpAny_Compare1 (binT ha hb I h fun v u s2 x y H2 I2 rx ry q => ho pins s2 σ H2 x y v u Q I2 rx ry q) hm
noncomputable def Jq (t : TE) : TT := fun σ H Q => t σ H (IBl Q)
theorem pt_cmpR {op : CmpOp} {r : R2} (ho : OpR X (compareOp op) r) (ha : PE X a ta) (hb : PE X b tb) (hm : behindInMarks op b = false) : PT X (.Compare a [op] [b] pos) (Jq (tOp r ta tb)) := by
 intro pins s σ H Q I h
 refine wpAny_isTrue_Compare1 (thn (ha pins s σ H _ I h) fun v s1 ⟨x, H1, I1, r1, q1⟩ => thn (hb pins s1 σ H1 _ I1 q1) fun u s2 ⟨y, H2, I2, r2, q2⟩ =>
  thn (ho pins s2 σ H2 x y v u _ I2 r1 r2 q2) fun c s3 ⟨z, H3, I3, r3, k, e, q3⟩ => ?_) hm
 subst e
 cases r3
 exact wpAny_truthy_bool ⟨H3, I3, q3⟩
noncomputable def Xb (r r' : R2) (ta tb tc : TE) : TE := fun σ H Q => ta σ H fun x H1 => tb σ H1 fun y H2 => r x y H2 fun z H3 => ∃ k, z = .bl k ∧
 (if k = true then tc σ H3 fun w' H4 => r' y w' H4 Q else Q (.bl false) H3)
theorem VD {op op' : CmpOp} {r r' : R2} (ho : OpR X (compareOp op) r) (ho' : OpR X (compareOp op') r') (ha : PE X a ta) (hb : PE X b tb) (hc : PE X c tc)
  (hm : lastMarks [op, op'] [b, c] = false := by with_unfolding_all rfl) : PE X (.Compare a [op, op'] [b, c] pos) (Xb r r' ta tb tc) := by
 intro pins s σ H Q I h
 refine Compare_chain (thn (ha pins s σ H _ I h) fun v s1 ⟨x, H1, I1, r1, q1⟩ => chain_link (thn (hb pins s1 σ H1 _ I1 q1) fun u s2 ⟨y, H2, I2, r2, q2⟩ =>
  thn (ho pins s2 σ H2 x y v u _ I2 r1 r2 q2) fun d s3 ⟨z, H3, I3, r3, k, e, q3⟩ => ?_)) hm
 subst e
 cases r3
 refine wpAny_truthy_bool ?_
 cases k with
 | false => exact ite_ff ⟨.bl false, H3, I3, rfl, q3⟩
 | true => exact ite_tt (chain_last (thn (hc pins s3 σ H3 _ I3 q3) fun w' s4 ⟨z', H4, I4, r4, q4⟩ => ho' pins s4 σ H4 y z' u w' Q I4 r2 r4 q4))
theorem Vq {op op' : CmpOp} {r r' : R2} (ho : OpR X (compareOp op) r) (ho' : OpR X (compareOp op') r') (ha : PE X a ta) (hb : PE X b tb) (hc : PE X c tc)
  (hm : lastMarks [op, op'] [b, c] = false := by with_unfolding_all rfl) : PT X (.Compare a [op, op'] [b, c] pos) (Jq (Xb r r' ta tb tc)) := by
 intro pins s σ H Q I h
 refine isTrue_chain (thn (ha pins s σ H _ I h) fun v s1 ⟨x, H1, I1, r1, q1⟩ => test_link (thn (hb pins s1 σ H1 _ I1 q1) fun u s2 ⟨y, H2, I2, r2, q2⟩ =>
  thn (ho pins s2 σ H2 x y v u _ I2 r1 r2 q2) fun d s3 ⟨z, H3, I3, r3, k, e, q3⟩ => ?_)) hm
 subst e
 cases r3
 refine wpAny_truthy_bool ?_
 cases k with
 | false =>
  obtain ⟨k', e', q'⟩ := q3
  cases e'
  exact ite_ff ⟨H3, I3, q'⟩
 | true =>
  refine ite_tt (test_last (thn (hc pins s3 σ H3 _ I3 q3) fun w' s4 ⟨z', H4, I4, r4, q4⟩ => thn (ho' pins s4 σ H4 y z' u w' _ I4 r2 r4 q4) fun d' s5 ⟨z2, H5, I5, r5, k2, e2, q5⟩ => ?_))
  subst e2
  cases r5
  exact wpAny_truthy_bool ⟨H5, I5, q5⟩
noncomputable def TruV (K : W.Frag) (x : V) (H : Hp) (k : Bool) : Prop :=
 match x with
 | .non => k = false
 | .bl b => k = b
 | .int i => k = (i != 0)
 | .str y => y.length ≤ sizeLine ∧ k = ((y.length : Int) != 0)
 | .byt y => y.size ≤ sizeLine ∧ k = ((y.size : Int) != 0)
 | .ref p => (∃ xs, SqL K H p xs ∧ k = !xs.isEmpty) ∨ (∃ xs, SqT K H p xs ∧ k = !xs.isEmpty) ∨ ∃ kvs, H p = some (.dK kvs) ∧ k = !kvs.isEmpty
 | _ => False
theorem Jb {κ : Type} {kvs : List (κ × V)} {vs : List (κ × Value)} (r : KV kvs vs) : (!vs.isEmpty) = !kvs.isEmpty := by
 cases r <;> rfl
theorem mI {xs : List V} {its : List Value} (r : Vals xs its) : (!its.toArray.isEmpty) = !xs.isEmpty := by
 cases r <;> simp
theorem rL : (sizeLine : Nat) < 2 ^ 63 := by rw [sizeLine_eq]; decide
theorem tru_ok : TruR X (fun x H Q => ∃ k, TruV X.K x H k ∧ Q k H) := by
 intro pins s σ H x v Q I rx h
 obtain ⟨k, e, q⟩ := h
 have hl := rL
 have hs : sizeLine = 16777216 := sizeLine_eq
 cases x with
 | non =>
  cases rx
  have e' : k = false := e
  subst e'
  exact truthy_none ⟨H, I, q⟩
 | bl b =>
  cases rx
  have e' : k = b := e
  subst e'
  exact wpAny_truthy_bool ⟨H, I, q⟩
 | int i =>
  obtain ⟨t, rfl⟩ := rx
  have e' : k = (i != 0) := e
  subst e'
  exact PySem.P.truthy_int ⟨H, I, q⟩
 | str y =>
  obtain ⟨t, rfl⟩ := rx
  obtain ⟨hy, e'⟩ : y.length ≤ sizeLine ∧ k = ((y.length : Int) != 0) := e
  subst e'
  exact PySem.P.truthy_str (by omega) ⟨H, I.tok _, q⟩
 | byt y =>
  obtain ⟨t, rfl⟩ := rx
  obtain ⟨hy, e'⟩ : y.size ≤ sizeLine ∧ k = ((y.size : Int) != 0) := e
  subst e'
  exact W.truthy_bytes (by omega) ⟨H, I.tok _, q⟩
 | ref p =>
  cases rx
  have e' : (∃ xs, SqL X.K H p xs ∧ k = !xs.isEmpty) ∨ (∃ xs, SqT X.K H p xs ∧ k = !xs.isEmpty) ∨ ∃ kvs, H p = some (.dK kvs) ∧ k = !kvs.isEmpty := e
  rcases e' with ⟨xs, hx, e'⟩ | ⟨xs, hx, e'⟩ | ⟨kvs, hx, e'⟩
  ·subst e'
   obtain ⟨its, r, pl, hz⟩ := I.list hx
   have hlen := r.length
   exact wpAny_truthy_list pl.isList (by simp only [List.size_toArray]; omega) ⟨H, I.tok _, by rw [mI r]; exact q⟩
  ·subst e'
   obtain ⟨its, r, pl, hz⟩ := I.tuple hx
   have hlen := r.length
   exact truthy_tuple pl (by simp only [List.size_toArray]; omega) ⟨H, I.tok _, by rw [mI r]; exact q⟩
  ·subst e'
   obtain ⟨hz, hS, vs, r, m⟩ : kvs.length ≤ sizeLine ∧ (p == sysModules) = false ∧ ∃ vs, KV kvs vs ∧ s.heap.DictOf (iZ X.prog X.w) p vs := I.hok p _ hx
   have hlen : kvs.length = vs.length := Paired.length r
   exact wpAny_truthy_dict hS m (by omega) ⟨H, I.tok _, by rw [Jb r]; exact q⟩
 | _ => exact (show False from e).elim
theorem Vp (ha : PE X a ta) (he : ∀ whole, isTrue a X.env whole = (do let v ← whole; standAt a.pos; holding [v] (truthy v))) :
  PT X a (fun σ H Q => ta σ H fun x H' => ∃ k, TruV X.K x H' k ∧ Q k H') := by
 intro pins s σ H Q I h
 exact isTrue_plain (thn (ha pins s σ H _ I h) fun v s1 ⟨x, H1, I1, r1, q1⟩ => tru_ok pins s1 σ H1 x v Q I1 r1 q1) (he _)
theorem wA : OpR X (binaryOp .Add) (fun x y H Q => ∃ i j, x = .str i ∧ y = .str j ∧ i.length + j.length ≤ sizeLine ∧ Q (.str (i ++ j)) H) := by
 intro pins s σ H x y v u Q I rx ry h
 obtain ⟨i, j, rfl, rfl, hz, q⟩ := h
 obtain ⟨t, rfl⟩ := rx
 obtain ⟨t', rfl⟩ := ry
 exact add_str (fun t' tk => ⟨.str (i ++ j), H, I.tok _, ⟨_, rfl⟩, q⟩) hz
theorem uH {x : V} {us : List Value} (r : Vals [x] us) : ∃ u, us = [u] ∧ RelV x u := by
 cases r with
 | cons r1 r2 => cases r2; exact ⟨_, rfl, r1⟩
theorem Va {x y : V} {us : List Value} (r : Vals [x, y] us) : ∃ u w', us = [u, w'] ∧ RelV x u ∧ RelV y w' := by
 cases r with
 | cons r1 r2 =>
  cases r2 with
  | cons r3 r4 => cases r4; exact ⟨_, _, rfl, r1, r3⟩
theorem Wn : pY X (.builtin "abs") (fun xs H Q => ∃ i, xs = [.int i] ∧ Q (.int (if i < 0 then -i else i)) H) := by
 intro pins s σ H xs us Q I r h
 obtain ⟨i, rfl, q⟩ := h
 obtain ⟨u, rfl, t, rfl⟩ := uH r
 exact call_abs_int fun u tk => ⟨.int (if i < 0 then -i else i), H, I.tok _, ⟨_, rfl⟩, q⟩
theorem KW (hc : X.calm = true) : pY X (.builtin "max") (fun xs H Q => ∃ i j, xs = [.int i, .int j] ∧ Q (.int (if j > i then j else i)) H) := by
 intro pins s σ H xs us Q I r h
 obtain ⟨i, j, rfl, q⟩ := h
 obtain ⟨u, w', rfl, ⟨t, rfl⟩, ⟨t', rfl⟩⟩ := Va r
 refine max_two_ints (I.ok.hd hc) fun h' tk k => ⟨_, H, I.kept k, ?_, q⟩
 by_cases hj : j > i
 ·rw [if_pos hj, if_pos hj]; exact ⟨_, rfl⟩
 ·rw [if_neg hj, if_neg hj]; exact ⟨_, rfl⟩
theorem KY : pY X (.type "int") (fun xs H Q => (∃ i, xs = [.int i] ∧ Q (.int i) H) ∨ ∃ k, xs = [.bl k] ∧ Q (.int (if k then 1 else 0)) H) := by
 intro pins s σ H xs us Q I r h
 rcases h with ⟨i, rfl, q⟩ | ⟨k, rfl, q⟩
 ·obtain ⟨u, rfl, t, rfl⟩ := uH r
  exact call_int_int ⟨.int i, H, I, ⟨_, rfl⟩, q⟩
 ·obtain ⟨u, rfl, r1⟩ := uH r
  cases r1
  exact call_int_bool ⟨.int (if k then 1 else 0), H, I.tok _, ⟨_, rfl⟩, q⟩
theorem XC : pY X (.type "str") (fun xs H Q => ∃ i, xs = [.int i] ∧ i.natAbs.log2 < 1920 ∧ Q (.str (toString i)) H) := by
 intro pins s σ H xs us Q I r h
 obtain ⟨i, rfl, hz, q⟩ := h
 obtain ⟨u, rfl, t, rfl⟩ := uH r
 exact PySem.P.str_of_int hz ⟨.str _, H, I.tok _, ⟨_, rfl⟩, q⟩
noncomputable def LenV (K : W.Frag) (x : V) (H : Hp) (n : Nat) : Prop :=
 match x with
 | .str y => y.length ≤ sizeLine ∧ n = y.length
 | .byt y => y.size ≤ sizeLine ∧ n = y.size
 | .ref p => (∃ xs, SqL K H p xs ∧ n = xs.length) ∨ ∃ xs, SqT K H p xs ∧ n = xs.length
 | _ => False
theorem qX : pY X (.builtin "len") (fun xs H Q => ∃ x n, xs = [x] ∧ LenV X.K x H n ∧ Q (.int n) H) := by
 intro pins s σ H xs us Q I r h
 obtain ⟨x, n, rfl, e, q⟩ := h
 obtain ⟨u, rfl, rx⟩ := uH r
 have hl := rL
 have hs : sizeLine = 16777216 := sizeLine_eq
 cases x with
 | str y =>
  obtain ⟨t, rfl⟩ := rx
  obtain ⟨hy, e'⟩ : y.length ≤ sizeLine ∧ n = y.length := e
  subst e'
  exact len_str (by omega) ⟨.int _, H, I.tok _, ⟨_, rfl⟩, q⟩
 | byt y =>
  obtain ⟨t, rfl⟩ := rx
  obtain ⟨hy, e'⟩ : y.size ≤ sizeLine ∧ n = y.size := e
  subst e'
  exact W.len_bytes (by omega) ⟨.int _, H, I.tok _, ⟨_, rfl⟩, q⟩
 | ref p =>
  cases rx
  have e' : (∃ xs, SqL X.K H p xs ∧ n = xs.length) ∨ ∃ xs, SqT X.K H p xs ∧ n = xs.length := e
  rcases e' with ⟨xs, hx, e'⟩ | ⟨xs, hx, e'⟩
  ·subst e'
   obtain ⟨its, r', pl, hz⟩ := I.list hx
   have hlen := r'.length
   exact Calls.call_len_list pl.isList (by simp only [List.size_toArray]; omega) ⟨.int xs.length, H, I.tok _, ⟨_, by simp only [List.size_toArray]; rw [hlen]⟩, q⟩
  ·subst e'
   obtain ⟨its, r', pl, hz⟩ := I.tuple hx
   have hlen := r'.length
   exact len_tuple pl (by simp only [List.size_toArray]; omega) ⟨.int xs.length, H, I.tok _, ⟨_, by simp only [List.size_toArray]; rw [hlen]⟩, q⟩
 | _ => exact (show False from e).elim
end
end L2
namespace L2
open PySem PySem.Spec PyProof.Rows
structure ObjM (h : Heap) (x dx C : Addr) (mA : Str → Option Value) : Prop where
 obj : h.get? x = some (W.instObj C dx)
 ns : h.Ns1 dx mA
 ne : dx ≠ x
theorem KC {h : Heap} {dx : Addr} {mA : Str → Option Value} (n : h.Ns1 dx mA) : ∃ od, h.get? dx = some od ∧ ∀ name, W.lookIn name od = some (mA name) := by
 obtain ⟨o, es, ep, ho, hd, hk, _, hm⟩ := n
 refine ⟨o, ho, fun name => ?_⟩
 have e := hm name
 unfold nsFind findBy at e
 rw [← Array.find?_toList] at e
 unfold W.lookIn
 rw [hd]
 dsimp only
 split
 ·rename_i y q
  rw [q] at e
  exact congrArg some e
 ·rename_i q
  rw [q] at e
  have a : es.toList.any (·.refKey) = false := by
   rw [List.any_eq_false]
   intro y hy
   obtain ⟨z, t, hkey⟩ := hk y (Array.mem_toList_iff.mp hy)
   simp [DictEntry.refKey, hkey]
  have a' : ¬ es.toList.any (·.refKey) = true := by rw [a]; exact Bool.false_ne_true
  rw [if_neg a']
  exact congrArg some e
theorem ObjM.look {h : Heap} {x dx C : Addr} {mA : Str → Option Value} (I : ObjM h x dx C mA) : ∃ od, W.InstAt h x (W.instObj C dx) C (some od) ∧ ∀ name, W.lookIn name od = some (mA name) :=
 let ⟨od, ho, hl⟩ := KC I.ns
 ⟨od, ⟨I.obj, rfl, rfl, ho⟩, hl⟩
theorem RelO.some_of {v : V} {o : Option Value} (r : RelO (some v) o) : ∃ u, o = some u ∧ RelV v u := by
 cases o with
 | none => exact (show False from r).elim
 | some u => exact ⟨u, rfl, r⟩
section
variable {P : Program} {w : World} {H H' : Hp} {h h' : Heap} {a C dx : Addr} {fs fs' : List (Str × V)}
theorem JX (hok : HOk P w H h) (e : H a = some (.ins C dx fs)) : ∃ mA, ObjM h a dx C mA ∧ (∀ f, RelO (fs.lookup f) (mA f)) ∧ PySem.Within mA (fs.map (·.1)) ∧ fs.length ≤ 1000 ∧ H dx = some (.own a) := by
 obtain ⟨d, z, ne, ob, mA, n, r, q⟩ := (show ObjOk P w H h a (.ins C dx fs) from hok a _ e)
 exact ⟨mA, ⟨ob, n, ne⟩, r, q, z, d⟩
end
structure Cls (K : W.Frag) (C : Addr) : Prop where
 pg : W.plainGet K C Str.empty = true
 hd : W.hasDictIn K C = true
 po : W.plainOver K C = true
 sa : W.findIn K (.ref C) "__setattr__" = some (some (.builtin "object.__setattr__"))
theorem Cls.get {K : W.Frag} {C : Addr} (c : Cls K C) (f : Str) : W.plainGet K C f = true := c.pg
section
variable {X : Cx} {pins : List (Addr × Obj)} {σ : St} {H : Hp} {s : Shared} {A : Around} {E : Value → Shared → Prop} {Q : Value → Shared → Prop} {c : Value} {b : Bool}
inductive xR (K : W.Frag) (H : Hp) : V → Value → Prop where
 | non : xR K H .non (.type "NoneType")
 | bl (x : Bool) : xR K H (.bl x) (.type "bool")
 | int (i : Int) : xR K H (.int i) (.type "int")
 | str (x : Str) : xR K H (.str x) (.type "str")
 | flt (x : UInt64) : xR K H (.flt x) (.type "float")
 | lst {a : Addr} {xs : List V} (e : H a = some (.lst xs)) : xR K H (.ref a) (.type "list")
 | frz {a : Addr} {o : Obj} {xs : List V} (e : H a = some (.frz o (.lst xs))) : xR K H (.ref a) (.type "list")
 | tup {a : Addr} {xs : List V} (e : H a = some (.tup xs)) : xR K H (.ref a) (.type "tuple")
 | dK {a : Addr} {kvs : List (Key × V)} (e : H a = some (.dK kvs)) : xR K H (.ref a) (.type "dict")
 | dT {a : Addr} {kvs : List (List Key × V)} (e : H a = some (.dT kvs)) : xR K H (.ref a) (.type "dict")
 | ins {a C dx : Addr} {fs : List (Str × V)} (e : H a = some (.ins C dx fs)) (cl : Cls K C) (ha : W.findIn K (.ref C) "__class__" = some (some (.builtin "object.__class__")))
   (hn : W.specialIn K (.builtin "object.__class__") "__get__" = some (some (.builtin "getset_descriptor.__get__"))) (htk : W.takesIn K (.builtin "object.__class__") = some true)
   (hm : W.mroIn K C (.type "object") = some true) : xR K H (.ref a) (.ref C)
theorem KJ {x : V} {u t : Value} (I : Inv X pins σ H s) (rx : RelV x u) (ty : xR X.K H x t) (e : W.kitOne X.K t c = some b) (h : ∀ tk, Q (.bool b) { s with toks := tk }) :
  wpAny (model X.prog X.w) A (call (.builtin "isinstance") [u, c]) Q E s := by
 cases ty with
 | non => cases (show u = Value.none from rx); exact W.kia_one W.kitx_none I.kIn True.intro e (fun z => nomatch z) h
 | bl y => cases (show u = Value.bool y from rx); exact W.kia_one W.kitx_bool I.kIn True.intro e (fun z => nomatch z) h
 | int i => obtain ⟨t, q⟩ := (show ∃ t, u = Value.int i t from rx); cases q; exact W.kia_one W.kitx_int I.kIn True.intro e (fun z => nomatch z) h
 | str y => obtain ⟨t, q⟩ := (show ∃ t, u = Value.str y t from rx); cases q; exact W.kia_one W.kitx_str I.kIn True.intro e (fun z => nomatch z) h
 | flt y => obtain ⟨t, q⟩ := (show ∃ t, u = Value.float y t from rx); cases q; exact W.kia_one W.kitx_float I.kIn True.intro e (fun z => nomatch z) h
 | @lst a xs ea =>
  cases (show u = Value.ref a from rx)
  obtain ⟨_, _, n, _, h1⟩ := (show ObjOk X.prog X.w H s.heap a (.lst xs) from I.hok a _ ea)
  exact W.kia_one W.kitx_list I.kIn ⟨_, h1, rfl⟩ e (fun z => nomatch z) h
 | @frz a ob xs ea =>
  cases (show u = Value.ref a from rx)
  obtain ⟨_, _, _, n, _, h1⟩ := (show ObjOk X.prog X.w H s.heap a (.frz ob (.lst xs)) from I.hok a _ ea)
  exact W.kia_one W.kitx_list I.kIn ⟨_, h1, rfl⟩ e (fun z => nomatch z) h
 | @tup a xs ea =>
  cases (show u = Value.ref a from rx)
  obtain ⟨_, _, _, p⟩ := (show ObjOk X.prog X.w H s.heap a (.tup xs) from I.hok a _ ea)
  obtain ⟨o, h1, h2, _⟩ := p
  exact W.kia_one W.kitx_tuple I.kIn ⟨o, h1, h2⟩ e (fun z => nomatch z) h
 | @dK a kvs ea =>
  cases (show u = Value.ref a from rx)
  obtain ⟨_, _, vs, _, p⟩ := (show ObjOk X.prog X.w H s.heap a (.dK kvs) from I.hok a _ ea)
  obtain ⟨o, es, ep, h1, h2, _⟩ := p
  exact W.kia_one W.kitx_dict I.kIn ⟨o, h1, h2.1⟩ e (fun z => nomatch z) h
 | @dT a kvs ea =>
  cases (show u = Value.ref a from rx)
  obtain ⟨_, _, xs, _, o, es, ep, h1, h2, _⟩ := (show ObjOk X.prog X.w H s.heap a (.dT kvs) from I.hok a _ ea)
  exact W.kia_one W.kitx_dict I.kIn ⟨o, h1, h2.1⟩ e (fun z => nomatch z) h
 | @ins a C dx fs ea cl ha hn htk hm =>
  cases (show u = Value.ref a from rx)
  obtain ⟨mA, O, _⟩ := JX I.hok ea
  obtain ⟨od, J, _⟩ := O.look
  exact W.kia_one (W.kitx_own (cl.get _) cl.hd ha hn htk hm) I.kIn J e (fun z => nomatch z) h
end
end L2
namespace L2
open PySem PySem.Spec PyProof.Rows
structure Room (k : Nat) (A : Around) : Prop where
 hd : A.handled = none
 dp : A.depth + 3 * k + 5 < recursionLimit
 un : A.units + 16 * k + 200 < cLine
theorem Room.mono {j k : Nat} {A : Around} (r : Room k A) (h : j ≤ k) : Room j A := ⟨r.hd, by have := r.dp; omega, by have := r.un; omega⟩
theorem Room.deeper {k : Nat} {A : Around} (r : Room (k + 1) A) (env : Env) : Room k (A.deeper env) :=
 ⟨r.hd, by have := r.dp; show A.depth + 1 + 3 * k + 5 < _; omega, by have := r.un; show A.units + 3 + 16 * k + 200 < _; omega⟩
theorem Room.depth {k : Nat} {A : Around} (r : Room k A) : A.depth < recursionLimit := by have := r.dp; omega
theorem Room.units {k : Nat} {A : Around} (r : Room k A) : A.units + 64 < cLine := by have := r.un; omega
theorem Room.units0 {k : Nat} {A : Around} (r : Room k A) : A.units < cLine := by have := r.un; omega
noncomputable def tNil : TA := fun _ H Q => Q [] H
noncomputable def XT (ta : TE) (tr : TA) : TA := fun σ H Q => ta σ H fun x H1 => tr σ H1 fun xs H2 => Q (x :: xs) H2
section
variable {X : Cx} {e : Expr} {es : List Expr} {te : TE} {t : TA} {pos : Pos}
theorem pa_nil : PA X [] tNil := fun _ _ _ _ H Q I h => Calls.spliced_nil ⟨[], H, I, .nil, h⟩
theorem pa_cons (ha : PE X e te) (hr : PA X es t) (hs : starEach (e :: es) X.env = (false, eval e X.env) :: starEach es X.env := by rfl) : PA X (e :: es) (XT te t) := by
 intro pos pins s σ H Q I h
 rw [hs]
 show wpAny _ _ (spliced ((false, eval e X.env) :: backTo pos (starEach es X.env))) _ _ s
 refine Calls.spliced_cons (thn (ha pins s σ H _ I h) fun u s1 ⟨x, H1, I1, r1, q1⟩ => ?_)
 exact thn (hr pos pins s1 σ H1 _ I1 q1) fun us s2 ⟨xs, H2, I2, r2, q2⟩ => ⟨x :: xs, H2, I2, .cons r1 r2, q2⟩
inductive INew (o : List V → HO) (Q : VK) (xs : List V) (H : Hp) : Prop
 | mk (h : xs.length ≤ sizeLine) (q : ∀ p, H p = none → Q (.ref p) (upd H p (o xs))) : INew o Q xs H
noncomputable def tTup (t : TA) : TE := fun σ H Q => t σ H (INew .tup Q)
noncomputable def tLst (t : TA) : TE := fun σ H Q => t σ H (INew .lst Q)
theorem pe_tup {x1} (h : PA X es t) : PE X (.Tuple es x1 pos) (tTup t) := by
 intro pins s σ H Q I hq
 refine wpAny_Tuple_spliced (thn (h pos pins s σ H _ I hq) fun us s1 ⟨xs, H1, I1, r, z, q⟩ => ⟨by rw [← r.length]; exact z, ?_⟩)
 have hf : H1 s1.heap.objs.size = none := I1.hok.fresh lR
 refine ⟨.ref s1.heap.objs.size, upd H1 s1.heap.objs.size (.tup xs), I1.laid (t' := s1.toks) (fun b u e => Heap.get?_push_of_some _ e) lR ?_, rfl, q _ hf⟩
 exact ⟨z, us, r, ⟨_, Heap.get?_push_size _ rfl, rfl, _, rfl⟩⟩
theorem pe_lst (h : PA X es t) : PE X (.List es pos) (tLst t) := by
 intro pins s σ H Q I hq
 refine wpAny_List_spliced (thn (h pos pins s σ H _ I hq) fun us s1 ⟨xs, H1, I1, r, z, q⟩ => ⟨by rw [← r.length]; exact z, ?_⟩)
 have hf : H1 s1.heap.objs.size = none := I1.hok.fresh lR
 refine ⟨.ref s1.heap.objs.size, upd H1 s1.heap.objs.size (.lst xs), I1.laid (t' := s1.toks) (fun b u e => Heap.get?_push_of_some _ e) lR ?_, rfl, q _ hf⟩
 exact ⟨z, us, 0, r, Heap.get?_push_size _ rfl⟩
end
noncomputable abbrev Sp := List V → Hp → VK → XK → Prop
noncomputable abbrev CXT := List Env → Hp → Shared → XK → Value → Shared → Prop
structure Env0 (P : Program) (w : World) (K : W.Frag) (mg : Str → Option Value) (base : Heap) (A : Around) (outer : List Env) (s : Shared) (H : Hp) : Prop where
 frames : A.frames = some outer
 mod : Mod K mg base
 bs : ∀ b o, base.get? b = some o → s.heap.get? b = some o ∧ H b = none
 bsz : base.objs.size ≤ s.heap.objs.size
 funs : s.heap.FunFrames base outer
 frf : ∀ b ∈ frs outer, H b = none
 hok : HOk P w H s.heap
 bare : AllBare s.gens
noncomputable def CE (outer : List Env) (P : Program) (w : World) (H : Hp) (s : Shared) (Q : VK) (u : Value) (s' : Shared) : Prop :=
 ∃ v H', s'.os = s.os ∧ AllBare s'.gens ∧ Un (frs outer) [] H H' s.heap s'.heap ∧ HOk P w H' s'.heap ∧ RelV v u ∧ Q v H'
noncomputable def CR (CX : CXT) (outer : List Env) (P : Program) (w : World) (H : Hp) (s : Shared) (Q : VK) (E : XK) (r : Result) (s' : Shared) : Prop :=
 match r with
 | .ok (.ret u) => CE outer P w H s Q u s'
 | .ok _ => False
 | .error e => CX outer H s E e s'
structure FnOk (P : Program) (w : World) (K : W.Frag) (mg : Str → Option Value) (base : Heap) (CX : CXT) (k : Nat) (f : Addr) (fd : FuncData) (ps : List Str) (sp : Sp) : Prop where
 len : ∀ vs H Q E, sp vs H Q E → vs.length = ps.length
 run : ∀ (A : Around) (outer : List Env) (s : Shared) (H : Hp) (args : Args) (us : List Value) (vs : List V) (Q : VK) (E : XK), Room k A → Env0 P w K mg base A outer s H → BindsTo s fd args (ps.zip us) → Vals vs us → sp vs H Q E →
  codeAny (model P w) A (.call (.ref f) args) (CR CX outer P w H s Q E) s
theorem FnOk.mono {P : Program} {w : World} {K : W.Frag} {mg : Str → Option Value} {base : Heap} {CX : CXT} {j k : Nat} {f : Addr} {fd : FuncData} {ps : List Str} {sp : Sp} (F : FnOk P w K mg base CX j f fd ps sp) (h : j ≤ k) :
  FnOk P w K mg base CX k f fd ps sp := ⟨F.len, fun A outer s H args us vs Q E hr => F.run A outer s H args us vs Q E (hr.mono h)⟩
section
variable {X : Cx} {pins : List (Addr × Obj)} {σ : St} {H : Hp} {s s' : Shared}
theorem Inv.env0 (I : Inv X pins σ H s) : Env0 X.prog X.w X.K X.mg X.base X.A X.stack s H :=
 ⟨I.ok.frames, I.ok.mod, I.bs, Nat.le_trans I.ok.bsz I.sz, I.stack, I.stkFree, I.hok, I.bare⟩
theorem Inv.after {Q : VK} {u : Value} (I : Inv X pins σ H s) (h : CE X.stack X.prog X.w H s Q u s') : EP X pins σ Q u s' := by
 obtain ⟨v, H', os, bare, un, hok, r, q⟩ := h
 obtain ⟨hh, g, d, t, os'⟩ := s'
 obtain rfl : os' = s.os := os
 exact ⟨v, H', I.call (h' := hh) (g' := g) (d' := d) (t' := t) (ch := []) un hok bare (fun b z => absurd z (by simp)), r, q⟩
end
noncomputable def Js (sp : Sp) (dvs : List V) (E : XK) (t : TA) : TE := fun σ H Q => t σ H fun vs H1 => sp (vs ++ dvs) H1 Q E
noncomputable def Binds (K : W.Frag) (fd : FuncData) (ps : List Str) (ds : List Value) : Prop :=
 ∀ (s : Shared) (us : List Value), K.In s.heap → (us ++ ds).length = ps.length → BindsTo s fd ⟨us, []⟩ (ps.zip (us ++ ds))
theorem Binds.all {K : W.Frag} {fd : FuncData} {ps : List Str} (h : ∀ us : List Value, us.length = ps.length → bindArgs fd ⟨us, []⟩ = pure (ps.zip us)) : Binds K fd ps [] := fun s us _ hl => by
 rw [List.append_nil] at hl ⊢
 exact .of_eq (h us hl)
noncomputable def Qc (CX : CXT) (X : Cx) (E : XK) : Prop := ∀ (pins : List (Addr × Obj)) (σ : St) (H : Hp) (s : Shared) (e : Value) (s' : Shared), Inv X pins σ H s → CX X.stack H s E e s' → X.xe e s'
section
variable {X : Cx} {CX : CXT} {k : Nat} {f C : Addr} {fd : FuncData} {ps : List Str} {sp : Sp} {dvs : List V} {ds : List Value} {E : XK} {x m : Str} {p pos apos : Pos} {e o : Expr} {es : List Expr} {ta : TE} {t : TA}
theorem run_fn {pins : List (Addr × Obj)} {σ : St} {H : Hp} {s : Shared} {Q : VK} {us : List Value} {vs : List V} (F : FnOk X.prog X.w X.K X.mg X.base CX k f fd ps sp) (hr : Room k X.A) (hb : Binds X.K fd ps ds) (hd : Vals dvs ds) (hx : Qc CX X E)
  (I : Inv X pins σ H s) (r : Vals vs us) (h : sp (vs ++ dvs) H Q E) : wpAny (model X.prog X.w) X.A (call (.ref f) us) (EP X pins σ Q) X.xe s := by
 have r2 : Vals (vs ++ dvs) (us ++ ds) := r.append hd
 have hl : (us ++ ds).length = ps.length := by rw [← r2.length]; exact F.len _ _ _ _ h
 refine wpAny_call (codeAny_mono (F.run X.A X.stack s H ⟨us, []⟩ (us ++ ds) (vs ++ dvs) Q E hr I.env0 (hb s us I.kIn hl) r2 h) fun r s' hq => ?_)
 cases r with
 | error e => exact hx pins σ H s e s' I hq
 | ok fl =>
  cases fl with
  | ret u => exact I.after hq
  | next => exact False.elim hq
  | brk => exact False.elim hq
  | cont => exact False.elim hq
theorem pe_call (F : FnOk X.prog X.w X.K X.mg X.base CX k f fd ps sp) (hr : Room k X.A) (hg : Gl X x) (hm : X.mg x = some (.ref f)) (hk : W.keepIn X.K (.ref f) = true) (hb : Binds X.K fd ps ds) (hd : Vals dvs ds) (hx : Qc CX X E)
  (ha : PA X (e :: es) t) (hdb : (x == ("__debug__" : Str)) = false := by decide) (he : starEach (e :: es) X.env = (false, eval e X.env) :: starEach es X.env := by rfl) (hpl : (backTo pos (starEach es X.env)).any (·.1) = false := by rfl) :
  PE X (.Call (.Name x p) (e :: es) [] pos) (Js sp dvs E t) := by
 intro pins s σ H Q I h
 refine wpAny_Call_Name_kw (JL I hg hm ?_ hdb)
 refine W.callWith_K (h₀ := X.base) I.ok.mod.kin hk (thn (ha pos pins s σ H _ I h) fun us s1 ⟨vs, H1, I1, r, q⟩ => ⟨I1.kIn, ?_⟩) he hpl
 exact run_fn F hr hb hd hx I1 r q
end
structure vX (N P : List Str) (sc : Scope) : Prop where
 kind : sc.kind = .function
 co : sc.isCoroutine = false
 gen : sc.isGenerator = false
 nd : N.Nodup
 pre : N.take P.length = P
 par : ∀ x ∈ P, sc.names.lookup x = some .local ∨ sc.names.lookup x = some .cell
 nofree : ∀ y ∈ sc.names, y.2 ≠ .free
theorem QZ {kindOf : Str → Option NameKind} {x : Str} : ∀ {binds : List (Str × Value)} {m : Str → Option Value}, (∀ v, (x, v) ∉ binds) → bindL kindOf binds m x = m x
 | [], _, _ => rfl
 | (n, v) :: r, m, h => by
  unfold bindL
  rw [QZ fun w hw => h w (List.mem_cons_of_mem _ hw)]
  split
  ·have : x ≠ n := by rintro rfl; exact h v List.mem_cons_self
   simp [this]
  ·rfl
theorem Q1 {kindOf : Str → Option NameKind} {x : Str} : ∀ {binds : List (Str × Value)} {m : Str → Option Value}, (∀ v, (x, v) ∉ binds) → bindC kindOf binds m x = m x
 | [], _, _ => rfl
 | (n, v) :: r, m, h => by
  unfold bindC
  rw [Q1 fun w hw => h w (List.mem_cons_of_mem _ hw)]
  split
  ·rfl
  ·have : x ≠ n := by rintro rfl; exact h v List.mem_cons_self
   simp [this]
theorem Q0 {kindOf : Str → Option NameKind} {x : Str} {v : Value} : ∀ {P : List Str} {vs : List Value} {i : Nat} {m : Str → Option Value}, P.Nodup → P[i]? = some x → vs[i]? = some v → kindOf x = some .local →
  bindL kindOf (P.zip vs) m x = some v
 | [], _, _, _, _, h, _, _ => by simp at h
 | _ :: _, [], _, _, _, _, h, _ => by simp at h
 | p :: P, w :: vs, 0, m, nd, h1, h2, hk => by
  simp at h1 h2; subst h1; subst h2
  show bindL kindOf ((p, w) :: P.zip vs) m p = _
  unfold bindL
  rw [QZ fun v hv => (List.nodup_cons.mp nd).1 (List.of_mem_zip hv).1, if_pos hk]
  simp
 | p :: P, w :: vs, i + 1, m, nd, h1, h2, hk => by
  show bindL kindOf ((p, w) :: P.zip vs) m x = _
  unfold bindL
  exact Q0 (i := i) (List.nodup_cons.mp nd).2 (by simpa using h1) (by simpa using h2) hk
theorem Q2 {kindOf : Str → Option NameKind} {x : Str} {v : Value} : ∀ {P : List Str} {vs : List Value} {i : Nat} {m : Str → Option Value}, P.Nodup → P[i]? = some x → vs[i]? = some v → kindOf x ≠ some .local →
  bindC kindOf (P.zip vs) m x = some v
 | [], _, _, _, _, h, _, _ => by simp at h
 | _ :: _, [], _, _, _, _, h, _ => by simp at h
 | p :: P, w :: vs, 0, m, nd, h1, h2, hk => by
  simp at h1 h2; subst h1; subst h2
  show bindC kindOf ((p, w) :: P.zip vs) m p = _
  unfold bindC
  rw [Q1 fun v hv => (List.nodup_cons.mp nd).1 (List.of_mem_zip hv).1, if_neg hk]
  simp
 | p :: P, w :: vs, i + 1, m, nd, h1, h2, hk => by
  show bindC kindOf ((p, w) :: P.zip vs) m x = _
  unfold bindC
  exact Q2 (i := i) (List.nodup_cons.mp nd).2 (by simpa using h1) (by simpa using h2) hk
noncomputable def start (N : List Str) (vs : List V) : St := vs.map some ++ List.replicate (N.length - vs.length) none
noncomputable def bS (CX : CXT) (P : Program) (w : World) (K : W.Frag) (mg : Str → Option Value) (base : Heap) (N : List Str) (qual : Str) (scope : Scope) (f : Addr) (cd : Value) (A : Around) (outer : List Env) (s : Shared) (H : Hp) (E : XK) : Cx where
 prog := P
 w := w
 K := K
 mg := mg
 base := base
 A := A.deeper (envOfC qual scope s.heap.objs.size f cd)
 N := N
 s₀ := s
 H₀ := H
 env := envOfC qual scope s.heap.objs.size f cd
 outer := outer
 stack := envOfC qual scope s.heap.objs.size f cd :: outer
 ex := []
 calm := true
 fn := fun _ => true
 pn := []
 xe := fun e s' => wpAny (model P w) (A.deeper (envOfC qual scope s.heap.objs.size f cd)) (leaving (envOfC qual scope s.heap.objs.size f cd) e) (fun _ s'' => CX outer H s E e s'') (fun e' s'' => CX outer H s E e' s'') s'
theorem iI {sc : Scope} {n : Nat} {x : Str} (h : sc.names.lookup x = some .cell) : ∃ c, (cellsFrom n sc.names []).lookup x = some c := by
 have q := W.cellsFrom_some sc.names n [] (.inl h)
 exact Option.isSome_iff_exists.mp q
theorem KK {CX : CXT} {P : Program} {w : World} {K : W.Frag} {mg : Str → Option Value} {base : Heap} {N ps : List Str} {qual : Str} {scope : Scope} {f : Addr} {cd : Value} {A : Around} {outer : List Env} {s s1 : Shared} {H : Hp} {E : XK} {us : List Value} {vs : List V}
  (S : vX N ps scope) (hd : A.handled = none) (e0 : Env0 P w K mg base A outer s H) (hl : vs.length = ps.length) (r : Vals vs us)
  (x : InCallC s s.heap.objs.size (bindL (envOfC qual scope s.heap.objs.size f cd).kindOf (ps.zip us) fun _ => none) (cellsFrom (s.heap.objs.size + 1) scope.names []) (bindC (envOfC qual scope s.heap.objs.size f cd).kindOf (ps.zip us) fun _ => none) s1) :
  Inv (bS CX P w K mg base N qual scope f cd A outer s H E) [] (start N vs) H s1 := by
 have hpl : ps.length ≤ N.length := by have := congrArg List.length S.pre; rw [List.length_take] at this; omega
 obtain ⟨h1, tk, rfl, hk⟩ := x.done
 have noA : ∀ b : Addr, b ∉ (bS CX P w K mg base N qual scope f cd A outer s H E).ex := fun b z => absurd (show b ∈ ([] : List Addr) from z) (by simp)
 refine ⟨⟨e0.mod, S.kind, rfl, rfl, Nat.le_refl _, fun y z c h1 h2 => ?_, fun y hy => ?_, fun y c _ h => ?_, fun _ => hd, Around.frames_deeper e0.frames, .inr ⟨rfl, rfl⟩, fun b z => absurd z (noA b), e0.bs, e0.bsz, fun b _ _ => noA b, fun b z => absurd z (noA b), e0.funs, e0.frf⟩,
  rfl, e0.bare, Un.kept hk, ⟨_, x.toInCall.ns, fun i y v h1 h2 h3 => ?_⟩, fun y c h => ⟨_, x.cell y c h⟩, e0.hok.fresh lR, fun y c h => ?_, fun p hp => absurd (show p ∈ ([] : List (Addr × Obj)) from hp) (by simp), e0.hok.kept hk, ?_⟩
 ·exact name_of_addr x.apart (PySem.mem_of_lookup h1) (PySem.mem_of_lookup h2)
 ·have hy : scope.names.lookup y = some .cell ∨ scope.names.lookup y = some .free := hy
  rcases hy with hy | hy
  ·exact iI hy
  ·exact absurd rfl (S.nofree _ (PySem.mem_of_lookup hy))
 ·exact Nat.le_of_lt (x.above y c (PySem.mem_of_lookup h))
 ·have hi : i < vs.length := by
   unfold start at h2
   by_cases hi : i < vs.length
   ·exact hi
   ·rw [List.getElem?_append_right (by simpa using hi)] at h2
    rw [List.getElem?_replicate] at h2
    split at h2 <;> cases h2
  have ha : vs[i]? = some v := by
   unfold start at h2
   rw [List.getElem?_append_left (by simpa using hi), List.getElem?_map] at h2
   cases e : vs[i]? with
   | none => rw [e] at h2; cases h2
   | some a => rw [e] at h2; cases h2; rfl
  obtain ⟨u, hu, rv⟩ := r.get ha
  have hp : ps[i]? = some y := by
   rw [← S.pre, List.getElem?_take_of_lt (by omega)]; exact h1
  have ndP : ps.Nodup := by rw [← S.pre]; exact S.nd.sublist (List.take_sublist _ _)
  refine ⟨u, rv, ?_⟩
  rcases S.par y (List.mem_of_getElem? hp) with k | k
  ·exact .inl ⟨k, Q0 ndP hp hu k⟩
  ·obtain ⟨c, e⟩ := iI (n := s.heap.objs.size + 1) k
   refine .inr ⟨.inl k, c, e, ?_⟩
   have q := x.cell y c e
   rw [Q2 ndP hp hu (by show scope.names.lookup y ≠ _; rw [k]; decide)] at q
   exact q
 ·exact e0.hok.fresh (Nat.le_of_lt (x.above y c (PySem.mem_of_lookup h)))
 ·unfold start
  show _ = N.length
  rw [List.length_append, List.length_map, List.length_replicate]
  omega
theorem fn_of {CX : CXT} {P : Program} {w : World} {K : W.Frag} {mg : Str → Option Value} {base : Heap} {k : Nat} {f : Addr} {name qual : Str} {params : Arguments} {body : List Stmt} {scope : Scope} {dV kV doc pm cdv ct oc : Value} {an od : Option Addr}
  {osl : Array (Option Value)} {N ps : List Str} {sp : Sp} (lk : K.lookup f = some ⟨oc, od, .func (W.fnOf name qual params body scope dV kV doc pm an cdv ct), osl⟩) (hcd : W.codeIn K cdv qual = true) (S : vX N ps scope)
  (len : ∀ vs H Q E, sp vs H Q E → vs.length = ps.length)
  (hbody : ∀ (A : Around) (outer : List Env) (s : Shared) (H : Hp) (vs : List V) (Q : VK) (E : XK), Room k (A.deeper (envOfC qual scope s.heap.objs.size f cdv)) → sp vs H Q E →
   ∃ t, PSs (bS CX P w K mg base N qual scope f cdv A outer s H E) body t ∧ t { nx := fun _ H' => Q .non H', rt := Q } (start N vs) H) :
  FnOk P w K mg base CX (k + 1) f (W.fnOf name qual params body scope dV kV doc pm an cdv ct) ps sp := by
 refine ⟨len, fun A outer s H args us vs Q E hr e0 hb r hsp => ?_⟩
 have hl := len _ _ _ _ hsp
 have KX : K.In s.heap := e0.mod.kin.keeps fun b o e => (e0.bs b o e).1
 have lim : s.heap.NoLimit := e0.mod.nolimit.keeps fun b o e => (e0.bs b o e).1
 have hkind : ∀ y ∈ ps.zip us, scope.names.lookup y.1 = some .local ∨ (scope.names.lookup y.1 = some .cell ∧ ((cellsFrom (s.heap.objs.size + 1) scope.names []).lookup y.1).isSome = true) := fun ⟨n, v⟩ hy => by
  rcases S.par n (List.of_mem_zip hy).1 with q | q
  ·exact .inl q
  ·exact .inr ⟨q, W.cellsFrom_some _ _ _ (.inl q)⟩
 refine codeAny_call_function hr.depth (KX _ _ lk) rfl S.co S.gen rfl (W.codeRec_of KX hcd) (hb _ _ _ _ ?_)
 refine wpAny_newFunctionEnv_cells S.kind hkind fun env he s1 x => ?_
 subst he
 refine ⟨lim.keeps x.toInCall.keep, codeAny_func ?_⟩
 obtain ⟨t, ht, hq⟩ := hbody A outer s H vs Q E (hr.deeper _) hsp
 have I : Inv (bS CX P w K mg base N qual scope f cdv A outer s H E) [] (start N vs) H s1 := KK S hr.hd e0 hl r x
 refine wpAny_mono (ht [] s1 (start N vs) H _ I hq) (fun fl s' hs => ?_) fun e s' hs => hs
 have fin : ∀ {σ' : St} {H' : Hp} {v : V} {u : Value}, Inv (bS CX P w K mg base N qual scope f cdv A outer s H E) [] σ' H' s' → RelV v u → Q v H' → CE outer P w H s Q u s' :=
  fun {σ' H' v u} J rv q => ⟨v, H', J.os, J.bare, J.base, J.hok, rv, q⟩
 cases fl with
 | ret u =>
  obtain ⟨v, σ', H', J, rv, q⟩ := hs
  exact fin J rv q
 | next =>
  obtain ⟨σ', H', J, q⟩ := hs
  exact fin (v := V.non) (u := Value.none) J rfl q
 | brk =>
  obtain ⟨_, _, _, q⟩ := hs
  exact False.elim q
 | cont =>
  obtain ⟨_, _, _, q⟩ := hs
  exact False.elim q
end L2
namespace L2
open PySem PySem.Spec PyProof.Rows
section
variable {X : Cx} {x : Str} {p pos : Pos} {e : Expr} {es : List Expr} {t : TA} {id T : String} {r : List V → Hp → VK → Prop}
noncomputable def tCB (r : List V → Hp → VK → Prop) (t : TA) : TE := fun σ H Q => t σ H fun vs H1 => r vs H1 Q
theorem VE (hc : pY X (.builtin id) r) (hg : Gl X x) (hm : X.mg x = none) (hv : bootBuiltins x = some (.builtin id)) (ha : PA X (e :: es) t) (hn : x ≠ "__name__" := by decide) (hdb : (x == ("__debug__" : Str)) = false := by decide)
  (he : starEach (e :: es) X.env = (false, eval e X.env) :: starEach es X.env := by rfl) (hpl : (backTo pos (starEach es X.env)).any (·.1) = false := by rfl) : PE X (.Call (.Name x p) (e :: es) [] pos) (tCB r t) := by
 intro pins s σ H Q I h
 refine wpAny_Call_Name_kw (Xq I hg hm hv ?_ hn hdb)
 exact PyProof.Rows.callWith_builtin1 (thn (ha pos pins s σ H _ I h) fun us s1 ⟨vs, H1, I1, r1, q1⟩ => hc pins s1 σ H1 vs us Q I1 r1 q1) he hpl
theorem Kr (hc : pY X (.type T) r) (hg : Gl X x) (hm : X.mg x = none) (hv : bootBuiltins x = some (.type T)) (ha : PA X (e :: es) t) (hn : x ≠ "__name__" := by decide) (hdb : (x == ("__debug__" : Str)) = false := by decide)
  (he : starEach (e :: es) X.env = (false, eval e X.env) :: starEach es X.env := by rfl) (hpl : (backTo pos (starEach es X.env)).any (·.1) = false := by rfl) : PE X (.Call (.Name x p) (e :: es) [] pos) (tCB r t) := by
 intro pins s σ H Q I h
 refine wpAny_Call_Name_kw (Xq I hg hm hv ?_ hn hdb)
 exact PyProof.Rows.callWith_type1 (thn (ha pos pins s σ H _ I h) fun us s1 ⟨vs, H1, I1, r1, q1⟩ => hc pins s1 σ H1 vs us Q I1 r1 q1) he hpl
end
end L2
namespace HT
open PySem PyProof.Rows
section
variable {prog : Program} {w : World} {A : Around} {E : Value → Shared → Prop} {s : Shared}
theorem cat_tup {t b : Addr} {vs ws : List Value} {Q : Value → Shared → Prop} (ht : IsTup s.heap t vs.toArray) (hb : IsTup s.heap b ws.toArray) (hv : vs ≠ [])
  (h1 : ws = [] → Q (.ref t) s) (h2 : ws ≠ [] → Q (.ref s.heap.objs.size) { s with heap := s.heap.push { cls := .type "tuple", data := .seq (vs ++ ws).toArray } })
  (hsz : vs.length + ws.length ≤ sizeLine) : wpAny (model prog w) A (binaryOp .Add (.ref t) (.ref b)) Q E s := by
 obtain ⟨⟨cls, dd, data, sl⟩, ho, hc, n, hd⟩ := id ht
 obtain ⟨⟨cls2, dd2, data2, sl2⟩, ho2, hc2, n2, hd2⟩ := id hb
 simp only at hc hd hc2 hd2
 subst hc hd hc2 hd2
 have e : vs.toArray ++ ws.toArray = (vs ++ ws).toArray := by simp
 by_cases hw : ws = []
 ·exact concat_meets ⟨_, ho, rfl⟩ ⟨_, ho2, rfl⟩ noFill_tuple_add seq_tuple_add PySem.F.slot_tuple_add PySem.F.entry_tuple_add (PySem.F.args_tuple_add_2 _ _)
   (tuple_addW1 t b vs.toArray ws.toArray n n2 dd dd2 sl sl2 (by simpa using hv) (by simp [hw])) ⟨ho, ho2, h1 hw⟩
 ·refine concat_meets ⟨_, ho, rfl⟩ ⟨_, ho2, rfl⟩ noFill_tuple_add seq_tuple_add PySem.F.slot_tuple_add PySem.F.entry_tuple_add (PySem.F.args_tuple_add_2 _ _)
   (tuple_addW2 t b vs.toArray ws.toArray n n2 dd dd2 sl sl2 (by simpa using hv) (by simpa using hw) (by rw [List.size_toArray, List.size_toArray]; exact hsz)) ⟨ho, ho2, ?_⟩
  rw [e]
  exact h2 hw
noncomputable def sIx (n d : Nat) : Option Int → Nat
 | none => d
 | some v => if v < 0 then (v + (n : Int)).toNat else min v.toNat n
theorem sIx_none (n d : Nat) : sIx n d none = d := rfl
theorem sIx_nat (n d k : Nat) : sIx n d (some (k : Int)) = min k n := by
 show (if (k : Int) < 0 then ((k : Int) + (n : Int)).toNat else min (k : Int).toNat n) = min k n
 rw [if_neg (by omega), Int.toNat_natCast]
theorem sIx_le (n d : Nat) (hd : d ≤ n) (o : Option Int) : sIx n d o ≤ n := by
 cases o with
 | none => exact hd
 | some v =>
  show (if v < 0 then (v + (n : Int)).toNat else min v.toNat n) ≤ n
  by_cases hv : v < 0
  ·rw [if_pos hv]; omega
  ·rw [if_neg hv]; exact Nat.min_le_right _ _
theorem J8 (v : Int) (n d : Nat) : (if v < 0 then max (v + (n : Int)) 0 else min v (n : Int)) = ((sIx n d (some v) : Nat) : Int) := by
 show (if v < 0 then max (v + (n : Int)) 0 else min v (n : Int)) = (((if v < 0 then (v + (n : Int)).toNat else min v.toNat n) : Nat) : Int)
 by_cases hv : v < 0
 ·simp only [if_pos hv]; omega
 ·simp only [if_neg hv]; omega
theorem Jh (lo hi : Option Int) (n : Nat) : Builtin.Slice.sliceAdjust lo hi 1 (n : Int) = (((sIx n 0 lo : Nat) : Int), ((sIx n n hi : Nat) : Int)) := by
 have h1 : ¬ ((1 : Int) < 0) := by omega
 unfold Builtin.Slice.sliceAdjust
 simp only [h1, if_false]
 refine Prod.ext ?_ ?_
 ·cases lo with
  | none => rfl
  | some v => exact J8 v n 0
 ·cases hi with
  | none => rfl
  | some v => exact J8 v n n
theorem ZY (i j : Nat) : Builtin.Slice.slicePlaces (i : Int) (j : Int) 1 = j - i := by
 unfold Builtin.Slice.slicePlaces
 have h1 : (1 : Int) > 0 := by omega
 simp only [h1, if_true, Int.ediv_one]
 split <;> omega
theorem wE {v : Value} {o : Option Int} {Q : Option Int → Shared → Prop} (p : IsPart v o) (h : Q o s) : wpAny (model prog w) A (Builtin.Slice.slicePartIndex v) Q E s := by
 cases p with
 | none => exact slicePart_none h
 | int i t => exact slicePart_int h
theorem sM {sl : Addr} {vl vu : Value} {lo hi : Option Int} {n : Nat} {Q : Int × Int × Nat → Shared → Prop} (hs : s.heap.IsSliceOf sl vl vu .none) (pl : IsPart vl lo) (pu : IsPart vu hi)
  (h : Q (((sIx n 0 lo : Nat) : Int), 1, sIx n n hi - sIx n 0 lo) s) : wpAny (model prog w) A (Builtin.Slice.sliceApplied (.ref sl) (pure (n : Int))) Q E s := by
 obtain ⟨os, hos, hcs, hds⟩ := id hs
 unfold Builtin.Slice.sliceApplied Builtin.Slice.sliceFields
 refine wpAny_bind (wpAny_bind (wpAny_field hos hds (x := vl) rfl (wpAny_bind (wpAny_field hos hds (x := vu) rfl (wpAny_bind (wpAny_field hos hds (x := .none) rfl (wpAny_pure ?_)))))))
 refine wpAny_bind (slicePart_none ?_)
 show wpAny _ _ (if ((1 : Int) == 0) = true then _ else _) _ _ s
 rw [if_neg (by decide)]
 refine wpAny_bind (wE pl (wpAny_bind (wE pu (wpAny_bind (wpAny_pure ?_)))))
 show wpAny _ _ (match Builtin.Slice.sliceAdjust lo hi 1 (n : Int) with | (lo, hi) => pure (lo, (1 : Int), Builtin.Slice.slicePlaces lo hi 1)) _ _ s
 rw [Jh lo hi n]
 show wpAny _ _ (pure (((sIx n 0 lo : Nat) : Int), (1 : Int), Builtin.Slice.slicePlaces ((sIx n 0 lo : Nat) : Int) ((sIx n n hi : Nat) : Int) 1)) _ _ s
 rw [ZY]
 exact wpAny_pure h
theorem Vw (xs : Array Value) (i k : Nat) : ((List.range k).filterMap fun (m : Nat) => xs[((i : Int) + (m : Int) * 1).toNat]?).toArray = ((xs.toList.drop i).take k).toArray := by
 have e : (fun (m : Nat) => xs[((i : Int) + (m : Int) * 1).toNat]?) = fun m => xs[i + m]? := by
  funext m
  have : ((i : Int) + (m : Int) * 1).toNat = i + m := by omega
  rw [this]
 rw [e]
 have := pick_run xs i k
 rw [List.filterMap_map] at this
 have e2 : ((fun x => xs[x]?) ∘ fun x => i + x) = fun m => xs[i + m]? := rfl
 rw [e2] at this
 rw [this]
theorem getItem_tuple_cut {t sl : Addr} {items : Array Value} {vl vu : Value} {lo hi : Option Int} {Q : Value → Shared → Prop} (ht : IsTup s.heap t items) (hs : s.heap.IsSliceOf sl vl vu .none) (pl : IsPart vl lo) (pu : IsPart vu hi)
  (hw : ¬ (sIx items.size 0 lo = 0 ∧ sIx items.size items.size hi = items.size))
  (h : Q (.ref s.heap.objs.size) { s with heap := s.heap.push { cls := .type "tuple", data := .seq ((items.toList.drop (sIx items.size 0 lo)).take (sIx items.size items.size hi - sIx items.size 0 lo)).toArray } })
  (hsz : items.size ≤ sizeLine) : wpAny (model prog w) A (getItem (.ref t) (.ref sl)) Q E s := by
 have htake : sizeOk (.seq ((items.toList.drop (sIx items.size 0 lo)).take (sIx items.size items.size hi - sIx items.size 0 lo)).toArray) := by
  show ((items.toList.drop (sIx items.size 0 lo)).take (sIx items.size items.size hi - sIx items.size 0 lo)).toArray.size ≤ sizeLine
  rw [List.size_toArray, List.length_take, List.length_drop, Array.length_toList]
  omega
 have hj : sIx items.size items.size hi ≤ items.size := sIx_le _ _ lR hi
 obtain ⟨os, hos, hcs, hds⟩ := id hs
 have hTs : s.TypeIs (.ref sl) "slice" := ⟨os, hos, hcs⟩
 unfold getItem
 try with_reducible refine wpAny_holding ?_
 first | refine wpAny_bind (wpAny_pure ?_) | skip
 refine wpAny_bind (wpAny_sequenceKey ht.typeIs (by decide) ?_)
 refine wpAny_bind (wpAny_callSpecial?_slot (name := Str.ofString "__getitem__") ht.typeIs PyProof.Rows.slot_tuple_getitem
  (wpAny_call_entry PyProof.Rows.slot_tuple_getitem ht.typeIs entry_tuple_getitem ?_ (args_tuple_getitem _ _)))
 show wpAny _ _ (Builtin.Tuple.tupleItemsOf (.ref t) >>= _) _ _ s
 refine wpAny_bind (tupleItemsOf_ ht ?_)
 refine wpAny_bind (wpAny_typeOf hTs ?_)
 rw [if_pos (by decide)]
 refine wpAny_bind (sM hs pl pu ?_)
 have hno : ¬ ((((sIx items.size 0 lo : Nat) : Int) == 0 && (1 : Int) == 1 && (sIx items.size items.size hi - sIx items.size 0 lo) == items.size) = true) := by
  intro q
  rw [Bool.and_eq_true, Bool.and_eq_true] at q
  have q1 : ((sIx items.size 0 lo : Nat) : Int) = 0 := eq_of_beq q.1.1
  have q2 : sIx items.size items.size hi - sIx items.size 0 lo = items.size := eq_of_beq q.2
  exact hw ⟨by omega, by omega⟩
 show wpAny _ _ (if (((sIx items.size 0 lo : Nat) : Int) == 0 && (1 : Int) == 1 && (sIx items.size items.size hi - sIx items.size 0 lo) == items.size) = true then _ else _) _ _ s
 rw [if_neg hno, Vw]
 first
  | exact wpAny_bind (m := Builtin.Tuple.tupleExact _) (wpAny_newObj_type (wpAny_pure ⟨_, rfl, wpAny_pure h⟩) htake)
  | exact wpAny_bind (m := Builtin.Tuple.tupleExact _) (wpAny_newObj_type (wpAny_bind (wpAny_pure (wpAny_pure ⟨_, rfl, wpAny_pure h⟩))) htake)
  | exact wpAny_bind (wpAny_bind (m := Builtin.Tuple.tupleExact _) (wpAny_newObj_type (wpAny_pure (wpAny_pure ⟨_, rfl, wpAny_pure h⟩)) htake))
  | exact wpAny_bind (wpAny_bind (m := Builtin.Tuple.tupleExact _) (wpAny_newObj_type (wpAny_pure ⟨_, rfl, wpAny_pure h⟩) htake))
end
end HT
namespace L2
open PySem PySem.Spec PyProof.Rows
noncomputable abbrev TO := St → Hp → (Option Int → Hp → Prop) → Prop
noncomputable def PO (X : Cx) (e : Option Expr) (t : TO) : Prop :=
 ∀ (pins : List (Addr × Obj)) (s : Shared) (σ : St) (H : Hp) (Q : Option Int → Hp → Prop), Inv X pins σ H s → t σ H Q →
  wpAny (model X.prog X.w) X.A (evalPart e X.env) (fun u s' => ∃ o H', Inv X pins σ H' s' ∧ IsPart u o ∧ Q o H') X.xe s
noncomputable def Jr : TO := fun _ H Q => Q none H
noncomputable def tPart (t : TE) : TO := fun σ H Q => t σ H fun x H1 => ∃ i, x = .int i ∧ Q (some i) H1
section
variable {X : Cx} {e : Expr} {te : TE} {lo hi : Option Expr} {tl th : TO} {pos p2 : Pos}
theorem po_none : PO X none Jr := by
 intro pins s σ H Q I h
 rw [evalPart_none]
 exact wpAny_pure ⟨none, H, I, .none, h⟩
theorem po_some (h : PE X e te) : PO X (some e) (tPart te) := by
 intro pins s σ H Q I hw
 rw [evalPart_some]
 refine thn (h pins s σ H _ I hw) fun u s1 ⟨x, H1, I1, r1, q1⟩ => ?_
 obtain ⟨i, rfl, q⟩ := q1
 obtain ⟨t, rfl⟩ := r1
 exact ⟨some i, H1, I1, .int i t, q⟩
noncomputable def SlR (X : Cx) (r : V → Option Int → Option Int → Hp → VK → Prop) : Prop :=
 ∀ (pins : List (Addr × Obj)) (s : Shared) (σ : St) (H : Hp) (x : V) (v vl vu : Value) (lo hi : Option Int) (sl : Addr) (Q : VK), Inv X pins σ H s → RelV x v → s.heap.IsSliceOf sl vl vu .none → IsPart vl lo → IsPart vu hi → r x lo hi H Q →
  ∃ T id, typeLookup (.type T) "__getitem__" = pure (some (.builtin id)) ∧ s.TypeIs v T ∧ wpAny (model X.prog X.w) X.A (getItem v (.ref sl)) (EP X pins σ Q) X.xe s
noncomputable def tSl (r : V → Option Int → Option Int → Hp → VK → Prop) (te : TE) (tl th : TO) : TE := fun σ H Q => te σ H fun x H1 => tl σ H1 fun l H2 => th σ H2 fun u H3 => r x l u H3 Q
theorem Vz {r : V → Option Int → Option Int → Hp → VK → Prop} (hr : SlR X r) (he : PE X e te) (hl : PO X lo tl) (hu : PO X hi th) : PE X (.Subscript e (.Slice lo hi none p2) pos) (tSl r te tl th) := by
 intro pins s σ H Q I h
 refine Subscript_ (thn (he pins s σ H _ I h) fun v s1 ⟨x, H1, I1, r1, q1⟩ => ?_)
 refine wpAny_Slice (thn (hl pins s1 σ H1 _ I1 q1) fun vl s2 ⟨l, H2, I2, pl, q2⟩ => thn (hu pins s2 σ H2 _ I2 q2) fun vu s3 ⟨u, H3, I3, pu, q3⟩ => ?_)
 rw [evalPart_none]
 refine wpAny_pure ?_
 have I4 : Inv X pins σ H3 { s3 with heap := s3.heap.push { cls := .type "slice", data := .fields #[vl, vu, .none] } } := I3.kept (t' := s3.toks) fun b ob q => Heap.get?_push_of_some _ q
 obtain ⟨T, id, hT, ht, hg⟩ := hr pins { s3 with heap := s3.heap.push { cls := .type "slice", data := .fields #[vl, vu, .none] } } σ H3 x v vl vu l u s3.heap.objs.size Q I4 r1 (Heap.IsSliceOf.new ..) pl pu q3
 show wpAny (model X.prog X.w) X.A (subscriptTail e (.Slice lo hi none p2) v (.ref s3.heap.objs.size)) (EP X pins σ Q) X.xe { s3 with heap := s3.heap.push { cls := .type "slice", data := .fields #[vl, vu, .none] } }
 exact tail_any (ops := [.ref s3.heap.objs.size, v]) ht hT hg (by with_unfolding_all rfl)
noncomputable def oX (xs : List V) (lo hi : Option Int) : List V := (xs.drop (HT.sIx xs.length 0 lo)).take (HT.sIx xs.length xs.length hi - HT.sIx xs.length 0 lo)
theorem iK (xs : List V) (lo hi : Option Int) : (oX xs lo hi).length ≤ xs.length := by
 unfold oX
 rw [List.length_take, List.length_drop]
 omega
noncomputable def rSlT (K : W.Frag) : V → Option Int → Option Int → Hp → VK → Prop := fun x lo hi H Q => ∃ a xs, x = .ref a ∧ SqT K H a xs ∧
 ¬ (HT.sIx xs.length 0 lo = 0 ∧ HT.sIx xs.length xs.length hi = xs.length) ∧ ∀ p, H p = none → Q (.ref p) (upd H p (.tup (oX xs lo hi)))
theorem uR : SlR X (rSlT X.K) := by
 intro pins s σ H x v vl vu lo hi sl Q I rx hs pl pu h
 obtain ⟨a, xs, rfl, hx, hw, q⟩ := h
 cases rx
 obtain ⟨its, r, ht, hz⟩ := I.tuple hx
 have hlen : its.toArray.size = xs.length := by rw [List.size_toArray]; exact r.length.symm
 refine ⟨"tuple", _, PyProof.Rows.slot_tuple_getitem.lookup, ht.typeIs, ?_⟩
 refine HT.getItem_tuple_cut ht hs pl pu (by rw [hlen]; exact hw) ?_ (by rw [hlen]; exact hz)
 rw [hlen]
 refine ⟨.ref s.heap.objs.size, _, I.laid (t' := s.toks) (o := .tup (oX xs lo hi)) (fun b ob q => Heap.get?_push_of_some _ q) lR ?_, rfl, q _ (I.hok.fresh lR)⟩
 exact ⟨Nat.le_trans (iK xs lo hi) hz, _, (r.drop (HT.sIx xs.length 0 lo)).take (HT.sIx xs.length xs.length hi - HT.sIx xs.length 0 lo), IsTup.new _ _⟩
noncomputable def rCatT (K : W.Frag) : R2 := fun x y H Q => ∃ a b xs ys, x = .ref a ∧ y = .ref b ∧ SqT K H a xs ∧ SqT K H b ys ∧ xs ≠ [] ∧ xs.length + ys.length ≤ sizeLine ∧
 (ys = [] → Q (.ref a) H) ∧ (ys ≠ [] → ∀ p, H p = none → Q (.ref p) (upd H p (.tup (xs ++ ys))))
theorem Vals.nil_iff {xs : List V} {us : List Value} (r : Vals xs us) : us = [] ↔ xs = [] := by
 cases r with
 | nil => simp
 | cons _ _ => simp
theorem op_catT : OpR X (binaryOp .Add) (rCatT X.K) := by
 intro pins s σ H x y v u Q I rx ry h
 obtain ⟨a, b, xs, ys, rfl, rfl, ha, hb, hx, hz, q1, q2⟩ := h
 cases rx
 cases ry
 obtain ⟨its, r1, p1, _⟩ := I.tuple ha
 obtain ⟨its2, r2, p2, _⟩ := I.tuple hb
 refine HT.cat_tup p1 p2 (fun z => hx (r1.nil_iff.mp z)) (fun z => ⟨.ref a, H, I, rfl, q1 (r2.nil_iff.mp z)⟩) (fun z => ?_) (by rw [← r1.length, ← r2.length]; exact hz)
 refine ⟨.ref s.heap.objs.size, _, I.laid (t' := s.toks) (o := .tup (xs ++ ys)) (fun b ob q => Heap.get?_push_of_some _ q) lR ?_, rfl, q2 (fun w => z (r2.nil_iff.mpr w)) _ (I.hok.fresh lR)⟩
 exact ⟨by rw [List.length_append]; exact hz, _, r1.append r2, IsTup.new _ _⟩
end
end L2
namespace L2
open PySem PySem.Spec PyProof.Rows
noncomputable def ixN (n : Nat) (i : Int) : Option Nat := if 0 ≤ i then (if i < n then some i.toNat else none) else if -(n : Int) ≤ i then some (i + n).toNat else none
noncomputable def atI {α : Type} (xs : List α) (i : Int) : Option α := (ixN xs.length i).bind fun j => xs[j]?
theorem JU {n : Nat} {i : Int} {j : Nat} (h : ixN n i = some j) : seqIndex? i n = some j ∧ j < n ∧ -(n : Int) ≤ i ∧ i < n := by
 unfold ixN at h
 by_cases h0 : 0 ≤ i
 ·rw [if_pos h0] at h
  by_cases h1 : i < n
  ·rw [if_pos h1] at h
   have e : i.toNat = j := Option.some.inj h
   exact ⟨by rw [seqIndex_of h0 h1, e], by omega, by omega, h1⟩
  ·rw [if_neg h1] at h; cases h
 ·rw [if_neg h0] at h
  by_cases h1 : -(n : Int) ≤ i
  ·rw [if_pos h1] at h
   have e : (i + n).toNat = j := Option.some.inj h
   exact ⟨by rw [seqIndex_neg (by omega) h1, e], by omega, h1, by omega⟩
  ·rw [if_neg h1] at h; cases h
theorem XD {α : Type} {xs : List α} {i : Int} {v : α} (h : atI xs i = some v) : ∃ j, seqIndex? i xs.length = some j ∧ xs[j]? = some v ∧ j < xs.length ∧ -(xs.length : Int) ≤ i ∧ i < xs.length := by
 unfold atI at h
 cases e : ixN xs.length i with
 | none => rw [e] at h; cases h
 | some j =>
  rw [e] at h
  obtain ⟨h1, h2, h3, h4⟩ := JU e
  exact ⟨j, h1, h, h2, h3, h4⟩
theorem jV {α : Type} {xs : List α} {j : Nat} {v : α} (h : xs[j]? = some v) : atI xs (j : Int) = some v := by
 have hj : j < xs.length := (List.getElem?_eq_some_iff.mp h).1
 have e : ixN xs.length (j : Int) = some j := by
  unfold ixN
  rw [if_pos (by omega), if_pos (by omega)]; simp
 unfold atI; rw [e]; exact h
noncomputable def Ka (b : Expr) : Prop := ∀ o i, subscripted b false o i = operate [o, i] (getItem o i)
noncomputable def IxR (X : Cx) (r : R2) : Prop :=
 ∀ (value slice : Expr) (pins : List (Addr × Obj)) (s : Shared) (σ : St) (H : Hp) (x y : V) (v u : Value) (Q : VK), Inv X pins σ H s → RelV x v → RelV y u → r x y H Q →
  subscripted slice false v u = operate [v, u] (getItem v u) → wpAny (model X.prog X.w) X.A (subscriptTail value slice v u) (EP X pins σ Q) X.xe s
noncomputable def MtR (X : Cx) (id : String) (r : V → List V → Hp → VK → Prop) : Prop :=
 ∀ (pins : List (Addr × Obj)) (s : Shared) (σ : St) (H : Hp) (x : V) (xs : List V) (v : Value) (us : List Value) (Q : VK), Inv X pins σ H s → RelV x v → Vals xs us → r x xs H Q →
  wpAny (model X.prog X.w) X.A (call (.builtin id) (v :: us)) (EP X pins σ Q) X.xe s
section
variable {X : Cx} {a b : Expr} {ta tb : TE} {pos : Pos}
theorem pe_ix {r : R2} (hr : IxR X r) (ha : PE X a ta) (hb : PE X b tb) (hs : Ka b) : PE X (.Subscript a b pos) (tOp r ta tb) := by
 intro pins s σ H Q I h
 exact Subscript_ (binT ha hb I h fun v u s2 x y H2 I2 rx ry q => hr a b pins s2 σ H2 x y v u Q I2 rx ry q (hs _ _))
inductive IIx (S : Hp → Addr → List V → Prop) (x y : V) (H : Hp) (Q : VK) : Prop
 | mk (p : Addr) (xs : List V) (i : Int) (v : V) (h : x = .ref p) (h' : y = .int i) (s : S H p xs) (a : atI xs i = some v) (q : Q v H) : IIx S x y H Q
noncomputable def rIxL (K : W.Frag) : R2 := IIx (SqL K)
noncomputable def zC (K : W.Frag) : R2 := IIx (SqT K)
noncomputable def rIxS : R2 := fun x y H Q => ∃ z i c, x = .str z ∧ y = .int i ∧ z.length ≤ sizeLine ∧ atI z.cps.toList i = some c ∧ Q (.str ⟨#[c]⟩) H
theorem hX : IxR X (rIxL X.K) := by
 intro value slice pins s σ H x y v u Q I rx ry h hs
 obtain ⟨p, xs, i, z, rfl, rfl, hq, he, q⟩ := h
 cases rx
 obtain ⟨t, rfl⟩ := ry
 obtain ⟨its, r, pl, hz⟩ := I.list hq
 obtain ⟨j, h1, h2, h3, h4, h5⟩ := XD he
 obtain ⟨w, ew, rw'⟩ := r.get h2
 have hl := r.length
 have hn := rL
 have fin : EP X pins σ Q w s := ⟨z, H, I, rw', q⟩
 by_cases h0 : 0 ≤ i
 ·have hj : i.toNat = j := by
   rw [seqIndex_of h0 h5] at h1
   exact Option.some.inj h1
  exact item_listR pl.isList h0 (by omega) (by rw [hj]; simpa using ew) fin hs
 ·have hj : (i + (its.toArray.size : Int)).toNat = j := by
   rw [seqIndex_neg (by omega) h4] at h1
   rw [List.size_toArray, ← hl]
   exact Option.some.inj h1
  exact subscriptTail_builtinR (x := w) pl.isList.typeIs slot_list_getitem.lookup
   (wpAny_getItem_list_neg (Q := fun r s' => r = w ∧ EP X pins σ Q r s') pl.isList (by omega) (by rw [List.size_toArray] <;> omega) (by omega) (by rw [hj]; simpa using ew) ⟨rfl, fin⟩) hs
theorem lQ : IxR X (zC X.K) := by
 intro value slice pins s σ H x y v u Q I rx ry h hs
 obtain ⟨p, xs, i, z, rfl, rfl, hq, he, q⟩ := h
 cases rx
 obtain ⟨t, rfl⟩ := ry
 obtain ⟨its, r, pl, hz⟩ := I.tuple hq
 obtain ⟨j, h1, h2, h3, h4, h5⟩ := XD he
 obtain ⟨w, ew, rw'⟩ := r.get h2
 have hl := r.length
 have hn := rL
 have fin : EP X pins σ Q w s := ⟨z, H, I, rw', q⟩
 exact subscriptTail_builtinR (x := w) pl.typeIs slot_tuple_getitem.lookup
  (getItem_tuple (j := j) (Q := fun r s' => r = w ∧ EP X pins σ Q r s') pl (by omega) (by omega) (by rw [List.size_toArray, ← hl]; exact h1) (by simpa using ew) ⟨rfl, fin⟩) hs
theorem ix_str : IxR X rIxS := by
 intro value slice pins s σ H x y v u Q I rx ry h hs
 obtain ⟨z, i, c, rfl, rfl, hz, he, q⟩ := h
 obtain ⟨t, rfl⟩ := rx
 obtain ⟨t', rfl⟩ := ry
 obtain ⟨j, h1, h2, h3, h4, h5⟩ := XD he
 have hl : z.cps.toList.length = z.length := by simp [Str.length]
 rw [hl] at h1 h4 h5
 have hn := rL
 exact tail_any (typeIs_str s z t) slot_str_getitem.lookup (getItem_str (c := c) (by
  have e1 : decide (i < -(2 ^ 63 : Int)) = false := decide_eq_false (by omega)
  have e2 : decide (i ≥ 2 ^ 63) = false := decide_eq_false (by omega)
  rw [e1, e2, Bool.or_false]) (by rw [h1]; simpa using h2) ⟨.str ⟨#[c]⟩, H, I.tok _, ⟨_, rfl⟩, q⟩) hs
theorem Z4 (its : List Value) (n j : Nat) (u : Value) : Obj.mapSeq (·.setIfInBounds j u) { cls := .type "list", data := .seq its.toArray n } = { cls := .type "list", data := .seq (its.set j u).toArray n } := by
 simp [Obj.mapSeq]
theorem Inv.lst {pins : List (Addr × Obj)} {σ : St} {H : Hp} {s : Shared} {p : Addr} {xs : List V} (I : Inv X pins σ H s) (h : H p = some (.lst xs)) :
  ∃ (its : List Value) (n : Nat), Vals xs its ∧ s.heap.get? p = some { cls := .type "list", data := .seq its.toArray n } ∧ xs.length ≤ sizeLine := by
 obtain ⟨z, its, n, r, e⟩ := I.hok p _ h
 exact ⟨its, n, r, e, z⟩
theorem Inv.lstUpd {pins : List (Addr × Obj)} {σ : St} {H : Hp} {s : Shared} {p : Addr} {xs ys : List V} {its its' : List Value} {n n' : Nat} {f : Obj → Obj} (I : Inv X pins σ H s) (h : H p = some (.lst xs))
  (ho : s.heap.get? p = some { cls := .type "list", data := .seq its.toArray n }) (hf : f { cls := .type "list", data := .seq its.toArray n } = { cls := .type "list", data := .seq its'.toArray n' }) (r : Vals ys its') (hz : ys.length ≤ sizeLine) (t : Nat) :
  Inv X pins σ (upd H p (.lst ys)) { s with heap := s.heap.update p f, toks := t } := by
 have e : (s.heap.update p f).get? p = some { cls := .type "list", data := .seq its'.toArray n' } := by
  rw [Heap.get?_update_self f ho (by rw [hf] <;> rfl), hf]
 refine I.write (x := p) (e := p) (by rw [h]; trivial) (.inl rfl) (fun b u hb q => (Heap.get?_update_other _ _ (Ne.symm hb)).trans q) ⟨_, e⟩ ?_
 exact ⟨hz, its', n', r, e⟩
noncomputable def rSetL : V → V → V → Hp → (Hp → Prop) → Prop := fun o i v H Q => ∃ p xs k j, o = .ref p ∧ i = .int k ∧ H p = some (.lst xs) ∧ ixN xs.length k = some j ∧ Q (upd H p (.lst (xs.set j v)))
theorem kU : PSet X rSetL := by
 intro pins s σ H o i v ov iv u Q I ro ri rv h
 obtain ⟨p, xs, k, j, rfl, rfl, hp, hj, q⟩ := h
 cases ro
 obtain ⟨t, rfl⟩ := ri
 obtain ⟨its, n, r, ho, hz⟩ := I.lst hp
 obtain ⟨h1, h2, h3, h4⟩ := JU hj
 have hl := r.length
 have hn := rL
 have I' : Inv X pins σ (upd H p (.lst (xs.set j v))) { s with heap := s.heap.update p (Obj.mapSeq (·.setIfInBounds j u)) } :=
  I.lstUpd hp ho (Z4 its n j u) (r.set rv j) (by rw [List.length_set]; exact hz) s.toks
 by_cases h0 : 0 ≤ k
 ·have hk : k.toNat = j := by
   rw [seqIndex_of h0 h4] at h1
   exact Option.some.inj h1
  exact W.ki_setAt ho h0 (by omega) (by rw [List.size_toArray, ← hl]; exact h4) (by rw [hk]; exact ⟨_, I', q⟩)
 ·have hk : (k + (its.toArray.size : Int)).toNat = j := by
   rw [seqIndex_neg (by omega) h3] at h1
   rw [List.size_toArray, ← hl]
   exact Option.some.inj h1
  exact W.ki_setBack ho (by omega) (by rw [List.size_toArray, ← hl]; exact h3) (by omega) (by rw [hk]; exact ⟨_, I', q⟩)
theorem Xc (lo hi : Option Int) (n : Nat) : (sliceBounds lo hi none n).1 = ((HT.sIx n 0 lo : Nat) : Int) ∧ (sliceBounds lo hi none n).2.1 = ((HT.sIx n n hi : Nat) : Int) ∧ (sliceBounds lo hi none n).2.2 = 1 := by
 refine ⟨?_, ?_, rfl⟩
 ·cases lo with
  | none => simp [sliceBounds, HT.sIx]
  | some i =>
   simp only [sliceBounds, HT.sIx, Option.getD_none, show (1 : Int) > 0 by decide, if_true]
   by_cases h : i < 0
   ·simp only [h, if_true] <;> omega
   ·simp only [h, if_false] <;> omega
 ·cases hi with
  | none => simp [sliceBounds, HT.sIx]
  | some i =>
   simp only [sliceBounds, HT.sIx, Option.getD_none, show (1 : Int) > 0 by decide, if_true]
   by_cases h : i < 0
   ·simp only [h, if_true] <;> omega
   ·simp only [h, if_false] <;> omega
theorem Qn (its : List Value) (lo hi : Option Int) : slicePick its.toArray lo hi none = ((its.drop (HT.sIx its.length 0 lo)).take (HT.sIx its.length its.length hi - HT.sIx its.length 0 lo)).toArray := by
 obtain ⟨h1, h2, h3⟩ := Xc lo hi its.toArray.size
 unfold slicePick
 rw [h1, h2, h3]
 simp only [sliceRange_one, pick_run, List.size_toArray] <;> rfl
noncomputable def rSlL (K : W.Frag) : V → Option Int → Option Int → Hp → VK → Prop := fun x lo hi H Q => ∃ a xs, x = .ref a ∧ SqL K H a xs ∧ ∀ p, H p = none → Q (.ref p) (upd H p (.lst (oX xs lo hi)))
theorem vV : SlR X (rSlL X.K) := by
 intro pins s σ H x v vl vu lo hi sl Q I rx hs pl pu h
 obtain ⟨a, xs, rfl, hx, q⟩ := h
 cases rx
 obtain ⟨its, r, ht, hz⟩ := I.list hx
 have hlen := r.length
 refine ⟨"list", _, slot_list_getitem.lookup, ht.isList.typeIs, ?_⟩
 refine wpAny_getItem_list_slice ht.isList hs pl pu .none (by simp) ?_ (by rw [List.size_toArray] <;> omega)
 rw [Qn, ← hlen]
 refine ⟨.ref s.heap.objs.size, _, I.laid (t' := s.toks) (o := .lst (oX xs lo hi)) (fun b ob q => Heap.get?_push_of_some _ q) lR ?_, rfl, q _ (I.hok.fresh lR)⟩
 exact ⟨Nat.le_trans (iK xs lo hi) hz, _, 0, (r.drop (HT.sIx xs.length 0 lo)).take (HT.sIx xs.length xs.length hi - HT.sIx xs.length 0 lo), Heap.get?_push_size _ rfl⟩
noncomputable def cC : V → Bool
 | .non => true
 | .bl _ => true
 | .int _ => true
 | .str _ => true
 | _ => false
noncomputable def eqV : V → V → Bool
 | .non, .non => true
 | .bl a, .bl b => a == b
 | .bl a, .int b => (if a then 1 else 0) == b
 | .int a, .bl b => a == (if b then 1 else 0)
 | .int a, .int b => a == b
 | .str a, .str b => a == b
 | _, _ => false
theorem lI {A : Around} {s : Shared} {y x : V} {u v : Value} (ry : RelV y u) (rx : RelV x v) (fy : cC y = true) (fx : cC x = true) : SeqAt.EqAt A s u v (eqV y x) := by
 cases y with
 | non =>
  cases ry
  cases x with
  | non => cases rx; exact SeqAt.EqAt.same _
  | bl b => cases rx; exact SeqAt.EqAt.none_bool b
  | int b => obtain ⟨t, rfl⟩ := rx; exact SeqAt.EqAt.none_int b t
  | str b => obtain ⟨t, rfl⟩ := rx; exact SeqAt.EqAt.none_str b t
  | _ => exact absurd (show false = true from fx) Bool.false_ne_true
 | bl a =>
  cases ry
  cases x with
  | non => cases rx; exact SeqAt.EqAt.bool_none a
  | bl b => cases rx; exact SeqAt.EqAt.bool_bool a b
  | int b => obtain ⟨t, rfl⟩ := rx; exact SeqAt.EqAt.bool_int a b t
  | str b => obtain ⟨t, rfl⟩ := rx; exact SeqAt.EqAt.bool_str a b t
  | _ => exact absurd (show false = true from fx) Bool.false_ne_true
 | int a =>
  obtain ⟨t', rfl⟩ := ry
  cases x with
  | non => cases rx; exact SeqAt.EqAt.int_none a t'
  | bl b => cases rx; exact SeqAt.EqAt.int_bool a t' b
  | int b => obtain ⟨t, rfl⟩ := rx; exact SeqAt.EqAt.int_int a t' b t
  | str b => obtain ⟨t, rfl⟩ := rx; exact SeqAt.EqAt.int_str a t' b t
  | _ => exact absurd (show false = true from fx) Bool.false_ne_true
 | str a =>
  obtain ⟨t', rfl⟩ := ry
  cases x with
  | non => cases rx; exact SeqAt.EqAt.str_none a t'
  | bl b => cases rx; exact SeqAt.EqAt.str_bool a t' b
  | int b => obtain ⟨t, rfl⟩ := rx; exact SeqAt.EqAt.str_int a t' b t
  | str b => obtain ⟨t, rfl⟩ := rx; exact SeqAt.EqAt.str_str a t' b t
  | _ => exact absurd (show false = true from fx) Bool.false_ne_true
 | _ => exact absurd (show false = true from fy) Bool.false_ne_true
noncomputable def eqU (x : V) (u : Value) : Bool := match u with
 | .none => eqV .non x
 | .bool b => eqV (.bl b) x
 | .int i _ => eqV (.int i) x
 | .str z _ => eqV (.str z) x
 | _ => false
theorem Wi {x y : V} {u : Value} (r : RelV y u) (f : cC y = true) : eqU x u = eqV y x := by
 cases y with
 | non => cases r; rfl
 | bl b => cases r; rfl
 | int i => obtain ⟨t, rfl⟩ := r; rfl
 | str z => obtain ⟨t, rfl⟩ := r; rfl
 | _ => exact absurd (show false = true from f) Bool.false_ne_true
theorem zR {x : V} : ∀ {xs : List V} {us : List Value}, Vals xs us → xs.all cC = true → us.any (eqU x) = xs.any fun y => eqV y x
 | _, _, .nil, _ => rfl
 | y :: xs, u :: us, .cons r t, f => by
  rw [List.all_cons, Bool.and_eq_true] at f
  rw [List.any_cons, List.any_cons, Wi r f.1, zR t f.2]
theorem dL {A : Around} {s : Shared} {x : V} {v : Value} (rx : RelV x v) (fx : cC x = true) : ∀ {xs : List V} {us : List Value}, Vals xs us → xs.all cC = true → ∀ u ∈ us, SeqAt.EqAt A s u v (eqU x u)
 | _, _, .nil, _ => fun u hu => by cases hu
 | y :: xs, u :: us, .cons r t, f => fun u' hu => by
  rw [List.all_cons, Bool.and_eq_true] at f
  rcases List.mem_cons.mp hu with rfl | hu
  ·rw [Wi r f.1]; exact lI r rx f.1 fx
  ·exact dL rx fx t f.2 u' hu
noncomputable def inV (x : V) (xs : List V) : Bool := xs.any fun y => eqV y x
noncomputable def rIn (K : W.Frag) (neg : Bool) : R2 := fun x y H Q => ∃ p xs, y = .ref p ∧ (SqL K H p xs ∨ SqT K H p xs) ∧ cC x = true ∧ xs.all cC = true ∧ Q (.bl (if neg then !inV x xs else inV x xs)) H
theorem QM : OpR X (compareOp .In) (rIn X.K false) := by
 intro pins s σ H x y v u Q I rx ry h
 obtain ⟨p, xs, rfl, hq, fx, fs, q⟩ := h
 cases ry
 rcases hq with hq | hq
 ·obtain ⟨its, r, pl, hz⟩ := I.list hq
  refine SeqAt.in_listAt (eqU x) pl.isList (fun w hw => dL rx fx r fs w (by simpa using hw)) ⟨.bl _, H, I, rfl, ?_⟩
  rw [show its.toArray.any (eqU x) = its.any (eqU x) by simp, zR r fs]
  exact q
 ·obtain ⟨its, r, pl, hz⟩ := I.tuple hq
  refine SeqAt.in_tupleAt (eqU x) pl (fun w hw => dL rx fx r fs w (by simpa using hw)) ⟨.bl _, H, I, rfl, ?_⟩
  rw [show its.toArray.any (eqU x) = its.any (eqU x) by simp, zR r fs]
  exact q
theorem jC : OpR X (compareOp .NotIn) (rIn X.K true) := by
 intro pins s σ H x y v u Q I rx ry h
 obtain ⟨p, xs, rfl, hq, fx, fs, q⟩ := h
 cases ry
 rcases hq with hq | hq
 ·obtain ⟨its, r, pl, hz⟩ := I.list hq
  refine SeqAt.notIn_listAt (eqU x) pl.isList (fun w hw => dL rx fx r fs w (by simpa using hw)) ⟨.bl _, H, I, rfl, ?_⟩
  rw [show its.toArray.any (eqU x) = its.any (eqU x) by simp, zR r fs]
  exact q
 ·obtain ⟨its, r, pl, hz⟩ := I.tuple hq
  refine SeqAt.notIn_tupleAt (eqU x) pl (fun w hw => dL rx fx r fs w (by simpa using hw)) ⟨.bl _, H, I, rfl, ?_⟩
  rw [show its.toArray.any (eqU x) = its.any (eqU x) by simp, zR r fs]
  exact q
theorem Xj : OpR X (compareOp .NotIn) (fun x y H Q => ∃ i j, x = .str i ∧ y = .str j ∧ Q (.bl (!(!(Builtin.Str.occurrences j i 0 j.length 1).isEmpty))) H) := by
 intro pins s σ H x y v u Q I rx ry h
 obtain ⟨i, j, rfl, rfl, q⟩ := h
 obtain ⟨t, rfl⟩ := rx
 obtain ⟨t', rfl⟩ := ry
 exact notIn_str ⟨.bl _, H, I, rfl, q⟩
theorem yY : pY X (.type "list") (fun xs H Q => ∃ p ys, xs = [.ref p] ∧ (SqL X.K H p ys ∨ SqT X.K H p ys) ∧ ∀ l, H l = none → Q (.ref l) (upd H l (.lst ys))) := by
 intro pins s σ H xs us Q I r h
 obtain ⟨p, ys, rfl, hq, q⟩ := h
 obtain ⟨u, rfl, rx⟩ := uH r
 cases rx
 have fin : ∀ (its : List Value), Vals ys its → ys.length ≤ sizeLine → ∀ (h' : Heap) (c' : Nat), (∀ b o', s.heap.get? b = some o' → h'.get? b = some o') →
   h'.get? s.heap.objs.size = some { cls := .type "list", dict := none, data := .seq its.toArray c', slots := #[] } → EP X pins σ Q (.ref s.heap.objs.size) { s with heap := h' } := fun its r' hz h' c' kp e =>
  ⟨.ref s.heap.objs.size, _, I.laid (t' := s.toks) kp lR (show ObjOk X.prog X.w _ h' _ (.lst ys) from ⟨hz, its, c', r', e⟩), rfl, q _ (I.hok.fresh lR)⟩
 rcases hq with hq | hq
 ·obtain ⟨its, r', pl, hz⟩ := I.list hq
  have hlen := r'.length
  obtain ⟨o, ho, hc, n, hd⟩ := pl.isList
  exact call_list_seq p (.inl rfl) ho hc hd (fun h' c' kp e => fin its r' hz h' c' kp e) (by simp only [List.size_toArray] <;> omega)
 ·obtain ⟨its, r', pl, hz⟩ := I.tuple hq
  have hlen := r'.length
  obtain ⟨o, ho, hc, n, hd⟩ := pl
  exact call_list_seq p (.inr rfl) ho hc hd (fun h' c' kp e => fin its r' hz h' c' kp e) (by simp only [List.size_toArray] <;> omega)
theorem aJ : pY X (.type "tuple") (fun xs H Q => ∃ p ys, xs = [.ref p] ∧ ((SqL X.K H p ys ∧ ∀ l, H l = none → Q (.ref l) (upd H l (.tup ys))) ∨ (SqT X.K H p ys ∧ Q (.ref p) H))) := by
 intro pins s σ H xs us Q I r h
 obtain ⟨p, ys, rfl, h⟩ := h
 obtain ⟨u, rfl, rx⟩ := uH r
 cases rx
 rcases h with ⟨hq, q⟩ | ⟨hq, q⟩
 ·obtain ⟨its, r', pl, hz⟩ := I.list hq
  have hlen := r'.length
  refine call_tuple_list pl.isList (fun h' kp => ?_) (by simp only [List.size_toArray] <;> omega)
  have I1 : Inv X pins σ H { s with heap := h' } := I.kept (t' := s.toks) kp
  have I2 : Inv X pins σ (upd H h'.objs.size (.tup ys)) { s with heap := h'.push { cls := .type "tuple", data := .seq its.toArray } } :=
   I1.laid (t' := s.toks) (fun b o e => Heap.get?_push_of_some _ e) lR (show ObjOk X.prog X.w _ _ _ (.tup ys) from ⟨hz, its, r', IsTup.new _ _⟩)
  exact ⟨.ref h'.objs.size, _, I2, rfl, q _ (I1.hok.fresh lR)⟩
 ·obtain ⟨its, r', pl, hz⟩ := I.tuple hq
  exact call_tuple_same pl ⟨.ref p, H, I, rfl, q⟩
noncomputable def tyV (K : W.Frag) (T : String) (x : V) (H : Hp) : Prop := match x with
 | .str _ => T = "str"
 | .int _ => T = "int"
 | .ref p => (T = "list" ∧ ∃ xs, SqL K H p xs) ∨ (T = "tuple" ∧ ∃ o, K.lookup p = some o ∧ o.cls = .type "tuple" ∧ o.dict = none) ∨
   (T = "dict" ∧ ((∃ kvs, H p = some (.dK kvs)) ∨ ∃ kvs, H p = some (.dT kvs))) ∨ (T = "set" ∧ ∃ S n, H p = some (.set S n))
 | _ => False
theorem Vc {pins : List (Addr × Obj)} {σ : St} {H : Hp} {s : Shared} {T : String} {x : V} {v : Value} (I : Inv X pins σ H s) (r : RelV x v) (ty : tyV X.K T x H) :
  s.TypeIs v T ∧ ∀ a, v = .ref a → ∃ ob, s.heap.get? a = some ob ∧ ob.dict = none := by
 cases x with
 | str z =>
  obtain ⟨t, rfl⟩ := r
  cases (show T = "str" from ty)
  exact ⟨typeIs_str s z t, fun _ e => nomatch e⟩
 | int i =>
  obtain ⟨t, rfl⟩ := r
  cases (show T = "int" from ty)
  exact ⟨typeIs_int s i t, fun _ e => nomatch e⟩
 | ref p =>
  cases r
  rcases ty with ⟨rfl, xs, hq⟩ | ⟨rfl, o, hk, hc, hd⟩ | ⟨rfl, hk⟩ | ⟨rfl, S, n, hk⟩
  ·obtain ⟨its, _, pl, _⟩ := I.list hq
   refine ⟨pl.isList.typeIs, fun a e => ?_⟩
   cases e
   obtain ⟨o, n, e, c, hd, _⟩ := pl
   exact ⟨o, e, hd⟩
  ·refine ⟨⟨o, I.kIn p o hk, hc⟩, fun a e => ?_⟩
   cases e
   exact ⟨o, I.kIn _ o hk, hd⟩
  ·have z : ∃ o, s.heap.get? p = some o ∧ o.ExactDict := by
    rcases hk with ⟨kvs, hk⟩ | ⟨kvs, hk⟩
    ·obtain ⟨_, _, _, _, o, _, _, e, ex, _⟩ := I.hok p _ hk
     exact ⟨o, e, ex⟩
    ·obtain ⟨_, _, _, _, o, _, _, e, ex, _⟩ := I.hok p _ hk
     exact ⟨o, e, ex⟩
   obtain ⟨o, e, ex⟩ := z
   refine ⟨⟨o, e, ex.1⟩, fun a e2 => ?_⟩
   cases e2
   exact ⟨o, e, ex.2.1⟩
  ·obtain ⟨o, _, _, _, e, ex, _⟩ := I.hok p _ hk
   refine ⟨⟨o, e, ex.1⟩, fun a e2 => ?_⟩
   cases e2
   exact ⟨o, e, ex.2.1⟩
 | _ => exact False.elim ty
noncomputable def tBM0 (K : W.Frag) (T : String) (r : V → List V → Hp → VK → Prop) (to : TE) : TE := fun σ H Q => to σ H fun x H1 => tyV K T x H1 ∧ r x [] H1 Q
noncomputable def tBM (K : W.Frag) (T : String) (r : V → List V → Hp → VK → Prop) (to : TE) (t : TA) : TE := fun σ H Q => to σ H fun x H1 => tyV K T x H1 ∧ t σ H1 fun xs H2 => r x xs H2 Q
variable {o e : Expr} {es : List Expr} {to : TE} {t : TA} {name : Str} {apos cpos : Pos} {T id : String} {r : V → List V → Hp → VK → Prop}
theorem pe_bm0 (pa : PlainAttrs T) (slot : Slot T name id) (hty : typeOf (.builtin id) = pure (.type "method_descriptor")) (hm : MtR X id r) (ho : PE X o to)
  (hbase : attributeBase o name X.env (eval o X.env) = eval o X.env := by rfl) (hline : (apos.endLine == cpos.line) = true := by rfl) : PE X (.Call (.Attribute o name apos) [] [] cpos) (tBM0 X.K T r to) := by
 intro pins s σ H Q I h
 refine wpAny_Call_method0_late hbase hline (thn (ho pins s σ H _ I h) fun v s1 ⟨x, H1, I1, r1, ty, q1⟩ => ?_)
 obtain ⟨h1, h2⟩ := Vc I1 r1 ty
 exact ⟨T, id, pa, slot, hty, h1, h2, Calls.callWith_builtin rfl (PySem.evalArgs_none (hm pins s1 σ H1 x [] v [] Q I1 r1 .nil q1))⟩
theorem pe_bm (pa : PlainAttrs T) (slot : Slot T name id) (hty : typeOf (.builtin id) = pure (.type "method_descriptor")) (hm : MtR X id r) (ho : PE X o to) (ha : PA X (e :: es) t)
  (hbase : attributeBase o name X.env (eval o X.env) = eval o X.env := by rfl)
  (hfew : ((backTo cpos (starEach (e :: es) X.env)).all (fun x => !x.1) && (backToKw cpos (keywordEach [] X.env)).all (fun x => x.1.isSome)
   && decide ((e :: es).length + ([] : List Keyword).length + (if ([] : List Keyword).isEmpty then 0 else 1) < 30)) = true := by rfl)
  (hline : (apos.endLine == cpos.line) = true := by rfl) (hs : starEach (e :: es) X.env = (false, eval e X.env) :: starEach es X.env := by rfl) (hplain : (backTo cpos (starEach es X.env)).any (·.1) = false := by rfl) :
  PE X (.Call (.Attribute o name apos) (e :: es) [] cpos) (tBM X.K T r to t) := by
 intro pins s σ H Q I h
 refine wpAny_Call_method_late hbase hfew hline rfl (thn (ho pins s σ H _ I h) fun v s1 ⟨x, H1, I1, r1, ty, q1⟩ => ?_)
 obtain ⟨h1, h2⟩ := Vc I1 r1 ty
 refine ⟨T, id, pa, slot, hty, h1, h2, ?_⟩
 have hA := ha cpos pins s1 σ H1 _ I1 q1
 rw [hs] at hA ⊢
 refine Calls.callWith_builtin (by show (false || (backTo cpos (starEach es X.env)).any (·.1)) = false; rw [hplain] <;> rfl) (Calls.evalArgs_plain ?_)
 exact thn hA fun us s2 ⟨vs, H2, I2, r2, q2⟩ => hm pins s2 σ H2 x vs v us Q I2 r1 r2 q2
end
end L2
namespace L2
open PySem PySem.Spec PyProof.Rows
noncomputable def MtM (X : Cx) (id : String) (r : V → List V → Hp → VK → Prop) : Prop :=
 ∀ (pins : List (Addr × Obj)) (s : Shared) (σ : St) (H : Hp) (x : V) (xs : List V) (v : Value) (us : List Value) (Q : VK), Inv X pins σ H s → RelV x v → Vals xs us → r x xs H Q →
  wpAny (model X.prog X.w) X.A (call (.builtin id) (v :: us)) (EP X pins σ Q) X.xe s
theorem Vals.one : ∀ {x : V} {us : List Value}, Vals [x] us → ∃ u, us = [u] ∧ RelV x u
 | _, _, .cons r .nil => ⟨_, rfl, r⟩
theorem Vals.two : ∀ {x y : V} {us : List Value}, Vals [x, y] us → ∃ u v, us = [u, v] ∧ RelV x u ∧ RelV y v
 | _, _, _, .cons r (.cons q .nil) => ⟨_, _, rfl, r, q⟩
theorem Vals.zero : ∀ {us : List Value}, Vals [] us → us = []
 | _, .nil => rfl
theorem Vals.dropLast {xs : List V} {us : List Value} (h : Vals xs us) : Vals xs.dropLast us.dropLast := by
 induction h with
 | nil => exact .nil
 | cons r t ih =>
  cases t with
  | nil => exact .nil
  | cons q t' => exact .cons r ih
theorem Vals.eraseIdx : ∀ {xs : List V} {us : List Value} (i : Nat), Vals xs us → Vals (xs.eraseIdx i) (us.eraseIdx i)
 | _, _, _, .nil => .nil
 | _, _, 0, .cons _ t => t
 | _, _, i + 1, .cons r t => .cons r (Vals.eraseIdx i t)
theorem Vals.reverse {xs : List V} {us : List Value} (h : Vals xs us) : Vals xs.reverse us.reverse := by
 induction h with
 | nil => exact .nil
 | cons r t ih => rw [List.reverse_cons, List.reverse_cons]; exact Vals.append ih (.cons r .nil)
theorem Jg {α : Type} (l : List α) : l.eraseIdx (l.length - 1) = l.dropLast := by
 induction l with
 | nil => rfl
 | cons a r ih =>
  cases r with
  | nil => rfl
  | cons b r =>
   have e : (a :: b :: r).length - 1 = ((b :: r).length - 1) + 1 := by
    have h1 : (a :: b :: r).length = r.length + 2 := rfl
    have h2 : (b :: r).length = r.length + 1 := rfl
    omega
   rw [e, List.eraseIdx_cons_succ, ih]
   all_goals rfl
theorem QS {α : Type} : ∀ (l : List α) (i : Nat), (l.eraseIdx i).length ≤ l.length
 | [], _ => Nat.le_refl _
 | _ :: _, 0 => Nat.le_succ _
 | _ :: r, i + 1 => Nat.succ_le_succ (QS r i)
section
variable {X : Cx} {pins : List (Addr × Obj)} {σ : St} {H : Hp} {s : Shared} {l b : Addr} {xs ys zs : List V}
theorem Inv.lset {its its' : List Value} {n : Nat} {f : Array Value → Array Value} {t' : Nat} (I : Inv X pins σ H s) (hH : H l = some (.lst xs))
  (e : s.heap.get? l = some { cls := .type "list", data := .seq its.toArray n }) (hf : f its.toArray = its'.toArray) (hv : Vals ys its') (hz : ys.length ≤ sizeLine) :
  Inv X pins σ (upd H l (.lst ys)) { s with heap := s.heap.update l (Obj.mapSeq f), toks := t' } := by
 have q := PySem.IsL.update e f
 rw [hf] at q
 refine I.write (x := l) (e := l) (by rw [hH]; exact trivial) (.inl rfl) (fun b' u hb hu => (Heap.get?_update_other s.heap (Obj.mapSeq f) (Ne.symm hb)).trans hu) ⟨_, q⟩ ?_
 exact ⟨hz, its', _, hv, q⟩
theorem Inv.lnew {its : List Value} {t' : Nat} (I : Inv X pins σ H s) (hv : Vals ys its) (hz : ys.length ≤ sizeLine) :
  Inv X pins σ (upd H s.heap.objs.size (.lst ys)) { s with heap := s.heap.push { cls := .type "list", data := .seq its.toArray }, toks := t' } :=
 I.laid (fun _ _ q => Heap.get?_push_of_some _ q) lR ⟨hz, its, 0, hv, Heap.get?_push_size _ rfl⟩
theorem Inv.fresh (I : Inv X pins σ H s) : H s.heap.objs.size = none := I.hok.fresh lR
theorem Inv.lstM (I : Inv X pins σ H s) (hH : H l = some (.lst xs)) : xs.length ≤ sizeLine ∧ ∃ (its : List Value) (n : Nat), Vals xs its ∧ xs.length = its.length ∧ s.heap.get? l = some { cls := .type "list", data := .seq its.toArray n } := by
 obtain ⟨z, its, n, r, e⟩ := I.hok l _ hH
 exact ⟨z, its, n, r, r.length, e⟩
theorem X4 {n : Nat} (h : n ≤ sizeLine) : Builtin.List.listTooLong n = false := by
 unfold Builtin.List.listTooLong
 exact decide_eq_false (by omega)
end
section
variable {X : Cx}
noncomputable def rAppend : V → List V → Hp → VK → Prop := fun x vs H Q => ∃ l xs y, x = .ref l ∧ vs = [y] ∧ H l = some (.lst xs) ∧ xs.length < sizeLine ∧ Q .non (upd H l (.lst (xs ++ [y])))
theorem aV : MtM X "list.append" rAppend := by
 intro pins s σ H x vs v us Q I rx rv h
 obtain ⟨l, xs, y, rfl, rfl, hH, hz, q⟩ := h
 cases rx
 obtain ⟨u, rfl, ru⟩ := rv.one
 obtain ⟨z, its, n, r, hl, e⟩ := I.lstM hH
 refine call_meets F.slot_list_append ⟨_, e, rfl⟩ F.entry_list_append (F.args_list_append_2 _ _) (PySem.list_append l its.toArray n u (by rw [List.size_toArray]; omega)) ⟨e, ?_⟩
 refine ⟨.non, _, I.lset (its' := its ++ [u]) hH e (by simp) (r.append (.cons ru .nil)) ?_, rfl, q⟩
 rw [List.length_append, List.length_singleton]
 omega
noncomputable def rExtend : V → List V → Hp → VK → Prop := fun x vs H Q => ∃ l b xs zs, x = .ref l ∧ vs = [.ref b] ∧ H l = some (.lst xs) ∧ H b = some (.lst zs) ∧ xs.length + zs.length ≤ sizeLine ∧ Q .non (upd H l (.lst (xs ++ zs)))
theorem aP : MtM X "list.extend" rExtend := by
 intro pins s σ H x vs v us Q I rx rv h
 obtain ⟨l, b, xs, zs, rfl, rfl, hH, hB, hz, q⟩ := h
 cases rx
 obtain ⟨u, rfl, ru⟩ := rv.one
 cases ru
 obtain ⟨z, its, n, r, hl, e⟩ := I.lstM hH
 obtain ⟨z2, its2, n2, r2, hl2, e2⟩ := I.lstM hB
 have hsz : its.toArray.size + its2.toArray.size ≤ sizeLine := by rw [List.size_toArray, List.size_toArray]; omega
 have hlong : ¬ (!its.toArray.isEmpty && Builtin.List.listTooLong (its.toArray.size + its2.toArray.size)) = true := by
  rw [X4 hsz, Bool.and_false]
  exact Bool.false_ne_true
 refine call_meets F.slot_list_extend ⟨_, e, rfl⟩ F.entry_list_extend (F.args_list_extend_2 _ _)
  (AutoSeq1.list_extend_list_list_0 l its.toArray n b its2.toArray n2 hlong (by rw [List.size_toArray]; omega) (by omega)) ⟨e, e2, ?_⟩
 refine ⟨.non, _, I.lset (its' := its ++ its2) hH e (by simp) (r.append r2) ?_, rfl, q⟩
 rw [List.length_append]
 omega
noncomputable def rPop : V → List V → Hp → VK → Prop := fun x vs H Q => ∃ l xs y, x = .ref l ∧ vs = [] ∧ H l = some (.lst xs) ∧ xs[xs.length - 1]? = some y ∧ Q y (upd H l (.lst xs.dropLast))
theorem nR : MtM X "list.pop" rPop := by
 intro pins s σ H x vs v us Q I rx rv h
 obtain ⟨l, xs, y, rfl, rfl, hH, hy, q⟩ := h
 cases rx
 have hus := rv.zero
 subst hus
 obtain ⟨z, its, n, r, hl, e⟩ := I.lstM hH
 obtain ⟨u, hu, ru⟩ := r.get hy
 have hy' : its.toArray[its.toArray.size - 1]? = some u := by
  show its.toArray[its.length - 1]? = some u
  rw [← Array.getElem?_toList, ← hl]
  exact hu
 refine call_meets F.slot_list_pop ⟨_, e, rfl⟩ F.entry_list_pop (F.args_list_pop_1 _) (MeetsSeq.list_pop_last l its.toArray n u hy' (by rw [List.size_toArray]; omega)) ⟨e, ?_⟩
 refine ⟨y, _, I.lset (its' := its.dropLast) hH e ?_ r.dropLast ?_, ru, q⟩
 ·show its.toArray.eraseIdxIfInBounds (its.toArray.size - 1) = its.dropLast.toArray
  rw [List.size_toArray, List.eraseIdxIfInBounds_toArray, Jg]
 ·rw [List.length_dropLast]
  omega
noncomputable def rPopAt : V → List V → Hp → VK → Prop := fun x vs H Q => ∃ l xs i k y, x = .ref l ∧ vs = [.int i] ∧ H l = some (.lst xs) ∧ -(2 ^ 63) ≤ i ∧ i < 2 ^ 63 ∧ seqIndex? i xs.length = some k ∧ xs[k]? = some y ∧ Q y (upd H l (.lst (xs.eraseIdx k)))
theorem VS : MtM X "list.pop" rPopAt := by
 intro pins s σ H x vs v us Q I rx rv h
 obtain ⟨l, xs, i, k, y, rfl, rfl, hH, h1, h2, hk, hy, q⟩ := h
 cases rx
 obtain ⟨u, rfl, ru⟩ := rv.one
 obtain ⟨t, rfl⟩ := ru
 obtain ⟨z, its, n, r, hl, e⟩ := I.lstM hH
 obtain ⟨w, hw, rw'⟩ := r.get hy
 refine call_meets F.slot_list_pop ⟨_, e, rfl⟩ F.entry_list_pop (F.args_list_pop_2 _ _)
  (MeetsSeq.list_pop_at l its.toArray n i t k w (fitsIndex_both h1 h2) (by rw [List.size_toArray, ← hl]; exact hk) (by rw [← Array.getElem?_toList]; exact hw) (by rw [List.size_toArray]; omega)) ⟨e, ?_⟩
 refine ⟨y, _, I.lset (its' := its.eraseIdx k) hH e ?_ (r.eraseIdx k) ?_, rw', q⟩
 ·show its.toArray.eraseIdxIfInBounds k = (its.eraseIdx k).toArray
  rw [List.eraseIdxIfInBounds_toArray]
 ·have := QS xs k
  omega
noncomputable def Vn : V → List V → Hp → VK → Prop := fun x vs H Q => ∃ l xs, x = .ref l ∧ vs = [] ∧ H l = some (.lst xs) ∧ Q .non (upd H l (.lst xs.reverse))
theorem qI : MtM X "list.reverse" Vn := by
 intro pins s σ H x vs v us Q I rx rv h
 obtain ⟨l, xs, rfl, rfl, hH, q⟩ := h
 cases rx
 have hus := rv.zero
 subst hus
 obtain ⟨z, its, n, r, hl, e⟩ := I.lstM hH
 refine call_meets F.slot_list_reverse ⟨_, e, rfl⟩ F.entry_list_reverse (F.args_list_reverse_1 _) (AutoSeq1.list_reverse_list_0 l its.toArray n (by rw [List.size_toArray]; omega)) ⟨e, ?_⟩
 refine ⟨.non, _, I.lset (its' := its.reverse) hH e (by simp) r.reverse ?_, rfl, q⟩
 rw [List.length_reverse]
 omega
noncomputable def rCat : R2 := fun x y H Q => ∃ l b xs zs, x = .ref l ∧ y = .ref b ∧ H l = some (.lst xs) ∧ H b = some (.lst zs) ∧ xs.length + zs.length ≤ sizeLine ∧ ∀ p, H p = none → Q (.ref p) (upd H p (.lst (xs ++ zs)))
theorem tH : OpR X (binaryOp .Add) rCat := by
 intro pins s σ H x y v u Q I rx ry h
 obtain ⟨l, b, xs, zs, rfl, rfl, hH, hB, hz, q⟩ := h
 cases rx
 cases ry
 obtain ⟨z, its, n, r, hl, e⟩ := I.lstM hH
 obtain ⟨z2, its2, n2, r2, hl2, e2⟩ := I.lstM hB
 refine PySem.P.add_list e e2 ?_ (by rw [List.size_toArray, List.size_toArray]; omega)
 have ea : its.toArray ++ its2.toArray = (its ++ its2).toArray := by simp
 rw [ea]
 exact ⟨.ref _, _, I.lnew (t' := s.toks) (r.append r2) (by rw [List.length_append]; omega), rfl, q _ I.fresh⟩
end
end L2
namespace L2
open PySem PySem.Spec PyProof.Rows
section
variable {κ : Type} [DecidableEq κ]
noncomputable def nV (kvs : List (κ × V)) (k : κ) : Option V := (kvs.find? fun kv => decide (kv.1 = k)).map (·.2)
noncomputable def gL (kvs : List (κ × V)) (k : κ) (v : V) : List (κ × V) :=
 if (kvs.any fun kv => decide (kv.1 = k)) = true then kvs.map (fun kv => if kv.1 = k then (kv.1, v) else kv) else kvs ++ [(k, v)]
theorem sX {p : κ × V} {r : List (κ × V)} {k : κ} (e : p.1 = k) : nV (p :: r) k = some p.2 := by simp [nV, List.find?_cons, e]
theorem gX {p : κ × V} {r : List (κ × V)} {k : κ} (e : ¬ p.1 = k) : nV (p :: r) k = nV r k := by simp [nV, List.find?_cons, e]
theorem dN (k : κ) : ∀ kvs : List (κ × V), (kvs.any fun kv => decide (kv.1 = k)) = (nV kvs k).isSome
 | [] => rfl
 | p :: r => by
  rw [List.any_cons]
  by_cases e : p.1 = k
  ·simp only [sX e, decide_eq_true e, Bool.true_or, Option.isSome_some]
  ·rw [gX e, decide_eq_false e, Bool.false_or]; exact dN k r
theorem XO (k j : κ) (y : V) : ∀ kvs : List (κ × V), nV (kvs.map fun kv => if kv.1 = k then (kv.1, y) else kv) j = (nV kvs j).map fun x => if j = k then y else x
 | [] => rfl
 | p :: r => by
  have ih := XO k j y r
  rw [List.map_cons]
  by_cases h : p.1 = k
  ·rw [if_pos h]
   by_cases e : p.1 = j
   ·rw [sX (p := (p.1, y)) e, sX e, Option.map_some, if_pos (e.symm.trans h)]
   ·rw [gX (p := (p.1, y)) e, gX e, ih]
  ·rw [if_neg h]
   by_cases e : p.1 = j
   ·rw [sX (p := p) e, sX e, Option.map_some, if_neg (fun z => h (e.trans z))]
   ·rw [gX (p := p) e, gX e, ih]
theorem QG (k j : κ) (y : V) : ∀ kvs : List (κ × V), nV kvs k = none → nV (kvs ++ [(k, y)]) j = if j = k then some y else nV kvs j
 | [], _ => by
  by_cases e : k = j
  ·rw [if_pos e.symm]; exact sX (p := (k, y)) e
  ·rw [if_neg (fun z => e z.symm)]; exact gX (p := (k, y)) e
 | p :: r, hn => by
  rw [List.cons_append]
  have hk : ¬ p.1 = k := fun z => by rw [sX z] at hn; cases hn
  rw [gX hk] at hn
  have ih := QG k j y r hn
  by_cases e : p.1 = j
  ·rw [sX e, sX e, if_neg (fun z => hk (e.trans z))]
  ·rw [gX e, gX e, ih]
theorem Vb (kvs : List (κ × V)) (k j : κ) (y : V) : nV (gL kvs k y) j = if j = k then some y else nV kvs j := by
 unfold gL
 by_cases a : (kvs.any fun kv => decide (kv.1 = k)) = true
 ·rw [if_pos a, XO]
  rw [dN] at a
  by_cases e : j = k
  ·obtain ⟨x, hx⟩ := Option.isSome_iff_exists.mp a
   rw [if_pos e, e, hx, Option.map_some, if_pos rfl]
  ·rw [if_neg e]
   cases nV kvs j with
   | none => rfl
   | some x => rw [Option.map_some, if_neg e]
 ·rw [if_neg a]
  refine QG k j y kvs ?_
  rw [dN] at a
  cases q : nV kvs k with
  | none => rfl
  | some x => rw [q] at a; exact (a rfl).elim
theorem vB (kvs : List (κ × V)) (k : κ) (v : V) : (gL kvs k v).length ≤ kvs.length + 1 := by
 unfold gL
 split
 ·rw [List.length_map]; omega
 ·rw [List.length_append, List.length_cons, List.length_nil]; omega
theorem RelO.isSome_eq {o : Option V} {u : Option Value} (r : RelO o u) : o.isSome = u.isSome := by
 cases o with
 | none => cases u with
  | none => rfl
  | some _ => exact (show False from r).elim
 | some _ => cases u with
  | none => exact (show False from r).elim
  | some _ => rfl
theorem RelO.getD {o : Option V} {u : Option Value} {d : V} {d' : Value} (r : RelO o u) (rd : RelV d d') : RelV (o.getD d) (u.getD d') := by
 cases o with
 | none => cases u with
  | none => exact rd
  | some _ => exact (show False from r).elim
 | some _ => cases u with
  | none => exact (show False from r).elim
  | some _ => exact r
theorem KV.val {kvs : List (κ × V)} {vs : List (κ × Value)} (r : KV kvs vs) (k : κ) : RelO (nV kvs k) (valueAt vs k) := by
 unfold KV at r
 induction r with
 | nil => exact True.intro
 | @cons p q ps qs h t ih =>
  obtain ⟨h1, h2⟩ := h
  by_cases e : p.1 = k
  ·have e' : q.1 = k := h1.symm.trans e
   have b : valueAt (q :: qs) k = some q.2 := by simp [valueAt, List.find?_cons, e']
   rw [sX e, b]; exact h2
  ·have e' : ¬ q.1 = k := fun z => e (h1.trans z)
   have b : valueAt (q :: qs) k = valueAt qs k := by simp [valueAt, List.find?_cons, e']
   rw [gX e, b]; exact ih
theorem KV.any {kvs : List (κ × V)} {vs : List (κ × Value)} (r : KV kvs vs) (k : κ) : (kvs.any fun kv => decide (kv.1 = k)) = vs.any fun kv => decide (kv.1 = k) := by
 unfold KV at r
 induction r with
 | nil => rfl
 | cons h t ih => rw [List.any_cons, List.any_cons, ih, h.1]
theorem KV.repl {kvs : List (κ × V)} {vs : List (κ × Value)} (r : KV kvs vs) (k : κ) {y : V} {u : Value} (ry : RelV y u) :
  KV (kvs.map fun kv => if kv.1 = k then (kv.1, y) else kv) (vs.map fun kv => if kv.1 = k then (kv.1, u) else kv) := by
 unfold KV at r ⊢
 induction r with
 | nil => exact .nil
 | @cons p q ps qs h t ih =>
  rw [List.map_cons, List.map_cons]
  refine .cons ?_ ih
  obtain ⟨h1, h2⟩ := h
  by_cases e : p.1 = k
  ·rw [if_pos e, if_pos (h1.symm.trans e)]; exact ⟨h1, ry⟩
  ·rw [if_neg e, if_neg (fun z => e (h1.trans z))]; exact ⟨h1, h2⟩
theorem KV.put {kvs : List (κ × V)} {vs : List (κ × Value)} (r : KV kvs vs) (k : κ) {y : V} {u : Value} (ry : RelV y u) : KV (gL kvs k y) (stored vs k u) := by
 unfold gL stored
 rw [r.any k]
 by_cases e : (vs.any fun kv => decide (kv.1 = k)) = true
 ·rw [if_pos e, if_pos e]; exact r.repl k ry
 ·rw [if_neg e, if_neg e]; exact Paired.snoc r ⟨rfl, ry⟩
theorem KV.length {kvs : List (κ × V)} {vs : List (κ × Value)} (r : KV kvs vs) : kvs.length = vs.length := Paired.length r
end
theorem bT {P : Program} {w : World} {k : Key} {u : Value} (r : RelV (kV k) u) : (iZ P w).is k u = true := by
 cases k with
 | inl i => obtain ⟨t, e⟩ := (show ∃ t, u = Value.int i t from r); subst e; exact X8 P w i t
 | inr x => obtain ⟨t, e⟩ := (show ∃ t, u = Value.str x t from r); subst e; exact X7 P w x t
theorem QV {P : Program} {w : World} : ∀ {ks : List Key} {us : List Value}, Vals (ks.map kV) us → ItemsAre (iZ P w) ks us
 | [], _, r => by rw [List.map_nil] at r; cases r; exact .nil
 | k :: ks, _, r => by
  rw [List.map_cons] at r
  cases r with
  | cons h t => exact .cons (bT h) (QV t)
noncomputable abbrev KT (H : Hp) : List (List Key × V) → List (List Key × Addr × Value) → Prop := Paired fun p q => p.1 = q.1 ∧ H q.2.1 = some (.tup (p.1.map kV)) ∧ RelV p.2 q.2.2
theorem KT.val {H : Hp} {kvs : List (List Key × V)} {xs : List (List Key × Addr × Value)} (r : KT H kvs xs) (k : List Key) : RelO (nV kvs k) ((atKey xs k).map (·.2)) := by
 induction r with
 | nil => exact True.intro
 | @cons p q ps qs h t ih =>
  obtain ⟨h1, _, h2⟩ := h
  by_cases e : p.1 = k
  ·have e' : q.1 = k := h1.symm.trans e
   have b : atKey (q :: qs) k = some q.2 := by simp [atKey, List.find?_cons, e']
   rw [sX e, b]; exact h2
  ·have e' : ¬ q.1 = k := fun z => e (h1.trans z)
   have b : atKey (q :: qs) k = atKey qs k := by simp [atKey, List.find?_cons, e']
   rw [gX e, b]; exact ih
theorem KT.repl {H : Hp} {kvs : List (List Key × V)} {xs : List (List Key × Addr × Value)} (r : KT H kvs xs) (k : List Key) {y : V} {u : Value} (ry : RelV y u) :
  KT H (kvs.map fun kv => if kv.1 = k then (kv.1, y) else kv) (xs.map (putAt k u)) := by
 induction r with
 | nil => exact .nil
 | @cons p q ps qs h t ih =>
  rw [List.map_cons, List.map_cons]
  refine .cons ?_ ih
  obtain ⟨h1, h2, h3⟩ := h
  unfold putAt
  by_cases e : p.1 = k
  ·rw [if_pos e, if_pos (h1.symm.trans e)]; exact ⟨h1, h2, ry⟩
  ·rw [if_neg e, if_neg (fun z => e (h1.trans z))]; exact ⟨h1, h2, h3⟩
theorem KT.put {H : Hp} {kvs : List (List Key × V)} {xs : List (List Key × Addr × Value)} (r : KT H kvs xs) (k : List Key) {b : Addr} {y : V} {u : Value} (hb : H b = some (.tup (k.map kV))) (ry : RelV y u) :
  KT H (gL kvs k y) (storedH xs k b u) := by
 have e : (kvs.any fun kv => decide (kv.1 = k)) = (atKey xs k).isSome := by
  rw [dN, (r.val k).isSome_eq, Option.isSome_map]
 unfold gL storedH
 rw [e]
 by_cases q : (atKey xs k).isSome = true
 ·rw [if_pos q, if_pos q]; exact r.repl k ry
 ·rw [if_neg q, if_neg q]; exact Paired.snoc r ⟨rfl, hb, ry⟩
theorem KT.keeps {H H' : Hp} {kvs : List (List Key × V)} {xs : List (List Key × Addr × Value)} (r : KT H kvs xs) (ht : ∀ b ys, H b = some (.tup ys) → H' b = some (.tup ys)) : KT H' kvs xs :=
 Paired.mapP r fun _ _ z => ⟨z.1, ht _ _ z.2.1, z.2.2⟩
section
variable {P : Program} {w : World} {H : Hp} {h : Heap} {a : Addr}
theorem rd_of {u : HO} (ok : HOk P w H h) (e : Rd H a u) : ObjOk P w H h a u := e.ok ok
theorem J1 {kvs : List (Key × V)} (ok : HOk P w H h) (e : Rd H a (.dK kvs)) : kvs.length ≤ sizeLine ∧ (a == sysModules) = false ∧ ∃ vs, KV kvs vs ∧ h.DictOf (iZ P w) a vs :=
 show ObjOk P w H h a (.dK kvs) from rd_of ok e
theorem dk_of {kvs : List (Key × V)} (ok : HOk P w H h) (e : H a = some (.dK kvs)) : kvs.length ≤ sizeLine ∧ (a == sysModules) = false ∧ ∃ vs, KV kvs vs ∧ h.DictOf (iZ P w) a vs := J1 ok (.inl e)
theorem Xt {ks : List Key} (ok : HOk P w H h) (e : H a = some (.tup (ks.map kV))) : (tupleKind (iZ P w)).is h ks a := by
 obtain ⟨_, its, r, o, h1, h2, n, h3⟩ := (show ObjOk P w H h a (.tup (ks.map kV)) from ok a _ e)
 exact ⟨o, its.toArray, n, h1, h2, h3, by simpa using QV r⟩
theorem J0 {kvs : List (List Key × V)} (ok : HOk P w H h) (e : Rd H a (.dT kvs)) : kvs.length ≤ sizeLine ∧ (a == sysModules) = false ∧
  ∃ xs, KT H kvs xs ∧ h.DictOfH (tupleKind (iZ P w)) a xs := by
 obtain ⟨z, y, xs, r, o, es, ep, h1, h2, h3, h4, h5⟩ := (show ObjOk P w H h a (.dT kvs) from rd_of ok e)
 refine ⟨z, y, xs, r, o, es, ep, h1, h2, h3, h4, fun x hx => ?_, h5⟩
 have all : ∀ {l : List (List Key × V)} {m : List (List Key × Addr × Value)}, KT H l m → ∀ x ∈ m, (tupleKind (iZ P w)).is h x.1 x.2.1 := by
  intro l m q
  induction q with
  | nil => intro x hx; exact nomatch hx
  | @cons p q ps qs hq t ih =>
   intro x hx
   rcases List.mem_cons.mp hx with e | hx
   ·subst e
    exact Xt ok (by rw [← hq.1]; exact hq.2.1)
   ·exact ih x hx
 exact all r x hx
theorem dt_of {kvs : List (List Key × V)} (ok : HOk P w H h) (e : H a = some (.dT kvs)) : kvs.length ≤ sizeLine ∧ (a == sysModules) = false ∧
  ∃ xs, KT H kvs xs ∧ h.DictOfH (tupleKind (iZ P w)) a xs := J0 ok (.inl e)
end
noncomputable def DGet (H : Hp) (a : Addr) (y : V) (r : Option V) : Prop :=
 (∃ kvs k, Rd H a (.dK kvs) ∧ y = kV k ∧ r = nV kvs k) ∨ ∃ kvs k b, Rd H a (.dT kvs) ∧ y = .ref b ∧ H b = some (.tup (k.map kV)) ∧ r = nV kvs k
noncomputable def DPut (H : Hp) (a : Addr) (y v : V) (H' : Hp) : Prop :=
 (∃ kvs k, H a = some (.dK kvs) ∧ y = kV k ∧ kvs.length < sizeLine ∧ H' = upd H a (.dK (gL kvs k v))) ∨
 ∃ kvs k b, H a = some (.dT kvs) ∧ y = .ref b ∧ H b = some (.tup (k.map kV)) ∧ kvs.length < sizeLine ∧ H' = upd H a (.dT (gL kvs k v))
theorem DGet.k {H : Hp} {a : Addr} {kvs : List (Key × V)} {k : Key} (e : H a = some (.dK kvs)) : DGet H a (kV k) (nV kvs k) := .inl ⟨kvs, k, .inl e, rfl, rfl⟩
theorem DPut.k {H : Hp} {a : Addr} {kvs : List (Key × V)} {k : Key} {v : V} (e : H a = some (.dK kvs)) (hl : kvs.length < sizeLine) : DPut H a (kV k) v (upd H a (.dK (gL kvs k v))) := .inl ⟨kvs, k, e, rfl, hl, rfl⟩
section
variable {X : Cx} {pins : List (Addr × Obj)} {σ : St} {H : Hp} {s : Shared} {a : Addr} {y v : V} {u r : Value} {o : Option V} {A : Around} {E : Value → Shared → Prop}
theorem Inv.big (I : Inv X pins σ H s) : sysModules < s.heap.objs.size := by
 have h : mainGlobals < s.heap.objs.size := (I.mod.glob.keeps I.bk).lt
 exact Nat.lt_trans (by decide) h
theorem d_in {Q : Value → Shared → Prop} (hu : A.units + 1 < cLine) (I : Inv X pins σ H s) (g : DGet H a y o) (ry : RelV y u) (h : ∀ s', Inv X pins σ H s' → Q (.bool o.isSome) s') :
  wpAny (model X.prog X.w) A (compareOp .In u (.ref a)) Q E s := by
 rcases g with ⟨kvs, k, e, ey, l⟩ | ⟨kvs, k, b, e, ey, eb, l⟩
 ·subst ey
  obtain ⟨z, hd, vs, rel, dd⟩ := J1 I.hok e
  refine wpAny_in_of (bT ry) hd dd.mapOf ?_
  rw [← (rel.val k).isSome_eq, ← l]
  exact h _ (I.tok _)
 ·subst ey
  cases (show u = Value.ref b from ry)
  obtain ⟨z, hd, xs, rel, dd⟩ := J0 I.hok e
  refine wpAny_in_heap (tupleKind_room_in1 hu) (Xt I.hok eb) hd dd ?_
  have q := (rel.val k).isSome_eq
  rw [Option.isSome_map] at q
  rw [← q, ← l]
  exact h _ (I.tok _)
theorem Xy {h' : Heap} {t' : Nat} {ob : HO} (I : Inv X pins σ H s) (mu : Mut (H a)) (hs : Heap.SameBut a s.heap h') (he : ∃ q, h'.get? a = some q) (new : ObjOk X.prog X.w (upd H a ob) h' a ob) :
  Inv X pins σ (upd H a ob) { s with heap := h', toks := t' } :=
 I.write (x := a) (e := a) mu (.inl rfl) (fun b q hb z => (hs.2 b hb).trans z) he new
theorem Wj {P : Program} {w : World} {H' : Hp} {h' : Heap} {kvs : List (Key × V)} {vs : List (Key × Value)} (z : kvs.length ≤ sizeLine) (hd : (a == sysModules) = false) (rel : KV kvs vs) (dd : h'.DictOf (iZ P w) a vs) :
  ObjOk P w H' h' a (.dK kvs) := ⟨z, hd, vs, rel, dd⟩
theorem KU {H' : Hp} {Q : Unit → Shared → Prop} (hu : A.units + 1 < cLine) (I : Inv X pins σ H s) (g : DPut H a y v H') (ry : RelV y u) (rv : RelV v r) (h : ∀ s', Inv X pins σ H' s' → Q () s') :
  wpAny (model X.prog X.w) A (setItem (.ref a) u r) Q E s := by
 rcases g with ⟨kvs, k, e, ey, l, eH⟩ | ⟨kvs, k, b, e, ey, eb, l, eH⟩
 ·subst ey eH
  obtain ⟨z, hd, vs, rel, dd⟩ := dk_of I.hok e
  have hz : vs.length ≤ sizeLine := by rw [← rel.length]; exact z
  have hl : (gL kvs k v).length ≤ sizeLine := by have := vB kvs k v; omega
  refine wpAny_setItem_pairs (hsz := hz) (bT ry) dd fun h' dd' hs => h _ ?_
  have he : ∃ q, h'.get? a = some q := let ⟨q, _, _, hq, _⟩ := dd'; ⟨q, hq⟩
  exact Xy I (by rw [e]; exact True.intro) hs he (Wj hl hd (rel.put k rv) dd')
 ·subst ey eH
  cases (show u = Value.ref b from ry)
  obtain ⟨z, hd, xs, rel, dd⟩ := dt_of I.hok e
  have hz : xs.length ≤ sizeLine := by rw [← Paired.length rel]; exact z
  have hl : (gL kvs k v).length ≤ sizeLine := by have := vB kvs k v; omega
  refine wpAny_setItem_heap (hsz := hz) (tupleKind_room_in1 hu) (Xt I.hok eb) dd fun h' dd' hs => h _ ?_
  obtain ⟨q, es, ep, hq, h2, h3, h4, _, h5⟩ := dd'
  refine Xy I (by rw [e]; exact True.intro) hs ⟨q, hq⟩ ⟨hl, hd, _, (rel.put k eb rv).keeps fun c ys ec => ?_, q, es, ep, hq, h2, h3, h4, h5⟩
  rw [uX (yT ec e (fun z => nomatch z))]
  exact ec
end
noncomputable def sDPut (td ty tv : TE) : TS := fun D σ H => tv σ H fun v H1 => td σ H1 fun x H2 => ty σ H2 fun y H3 => ∃ a H4, x = .ref a ∧ DPut H3 a y v H4 ∧ D.nx σ H4
section
variable {X : Cx} {o i e value : Expr} {pos pos' tpos : Pos} {td ty tv : TE}
theorem ps_dput (hu : X.A.units + 1 < cLine) (ho : PE X o td) (hi : PE X i ty) (hv : PE X value tv) (hs : swapsWith value (some (.Subscript o i pos')) pos.line X.env = pure false) :
  PS X (.Assign [.Subscript o i pos'] value pos) (sDPut td ty tv) := by
 intro pins s σ H D I h
 refine wpAny_Assign_Subscript (thn (hv pins s σ H _ I h) fun r s1 ⟨v, H1, I1, rv, q1⟩ => thn (ho pins s1 σ H1 _ I1 q1) fun u s2 ⟨x, H2, I2, rx, q2⟩ => thn (hi pins s2 σ H2 _ I2 q2) fun iv s3 ⟨y, H3, I3, ry, a, H4, ex, g, q3⟩ => ?_) hs
 subst ex
 obtain rfl : u = Value.ref a := rx
 exact KU hu I3 g ry rv fun s4 I4 => ⟨σ, H4, I4, q3⟩
end
theorem Zu {P : Program} {w : World} {H : Hp} (h : Heap) (hb : sysModules < h.objs.size) : ObjOk P w H (h.push { cls := .type "dict", data := .dict #[] }) h.objs.size (.dK []) :=
 ⟨Nat.zero_le _, beq_eq_false_iff_ne.mpr (Ne.symm (Nat.ne_of_lt hb)), [], .nil, Heap.DictOf.new h⟩
noncomputable def Vg : TE := fun _ H Q => ∀ p, H p = none → Q (.ref p) (upd H p (.dK []))
section
variable {X : Cx} {pos : Pos}
theorem VB : PE X (.Dict [] [] pos) Vg := fun pins s σ H Q I h =>
 wpAny_Dict_empty ⟨.ref s.heap.objs.size, _, I.laid (a := s.heap.objs.size) (o := .dK []) (t' := s.toks) (fun _ _ q => Heap.get?_push_of_some _ q) lR (Zu s.heap I.big), rfl, h _ (I.hok.fresh lR)⟩
end
noncomputable def ZV : List (TE × TE) → St → Hp → (List (V × V) → Hp → Prop) → Prop
 | [], _, H, Q => Q [] H
 | (tk, tv) :: r, σ, H, Q => tk σ H fun x H1 => tv σ H1 fun y H2 => ZV r σ H2 fun ps H3 => Q ((x, y) :: ps) H3
noncomputable abbrev VV : List (V × V) → List (Value × Value) → Prop := Paired fun p q => RelV p.1 q.1 ∧ RelV p.2 q.2
noncomputable def PPs (X : Cx) (pos : Pos) (keys : List (Option Expr)) (values : List Expr) (trs : List (TE × TE)) : Prop :=
 ∀ (pins : List (Addr × Obj)) (s : Shared) (σ : St) (H : Hp) (Q : List (V × V) → Hp → Prop), Inv X pins σ H s → ZV trs σ H Q →
  wpAny (model X.prog X.w) X.A (evalPairs (pairTrees keys values X.env pos)) (fun vs s' => ∃ ps H', Inv X pins σ H' s' ∧ VV ps vs ∧ Q ps H') X.xe s
theorem pps_nil {X : Cx} {pos : Pos} : PPs X pos [] [] [] := fun pins s σ H Q I h => pairTrees_nil_walk ⟨[], H, I, .nil, h⟩
theorem Vt {X : Cx} {pos : Pos} {k v : Expr} {ks : List (Option Expr)} {vs : List Expr} {tk tv : TE} {trs : List (TE × TE)} (hk : PE X k tk) (hv : PE X v tv) (hr : PPs X pos ks vs trs) :
  PPs X pos (some k :: ks) (v :: vs) ((tk, tv) :: trs) := fun pins s σ H Q I h =>
 pairTrees_cons_walk (thn (hk pins s σ H _ I h) fun u s1 ⟨x, H1, I1, rx, q1⟩ => thn (hv pins s1 σ H1 _ I1 q1) fun w2 s2 ⟨y, H2, I2, ry, q2⟩ =>
  thn (hr pins s2 σ H2 _ I2 q2) fun ws s3 ⟨ps, H3, I3, rel, q3⟩ => ⟨(x, y) :: ps, H3, I3, .cons ⟨rx, ry⟩ rel, q3⟩)
noncomputable def fW (kvs more : List (Key × V)) : List (Key × V) := more.foldl (fun acc kv => gL acc kv.1 kv.2) kvs
theorem KV.merge : ∀ {more : List (Key × V)} {rs : List (Key × Value)} {kvs : List (Key × V)} {vs : List (Key × Value)}, KV more rs → KV kvs vs → KV (fW kvs more) (merged vs rs) := by
 intro more rs kvs vs r
 unfold KV at r
 induction r generalizing kvs vs with
 | nil => intro q; exact q
 | @cons p q ps qs h t ih =>
  intro r0
  have e : KV (gL kvs p.1 p.2) (stored vs q.1 q.2) := by
   have := r0.put p.1 h.2
   rw [← h.1]; exact this
  exact ih e
theorem lH : ∀ (more kvs : List (Key × V)), (fW kvs more).length ≤ kvs.length + more.length
 | [], kvs => by show kvs.length ≤ kvs.length + 0; omega
 | p :: r, kvs => by
  have h1 := lH r (gL kvs p.1 p.2)
  have h2 := vB kvs p.1 p.2
  show (fW (gL kvs p.1 p.2) r).length ≤ _
  rw [List.length_cons]; omega
theorem Qa {P : Program} {w : World} : ∀ {kvs : List (Key × V)} {ws : List (Value × Value)}, VV (kvs.map fun kv => (kV kv.1, kv.2)) ws → ∃ rs, Carries (iZ P w) ws rs ∧ KV kvs rs
 | [], _, r => by rw [List.map_nil] at r; cases r; exact ⟨[], True.intro, .nil⟩
 | p :: kvs, _, r => by
  rw [List.map_cons] at r
  cases r with
  | @cons a b as bs h t =>
   obtain ⟨rs, c, q⟩ := Qa (P := P) (w := w) t
   obtain ⟨b1, b2⟩ := b
   exact ⟨(p.1, b2) :: rs, ⟨bT h.1, rfl, c⟩, .cons ⟨rfl, h.2⟩ q⟩
noncomputable def tDisp (trs : List (TE × TE)) : TE := fun σ H Q => ∀ p, H p = none → ZV trs σ (upd H p (.dK [])) fun ps H2 => H2 p = some (.dK []) ∧ ∃ kvs : List (Key × V), ps = kvs.map (fun kv => (kV kv.1, kv.2)) ∧ kvs.length ≤ 15 ∧ Q (.ref p) (upd H2 p (.dK (fW [] kvs)))
theorem pe_disp {X : Cx} {pos : Pos} {keys : List (Option Expr)} {values : List Expr} {trs : List (TE × TE)} (h : PPs X pos keys values trs) (hall : keys.all (·.isSome) = true) (hl : keys.length = values.length) (h0 : keys ≠ [])
  (h15 : keys.length ≤ 15) : PE X (.Dict keys values pos) (tDisp trs) := by
 intro pins s σ H Q I q
 have hn := I.hok.fresh (Nat.le_refl s.heap.objs.size)
 have I1 := I.laid (a := s.heap.objs.size) (o := .dK []) (h' := s.heap.push { cls := .type "dict", data := .dict #[] }) (t' := s.toks) (fun _ _ q => Heap.get?_push_of_some _ q) lR (Zu s.heap I.big)
 refine wpAny_Dict_walk (knd := iZ X.prog X.w) hall hl h0 h15 (thn (h pins _ σ _ _ I1 (q _ hn)) fun ws s2 ⟨ps, H2, I2, rel, e, kvs, ep, lk, q2⟩ => ?_)
 subst ep
 obtain ⟨rs, c, rk⟩ := Qa (P := X.prog) (w := X.w) rel
 obtain ⟨z, hd, vs0, r0, dd⟩ := dk_of I2.hok e
 cases r0
 refine ⟨rs, c, dd, fun h' dd' hs => ⟨.ref s.heap.objs.size, _, ?_, rfl, q2⟩⟩
 have hz : (fW [] kvs).length ≤ sizeLine := by
  have h1 := lH kvs []
  rw [List.length_nil] at h1
  rw [sizeLine_eq]; omega
 have he : ∃ q, h'.get? s.heap.objs.size = some q := let ⟨q, _, _, hq, _⟩ := dd'; ⟨q, hq⟩
 exact Xy I2 (by rw [e]; exact True.intro) hs he (Wj hz hd (rk.merge .nil) dd')
structure M2 (X : Cx) (o : Expr) (m : Str) (apos : Pos) (e f : Expr) (cpos : Pos) : Prop where
 base : attributeBase o m X.env (eval o X.env) = eval o X.env
 few : ((backTo cpos (starEach [e, f] X.env)).all (fun x => !x.1) && (backToKw cpos (keywordEach [] X.env)).all (fun x => x.1.isSome)
  && decide (([e, f] : List Expr).length + ([] : List Keyword).length + (if ([] : List Keyword).isEmpty then 0 else 1) < 30)) = true
 line : (apos.endLine == cpos.line) = true
 trees : backTo cpos (starEach [e, f] X.env) = [(false, eval e X.env), (false, eval f X.env)]
noncomputable def IsD (H : Hp) (a : Addr) : Prop := (∃ kvs, Rd H a (.dK kvs)) ∨ ∃ kvs, Rd H a (.dT kvs)
theorem isD_at {X : Cx} {pins : List (Addr × Obj)} {σ : St} {H : Hp} {s : Shared} {a : Addr} (I : Inv X pins σ H s) (d : IsD H a) :
  s.TypeIs (.ref a) "dict" ∧ (∀ b, Value.ref a = .ref b → ∃ ob, s.heap.get? b = some ob ∧ ob.dict = none) ∧ (a == sysModules) = false := by
 rcases d with ⟨kvs, e⟩ | ⟨kvs, e⟩
 ·obtain ⟨_, hd, vs, _, dd⟩ := J1 I.hok e
  refine ⟨dd.typeIs, fun b q => ?_, hd⟩
  cases q
  obtain ⟨ob, _, _, h1, h2, _⟩ := dd
  exact ⟨ob, h1, h2.2.1⟩
 ·obtain ⟨_, hd, xs, _, dd⟩ := J0 I.hok e
  refine ⟨dd.typeIs, fun b q => ?_, hd⟩
  cases q
  obtain ⟨ob, _, _, h1, h2, _⟩ := dd
  exact ⟨ob, h1, h2.2.1⟩
section
variable {X : Cx} {pins : List (Addr × Obj)} {σ : St} {H : Hp} {s : Shared} {a : Addr} {y d : V} {u r : Value} {o : Option V} {A : Around} {E : Value → Shared → Prop}
theorem d_get2 {Q : Value → Shared → Prop} (hu : A.units + 1 < cLine) (I : Inv X pins σ H s) (g : DGet H a y o) (ry : RelV y u) (rd : RelV d r) (h : ∀ w' s', Inv X pins σ H s' → RelV (o.getD d) w' → Q w' s') :
  wpAny (model X.prog X.w) A (call (.builtin "dict.get") [.ref a, u, r]) Q E s := by
 rcases g with ⟨kvs, k, e, ey, l⟩ | ⟨kvs, k, b, e, ey, eb, l⟩
 ·subst ey
  obtain ⟨z, hd, vs, rel, dd⟩ := J1 I.hok e
  refine call_meetsIn PySem.F.slot_dict_get dd.typeIs PySem.F.entry_dict_get (PySem.F.args_dict_get_3 _ _ _) (meets_dict_get_default (iZ X.prog X.w) a (bT ry) hd r) ⟨_, dd.mapOf, h _ _ (I.tok _) ?_⟩
  rw [l]
  exact (rel.val k).getD rd
 ·subst ey
  cases (show u = Value.ref b from ry)
  obtain ⟨z, hd, xs, rel, dd⟩ := J0 I.hok e
  refine call_meetsIn PySem.F.slot_dict_get dd.typeIs PySem.F.entry_dict_get (PySem.F.args_dict_get_3 _ _ _) (meetsH_dict_get_default (tupleKind (iZ X.prog X.w)) a b hd r) ⟨tupleKind_room_in1 hu, k, xs, Xt I.hok eb, dd, h _ _ (I.tok _) ?_⟩
  rw [l]
  exact (rel.val k).getD rd
end
noncomputable def Vh (td ty tx : TE) : TE := fun σ H Q => td σ H fun x H1 => ∃ a, x = .ref a ∧ IsD H1 a ∧ ty σ H1 fun y H2 => tx σ H2 fun z H3 => ∃ o, DGet H3 a y o ∧ Q (o.getD z) H3
section
variable {X : Cx} {o e f : Expr} {apos cpos : Pos} {td ty tx : TE}
theorem VC (hu : X.A.units + 1 < cLine) (ho : PE X o td) (he : PE X e ty) (hf : PE X f tx) (m : M2 X o "get" apos e f cpos) : PE X (.Call (.Attribute o "get" apos) [e, f] [] cpos) (Vh td ty tx) := by
 intro pins s σ H Q I h
 refine wpAny_Call_method m.base m.few m.line PySem.F.plainAttrs_dict PySem.F.slot_dict_get PySem.F.type_dict_get (thn (ho pins s σ H _ I h) fun u s1 ⟨x, H1, I1, rx, a, ex, d, q1⟩ => ?_)
 subst ex
 obtain rfl : u = Value.ref a := rx
 obtain ⟨t1, t2, _⟩ := isD_at I1 d
 refine ⟨t1, t2, ?_⟩
 rw [m.trees]
 refine Calls.callWith_builtin rfl (Calls.evalArgs_plain (Calls.spliced_cons (thn (he pins s1 σ H1 _ I1 q1) fun iv s2 ⟨y, H2, I2, ry, q2⟩ =>
  Calls.spliced_cons (thn (hf pins s2 σ H2 _ I2 q2) fun fv s3 ⟨z, H3, I3, rz, ov, g, q3⟩ => Calls.spliced_nil ?_))))
 exact d_get2 hu I3 g ry rz fun w' s4 I4 rw' => ⟨_, H3, I4, rw', q3⟩
end
end L2
namespace Att
open PySem PySem.W PySem.Calls PyProof.Rows
theorem gO {P : Params} {h : Heap} : ∀ (ns : List Int) (vs : List Value), WellAll P h vs (ns.map WData.int) → IntsAre vs ns := by
 intro ns
 induction ns with
 | nil =>
  intro vs w
  rw [List.map_nil] at w
  cases w
  exact .nil
 | cons n ns ih =>
  intro vs w
  rw [List.map_cons] at w
  cases w with
  | cons a b =>
   cases a
   exact .cons _ _ (ih _ b)
theorem Kk {l : OpenLaw} {n : Nat} (hn : l.most = some n) {P : Params} {h : Heap} {args : List WData} {vals : List Value}
  (hpre : l.row.toRowW.claim.pre args = true) (hwl : WellAll P h vals args) :
  ∃ a vs ns, vals = [Value.ref a] ∧ args = [WData.list (ns.map WData.int)] ∧ h.get? a = some { cls := .type "list", data := .seq vs.toArray } ∧ IntsAre vs ns ∧ ns.length ≤ n := by
 have hsh : WShape.hasAll [] args [.list .int] = true := (pre_splitW hpre).1
 have hc : l.pre.holds [] { args := args } = true := (pre_splitW hpre).2
 obtain ⟨d, r, rfl, h1, h2⟩ := hasAllW_cons hsh
 obtain rfl := hasAllW_nil h2
 obtain ⟨xs, rfl, h3⟩ := hasW_list h1
 obtain ⟨ns, rfl⟩ := items_int h3
 have hlen : ns.length ≤ n := by
  unfold OpenLaw.pre at hc
  have h4 : (WTm.not (.lt (.lit (.int (n : Int))) (.len (.arg 0)))).holds [] { args := [.list (ns.map .int)] } = true := by
   have h4 := (holds_andW hc).1
   rw [hn] at h4
   exact h4
  have h5 := condW_of h4 (w_not (w_lt w_lit (w_len_list (w_arg rfl))))
  rw [List.length_map] at h5
  refine Nat.le_of_not_lt fun q => ?_
  have q' : (n : Int) < ((ns.length : Nat) : Int) := by omega
  first
   | (rw [decide_eq_true q'] at h5; exact absurd h5 (by decide))
   | (simp at h5; omega)
 cases hwl with
 | cons w1 w2 =>
  cases w2
  cases w1 with
  | list ho hall => exact ⟨_, _, ns, rfl, rfl, ho, gO ns _ hall, hlen⟩
theorem Ko (l : OpenLaw) (args : List WData) : l.row.toRowW.claim.post args (.bool true) args = true :=
 postW_of (r := l.row.toRowW) (X := (true == true))
  (show WShape.has [] (.bool true) .bool = true by first | rfl | decide | simp [WShape.has, WShape.arms, WShape.armsAll])
  (show (WTm.eq .res (.lit (.bool true))).value [] { args := args, res := some (.bool true), after := args } = some (.bool (true == true)) from w_eq_bool (w_res rfl) w_lit) rfl
theorem attach_call {l : OpenLaw} {n : Nat} {q : Program} {loose : List Str} {XP : (Str → Option Value) → Heap → Prop} {YP : World → Heap → Prop} {d : DefRec}
  (hn : l.most = some n) (hdf : d.params.defaults = [])
  (call : ∀ (w : World) (s₀ s₁ : Shared) (mg mb : Str → Option Value) (fa : Addr) (o : Obj) (pm cd doc : Value) (a : Addr) (vs : List Value) (ns : List Int),
   Ground q loose [] XP w s₀ mg mb s₁.heap → YP w s₁.heap →
   s₁.heap.get? fa = some o → o.data = .func (docDef d.name d.params d.body d.scope pm cd doc) → s₁.heap.CodeRec cd d.name → mg d.name = some (.ref fa) →
   s₁.heap.get? a = some { cls := .type "list", data := .seq vs.toArray } → IntsAre vs ns → ns.length ≤ n → s₁.gens = #[] →
   codeAny (model l.prog w) callerA (.call (.ref fa) ⟨[.ref a], []⟩) (fun r s' => r = .ok (.ret (.bool true)) ∧ OldK s₁.heap s'.heap ∧ s'.os = s₁.os ∧ AllBare s'.gens) s₁) :
  WalkO q loose XP YP l.row.toRowW d [] (fun f vs => PySem.call f vs) := by
 intro w s₀ s₁ mg mb G Y fa o pm cd doc dV kV ho hd hcd hD hmg hg args vals as hpre hlay hrd hwl hlo
 obtain rfl : dV = .none := Dflts.none hD hdf
 obtain rfl : kV = .none := Dflts.noKw hD
 obtain ⟨a, vs, ns, rfl, rfl, hobj, hints, hlen⟩ := Kk hn hpre hwl
 refine enter_call (codeAny_mono (call w s₀ s₁ mg mb fa o pm cd doc a vs ns G Y ho (fd_plain hd) hcd hmg hobj hints hlen hg) fun r s' hq => ?_)
 obtain ⟨rfl, h2, h3, h4⟩ := hq
 exact ⟨.inl ⟨.bool true, .bool true, [], rfl, fun _ => rfl, .bool true, Ko l _, fun _ => ⟨List.Pairwise.nil, fun _ hm => (nomatch hm)⟩⟩, h2, h3, h4⟩
end Att
namespace L2
open PySem PySem.Spec PyProof.Rows
theorem QF : ∀ {vs : List Value} {ns : List Int}, IntsAre vs ns → Vals (ns.map V.int) vs
 | _, _, .nil => .nil
 | _, _, .cons n t h => .cons ⟨t, rfl⟩ (QF h)
noncomputable def Only (H : Hp) : Prop := ∀ b, H b = none ∨ ∃ o xs, H b = some (.frz o (.lst xs))
theorem VX {P : Program} {w : World} {K : W.Frag} {mg mb : Str → Option Value} {CX : CXT} {k : Nat} {fa a : Addr} {fd : FuncData} {x : Str} {sp : Sp} {s₁ : Shared} {vs : List Value} {ns : List Int}
  (KX : K.In s₁.heap) (hns : s₁.heap.Ns mainGlobals mg) (hb : s₁.heap.Ns builtinsNs mb) (hbb : ∀ x : Str, x ≠ "__name__" → mb x = bootBuiltins x) (hlim : s₁.heap.NoLimit) (hg : s₁.gens = #[])
  (ha : s₁.heap.get? a = some { cls := .type "list", data := .seq vs.toArray }) (hi : IntsAre vs ns) (hl : ns.length ≤ sizeLine) (hr : Room k callerA)
  (F : ∀ base : Heap, K.In base → base.Ns mainGlobals mg → FnOk P w K mg base CX k fa fd [x] sp) (hbind : ∀ (s : Shared) (u : Value), BindsTo s fd ⟨[u], []⟩ [(x, u)])
  (hsp : ∀ H : Hp, Only H → SqL K H a (ns.map V.int) → sp [.ref a] H (fun v _ => v = .bl true) fun _ _ _ => False)
  (hCX : ∀ H e s', CX [] H s₁ (fun _ _ _ => False) e s' → False) :
  codeAny (model P w) callerA (.call (.ref fa) ⟨[.ref a], []⟩) (fun r s' => r = .ok (.ret (.bool true)) ∧ OldK s₁.heap s'.heap ∧ s'.os = s₁.os ∧ AllBare s'.gens) s₁ := by
 have rv := QF hi
 have lenV := hi.length
 have core : ∀ H : Hp, Only H → SqL K H a (ns.map V.int) → HOk P w H s₁.heap → (∀ b, H b ≠ none → b = a) → (H a ≠ none → K.lookup a = none) →
   codeAny (model P w) callerA (.call (.ref fa) ⟨[.ref a], []⟩) (fun r s' => r = .ok (.ret (.bool true)) ∧ OldK s₁.heap s'.heap ∧ s'.os = s₁.os ∧ AllBare s'.gens) s₁ := by
  intro H hO hS hok hA hK
  have base_of : ∀ {b : Addr} {o : Obj}, s₁.heap.get? b = some o → H b = none → (Xv s₁.heap H).get? b = some o := fun e n => Wb e n
  have noA : ∀ {b : Addr} {o : Obj} {es : Array DictEntry} {ep : Nat}, s₁.heap.get? b = some o → o.data = .dict es ep → H b = none := fun {b o es ep} e d => by
   cases q : H b with
   | none => rfl
   | some u =>
    have e' : b = a := hA b (by rw [q]; simp)
    subst e'
    rw [ha] at e; cases e
    have d' : Data.seq vs.toArray _ = Data.dict es ep := d
    cases d'
  have nsK : ∀ {b : Addr} {m : Str → Option Value}, s₁.heap.Ns b m → (Xv s₁.heap H).Ns b m := fun {b m} ⟨o, es, ep, e, d, r⟩ => ⟨o, es, ep, base_of e (noA e d), d, r⟩
  have hKb : K.In (Xv s₁.heap H) := fun b o e => base_of (KX b o e) (by
   cases q : H b with
   | none => rfl
   | some u =>
    have e' : b = a := hA b (by rw [q]; simp)
    subst e'
    rw [hK (by rw [q]; simp)] at e; cases e)
  have hM : Mod K mg (Xv s₁.heap H) := ⟨hKb, nsK hns, ⟨mb, nsK hb, hbb⟩, let ⟨mc, h1, h2⟩ := hlim; ⟨mc, nsK h1, h2⟩⟩
  have e0 : Env0 P w K mg (Xv s₁.heap H) callerA [] s₁ H := ⟨rfl, hM, fun b o e => of_hidT e, Nat.le_of_eq (KM _ _), trivial, fun b hb => absurd (show b ∈ ([] : List Addr) from hb) (by simp), hok, .of_eq hg⟩
  refine codeAny_mono ((F _ hKb (nsK hns)).run callerA [] s₁ H ⟨[.ref a], []⟩ [.ref a] [.ref a] _ _ hr e0 (hbind s₁ (.ref a)) (.cons rfl .nil) (hsp H hO hS)) fun r s' h => ?_
  cases r with
  | error e => exact (hCX H e s' h).elim
  | ok fl =>
   cases fl with
   | next => exact False.elim h
   | brk => exact False.elim h
   | cont => exact False.elim h
   | ret u =>
    obtain ⟨v, H', os, bare, un, hok', r', q⟩ := h
    have q' : v = .bl true := q
    subst q'
    obtain rfl : u = Value.bool true := r'
    refine ⟨rfl, OldK.of_keep fun b o e => ?_, os, bare⟩
    cases q : H b with
    | none => exact un.keep b o e q (by intro z; exact absurd (show b ∈ ([] : List Addr) from z) (by simp)) (by simp)
    | some u =>
     rcases hO b with z | ⟨ob, xs, z⟩
     ·rw [q] at z; cases z
     ·have z2 := un.frzs b ob _ z
      obtain ⟨e1, _⟩ := hok b _ z
      obtain ⟨e2, _⟩ := hok' b _ z2
      rw [e] at e1; cases e1
      exact e2
 cases hk : K.lookup a with
 | some o =>
  have e := KX a o hk
  rw [ha] at e
  cases e
  refine core (fun _ => none) (fun _ => .inl rfl) (.inr ⟨_, vs.toArray, _, hk, rfl, rfl, rfl, by rw [List.size_toArray, lenV]; exact hl, by simpa using rv⟩) (fun b u z => by have z' : (none : Option HO) = some u := z; cases z') (fun b z => absurd rfl z) fun z => absurd rfl z
 | none =>
  refine core (fun b => if b = a then some (.frz { cls := .type "list", data := .seq vs.toArray } (.lst (ns.map V.int))) else none) (fun b => ?_) (.inl (.inr ⟨{ cls := .type "list", data := .seq vs.toArray }, if_pos rfl⟩)) (fun b u z => ?_) (fun b z => ?_) fun _ => hk
  ·by_cases hb : b = a
   ·exact .inr ⟨_, _, if_pos hb⟩
   ·exact .inl (if_neg hb)
  ·by_cases hb : b = a
   ·have z' := (if_pos hb).symm.trans z
    cases z'
    subst hb
    exact ⟨ha, by rw [List.length_map]; exact hl, vs, _, rv, ha⟩
   ·have z' := (if_neg hb).symm.trans z
    cases z'
  ·by_cases hb : b = a
   ·exact hb
   ·exact absurd (if_neg hb) z
end L2
namespace L2
open PySem PySem.Spec PyProof.Rows
theorem walk_of {l : W.OpenLaw} {n k : Nat} {q : Program} {loose : List Str} {XP : (Str → Option Value) → Heap → Prop} {YP : World → Heap → Prop} {d : DefRec} {K : Params → W.Frag} {CX : World → CXT} {sp : World → Sp} {x : Str}
  (hn : l.most = some n) (hn2 : n ≤ sizeLine) (hdf : d.params.defaults = []) (hr : Room k callerA)
  (hY : ∀ (w : World) (h : Heap), YP w h → (K w.params).In h)
  (F : ∀ (w : World) (mg : Str → Option Value) (fa : Addr) (h : Heap), (K w.params).In h → h.Ns mainGlobals mg → mg d.name = some (.ref fa) →
   ∃ fd : FuncData, (∀ (s : Shared) (u : Value), BindsTo s fd ⟨[u], []⟩ [(x, u)]) ∧
    ∀ base : Heap, (K w.params).In base → base.Ns mainGlobals mg → FnOk l.prog w (K w.params) mg base (CX w) k fa fd [x] (sp w))
  (hsp : ∀ (w : World) (H : Hp) (a : Addr) (ns : List Int), ns.length ≤ n → Only H → SqL (K w.params) H a (ns.map V.int) → sp w [.ref a] H (fun v _ => v = .bl true) fun _ _ _ => False)
  (hCX : ∀ (w : World) (H : Hp) (s : Shared) (e : Value) (s' : Shared), CX w [] H s (fun _ _ _ => False) e s' → False) :
  W.WalkO q loose XP YP l.row.toRowW d [] (fun f vs => PySem.call f vs) := by
 refine Att.attach_call hn hdf fun w s₀ s₁ mg mb fa o pm cd doc a vs ns G Y ho hd hcd hmg hobj hints hlen hg => ?_
 have KX := hY w _ Y
 obtain ⟨fd, hb, hF⟩ := F w mg fa _ KX G.T.g hmg
 exact VX KX G.T.g G.T.b G.T.builtins G.T.nolimit hg hobj hints (Nat.le_trans hlen hn2) hr hF hb (fun H hO hS => hsp w H a ns hlen hO hS) fun H e s' => hCX w H s₁ e s'
end L2
namespace L2
open PySem PySem.Spec PyProof.Rows
noncomputable def dQ (s : Stmt) : Arguments := match s with
 | .FunctionDef _ a _ _ _ _ _ _ _ _ => a
 | _ => { posonlyargs := [], args := [], vararg := none, kwonlyargs := [], kw_defaults := [], kwarg := none, defaults := [] }
noncomputable def fQ (s : Stmt) : List Stmt := match s with
 | .FunctionDef _ _ b _ _ _ _ _ _ _ => b
 | _ => []
noncomputable def vQ (s : Stmt) : Scope := match s with
 | .FunctionDef _ _ _ _ _ _ sc _ _ _ => sc
 | _ => { kind := .function, names := [], isGenerator := false, isCoroutine := false }
noncomputable abbrev CX0 : CXT := fun _ _ _ _ _ _ => False
noncomputable abbrev E0 : XK := fun _ _ _ => False
theorem iQ {X : Cx} : Qc CX0 X E0 := fun _ _ _ _ _ _ _ h => h.elim
structure Fun (K : W.Frag) (x qual : Str) (st : Stmt) (f : Addr) (fd : FuncData) : Prop where
 ex : ∃ (oc : Value) (od : Option Addr) (kV doc pm : Value) (an : Option Addr) (cdv ct : Value) (osl : Array (Option Value)),
  fd = W.fnOf x qual (dQ st) (fQ st) (vQ st) .none kV doc pm an cdv ct ∧ K.lookup f = some ⟨oc, od, .func fd, osl⟩ ∧ W.codeIn K cdv qual = true
 kp : W.keepIn K (.ref f) = true
section
variable {P : Program} {w : World} {K : W.Frag} {mg : Str → Option Value} {base : Heap}
theorem Fun.ok {x qual : Str} {st : Stmt} {f : Addr} {fd : FuncData} {N ps : List Str} {k : Nat} {sp : Sp} (F : Fun K x qual st f fd) (S : vX N ps (vQ st)) (len : ∀ vs H Q E, sp vs H Q E → vs.length = ps.length)
  (hbody : ∀ (cdv : Value) (A : Around) (outer : List Env) (s : Shared) (H : Hp) (vs : List V) (Q : VK) (E : XK), Room k (A.deeper (envOfC qual (vQ st) s.heap.objs.size f cdv)) → sp vs H Q E →
   ∃ t, PSs (bS CX0 P w K mg base N qual (vQ st) f cdv A outer s H E).nox (fQ st) t ∧ t { nx := fun _ H' => Q .non H', rt := Q } (start N vs) H) : FnOk P w K mg base CX0 (k + 1) f fd ps sp := by
 obtain ⟨oc, od, kV, doc, pm, an, cdv, ct, osl, rfl, lk, hcd⟩ := F.ex
 refine fn_of lk hcd S len fun A outer s H vs Q E hr hsp => ?_
 obtain ⟨t, h, q⟩ := hbody cdv A outer s H vs Q E hr hsp
 exact ⟨t, h.nox, q⟩
theorem Fun.binds {x qual : Str} {st : Stmt} {f : Addr} {fd : FuncData} {ps : List Str} (F : Fun K x qual st f fd)
  (h : ∀ (kV doc pm : Value) (an : Option Addr) (cdv ct : Value) (us : List Value), us.length = ps.length → bindArgs (W.fnOf x qual (dQ st) (fQ st) (vQ st) .none kV doc pm an cdv ct) ⟨us, []⟩ = pure (ps.zip us)) : Binds K fd ps [] := by
 obtain ⟨oc, od, kV, doc, pm, an, cdv, ct, osl, rfl, lk, hcd⟩ := F.ex
 exact .all (h kV doc pm an cdv ct)
theorem cX {x qual : Str} {st : Stmt} {f : Addr} {oc : Value} {od an : Option Addr} {osl : Array (Option Value)} {kV doc pm cdv ct : Value} (l : K.lookup f = some ⟨oc, od, .func (W.fnOf x qual (dQ st) (fQ st) (vQ st) .none kV doc pm an cdv ct), osl⟩)
  (c : W.codeIn K cdv qual = true) (k : W.keepIn K (.ref f) = true) : Fun K x qual st f (W.fnOf x qual (dQ st) (fQ st) (vQ st) .none kV doc pm an cdv ct) := ⟨⟨oc, od, kV, doc, pm, an, cdv, ct, osl, rfl, l, c⟩, k⟩
end
theorem iG {A : Around} {k : Nat} (hr : Room k A) : A.units + 1 < cLine := Nat.lt_of_le_of_lt (Nat.add_le_add_left (by decide : 1 ≤ 64) _) hr.units
section
variable {X : Cx}
theorem pv (i : Nat) {x : Str} {pos : Pos} (hN : X.N[i]? = some x := by rfl) (hv : Vis X.env.scope x := by first | exact Or.inl rfl | exact Or.inr (Or.inl rfl) | exact Or.inr (Or.inr rfl)) (hd : (x == ("__debug__" : Str)) = false := by decide)
  (hcd : (x == ("__classdict__" : Str)) = false := by decide) : PE X (.Name x pos) (Vf i) := Vy hN hv hd hcd
end
theorem bQ {A B : Prop} (h : B) : if false = true then A else B := by
 rw [if_neg Bool.false_ne_true]
 exact h
theorem nQ {A B : Prop} (h : A) : if true = true then A else B := by
 rw [if_pos rfl]
 exact h
theorem wH {c A B : Prop} [Decidable c] (h1 : c → A) (h2 : ¬ c → B) : if c then A else B := by
 by_cases h : c
 ·rw [if_pos h]
  exact h1 h
 ·rw [if_neg h]
  exact h2 h
theorem V6 {c A B : Prop} [Decidable c] (hc : c) (h : B) : if (!decide c) = true then A else B := by
 rw [decide_eq_true hc]
 exact bQ h
noncomputable def Same (H H' : Hp) : Prop := ∀ b o, H b = some o → H' b = some o
theorem Same.refl (H : Hp) : Same H H := fun _ _ h => h
theorem Same.trans {H H1 H2 : Hp} (a : Same H H1) (b : Same H1 H2) : Same H H2 := fun c o h => b c o (a c o h)
theorem Same.free {H H' : Hp} (e : Same H H') {l : Addr} (h : H' l = Option.none) : H l = Option.none := by
 cases q : H l with
 | none => rfl
 | some o =>
  rw [e l o q] at h
  cases h
theorem Same.seq {K : W.Frag} {H H' : Hp} {a : Addr} {xs : List V} (e : Same H H') (h : SqL K H a xs) : SqL K H' a xs := by
 rcases h with (h | ⟨o, h⟩) | h
 ·exact .inl (.inl (e _ _ h))
 ·exact .inl (.inr ⟨o, e _ _ h⟩)
 ·exact .inr h
end L2
set_option maxHeartbeats 4000000
namespace L2
open PySem PySem.Spec PyProof.Rows
noncomputable def pJ : Expr → Bool
 | .Starred _ _ => false
 | _ => true
theorem tV {e : Expr} {es : List Expr} {env : Env} (h : pJ e = true) : starEach (e :: es) env = (false, eval e env) :: starEach es env := by
 cases e <;> first | rfl | exact absurd h Bool.false_ne_true
theorem iD {pos : Pos} {env : Env} : ∀ {es : List Expr}, es.all pJ = true → (backTo pos (starEach es env)).any (·.1) = false
 | [], _ => rfl
 | e :: es, h => by
  rw [List.all_cons, Bool.and_eq_true] at h
  rw [tV h.1]
  show (false || (backTo pos (starEach es env)).any (·.1)) = false
  rw [iD h.2]
  rfl
section
variable {X : Cx} {e : Expr} {es : List Expr} {te : TE} {t : TA} {x : Str} {p pos : Pos}
theorem qa_cons (ha : PE X e te) (hr : PA X es t) (hs : pJ e = true := by rfl) : PA X (e :: es) (XT te t) := pa_cons ha hr (tV hs)
theorem qe_call {CX : CXT} {k : Nat} {f : Addr} {fd : FuncData} {ps : List Str} {sp : Sp} {dvs : List V} {ds : List Value} {E : XK} (F : FnOk X.prog X.w X.K X.mg X.base CX k f fd ps sp) (hr : Room k X.A) (hg : Gl X x) (hm : X.mg x = some (.ref f)) (hk : W.keepIn X.K (.ref f) = true) (hb : Binds X.K fd ps ds) (hd : Vals dvs ds) (hx : Qc CX X E)
  (ha : PA X (e :: es) t) (hdb : (x == ("__debug__" : Str)) = false := by decide) (hs : pJ e = true := by rfl) (hall : es.all pJ = true := by rfl) : PE X (.Call (.Name x p) (e :: es) [] pos) (Js sp dvs E t) :=
 pe_call F hr hg hm hk hb hd hx ha hdb (tV hs) (iD hall)
theorem Vo {id : String} {r : List V → Hp → VK → Prop} (hc : pY X (.builtin id) r) (hg : Gl X x) (hm : X.mg x = none) (hv : bootBuiltins x = some (.builtin id)) (ha : PA X (e :: es) t) (hn : x ≠ "__name__" := by decide) (hdb : (x == ("__debug__" : Str)) = false := by decide)
  (hs : pJ e = true := by rfl) (hall : es.all pJ = true := by rfl) : PE X (.Call (.Name x p) (e :: es) [] pos) (tCB r t) := VE hc hg hm hv ha hn hdb (tV hs) (iD hall)
theorem Km {T : String} {r : List V → Hp → VK → Prop} (hc : pY X (.type T) r) (hg : Gl X x) (hm : X.mg x = none) (hv : bootBuiltins x = some (.type T)) (ha : PA X (e :: es) t) (hn : x ≠ "__name__" := by decide) (hdb : (x == ("__debug__" : Str)) = false := by decide)
  (hs : pJ e = true := by rfl) (hall : es.all pJ = true := by rfl) : PE X (.Call (.Name x p) (e :: es) [] pos) (tCB r t) := Kr hc hg hm hv ha hn hdb (tV hs) (iD hall)
end
section
variable {prog : Program} {w : World} {A : Around} {R : Result → Shared → Prop} {s : Shared}
theorem XA {elt target iter : Expr} {ifs : List Expr} {scope : Scope} {pos : Pos} {it acc : Value} {env : Env} (I : Nat → Shared → Prop)
  (turn : ∀ n s, I n s → wpAny (model prog w) A (pyNext it) (fun r s₁ => match r with
   | none => R (.ok .next) s₁
   | some v => wpAny (model prog w) A (letOwnedTupleGo target it v) (fun _ s₁ => wpAny (model prog w) A (assign target env v) (fun _ s₂ =>
     wpAny (model prog w) A (forIn ifs true fun c r => if r = true then do let ok ← isTrue c env (eval c env); pure (ForInStep.yield ok) else pure (ForInStep.yield r)) (fun ok s₃ =>
      if ok = true then wpAny (model prog w) A (eval elt env) (fun x s₄ =>
       wpAny (model prog w) A (call (.builtin "list.append") [acc, x]) (fun _ s₅ => ∃ m, m < n ∧ I m s₅) (fun _ _ => False) s₄) (fun _ _ => False) s₃
      else ∃ m, m < n ∧ I m s₃) (fun _ _ => False) s₂) (fun _ _ => False) s₁) (fun _ _ => False) s₁) (fun _ _ => False) s)
  (n : Nat) (h : I n s) :
  codeAny (model prog w) A (.compLoop (.ListComp elt [⟨target, iter, ifs, 0⟩] scope pos) 0 it acc env) R s := by
 refine codeAny_loop rfl I (fun n s hI => ?_) n h
 show wpAny _ A ((compTurn (.ListComp elt [⟨target, iter, ifs, 0⟩] scope pos) 0 it acc env).onRaise (fun x => do noteFrame x env; theTreesLotGoes x)) _ _ s
 refine wpAny_noted ?_
 rw [compTurn_list]
 refine wpAny_bind (wpAny_standAt (wpAny_bind (wpAny_mono (turn n s hI) (fun r s₁ h₁ => ?_) fun _ _ h' => False.elim h')))
 cases r with
 | none => exact wpAny_pure h₁
 | some v =>
  refine wpAny_bind (wpAny_mono h₁ (fun _ s₁' h₁' => ?_) fun _ _ h' => False.elim h')
  refine wpAny_bind (wpAny_mono h₁' (fun _ s₂ h₂ => wpAny_bind (wpAny_mono h₂ (fun ok s₃ h₃ => ?_) fun _ _ h' => False.elim h')) fun _ _ h' => False.elim h')
  cases ok with
  | false => exact wpAny_pure ⟨rfl, h₃⟩
  | true =>
   exact wpAny_bind (wpAny_bind (wpAny_mono h₃ (fun x s₄ h₄ => wpAny_bind (wpAny_mono h₄ (fun _ s₅ h₅ => wpAny_pure (wpAny_pure ⟨rfl, h₅⟩)) fun _ _ h' => False.elim h')) fun _ _ h' => False.elim h'))
end
theorem oW {env : Env} : ∀ {names : List (Str × NameKind)} {y : Str} {k : NameKind},
  (names.map fun (n, k) => if (k == NameKind.free && env.scope.kind == .function && env.kindOf n == some .cell) then (n, NameKind.cell) else (n, k)).lookup y = some k →
   ∃ k0, (y, k0) ∈ names ∧ (k = k0 ∨ (k0 = .free ∧ k = .cell))
 | [], _, _, h => by simp at h
 | (n, k1) :: r, y, k, h => by
  have ih := @oW env r y k
  have h : List.lookup y ((if (k1 == NameKind.free && env.scope.kind == .function && env.kindOf n == some .cell) = true then (n, NameKind.cell) else (n, k1)) :: _) = some k := h
  cases hx : y == n with
  | true =>
   have e : y = n := by simpa using hx
   subst e
   by_cases hc : (k1 == NameKind.free && env.scope.kind == .function && env.kindOf y == some .cell) = true
   ·rw [if_pos hc] at h
    simp only [List.lookup_cons, beq_self_eq_true] at h
    have hk : k1 = .free := by
     rw [Bool.and_eq_true, Bool.and_eq_true] at hc
     exact beq_iff_eq.mp hc.1.1
    exact ⟨k1, List.mem_cons_self, .inr ⟨hk, (Option.some.inj h).symm⟩⟩
   ·rw [if_neg hc] at h
    simp only [List.lookup_cons, beq_self_eq_true] at h
    exact ⟨k1, List.mem_cons_self, .inl (Option.some.inj h).symm⟩
  | false =>
   have h2 : (r.map fun (n, k) => if (k == NameKind.free && env.scope.kind == .function && env.kindOf n == some .cell) then (n, NameKind.cell) else (n, k)).lookup y = some k := by
    by_cases hc : (k1 == NameKind.free && env.scope.kind == .function && env.kindOf n == some .cell) = true
    ·rw [if_pos hc] at h; simp only [List.lookup_cons, hx] at h; exact h
    ·rw [if_neg hc] at h; simp only [List.lookup_cons, hx] at h; exact h
   obtain ⟨k0, m, q⟩ := ih h2
   exact ⟨k0, List.mem_cons_of_mem _ m, q⟩
noncomputable def Wr (X : Cx) (ifs : List Expr) (t : TT) : Prop :=
 ∀ (pins : List (Addr × Obj)) (s : Shared) (σ : St) (H : Hp) (Q : Bool → Hp → Prop), Inv X pins σ H s → t σ H Q →
  wpAny (model X.prog X.w) X.A (forIn ifs true fun c r => if r = true then do let ok ← isTrue c X.env (eval c X.env); pure (ForInStep.yield ok) else pure (ForInStep.yield r)) (TP X pins σ Q) X.xe s
noncomputable def tYes : TT := fun _ H Q => Q true H
theorem Vv {X : Cx} : Wr X [] tYes := fun _ _ _ H _ I h => wpAny_tests_nil ⟨H, I, h⟩
theorem Vu {X : Cx} {c : Expr} {t : TT} (h : PT X c t) : Wr X [c] t := fun pins s σ H Q I hw => wpAny_tests_one (h pins s σ H Q I hw)
noncomputable def hJ (X : Cx) (x : Str) (scope : Scope) (cl : List (Str × Addr)) (fp : List Addr) (C : Addr) (s₂ : Shared) (H₂ : Hp) : Cx where
 prog := X.prog
 w := X.w
 K := X.K
 mg := X.mg
 base := X.base
 A := X.A
 N := x :: X.N
 s₀ := s₂
 H₀ := H₂
 env := compEnvC scope cl C X.env
 outer := X.stack
 stack := X.stack
 ex := fp
 fn := fun _ => false
 calm := X.calm
 pn := []
 xe := fun _ _ => False
noncomputable def XU (wi : TI) (tc : TT) (te : TE) : TE := fun σ H Q => wi σ H fun J H1 => ∀ D, H1 D = none → ∃ W : Nat → Nat → List V → Hp → Prop, (∃ m, W 0 m [] (upd H1 D (.lst []))) ∧ ∀ i m ys H, W i m ys H →
 (J.stop i H ∧ Q (.ref D) H) ∨ (J.go i H ∧ ∀ x H', J.yld i H x H' → tc (some x :: σ) H' fun b H2 =>
  if b = true then te (some x :: σ) H2 fun y H3 => H3 D = some (.lst ys) ∧ ys.length < sizeLine ∧ ∃ m', m' < m ∧ W (i + 1) m' (ys ++ [y]) (upd H3 D (.lst (ys ++ [y])))
  else ∃ m', m' < m ∧ W (i + 1) m' ys H2)
section
variable {X : Cx}
structure tP (X : Cx) (x : Str) (scope : Scope) (cl : List (Str × Addr)) : Prop where
 clos : closureFor scope X.env = pure cl
 cell : ∀ y ∈ scope.names, y.2 ≠ .cell
 kind : scope.kind = .function
 names : ∀ y ∈ scope.names, y.2 = .local → scope.names.lookup y.1 = some .local
 hx : scope.names.lookup x = some .local
 loc : ∀ y ∈ scope.names, y.2 = .local → y.1 ∉ X.N
 free : ∀ y ∈ scope.names, y.2 = .free → X.env.kindOf y.1 ≠ some .local ∧ (X.env.kindOf y.1 = some .cell ∨ X.env.kindOf y.1 = some .free) ∧ ∃ c, cl.lookup y.1 = some c
 cl : ∀ y c, cl.lookup y = some c → X.env.cells.lookup y = some c
theorem aI {elt iter : Expr} {x : Str} {px pos : Pos} {ifs : List Expr} {scope : Scope} {cl : List (Str × Addr)} {tc : TT} {te : TE} {RR : Value → Addr → Result → Shared → Prop} {EE : Value → Shared → Prop}
  (hc : X.calm = true) (hN : (x :: X.N).Nodup) (K : tP X x scope cl)
  (ht : ∀ fp C s₂ H₂, Wr (hJ X x scope cl fp C s₂ H₂) ifs tc) (he : ∀ fp C s₂ H₂, PE (hJ X x scope cl fp C s₂ H₂) elt te)
  {pins : List (Addr × Obj)} {σ : St} {s₂ : Shared} {H₂ : Hp} {it : Addr} {fp : List Addr} {tn : Nat → Heap → Prop} {J : It} {Q : VK}
  (I₂ : Inv X pins σ H₂ s₂) (T : K1 X.prog X.w X.K (.Name x px) J fp it tn) (st₂ : tn 0 s₂.heap) (f₂ : ∀ b ∈ fp, ZO X pins H₂ b)
  (R : ∀ D, H₂ D = none → ∃ W : Nat → Nat → List V → Hp → Prop, (∃ m, W 0 m [] (upd H₂ D (.lst []))) ∧ ∀ i m ys H, W i m ys H →
   (J.stop i H ∧ Q (.ref D) H) ∨ (J.go i H ∧ ∀ x H', J.yld i H x H' → tc (some x :: σ) H' fun b H2 =>
    if b = true then te (some x :: σ) H2 fun y H3 => H3 D = some (.lst ys) ∧ ys.length < sizeLine ∧ ∃ m', m' < m ∧ W (i + 1) m' (ys ++ [y]) (upd H3 D (.lst (ys ++ [y])))
    else ∃ m', m' < m ∧ W (i + 1) m' ys H2))
  (hRR : ∀ (D C : Addr) (H : Hp) (s4 : Shared) (m : Str → Option Value), s4.heap.Ns C m → C ≠ X.env.locals → H C = none → (∀ x c, X.env.cells.lookup x = some c → c ≠ C) → s₂.heap.objs.size ≤ C → Inv X pins σ H s4 →
   Q (.ref D) H → RR (.ref D) C (.ok .next) s4) :
  wpAny (model X.prog X.w) X.A (newList []) (fun acc s₃ => wpAny (model X.prog X.w) X.A (newFunctionEnv scope X.env.globals cl [] X.env.qual none .none (some X.env)) (fun cenv s₄ =>
   codeAny (model X.prog X.w) X.A (.compStart (.ListComp elt [⟨.Name x px, iter, ifs, 0⟩] scope pos) 0 (.ref it) acc { cenv with scope := relabel scope X.env }) (RR acc cenv.locals) s₄) EE s₃) EE s₂ := by
 refine wpAny_newObj_type (wpAny_newFunctionEnv K.cell (by intro y hy; simp at hy) (fun h₁ hns₁ hsb₁ => ?_) K.kind)
 dsimp only at hns₁ hsb₁ ⊢
 generalize hH2 : s₂.heap.push { cls := .type "list", dict := none, data := .seq ([] : List Value).toArray } = H2 at hns₁ hsb₁ ⊢
 have hC : H2.objs.size = s₂.heap.objs.size + 1 := by rw [← hH2, Heap.size_push]
 have hDC : s₂.heap.objs.size ≠ H2.objs.size := by rw [hC]; exact Nat.ne_of_lt (Nat.lt_succ_self _)
 have below : ∀ b, b < s₂.heap.objs.size → b ≠ H2.objs.size ∧ b ≠ s₂.heap.objs.size := fun b hb => ⟨by rw [hC]; exact Nat.ne_of_lt (Nat.lt_succ_of_lt hb), Nat.ne_of_lt hb⟩
 have old : ∀ b o, s₂.heap.get? b = some o → h₁.get? b = some o := fun b o e => hsb₁.extBut b o (below b (Heap.lt_size e)).1 (Heap.get?_push_of_some _ (hH2 ▸ Heap.get?_push_of_some _ e))
 have hacc : h₁.get? s₂.heap.objs.size = some { cls := .type "list", dict := none, data := .seq ([] : List Value).toArray } := hsb₁.extBut _ _ hDC (Heap.get?_push_of_some _ (hH2 ▸ Heap.get?_push_size _ rfl))
 have fD : H₂ s₂.heap.objs.size = none := I₂.hok.fresh lR
 have fC : H₂ H2.objs.size = none := I₂.hok.fresh (by rw [hC]; exact Nat.le_succ _)
 have fpLt : ∀ b ∈ fp, b < s₂.heap.objs.size := fun b hb => let ⟨o, e, _⟩ := T.obj _ _ st₂ b hb; Heap.lt_size e
 obtain ⟨W, ⟨m0, w0⟩, turn⟩ := R s₂.heap.objs.size fD
 have okX : (hJ X x scope cl fp H2.objs.size s₂ H₂).Ok := by
  refine ⟨I₂.ok.mod, K.kind, I₂.ok.glob, I₂.ok.blt, ?_, fun y z c h1 h2 => I₂.ok.inj y z c (K.cl y c h1) (K.cl z c h2), fun y hy => ?_, fun y c h _ => ?_, I₂.ok.hd, I₂.ok.frames, .inl rfl, fun b hb => ⟨(below b (fpLt b hb)).1, fun y c h => (f₂ b hb).2.2.2.2.1 y c (K.cl y c h)⟩, I₂.bs,
   Nat.le_trans I₂.ok.bsz I₂.sz, fun b o e hb => ?_, fun b hb z => ?_, I₂.stack, I₂.stkFree⟩
  ·show s₂.heap.objs.size ≤ H2.objs.size
   rw [hC]; exact Nat.le_succ _
  ·have hy' : (scope.names.map fun (n, k) => if (k == NameKind.free && X.env.scope.kind == .function && X.env.kindOf n == some .cell) then (n, NameKind.cell) else (n, k)).lookup y = some .cell ∨
     (scope.names.map fun (n, k) => if (k == NameKind.free && X.env.scope.kind == .function && X.env.kindOf n == some .cell) then (n, NameKind.cell) else (n, k)).lookup y = some .free := hy
   have fr : (y, NameKind.free) ∈ scope.names := by
    rcases hy' with q | q
    ·obtain ⟨k0, hm, z | ⟨z, _⟩⟩ := oW q
     ·subst z; exact absurd rfl (K.cell _ hm)
     ·subst z; exact hm
    ·obtain ⟨k0, hm, z | ⟨z, w⟩⟩ := oW q
     ·subst z; exact hm
     ·cases w
   exact (K.free _ fr rfl).2.2
  ·exact absurd (show false = true from h) Bool.false_ne_true
  ·obtain ⟨_, _, _, f3, _⟩ := f₂ b hb
   rcases f3 with z | z
   ·exact I₂.ok.noex b o e z
   ·exact absurd (Nat.lt_of_lt_of_le (Heap.lt_size (I₂.ok.bs b o e).1) z) (Nat.lt_irrefl _)
  ·obtain ⟨_, f1, f2', _⟩ := f₂ b hb
   rcases List.mem_cons.mp (I₂.stkSub b z) with q | q
   ·exact f1 q
   ·exact f2' q
 have hDne : ∀ b, H₂ b ≠ none → b ≠ s₂.heap.objs.size := fun b hb z => hb (z ▸ fD)
 have ldD : HOk X.prog X.w (upd H₂ s₂.heap.objs.size (.lst [])) h₁ := I₂.hok.laid old lR ⟨Nat.zero_le _, [], _, .nil, hacc⟩
 have visFree : ∀ y, Vis (relabel scope X.env) y → y ∈ X.N → (y, NameKind.free) ∈ scope.names ∧ ((relabel scope X.env).names.lookup y = some .cell ∨ (relabel scope X.env).names.lookup y = some .free) := by
  intro y hv hne
  rcases hv with q | q | q
  ·obtain ⟨k0, hm, z | ⟨z, w⟩⟩ := oW (env := X.env) (show (scope.names.map _).lookup y = _ from q)
   ·subst z; exact absurd hne (K.loc _ hm rfl)
   ·cases w
  ·obtain ⟨k0, hm, z | ⟨z, w⟩⟩ := oW (env := X.env) (show (scope.names.map _).lookup y = _ from q)
   ·subst z; exact absurd rfl (K.cell _ hm)
   ·subst z; exact ⟨hm, .inl q⟩
  ·obtain ⟨k0, hm, z | ⟨z, w⟩⟩ := oW (env := X.env) (show (scope.names.map _).lookup y = _ from q)
   ·subst z; exact ⟨hm, .inr q⟩
   ·cases w
 have I' : ∀ tk, Inv (hJ X x scope cl fp H2.objs.size s₂ H₂) [] (none :: σ) (upd H₂ s₂.heap.objs.size (.lst [])) { s₂ with heap := h₁, toks := tk } := by
  intro tk
  refine ⟨okX, rfl, I₂.bare, Un.laid old lR fD, ⟨_, hns₁, fun i y v h1 h2 h3 => ?_⟩, fun y c h => ?_, ?_, fun y c h => ?_, fun p hp => absurd hp (by simp [hJ]), ldD, ?_⟩
  ·cases i with
   | zero => simp at h2
   | succ i =>
    have h1' : X.N[i]? = some y := by simpa [hJ] using h1
    have h2' : σ[i]? = some (some v) := by simpa using h2
    have hne : y ∈ X.N := List.mem_of_getElem? h1'
    obtain ⟨fm, kk⟩ := visFree y h3 hne
    obtain ⟨nl, vz, c, hcl⟩ := K.free _ fm rfl
    obtain ⟨mm, hn, hl⟩ := I₂.loc
    obtain ⟨u, ru, l⟩ := hl i y v h1' h2' (vz.elim (fun z => .inr (.inl z)) fun z => .inr (.inr z))
    rcases l with ⟨z, _⟩ | ⟨_, c', hc', hcell⟩
    ·exact absurd z nl
    ·have ec : c' = c := Option.some.inj (hc'.symm.trans (K.cl _ _ hcl))
     subst ec
     obtain ⟨o, ho, hd⟩ := hcell
     exact ⟨u, ru, .inr ⟨kk, c', hcl, o, old _ _ ho, hd⟩⟩
  ·obtain ⟨v, o, ho, hd⟩ := I₂.cell y c (K.cl y c h)
   exact ⟨v, o, old _ _ ho, hd⟩
  ·show upd H₂ _ _ H2.objs.size = none
   rw [uX (Ne.symm hDC)]; exact fC
  ·show upd H₂ _ _ c = none
   obtain ⟨v, o, ho, hd⟩ := I₂.cell y c (K.cl y c h)
   rw [uX (below c (Heap.lt_size ho)).2]; exact I₂.freeC y c (K.cl y c h)
  ·show (none :: σ).length = (x :: X.N).length
   rw [List.length_cons, List.length_cons, I₂.len]
 have stat : ∀ {H' : Hp}, (∀ b ∈ fp, H' b = none) → ∀ b ∈ fp, ZO (hJ X x scope cl fp H2.objs.size s₂ H₂) [] H' b := fun hn b hb =>
  ⟨hn b hb, (okX.exf b hb).1, okX.exfs b hb, .inl hb, (okX.exf b hb).2, fun p hp => absurd hp (by simp [hJ])⟩
 have tn₁ : tn 0 h₁ := T.keep _ _ _ st₂ fun b _ o e => old b o e
 have fp₁ : ∀ b ∈ fp, upd H₂ s₂.heap.objs.size (.lst []) b = none := fun b hb => by rw [uX (below b (fpLt b hb)).2]; exact (f₂ b hb).1
 have loop : ∀ s₃ : Shared, (∃ tk, s₃ = { s₂ with heap := h₁, toks := tk }) →
   codeAny (model X.prog X.w) X.A (.compLoop (.ListComp elt [⟨.Name x px, iter, ifs, 0⟩] scope pos) 0 (.ref it) (.ref s₂.heap.objs.size) (compEnvC scope cl H2.objs.size X.env))
    (RR (.ref s₂.heap.objs.size) H2.objs.size) s₃ := by
  rintro s₃ ⟨tk, rfl⟩
  refine XA (fun n s' => ∃ i ys H' v0, Inv (hJ X x scope cl fp H2.objs.size s₂ H₂) [] (v0 :: σ) H' s' ∧ tn i s'.heap ∧ (∀ b ∈ fp, H' b = none) ∧ W i n ys H') ?_ m0
   ⟨0, [], _, none, I' tk, tn₁, fp₁, w0⟩
  rintro n s3 ⟨i, ys, H3, v0, I3, st3, fr3, w3⟩
  rcases turn i n ys H3 w3 with ⟨stop, qn⟩ | ⟨go, step⟩
  ·refine thn (T.done (hJ X x scope cl fp H2.objs.size s₂ H₂) rfl rfl rfl hc i [] s3 (v0 :: σ) H3 (fun _ _ => False) I3 (stat fr3) st3 stop) fun r s4 ⟨hr, I4⟩ => ?_
   subst hr
   show RR _ _ (.ok .next) s4
   obtain ⟨m, hn, _⟩ := I4.loc
   have un := I4.base
   have os4 : s4.os = s₂.os := I4.os
   refine hRR _ _ H3 s4 m hn ?_ I4.free (fun y c h z => ?_) (by rw [hC]; exact Nat.le_succ _) ?_ qn
   ·exact Ne.symm (below _ I₂.lt).1
   ·obtain ⟨v, o, ho, hd⟩ := I₂.cell y c h
    exact (below c (Heap.lt_size ho)).1 z
   ·obtain ⟨hh, g, d, t, os'⟩ := s4
    obtain rfl : os' = s₂.os := os4
    exact I₂.call (h' := hh) (g' := g) (d' := d) (t' := t) (ch := fp) un I4.hok I4.bare fun b hb => ⟨(f₂ b hb).2.2.2.1, (f₂ b hb).2.1, (f₂ b hb).2.2.2.2.1, (f₂ b hb).2.2.2.2.2⟩
  ·refine thn (T.item (hJ X x scope cl fp H2.objs.size s₂ H₂) rfl rfl rfl hc i [] s3 (v0 :: σ) H3 (fun _ _ => False) I3 (stat fr3) st3 go) fun r s4 ⟨u, hr, h4⟩ => ?_
   subst hr
   refine thn h4 fun _ s5 ⟨x5, H5, I5, r5, y5, st5, fr5⟩ => ?_
   have I5' := I5.pinned (stat fr5) (T.obj _ _ st5)
   have hg : PG (hJ X x scope cl fp H2.objs.size s₂ H₂) (.Name x px) (nT 0) := Jy (i := 0) (x := x) hN rfl (.inl (lookup_relabel_local K.hx)) (.inr (lookup_relabel_local K.hx))
   have again : ∀ {H' : Hp} {s' : Shared} {v : Option V}, Inv (hJ X x scope cl fp H2.objs.size s₂ H₂) ([] ++ qA fp s5.heap) (v :: σ) H' s' → tn (i + 1) s'.heap ∧ ∀ b ∈ fp, H' b = none := fun I7 =>
    ⟨T.keep _ _ _ st5 fun b hb o e => (I7.pin (b, o) (List.mem_append_right _ (List.mem_append_right _ (cF hb e)))).1, fun b hb => by
     obtain ⟨o, e, d⟩ := T.obj _ _ st5 b hb
     exact (I7.pin (b, o) (List.mem_append_right _ (List.mem_append_right _ (cF hb e)))).2.1⟩
   refine thn (hg _ s5 (v0 :: σ) H5 x5 u (fun σ' H' => σ' = some x5 :: σ ∧ H' = H5) I5' r5 ⟨rfl, rfl⟩) fun _ s6 ⟨σ6, H6, I6, e6, e6'⟩ => ?_
   subst e6 e6'
   refine thn (ht fp _ s₂ H₂ _ s6 (some x5 :: σ) H6 _ I6 (step x5 H6 y5)) fun ok s7 ⟨H7, I7, q7⟩ => ?_
   cases ok with
   | false =>
    rw [if_neg Bool.false_ne_true] at q7
    rw [if_neg Bool.false_ne_true]
    obtain ⟨m', hm, w7⟩ := q7
    obtain ⟨k1, k2⟩ := again I7
    exact ⟨m', hm, i + 1, ys, H7, some x5, I7.unpinned, k1, k2, w7⟩
   | true =>
    rw [if_pos rfl] at q7
    rw [if_pos rfl]
    refine thn (he fp _ s₂ H₂ _ s7 (some x5 :: σ) H7 _ I7 q7) fun y s8 ⟨y8, H8, I8, r8, hD8, hl8, m', hm, w8⟩ => ?_
    refine thn (aV (X := hJ X x scope cl fp H2.objs.size s₂ H₂) _ s8 _ H8 (.ref s₂.heap.objs.size) [y8] (.ref s₂.heap.objs.size) [y] (fun _ H9 => H9 = upd H8 s₂.heap.objs.size (.lst (ys ++ [y8]))) I8 rfl (.cons r8 .nil) ⟨_, ys, y8, rfl, rfl, hD8, hl8, rfl⟩) fun _ s9 ⟨_, H9, I9, _, e9⟩ => ?_
    subst e9
    obtain ⟨k1, k2⟩ := again I9
    exact ⟨m', hm, i + 1, ys ++ [y8], _, some x5, I9.unpinned, k1, k2, w8⟩
 exact codeAny_compStart_list (loop _ ⟨_, rfl⟩) (T.self _ 0 _ _ _ tn₁ (loop _ ⟨_, rfl⟩))
theorem pe_comp {elt iter : Expr} {x : Str} {px pos : Pos} {ifs : List Expr} {scope : Scope} {cl : List (Str × Addr)} {wi : TI} {tc : TT} {te : TE}
  (hc : X.calm = true) (hN : (x :: X.N).Nodup) (K : tP X x scope cl) (hi : PI X (.Name x px) iter wi)
  (ht : ∀ fp C s₂ H₂, Wr (hJ X x scope cl fp C s₂ H₂) ifs tc) (he : ∀ fp C s₂ H₂, PE (hJ X x scope cl fp C s₂ H₂) elt te)
  (hs : ∀ v, foldedSetIterable iter X.env v = pure v := by intro _; rfl) : PE X (.ListComp elt [⟨.Name x px, iter, ifs, 0⟩] scope pos) (XU wi tc te) := by
 intro pins s σ H Q I h
 rw [eval_ListComp]
 refine wpAny_comprehension_free (use := none) rfl hs K.clos K.kind K.names (thn (hi pins s σ H _ I h) fun xv s₁ h₁ => thn h₁ fun itv s₂ h₂ => ?_)
 obtain ⟨it, fp, tn, J, H₂, e, I₂, T, st₂, f₂, R⟩ := h₂
 subst e
 refine aI hc hN K ht he I₂ T st₂ f₂ R ?_
 intro D C H s4 m hn hCL hC0 hCc hCsz I4 q
 refine ⟨m, hn, fun h' hsb => ⟨.ref D, H, ?_, rfl, q⟩⟩
 refine I4.turned (it := C) (t' := s4.toks) (fun b o hb e => (hsb.2 b hb).trans e) hC0 hCL (.inr (Nat.le_trans I₂.sz hCsz)) hCc fun p hp z => ?_
 exact absurd (Nat.lt_of_lt_of_le (Heap.lt_size (I₂.pin p hp).1) (by rw [z]; exact hCsz)) (Nat.lt_irrefl _)
end
noncomputable def J6 (x : Str) (scope : Scope) (N : List Str) : Bool :=
 scope.names.all (fun y => decide (y.2 ≠ .cell) && decide (y.2 ≠ .free) && (decide (y.2 ≠ .local) || (decide (scope.names.lookup y.1 = some .local) && decide (y.1 ∉ N)))) && decide (scope.kind = .function) && decide (scope.names.lookup x = some .local)
theorem gV {X : Cx} {x : Str} {scope : Scope} {N : List Str} (hN : X.N = N) (hcl : closureFor scope X.env = pure []) (h : J6 x scope N = true) : tP X x scope [] := by
 subst hN
 unfold J6 at h
 rw [Bool.and_eq_true, Bool.and_eq_true, List.all_eq_true] at h
 obtain ⟨⟨h1, h2⟩, h3⟩ := h
 have get : ∀ y ∈ scope.names, y.2 ≠ .cell ∧ y.2 ≠ .free ∧ (y.2 = .local → scope.names.lookup y.1 = some .local ∧ y.1 ∉ X.N) := fun y hy => by
  have q := h1 y hy
  rw [Bool.and_eq_true, Bool.and_eq_true, Bool.or_eq_true, Bool.and_eq_true] at q
  obtain ⟨⟨q1, q2⟩, q3⟩ := q
  refine ⟨of_decide_eq_true q1, of_decide_eq_true q2, fun e => ?_⟩
  rcases q3 with q3 | ⟨q3, q4⟩
  ·exact absurd e (of_decide_eq_true q3)
  ·exact ⟨of_decide_eq_true q3, of_decide_eq_true q4⟩
 exact ⟨hcl, fun y hy => (get y hy).1, of_decide_eq_true h2, fun y hy e => ((get y hy).2.2 e).1, of_decide_eq_true h3, fun y hy e => ((get y hy).2.2 e).2, fun y hy e => absurd e (get y hy).2.1, fun y c e => by simp at e⟩
noncomputable def Its (x : Str) : It := ⟨fun i _ => i < x.cps.size, fun i H v H' => H' = H ∧ ∃ c, x.cps[i]? = some c ∧ v = .str ⟨#[c]⟩, fun i _ => x.cps.size ≤ i⟩
theorem QD {P : Program} {w : World} {A : Around} {ty : String} (hty : ty = "str_ascii_iterator" ∨ ty = "str_iterator") (hh : A.handled = none) (it : Addr) (x : Str) (t : Tok) :
  Walks P w A it [it] [it] x.cps.size (SignAt x) (fun i h => h.IsStrIter it ty x t i) := by
 rcases hty with rfl | rfl
 ·exact Walks.strAscii hh it x t
 ·exact Walks.strWide hh it x t
theorem Vd {P : Program} {w : World} {K : W.Frag} {tg : Expr} {ty : String} (hty : ty = "str_ascii_iterator" ∨ ty = "str_iterator") (x : Str) (t : Tok) (it : Addr) :
  K1 P w K tg (Its x) [it] it (fun i h => h.IsStrIter it ty x t i ∧ i ≤ x.cps.size) where
 mem := by simp
 obj := fun i h st b hb => by
  have e : b = it := by simpa using hb
  subst e
  obtain ⟨⟨o, e, c, d⟩, _⟩ := st
  exact ⟨o, e, fun v z => by rw [d] at z; cases z⟩
 keep := fun i h h' st k => ⟨let ⟨o, ho, r⟩ := st.1; ⟨o, k it (by simp) o ho, r⟩, st.2⟩
 item := by
  intro X hP hw hK hc i pins s σ H E I hf st hg
  subst hP hw hK
  obtain ⟨f0, f1, f2, f3, f4, f5⟩ := hf it (by simp)
  refine (QD hty (I.ok.hd hc) it x t).item i s _ _ hg st.1 fun v h' tk hv st' kk => ?_
  obtain ⟨c, u, hx, rfl⟩ := hv
  have I1 : Inv X pins σ H { s with heap := h', toks := tk } := I.turned (fun b o hb e => kk b o (by simpa using hb) e) f0 f1 f3 f4 f5
  obtain ⟨o, e, cc, d⟩ := id st'
  exact ⟨_, rfl, JY (s := { s with heap := h', toks := tk }) e cc d (by rcases hty with rfl | rfl <;> decide) ⟨.str ⟨#[c]⟩, H, I1, ⟨u, rfl⟩, ⟨rfl, c, hx, rfl⟩, ⟨st', hg⟩, fun b hb => (hf b hb).1⟩⟩
 done := by
  intro X hP hw hK hc i pins s σ H E I hf st hg
  subst hP hw hK
  obtain ⟨f0, f1, f2, f3, f4, f5⟩ := hf it (by simp)
  have ei : i = x.cps.size := Nat.le_antisymm st.2 hg
  refine (QD hty (I.ok.hd hc) it x t).done s _ _ (by rw [← ei]; exact st.1) fun h' tk kk => ⟨rfl, I.turned (fun b o hb e => kk b o (by simpa using hb) e) f0 f1 f3 f4 f5⟩
 self := fun A i s Q E st h => by
  rcases hty with rfl | rfl
  ·exact wpAny_pyIter_striter_ascii st.1 h
  ·exact wpAny_pyIter_striter_wide st.1 h
noncomputable def iStr (tl : TE) : TI := fun σ H R => tl σ H fun x H1 => ∃ z, x = .str z ∧ R (Its z) H1
section
variable {X : Cx} {tg : Expr}
theorem pi_str {l : Expr} {tl : TE} (hl : PE X l tl) : PI X tg l (iStr tl) := by
 intro pins s σ H R I h
 refine thn (hl pins s σ H _ I h) fun v s1 ⟨x, H1, I1, r1, q1⟩ => ?_
 obtain ⟨z, e, q⟩ := q1
 subst e
 obtain ⟨t, rfl⟩ := r1
 have fin : ∀ (ty : String) (o : Obj), (ty = "str_ascii_iterator" ∨ ty = "str_iterator") → (s1.heap.push o).IsStrIter s1.heap.objs.size ty z t 0 → PIE X pins σ tg R (.ref s1.heap.objs.size) { s1 with heap := s1.heap.push o } := fun ty o hty st => by
  refine ⟨s1.heap.objs.size, [s1.heap.objs.size], _, _, H1, rfl, I1.kept (t' := s1.toks) fun b o e => Heap.get?_push_of_some _ e, Vd hty z t _, ⟨st, Nat.zero_le _⟩, fun b hb => ?_, q⟩
  have e : b = s1.heap.objs.size := by simpa using hb
  subst e
  exact I1.fpOk lR (I1.hok.fresh lR)
 cases ha : z.cps.all (· < 128)
 ·exact wpAny_pyIter_wide ha (fin _ _ (.inr rfl) ⟨_, Heap.get?_push_size _ rfl, rfl, rfl⟩)
 ·exact wpAny_pyIter_ascii ha (fin _ _ (.inl rfl) ⟨_, Heap.get?_push_size _ rfl, rfl, rfl⟩)
end
theorem K0 (ys : List Bool) : ((List.range ys.length).all fun i => (ys[i]?).getD false) = ys.all id := by
 rw [Bool.eq_iff_iff, List.all_eq_true, List.all_eq_true]
 constructor
 ·intro h b hb
  obtain ⟨i, hi⟩ := List.mem_iff_getElem?.mp hb
  have hl : i < ys.length := (List.getElem?_eq_some_iff.mp hi).1
  have := h i (List.mem_range.mpr hl)
  rw [hi] at this
  exact this
 ·intro h i hi
  have hl : i < ys.length := List.mem_range.mp hi
  rw [List.getElem?_eq_getElem hl]
  exact h _ (List.getElem_mem hl)
section
variable {X : Cx}
theorem nU (hc : X.calm = true) : pY X (.builtin "all") (fun xs H Q => ∃ p ys, xs = [.ref p] ∧ SqL X.K H p (List.map V.bl ys) ∧ Q (.bl (ys.all id)) H) := by
 intro pins s σ H xs us Q I r h
 obtain ⟨p, ys, rfl, hq, q⟩ := h
 obtain ⟨u, rfl, rx⟩ := uH r
 cases rx
 obtain ⟨its, rv, pl, hz⟩ := I.list hq
 have hlen : its.length = ys.length := by rw [← rv.length, List.length_map]
 obtain ⟨o, n, ho, _⟩ := id pl
 have hlt : p < s.heap.objs.size := Heap.lt_size ho
 refine call_all_walk (wpAny_pyIter_list pl.isList ?_)
 refine ⟨s.heap.objs.size, _, _, _, _, _, fun i => (ys[i]?).getD false, rfl, Walks.list (A := X.A.in1) (I.ok.hd hc) s.heap.objs.size p (Nat.ne_of_lt hlt) its.toArray, ⟨⟨_, Heap.get?_push_size _ rfl, rfl, rfl⟩, pl.isList.push _⟩, fun i v s' Q' E' hP hQ => ?_, fun h' tk kk => ?_⟩
 ·have hv : its[i]? = some v := by simpa using hP
  have hi : i < ys.length := by rw [← hlen]; exact (List.getElem?_eq_some_iff.mp hv).1
  have hy : (List.map V.bl ys)[i]? = some (.bl ys[i]) := by rw [List.getElem?_map, List.getElem?_eq_getElem hi]; rfl
  obtain ⟨u, hu, ru⟩ := rv.get hy
  rw [hv] at hu
  cases hu
  cases (show v = Value.bool ys[i] from ru)
  have hQ : Q' ((ys[i]?).getD false) s' := hQ
  rw [List.getElem?_eq_getElem hi] at hQ
  exact wpAny_truthy_bool hQ
 ·have I1 : Inv X pins σ H { s with heap := h', toks := tk } := I.kept fun b o e => kk b o (by intro z; exact absurd (Heap.lt_size e) (by rw [List.mem_singleton.mp z]; exact Nat.lt_irrefl _)) (Heap.get?_push_of_some _ e)
  have e : ((List.range its.toArray.size).all fun i => (ys[i]?).getD false) = ys.all id := by rw [List.size_toArray, hlen, K0]
  rw [e]
  exact ⟨.bl (ys.all id), H, I1, rfl, q⟩
inductive Ty where
 | non | bl | int | str | lst | tup | dct
 deriving DecidableEq
noncomputable def mW : Ty → String
 | .non => "NoneType" | .bl => "bool" | .int => "int" | .str => "str" | .lst => "list" | .tup => "tuple" | .dct => "dict"
noncomputable def tyH : HO → Option Ty
 | .lst _ => some .lst
 | .frz _ (.lst _) => some .lst
 | .tup _ => some .tup
 | .dK _ => some .dct
 | .dT _ => some .dct
 | _ => none
noncomputable def tyN (H : Hp) : V → Option Ty
 | .non => some .non
 | .bl _ => some .bl
 | .int _ => some .int
 | .str _ => some .str
 | .ref a => (H a).bind tyH
 | _ => none
theorem Jp {K : W.Frag} {H : Hp} {x : V} {n : Ty} (h : tyN H x = some n) : xR K H x (.type (mW n)) := by
 cases x with
 | non => cases h; exact .non
 | bl b => cases h; exact .bl b
 | int i => cases h; exact .int i
 | str z => cases h; exact .str z
 | ref a =>
  have h : (H a).bind tyH = some n := h
  cases e : H a with
  | none => rw [e] at h; cases h
  | some o =>
   rw [e] at h
   have h : tyH o = some n := h
   cases o with
   | lst xs => cases h; exact .lst e
   | tup xs => cases h; exact .tup e
   | dK kvs => cases h; exact .dK e
   | dT kvs => cases h; exact .dT e
   | frz ob u =>
    cases u with
    | lst xs => cases h; exact .frz e
    | _ => cases h
   | _ => cases h
 | byt b => cases h
 | flt b => cases h
 | ty n => cases h
noncomputable def zF : Ty → Ty → Bool
 | .bl, .int => true
 | a, b => decide (a = b)
theorem JN (K : W.Frag) (n T : Ty) : W.kitOne K (.type (mW n)) (.type (mW T)) = some (zF n T) := by
 cases n <;> cases T <;> with_unfolding_all rfl
theorem eQ : pY X (.builtin "isinstance") (fun xs H Q => ∃ x T n, xs = [x, .ty (mW T)] ∧ tyN H x = some n ∧ Q (.bl (zF n T)) H) := by
 intro pins s σ H xs us Q I r h
 obtain ⟨x, T, n, rfl, hn, q⟩ := h
 obtain ⟨u, w', rfl, rx, rT⟩ := Va r
 cases (show w' = Value.type (mW T) from rT)
 exact KJ I rx (Jp hn) (JN X.K n T) fun tk => ⟨.bl (zF n T), H, I.tok tk, rfl, q⟩
theorem VI (hu : X.A.units < cLine) : OpR X (compareOp .Eq) (fun x y H Q => ∃ a b xs, x = .ref a ∧ y = .ref b ∧ SqL X.K H a xs ∧ SqL X.K H b [] ∧ Q (.bl xs.isEmpty) H) := by
 intro pins s σ H x y v u Q I rx ry h
 obtain ⟨a, b, xs, rfl, rfl, ha, hb, q⟩ := h
 cases rx
 cases ry
 obtain ⟨its, r1, p1, _⟩ := I.list ha
 obtain ⟨its2, r2, p2, _⟩ := I.list hb
 have e2 : its2 = [] := Vals.zero r2
 subst e2
 cases xs with
 | nil =>
  have e1 : its = [] := Vals.zero r1
  subst e1
  exact SeqAt.eq_listAt (e := fun _ => true) p1.isList p2.isList rfl hu (fun j h1 _ => absurd h1 (Nat.not_lt_zero _)) ⟨.bl true, H, I, rfl, q⟩
 | cons x0 xr =>
  cases r1 with
  | cons _ t =>
   exact SeqAt.eq_list_lengthsAt p1.isList p2.isList (by simp) hu ⟨.bl false, H, I, rfl, q⟩
theorem sl_str : SlR X (fun x lo hi H Q => ∃ z, x = .str z ∧ z.length ≤ sizeLine ∧ Q (.str (Txt.slice z lo hi)) H) := by
 intro pins s σ H x v vl vu lo hi sl Q I rx hs pl pu h
 obtain ⟨z, rfl, hz, q⟩ := h
 obtain ⟨t, rfl⟩ := rx
 refine ⟨"str", _, F.slot_str_getitem.lookup, typeIs_str _ _ _, ?_⟩
 have fin : ∀ (t' : Tok) (k : Nat), EP X pins σ Q (.str (Txt.slice z lo hi) t') { s with toks := k } := fun t' k => ⟨.str _, H, I.tok k, ⟨_, rfl⟩, q⟩
 cases pl with
 | none =>
  cases pu with
  | none => exact wpAny_getItem_str_slice (l := none) (u := none) (st := none) hs rfl (post_val_or_str ⟨Nat.le_trans (Txt.slice_le z _ _) hz, fin⟩)
  | int j uj => exact wpAny_getItem_str_slice (l := none) (u := some (j, uj)) (st := none) hs rfl (post_val_or_str ⟨Nat.le_trans (Txt.slice_le z _ _) hz, fin⟩)
 | int i ui =>
  cases pu with
  | none => exact wpAny_getItem_str_slice (l := some (i, ui)) (u := none) (st := none) hs rfl (post_val_or_str ⟨Nat.le_trans (Txt.slice_le z _ _) hz, fin⟩)
  | int j uj => exact wpAny_getItem_str_slice (l := some (i, ui)) (u := some (j, uj)) (st := none) hs rfl (post_val_or_str ⟨Nat.le_trans (Txt.slice_le z _ _) hz, fin⟩)
theorem XZ : OpR X (binaryOp .FloorDiv) (rI (fun _ j => 0 < j ∧ j < 18446744073709551616) fun i j => .int (i / j)) := opI fun i j _ _ _ _ _ hc q => by
 have h1 : (0 : Int) < j := hc.1
 have h2 : j < 18446744073709551616 := hc.2
 refine floordiv_int (by omega) (by rw [Int.fdiv_eq_ediv_of_nonneg i (by omega)]; exact q) (.inl (PyProof.noPylong_of_log2 ?_))
 have h3 : j.natAbs < 2 ^ 64 := by
  have : (2 : Nat) ^ 64 = 18446744073709551616 := by decide
  omega
 exact Nat.lt_of_lt_of_le ((Nat.log2_lt (by omega)).mpr h3) (by decide)
end
end L2
namespace L2
open PySem PySem.Spec PyProof.Rows
structure JE (X : Cx) (e : Expr) (t : TE) : Prop where
 h : PE X e t
structure JT (X : Cx) (e : Expr) (t : TT) : Prop where
 h : PT X e t
structure JW (X : Cx) (e : Expr) (t : TT) : Prop where
 h : PW X e t
structure JA (X : Cx) (es : List Expr) (t : TA) : Prop where
 h : PA X es t
structure JS (X : Cx) (st : Stmt) (t : TS) : Prop where
 h : PS X st t
structure JB (X : Cx) (st : List Stmt) (t : TS) : Prop where
 h : PSs X st t
structure JG (X : Cx) (e : Expr) (t : TG) : Prop where
 h : PG X e t
structure JGs (X : Cx) (es : List Expr) (t : TGs) : Prop where
 h : PGs X es t
structure JI (X : Cx) (tg e : Expr) (t : TI) : Prop where
 h : PI X tg e t
structure JF (X : Cx) (ifs : List Expr) (t : TT) : Prop where
 h : Wr X ifs t
structure JO (X : Cx) (e : Option Expr) (t : TO) : Prop where
 h : PO X e t
section
variable {X : Cx} {a b c e o i : Expr} {es : List Expr} {ta tb tc te : TE} {tA tB' : TT} {t : TA} {pos : Pos} {gY : List Expr}
theorem jv (i : Nat) {x : Str} {pos : Pos} (hN : X.N[i]? = some x := by rfl) (hv : Vis X.env.scope x := by first | exact Or.inl rfl | exact Or.inr (Or.inl rfl) | exact Or.inr (Or.inr rfl)) (hd : (x == ("__debug__" : Str)) = false := by decide)
  (hcd : (x == ("__classdict__" : Str)) = false := by decide) : JE X (.Name x pos) (Vf i) := ⟨Vy hN hv hd hcd⟩
theorem xQ {i j pos} : JE X (.Constant (.int i) j pos) (tC (.int i)) := ⟨pe_int⟩
theorem fX {b j pos} : JE X (.Constant (.bool b) j pos) (tC (.bl b)) := ⟨pe_bl⟩
theorem aZ {j pos} : JE X (.Constant .none j pos) (tC .non) := ⟨pe_non⟩
theorem aQ {x j pos} : JE X (.Constant (.str x) j pos) (tC (.str x)) := ⟨pe_str⟩
theorem jK {x : Str} {v : V} {u : Value} (hg : Gl X x) (hm : X.mg x = some u) (r : RelV v u) (hd : (x == ("__debug__" : Str)) = false := by decide) : JE X (.Name x pos) (tC v) := ⟨pe_glob hg hm r hd⟩
theorem wX {x : Str} {v : V} {u : Value} (hg : Gl X x) (hm : X.mg x = none) (hv : bootBuiltins x = some u) (r : RelV v u) (hn : x ≠ "__name__" := by decide) (hd : (x == ("__debug__" : Str)) = false := by decide) : JE X (.Name x pos) (tC v) := ⟨pe_bltn hg hm hv r hn hd⟩
theorem bX {op : Operator} {r : R2} (ho : OpR X (binaryOp op) r) (ha : JE X a ta) (hb : JE X b tb) : JE X (.BinOp a op b pos) (tOp r ta tb) := ⟨pe_op ho ha.h hb.h⟩
theorem cT {op : UnaryOp} {r : V → Hp → VK → Prop} (ho : UnR X (unaryOp op) r) (ha : JE X a ta) : JE X (.UnaryOp op a pos) (tUn r ta) := ⟨pe_un ho ha.h⟩
theorem hV {op : CmpOp} {r : R2} (ho : OpR X (compareOp op) r) (ha : JE X a ta) (hb : JE X b tb) (hm : behindInMarks op b = false) : JE X (.Compare a [op] [b] pos) (tOp r ta tb) := ⟨pe_cmpR ho ha.h hb.h hm⟩
theorem sQ {op : CmpOp} {r : R2} (ho : OpR X (compareOp op) r) (ha : JE X a ta) (hb : JE X b tb) (hm : behindInMarks op b = false) : JT X (.Compare a [op] [b] pos) (Jq (tOp r ta tb)) := ⟨pt_cmpR ho ha.h hb.h hm⟩
theorem Zi {op op' : CmpOp} {r r' : R2} (ho : OpR X (compareOp op) r) (ho' : OpR X (compareOp op') r') (ha : JE X a ta) (hb : JE X b tb) (hc : JE X c tc)
  (hm : lastMarks [op, op'] [b, c] = false := by with_unfolding_all rfl) : JE X (.Compare a [op, op'] [b, c] pos) (Xb r r' ta tb tc) := ⟨VD ho ho' ha.h hb.h hc.h hm⟩
theorem yI {op op' : CmpOp} {r r' : R2} (ho : OpR X (compareOp op) r) (ho' : OpR X (compareOp op') r') (ha : JE X a ta) (hb : JE X b tb) (hc : JE X c tc)
  (hm : lastMarks [op, op'] [b, c] = false := by with_unfolding_all rfl) : JT X (.Compare a [op, op'] [b, c] pos) (Jq (Xb r r' ta tb tc)) := ⟨Vq ho ho' ha.h hb.h hc.h hm⟩
theorem bU {op} {t : TE} (h : JE X a t) : JE X (.BoolOp op [a] pos) t := ⟨pe_one h.h⟩
theorem lY (ha : JE X a ta) (hb : JE X (.BoolOp .And (b :: gY) pos) tb) : JE X (.BoolOp .And (a :: b :: gY) pos) (tAndV ta tb) := ⟨pe_and ha.h hb.h⟩
theorem je_or (ha : JE X a ta) (hb : JE X (.BoolOp .Or (b :: gY) pos) tb) : JE X (.BoolOp .Or (a :: b :: gY) pos) (tOrV ta tb) := ⟨pe_or ha.h hb.h⟩
theorem V4 (ha : JE X a ta) : JE X (.UnaryOp .Not a pos) (tNotV ta) := ⟨pe_not ha.h⟩
theorem iX {t : TT} (h : JW X e t) : JT X e t := ⟨h.h.pt⟩
theorem uV (ha : JT X a tA) : JW X (.BoolOp .And [a] pos) tA := ⟨pw_and1 ha.h⟩
theorem qZ (ha : JT X a tA) : JW X (.BoolOp .Or [a] pos) tA := ⟨pw_or1 ha.h⟩
theorem jY (ha : JT X a tA) (hb : JW X (.BoolOp .And (b :: gY) pos) tB') : JW X (.BoolOp .And (a :: b :: gY) pos) (tAnd tA tB') := ⟨pw_and ha.h hb.h⟩
theorem zZ (ha : JT X a tA) (hb : JW X (.BoolOp .Or (b :: gY) pos) tB') : JW X (.BoolOp .Or (a :: b :: gY) pos) (tOr tA tB') := ⟨pw_or ha.h hb.h⟩
theorem xX (ha : JT X a tA) : JT X (.UnaryOp .Not a pos) (tNot tA) := ⟨pt_not ha.h⟩
noncomputable def mR : Expr → Bool
 | .Name _ _ => true | .Call _ _ _ _ => true | .Subscript _ _ _ => true | .Attribute _ _ _ => true | .IfExp _ _ _ _ => false | _ => false
theorem aE {env : Env} (h : mR e = true) : ∀ whole, isTrue e env whole = (do let v ← whole; standAt e.pos; holding [v] (truthy v)) := by
 cases e <;> first | (intro _; rfl) | exact absurd h Bool.false_ne_true
theorem jX {t : TE} (h : JE X e t) (he : mR e = true := by rfl) : JT X e (tB t) := ⟨pt_val h.h (aE he)⟩
theorem bC (h : JE X e te) (he : mR e = true := by rfl) : JT X e (fun σ H Q => te σ H fun x H' => ∃ k, TruV X.K x H' k ∧ Q k H') := ⟨Vp h.h (aE he)⟩
theorem gI (hc : JT X c tA) (ha : JE X a ta) (hb : JE X b tb) : JE X (.IfExp c a b pos) (tIf tA ta tb) := ⟨VA hc.h ha.h hb.h⟩
theorem jQ : JA X [] tNil := ⟨pa_nil⟩
theorem qQ (ha : JE X e te) (hr : JA X es t) (hs : pJ e = true := by rfl) : JA X (e :: es) (XT te t) := ⟨qa_cons ha.h hr.h hs⟩
theorem yX {x1} (h : JA X es t) : JE X (.Tuple es x1 pos) (tTup t) := ⟨pe_tup h.h⟩
theorem cZ (h : JA X es t) : JE X (.List es pos) (tLst t) := ⟨pe_lst h.h⟩
theorem Zg : JE X (.Dict [] [] pos) Vg := ⟨VB⟩
theorem mQ {CX : CXT} {k : Nat} {f : Addr} {fd : FuncData} {ps : List Str} {sp : Sp} {dvs : List V} {ds : List Value} {E : XK} {x : Str} {p : Pos} (F : FnOk X.prog X.w X.K X.mg X.base CX k f fd ps sp) (hr : Room k X.A) (hg : Gl X x) (hm : X.mg x = some (.ref f)) (hk : W.keepIn X.K (.ref f) = true) (hb : Binds X.K fd ps ds) (hd : Vals dvs ds) (hx : Qc CX X E)
  (ha : JA X (e :: es) t) (hdb : (x == ("__debug__" : Str)) = false := by decide) (hs : pJ e = true := by rfl) (hall : es.all pJ = true := by rfl) : JE X (.Call (.Name x p) (e :: es) [] pos) (Js sp dvs E t) := ⟨qe_call F hr hg hm hk hb hd hx ha.h hdb hs hall⟩
theorem gQ {id : String} {r : List V → Hp → VK → Prop} {x : Str} {p : Pos} (hc : pY X (.builtin id) r) (hg : Gl X x) (hm : X.mg x = none) (hv : bootBuiltins x = some (.builtin id)) (ha : JA X (e :: es) t) (hn : x ≠ "__name__" := by decide) (hdb : (x == ("__debug__" : Str)) = false := by decide)
  (hs : pJ e = true := by rfl) (hall : es.all pJ = true := by rfl) : JE X (.Call (.Name x p) (e :: es) [] pos) (tCB r t) := ⟨Vo hc hg hm hv ha.h hn hdb hs hall⟩
theorem mZ {T : String} {r : List V → Hp → VK → Prop} {x : Str} {p : Pos} (hc : pY X (.type T) r) (hg : Gl X x) (hm : X.mg x = none) (hv : bootBuiltins x = some (.type T)) (ha : JA X (e :: es) t) (hn : x ≠ "__name__" := by decide) (hdb : (x == ("__debug__" : Str)) = false := by decide)
  (hs : pJ e = true := by rfl) (hall : es.all pJ = true := by rfl) : JE X (.Call (.Name x p) (e :: es) [] pos) (tCB r t) := ⟨Km hc hg hm hv ha.h hn hdb hs hall⟩
theorem cQ {r : R2} (hr : IxR X r) (ha : JE X a ta) (hb : JE X b tb) (hs : Ka b) : JE X (.Subscript a b pos) (tOp r ta tb) := ⟨pe_ix hr ha.h hb.h hs⟩
theorem zJ : JO X none Jr := ⟨po_none⟩
theorem qJ (h : JE X e te) : JO X (some e) (tPart te) := ⟨po_some h.h⟩
theorem yZ {lo hi : Option Expr} {tl th : TO} {p2 : Pos} {r : V → Option Int → Option Int → Hp → VK → Prop} (hr : SlR X r) (he : JE X e te) (hl : JO X lo tl) (hu : JO X hi th) : JE X (.Subscript e (.Slice lo hi none p2) pos) (tSl r te tl th) := ⟨Vz hr he.h hl.h hu.h⟩
theorem xK : JF X [] tYes := ⟨Vv⟩
theorem V3 {t : TT} (h : JT X c t) : JF X [c] t := ⟨Vu h.h⟩
theorem vY {elt iter : Expr} {x : Str} {px : Pos} {ifs : List Expr} {scope : Scope} {cl : List (Str × Addr)} {wi : TI} {tc : TT}
  (hc : X.calm = true) (hN : (x :: X.N).Nodup) (K : tP X x scope cl) (hi : JI X (.Name x px) iter wi)
  (ht : ∀ fp C s₂ H₂, JF (hJ X x scope cl fp C s₂ H₂) ifs tc) (he : ∀ fp C s₂ H₂, JE (hJ X x scope cl fp C s₂ H₂) elt te)
  (hs : ∀ v, foldedSetIterable iter X.env v = pure v := by intro _; rfl) : JE X (.ListComp elt [⟨.Name x px, iter, ifs, 0⟩] scope pos) (XU wi tc te) :=
 ⟨pe_comp hc hN K hi.h (fun fp C s₂ H₂ => (ht fp C s₂ H₂).h) (fun fp C s₂ H₂ => (he fp C s₂ H₂).h) hs⟩
variable {tg : Expr}
theorem eO (h : JE X e te) : JI X tg e (iList X.K te) := ⟨pi_list h.h⟩
theorem dJ (h : JE X e te) : JI X tg e (iTup X.K te) := ⟨pi_tup h.h⟩
theorem V2 (h : JE X e te) : JI X tg e (iStr te) := ⟨pi_str h.h⟩
theorem cY {p : Pos} (hg : Gl X "range") (hm : X.mg "range" = none) (ha : JA X [a] t) (hs : pJ a = true := by rfl) : JI X tg (.Call (.Name "range" p) [a] [] pos) (iRng1 t) := ⟨Kq hg hm ha.h (tV hs)⟩
theorem pK {i : Nat} {x : Str} (hN : X.N.Nodup) (hi : X.N[i]? = some x) (hx : Loc X.env.scope x) (hf : X.fn x = true ∨ X.env.scope.names.lookup x = some .local := by first | exact .inl rfl | exact .inr rfl | assumption) : JG X (.Name x pos) (nT i) := ⟨Jy hN hi hx hf⟩
theorem jgs_nil : JGs X [] gNil := ⟨pgs_nil⟩
theorem uI {t : TG} {u : TGs} (h1 : JG X e t) (h2 : JGs X es u)
  (hs : (assignEach (e :: es) X.env).map (·.2) = assign e X.env :: (assignEach es X.env).map (·.2) := by rfl) : JGs X (e :: es) (gCons t u) := ⟨Vx h1.h h2.h hs⟩
theorem jg_tup {k : Nat} {t : TGs} {n : Nat} (hc : X.calm = true) (h : JGs X es t)
  (hn : (assignEach es X.env).length = n := by rfl) (hst : (assignEach es X.env).findIdx? (·.1) = none := by rfl) : JG X (.Tuple es k pos) (gTup X.K n t) := ⟨pg_tup hc h.h hn hst⟩
theorem iH {t : TSet} {to ti : TE} (ho : JE X o to) (hi : JE X i ti) (hs : PSet X t)
  (ha : ∀ v, assign (.Subscript o i pos) X.env v = (do
   let ov ← holding [v] (eval o X.env)
   let iv ← holding [v, ov] (eval i X.env)
   standAt pos
   holding [v, ov, iv] (setItem ov iv v)
   release [v, ov, iv] []) := by intro _; rfl) : JG X (.Subscript o i pos) (gSub to ti t) := ⟨pg_sub ho.h hi.h hs ha⟩
end
section
variable {X : Cx} {st : Stmt} {sts : List Stmt} {t u : TS} {e c : Expr} {te : TE} {tc : TT} {pos : Pos}
theorem tQ : JB X [] tNext := ⟨pss_nil⟩
theorem wQ (h1 : JS X st t) (h2 : JB X sts u) : JB X (st :: sts) (tSeq t u) := ⟨Vr h1.h h2.h⟩
theorem uQ (h1 : JS X st t) : JB X [st] t := ⟨pss_one h1.h⟩
theorem zK (he : JE X e te) (hs : swapsWith e none pos.line X.env = pure false := by rfl) : JS X (.Expr e pos) (tDrop te) := ⟨ps_expr he.h hs⟩
theorem pQ (he : JE X e te) : JS X (.Return (some e) pos) (tRet te) := ⟨ps_ret he.h⟩
theorem zX {a b : List Stmt} (hc : JT X c tc) (ha : JB X a t) (hb : JB X b u) : JS X (.If c a b pos) (tIfS tc t u) := ⟨ps_if hc.h ha.h hb.h⟩
theorem kX {i : Nat} {x : Str} {pos' : Pos} (hN : X.N.Nodup) (hi : X.N[i]? = some x) (hx : Loc X.env.scope x) (he : JE X e te) (hs : swapsWith e (some (.Name x pos')) pos.line X.env = pure false := by rfl) (hf : X.fn x = true ∨ X.env.scope.names.lookup x = some .local := by first | exact .inl rfl | exact .inr rfl | assumption) :
  JS X (.Assign [.Name x pos'] e pos) (Ki te (nT i)) := ⟨ps_set hN hi hx he.h hs hf⟩
theorem nL {tg : Expr} {g : TG} (he : JE X e te) (hg : JG X tg g) (hs : swapsWithSole [tg] e pos.line X.env = pure false := by rfl) (hw : swappedStores [tg] e X.env = pure none := by rfl)
  (h1 : (assignEach [tg] X.env).map (·.2) = [assign tg X.env] := by rfl) : JS X (.Assign [tg] e pos) (Ki te g) := ⟨ps_asg he.h hg.h hs hw h1⟩
theorem V0 {i : Nat} {x : Str} {op : Operator} {ti : TIp} {pos' : Pos} (hN : X.N.Nodup) (hi : X.N[i]? = some x) (hx : Loc X.env.scope x) (he : JE X e te) (ho : PIp X op ti) (hf : X.fn x = true ∨ X.env.scope.names.lookup x = some .local := by first | exact .inl rfl | exact .inr rfl | assumption) :
  JS X (.AugAssign (.Name x pos') op e pos) (tAug i te ti) := ⟨ps_aug hN hi hx he.h ho hf⟩
theorem xY {tg iter : Expr} {body : List Stmt} {wi : TI} {g : TG} {tb : TS} (hp : PassesOwn (model X.prog X.w) X.A X.env X.xe) (hc : X.calm = true) (hi : JI X tg iter wi) (hg : JG X tg g) (hb : JB X body tb)
  (hs : ∀ x, foldedSetIterable iter X.env x = pure x := by intro _; rfl) : JS X (.For tg iter body [] pos) (tFor wi g tb) := ⟨ps_for hp hc hi.h hg.h hb.h hs⟩
theorem iM {body : List Stmt} {tb : TS} (hp : PassesOwn (model X.prog X.w) X.A X.env X.xe) (hc : JT X c tc) (hb : JB X body tb) : JS X (.While c body [] pos) (Ve tc tb) := ⟨Vs hp hc.h hb.h⟩
end
section
variable {P : Program} {w : World} {K : W.Frag} {mg : Str → Option Value} {base : Heap}
theorem Fun.okJ {x qual : Str} {st : Stmt} {f : Addr} {fd : FuncData} {N ps : List Str} {k : Nat} {sp : Sp} (F : Fun K x qual st f fd) (S : vX N ps (vQ st)) (len : ∀ vs H Q E, sp vs H Q E → vs.length = ps.length)
  (hbody : ∀ (cdv : Value) (A : Around) (outer : List Env) (s : Shared) (H : Hp) (vs : List V) (Q : VK) (E : XK), Room k (A.deeper (envOfC qual (vQ st) s.heap.objs.size f cdv)) → sp vs H Q E →
   ∃ t, JB (bS CX0 P w K mg base N qual (vQ st) f cdv A outer s H E).nox (fQ st) t ∧ t { nx := fun _ H' => Q .non H', rt := Q } (start N vs) H) : FnOk P w K mg base CX0 (k + 1) f fd ps sp :=
 F.ok S len fun cdv A outer s H vs Q E hr h => let ⟨t, ht, q⟩ := hbody cdv A outer s H vs Q E hr h; ⟨t, ht.h, q⟩
end
end L2
namespace L2
open PySem PySem.Spec PyProof.Rows
structure KD (K : W.Frag) (P : Program) (w : World) (d : Addr) (kvs : List (Key × V)) : Prop where
 all : ∀ h : Heap, K.In h → ∃ vs, KV kvs vs ∧ h.DictOf (iZ P w) d vs
 ne : (d == sysModules) = false
noncomputable def cO (p : Params) (l : List (Str × Tok × Int × Tok)) : List DictEntry := l.map fun x => { hash := PyData.keyHash p x.1, key := .str x.1 x.2.1, val := .int x.2.2.1 x.2.2.2 }
noncomputable def strKvs (l : List (Str × Tok × Int × Tok)) : List (Key × V) := l.map fun x => (Sum.inr x.1, .int x.2.2.1)
theorem kd_of {K : W.Frag} {P : Program} {w : World} {d : Addr} {l : List (Str × Tok × Int × Tok)} {n : Nat} (h : K.lookup d = some { cls := .type "dict", data := .dict (cO w.params l).toArray n })
  (hn : (l.map (·.1)).Nodup) (hd : (d == sysModules) = false) (hh : ∀ x : Str, PyData.keyHash w.params x = hashStr w x) : KD K P w d (strKvs l) := by
 refine ⟨fun hp X => ?_, hd⟩
 refine ⟨l.map fun x => (Sum.inr x.1, .int x.2.2.1 x.2.2.2), ?_, _, (cO w.params l).toArray, n, X d _ h, ⟨rfl, rfl, rfl⟩, rfl, ?_, ?_, ?_⟩
 ·clear h hn
  induction l with
  | nil => exact .nil
  | cons x r ih => exact .cons ⟨rfl, _, rfl⟩ ih
 ·intro e he
  have he' : e ∈ cO w.params l := by simpa using he
  obtain ⟨x, _, rfl⟩ := List.mem_map.mp he'
  exact ⟨Sum.inr x.1, aM x.1 x.2.1, hh _⟩
 ·show Pairs (iZ P w) (cO w.params l) _
  clear h hn
  induction l with
  | nil => exact .nil
  | cons x r ih => exact .cons (aM x.1 x.2.1) rfl ih
 ·have e : (l.map fun x => ((Sum.inr x.1 : Key), Value.int x.2.2.1 x.2.2.2)).map (·.1) = (l.map (·.1)).map Sum.inr := by
   rw [List.map_map, List.map_map]; rfl
  rw [e]
  exact List.Pairwise.map Sum.inr (fun a b hab z => hab (Sum.inr.inj z)) hn
section
variable {X : Cx} {d : Addr} {kvs : List (Key × V)}
theorem VH (kd : KD X.K X.prog X.w d kvs) : OpR X (compareOp .In) (fun x y H Q => ∃ z, x = .str z ∧ y = .ref d ∧ Q (.bl (nV kvs (Sum.inr z)).isSome) H) := by
 intro pins s σ H x y v u Q I rx ry h
 obtain ⟨z, rfl, rfl, q⟩ := h
 cases (show u = Value.ref d from ry)
 obtain ⟨vs, rel, dd⟩ := kd.all s.heap I.kIn
 have rx' : RelV (kV (Sum.inr z)) v := rx
 refine wpAny_in_of (bT rx') kd.ne dd.mapOf ?_
 rw [← (rel.val (Sum.inr z)).isSome_eq]
 exact ⟨.bl _, H, I.tok _, rfl, q⟩
theorem ix_kd (kd : KD X.K X.prog X.w d kvs) : IxR X (fun x y H Q => ∃ z v, x = .ref d ∧ y = .str z ∧ nV kvs (Sum.inr z) = some v ∧ Q v H) := by
 intro value slice pins s σ H x y v u Q I rx ry h hs
 obtain ⟨z, r, rfl, rfl, l, q⟩ := h
 cases (show v = Value.ref d from rx)
 obtain ⟨vs, rel, dd⟩ := kd.all s.heap I.kIn
 have ry' : RelV (kV (Sum.inr z)) u := ry
 obtain ⟨w', hw, rw'⟩ := RelO.some_of (v := r) (o := valueAt vs (Sum.inr z)) (by rw [← l]; exact rel.val (Sum.inr z))
 obtain ⟨o, es, ep, ho, ex, _⟩ := id dd
 exact tail_any (ops := [.ref d, u]) (T := "dict") ⟨o, ho, ex.1⟩ PySem.F.slot_dict_getitem.lookup (wpAny_getItem_of (bT ry') dd.mapOf hw ⟨r, H, I.tok _, rw', q⟩) hs
theorem JM (K : W.Frag) (n : Ty) : ∀ Ts : List Ty, W.kitAny K (.type (mW n)) (Ts.map fun T => .type (mW T)) = some (Ts.any (zF n))
 | [] => rfl
 | T :: r => by
  have ih := JM K n r
  show (match W.kitOne K (.type (mW n)) (.type (mW T)) with | some true => some true | some false => W.kitAny K (.type (mW n)) (r.map fun T => .type (mW T)) | none => none) = _
  rw [JN, List.any_cons]
  cases zF n T with
  | true => rfl
  | false => rw [ih]; rfl
theorem Ja {pins : List (Addr × Obj)} {σ : St} {H : Hp} {s : Shared} {A : Around} {E : Value → Shared → Prop} {Q : Value → Shared → Prop} {b : Bool} {x : V} {u t : Value} {tp : Addr} {dd : Option Addr} {its : List Value} {k : Nat} {sl : Array (Option Value)} (I : Inv X pins σ H s) (rx : RelV x u) (ty : xR X.K H x t)
  (htp : s.heap.get? tp = some ⟨.type "tuple", dd, .seq its.toArray k, sl⟩) (e : W.kitAny X.K t its = some b) (h : ∀ tk, Q (.bool b) { s with toks := tk }) :
  wpAny (model X.prog X.w) A (call (.builtin "isinstance") [u, .ref tp]) Q E s := by
 cases ty with
 | non => cases (show u = Value.none from rx); exact W.kia_tup W.kitx_none I.kIn True.intro htp e (fun z => nomatch z) h
 | bl y => cases (show u = Value.bool y from rx); exact W.kia_tup W.kitx_bool I.kIn True.intro htp e (fun z => nomatch z) h
 | int i => obtain ⟨t, q⟩ := (show ∃ t, u = Value.int i t from rx); cases q; exact W.kia_tup W.kitx_int I.kIn True.intro htp e (fun z => nomatch z) h
 | str y => obtain ⟨t, q⟩ := (show ∃ t, u = Value.str y t from rx); cases q; exact W.kia_tup W.kitx_str I.kIn True.intro htp e (fun z => nomatch z) h
 | flt y => obtain ⟨t, q⟩ := (show ∃ t, u = Value.float y t from rx); cases q; exact W.kia_tup W.kitx_float I.kIn True.intro htp e (fun z => nomatch z) h
 | @lst a xs ea =>
  cases (show u = Value.ref a from rx)
  obtain ⟨_, _, n, _, h1⟩ := (show ObjOk X.prog X.w H s.heap a (.lst xs) from I.hok a _ ea)
  exact W.kia_tup W.kitx_list I.kIn ⟨_, h1, rfl⟩ htp e (fun z => nomatch z) h
 | @frz a ob xs ea =>
  cases (show u = Value.ref a from rx)
  obtain ⟨_, _, _, n, _, h1⟩ := (show ObjOk X.prog X.w H s.heap a (.frz ob (.lst xs)) from I.hok a _ ea)
  exact W.kia_tup W.kitx_list I.kIn ⟨_, h1, rfl⟩ htp e (fun z => nomatch z) h
 | @tup a xs ea =>
  cases (show u = Value.ref a from rx)
  obtain ⟨_, _, _, p⟩ := (show ObjOk X.prog X.w H s.heap a (.tup xs) from I.hok a _ ea)
  obtain ⟨o, h1, h2, _⟩ := p
  exact W.kia_tup W.kitx_tuple I.kIn ⟨o, h1, h2⟩ htp e (fun z => nomatch z) h
 | @dK a kvs ea =>
  cases (show u = Value.ref a from rx)
  obtain ⟨_, _, vs, _, p⟩ := (show ObjOk X.prog X.w H s.heap a (.dK kvs) from I.hok a _ ea)
  obtain ⟨o, es, ep, h1, h2, _⟩ := p
  exact W.kia_tup W.kitx_dict I.kIn ⟨o, h1, h2.1⟩ htp e (fun z => nomatch z) h
 | @dT a kvs ea =>
  cases (show u = Value.ref a from rx)
  obtain ⟨_, _, xs, _, o, es, ep, h1, h2, _⟩ := (show ObjOk X.prog X.w H s.heap a (.dT kvs) from I.hok a _ ea)
  exact W.kia_tup W.kitx_dict I.kIn ⟨o, h1, h2.1⟩ htp e (fun z => nomatch z) h
 | @ins a C dx fs ea cl ha hn htk hm =>
  cases (show u = Value.ref a from rx)
  obtain ⟨mA, O, _⟩ := JX I.hok ea
  obtain ⟨od, J, _⟩ := O.look
  exact W.kia_tup (W.kitx_own (cl.get _) cl.hd ha hn htk hm) I.kIn J htp e (fun z => nomatch z) h
theorem XM : ∀ {Ts : List Ty} {its : List Value}, Vals (Ts.map fun T => .ty (mW T)) its → its = Ts.map fun T => .type (mW T)
 | [], _, .nil => rfl
 | T :: r, _, .cons a b => by
  rw [List.map_cons, ← XM b]
  cases (show _ = Value.type (mW T) from a)
  rfl
theorem aC : pY X (.builtin "isinstance") (fun xs H Q => ∃ x p Ts n, xs = [x, .ref p] ∧ H p = some (.tup (List.map (fun T => V.ty (mW T)) Ts)) ∧ tyN H x = some n ∧ Q (.bl (Ts.any (zF n))) H) := by
 intro pins s σ H xs us Q I r h
 obtain ⟨x, p, Ts, n, rfl, hp, hn, q⟩ := h
 obtain ⟨u, w', rfl, rx, rp⟩ := Va r
 cases (show w' = Value.ref p from rp)
 obtain ⟨z, its, rv, o, h1, h2, m, h3⟩ := (show ObjOk X.prog X.w H s.heap p (.tup _) from I.hok p _ hp)
 have e := XM rv
 subst e
 obtain ⟨cls, dd, dat, sl⟩ := o
 simp only at h2 h3
 subst h2 h3
 exact Ja I rx (Jp hn) h1 (JM X.K n Ts) fun tk => ⟨.bl _, H, I.tok tk, rfl, q⟩
theorem kA (hu : X.A.units < cLine) : OpR X (compareOp .NotEq) (fun x y H Q => ∃ a b xs, x = .ref a ∧ y = .ref b ∧ SqL X.K H a xs ∧ SqL X.K H b [] ∧ Q (.bl (!xs.isEmpty)) H) := by
 intro pins s σ H x y v u Q I rx ry h
 obtain ⟨a, b, xs, rfl, rfl, ha, hb, q⟩ := h
 cases rx
 cases ry
 obtain ⟨its, r1, p1, _⟩ := I.list ha
 obtain ⟨its2, r2, p2, _⟩ := I.list hb
 have e2 : its2 = [] := Vals.zero r2
 subst e2
 cases xs with
 | nil =>
  have e1 : its = [] := Vals.zero r1
  subst e1
  exact SeqAt.RcNeAt.lists (e := fun _ => true) p1.isList p2.isList rfl hu (fun j h1 _ => absurd h1 (Nat.not_lt_zero _)) _ _ _ _ ⟨.bl false, H, I, rfl, q⟩
 | cons x0 xr =>
  cases r1 with
  | cons _ t => exact SeqAt.RcNeAt.lists_lengths p1.isList p2.isList (by simp) hu _ _ _ _ ⟨.bl true, H, I, rfl, q⟩
noncomputable def rInsert : V → List V → Hp → VK → Prop := fun x vs H Q => ∃ l xs i y, x = .ref l ∧ vs = [.int i, y] ∧ H l = some (.lst xs) ∧ 0 ≤ i ∧ i ≤ xs.length ∧ xs.length < sizeLine ∧ Q .non (upd H l (.lst (xs.take i.toNat ++ y :: xs.drop i.toNat)))
theorem QP : MtM X "list.insert" rInsert := by
 intro pins s σ H x vs v us Q I rx rv h
 obtain ⟨l, xs, i, y, rfl, rfl, hH, h0, h1, hz, q⟩ := h
 cases rx
 obtain ⟨u1, u2, rfl, r1, r2⟩ := rv.two
 obtain ⟨t, rfl⟩ := r1
 obtain ⟨z, its, n, r, hl, e⟩ := I.lstM hH
 have hn := rL
 refine call_meets F.slot_list_insert ⟨_, e, rfl⟩ F.entry_list_insert (F.args_list_insert_3 _ _ _)
  (AutoListH.list_insert_list_int_val_1 l its.toArray n i t u2 (by rw [fitsIndex_both (by omega) (by omega)]; exact Bool.false_ne_true) (by rw [List.size_toArray]; omega)) ⟨e, ?_⟩
 refine ⟨.non, _, I.lset (its' := its.take i.toNat ++ u2 :: its.drop i.toNat) hH e ?_ (Vals.append (r.take _) (.cons r2 (r.drop _))) ?_, rfl, q⟩
 ·have hk : (if i < 0 then (i + ((its.toArray.size : Nat) : Int)).toNat else min i.toNat its.toArray.size) = i.toNat := by
   rw [if_neg (by omega), List.size_toArray]
   omega
  show (its.toArray.extract 0 (if i < 0 then (i + ((its.toArray.size : Nat) : Int)).toNat else min i.toNat its.toArray.size)).push u2 ++ its.toArray.extract (if i < 0 then (i + ((its.toArray.size : Nat) : Int)).toNat else min i.toNat its.toArray.size) = _
  rw [hk]
  apply Array.toList_inj.mp
  simp
  exact List.take_of_length_le (by rw [List.length_drop]; exact Nat.le_refl _)
 ·rw [List.length_append, List.length_cons, List.length_take, List.length_drop]
  omega
noncomputable def rExtT : V → List V → Hp → VK → Prop := fun x vs H Q => ∃ l b xs zs, x = .ref l ∧ vs = [.ref b] ∧ H l = some (.lst xs) ∧ H b = some (.tup zs) ∧ xs.length + zs.length ≤ sizeLine ∧ Q .non (upd H l (.lst (xs ++ zs)))
end
end L2
namespace PySem.AutoSeq1
open PySem PySem.SeqAt PySem.MeetsSeq PySem.MeetsSeq2 PySem.MeetsSeq3
theorem vw_extend_tuple (l : Addr) (items : Array Value) (n : Nat) (b : Addr) (items2 : Array Value) (n2 : Nat) (dd : Option Addr) (sl : Array (Option Value)) (hs0 : ¬(!items.isEmpty && Builtin.List.listTooLong (items.size + items2.size)) = true) (hs1 : items.size ≤ sizeLine) (hs2 : items.size + items2.size ≤ sizeLine + 1) :
  Meets (Builtin.«list.extend» ⟨[.ref l, .ref b], []⟩) (fun _ R s => s.heap.get? l = some { cls := .type "list", dict := none, data := .seq items n, slots := #[] } ∧ s.heap.get? b = some { cls := .type "tuple", dict := dd, data := .seq items2 n2, slots := sl } ∧ R (.ok (.ret Value.none)) { s with heap := s.heap.update l (Obj.mapSeq fun x => x ++ items2), toks := s.toks }) :=
 .of_wp fun prog w A R s h => by
  obtain ⟨hp, g, d, tk, os⟩ := s; obtain ⟨hl, hb, h⟩ := h; have f1 := idx_int; have f2 := sub_tuple_tuple; have f3 := sub_list_list; have f4 := sub_tuple_list; have f5 := sub_list_tuple
  have hz' : (items ++ items2).size ≤ sizeLine + 1 := by rw [Array.size_append]; exact hs2
  wp_walk using (wpAny_updateSeq hl rfl (hz := hs1) (_hz' := hz')), wpAny_loadPart' hl, wpAny_loadPart' hb; exact ⟨_, rfl, h⟩
end PySem.AutoSeq1
namespace L2
open PySem PySem.Spec PyProof.Rows
section
variable {X : Cx}
theorem mt_extT : MtM X "list.extend" rExtT := by
 intro pins s σ H x vs v us Q I rx rv h
 obtain ⟨l, b, xs, zs, rfl, rfl, hH, hB, hz, q⟩ := h
 cases rx
 obtain ⟨u, rfl, ru⟩ := rv.one
 cases ru
 obtain ⟨z, its, n, r, hl, e⟩ := I.lstM hH
 obtain ⟨z2, its2, r2, o, e2, c2, n2, d2⟩ := (show ObjOk X.prog X.w H s.heap b (.tup zs) from I.hok b _ hB)
 have hl2 := r2.length
 obtain ⟨cls, dd, dat, sl⟩ := o
 simp only at c2 d2
 subst c2 d2
 have hsz : its.toArray.size + its2.toArray.size ≤ sizeLine := by rw [List.size_toArray, List.size_toArray]; omega
 have hlong : ¬ (!its.toArray.isEmpty && Builtin.List.listTooLong (its.toArray.size + its2.toArray.size)) = true := by
  rw [X4 hsz, Bool.and_false]
  exact Bool.false_ne_true
 refine call_meets F.slot_list_extend ⟨_, e, rfl⟩ F.entry_list_extend (F.args_list_extend_2 _ _)
  (AutoSeq1.vw_extend_tuple l its.toArray n b its2.toArray n2 dd sl hlong (by rw [List.size_toArray]; omega) (by omega)) ⟨e, e2, ?_⟩
 refine ⟨.non, _, I.lset (its' := its ++ its2) hH e (by simp) (r.append r2) ?_, rfl, q⟩
 rw [List.length_append]
 omega
noncomputable def rUpper : V → List V → Hp → VK → Prop := fun x vs H Q => ∃ z, x = .str z ∧ vs = [] ∧ z.length ≤ 1000000 ∧ ∀ y : Str, y.length ≤ 3 * z.length → Q (.str y) H
theorem VR : MtM X "str.upper" rUpper := by
 intro pins s σ H x vs v us Q I rx rv h
 obtain ⟨z, rfl, rfl, hz, q⟩ := h
 obtain ⟨t, rfl⟩ := rx
 have hus := rv.zero
 subst hus
 exact SCL.upper (by omega) fun hl => ⟨.str _, H, I.tok _, ⟨_, rfl⟩, q _ hl⟩
end
theorem uN {env : Env} : ∀ (names : List (Str × NameKind)) (acc : List (Str × Addr)), (∀ y ∈ names, y.2 = .free → ∃ c, env.cells.lookup y.1 = some c) → (∀ y c, acc.lookup y = some c → env.cells.lookup y = some c) →
  ∃ cl, (forIn names acc fun x r => (do
    if x.2 == NameKind.free then do
     let c ← cellOf env x.1
     pure (ForInStep.yield ((x.1, c) :: r))
    else pure (ForInStep.yield r) : Sem (ForInStep (List (Str × Addr))))) = pure cl ∧ (∀ y c, cl.lookup y = some c → env.cells.lookup y = some c) ∧ (∀ y ∈ names, y.2 = .free → ∃ c, cl.lookup y.1 = some c) ∧ ∀ y c, acc.lookup y = some c → ∃ c', cl.lookup y = some c'
 | [], acc, _, ha => ⟨acc, rfl, ha, fun y hy => absurd hy (by simp), fun y c h => ⟨c, h⟩⟩
 | (n, k) :: r, acc, hf, ha => by
  cases hk : (k == NameKind.free) with
  | false =>
   obtain ⟨cl, e, h1, h2, h3⟩ := uN r acc (fun y hy => hf y (List.mem_cons_of_mem _ hy)) ha
   refine ⟨cl, ?_, h1, fun y hy hy2 => ?_, h3⟩
   ·rw [List.forIn_cons]
    simp only [hk, Bool.false_eq_true, if_false]
    exact e
   ·rcases List.mem_cons.mp hy with rfl | hy
    ·have : k = .free := hy2
     rw [this] at hk
     exact absurd hk (by decide)
    ·exact h2 y hy hy2
  | true =>
   have ek : k = .free := by simpa using hk
   obtain ⟨c, hc⟩ := hf (n, k) List.mem_cons_self ek
   have hc : env.cells.lookup n = some c := hc
   have ha' : ∀ y c', ((n, c) :: acc).lookup y = some c' → env.cells.lookup y = some c' := fun y c' h => by
    rw [List.lookup_cons] at h
    cases hy : y == n with
    | true =>
     rw [hy] at h
     have : y = n := by simpa using hy
     subst this
     rw [hc]; exact h
    | false =>
     rw [hy] at h
     exact ha y c' h
   obtain ⟨cl, e, h1, h2, h3⟩ := uN r ((n, c) :: acc) (fun y hy => hf y (List.mem_cons_of_mem _ hy)) ha'
   have hco : cellOf env n = pure c := by unfold cellOf; rw [hc]
   refine ⟨cl, ?_, h1, fun y hy hy2 => ?_, fun y c' h => ?_⟩
   ·rw [List.forIn_cons]
    simp only [hk, if_true, hco]
    exact e
   ·rcases List.mem_cons.mp hy with rfl | hy
    ·exact h3 n c (by simp [List.lookup_cons])
    ·exact h2 y hy hy2
   ·cases hy : y == n with
    | true => exact h3 y c (by simp [List.lookup_cons, hy])
    | false => exact h3 y c' (by simp [List.lookup_cons, hy, h])
noncomputable def Zy (x : Str) (scope : Scope) (N : List Str) (sc : Scope) : Bool :=
 scope.names.all (fun y => decide (y.2 ≠ .cell) && (decide (y.2 ≠ .free) || decide (sc.names.lookup y.1 = some .cell)) && (decide (y.2 ≠ .local) || (decide (scope.names.lookup y.1 = some .local) && decide (y.1 ∉ N)))) && decide (scope.kind = .function) && decide (scope.names.lookup x = some .local)
theorem uW {X : Cx} {x : Str} {scope sc : Scope} {N : List Str} {L : Nat} (hN : X.N = N) (hsc : X.env.scope = sc) (hce : X.env.cells = cellsFrom L sc.names []) (h : Zy x scope N sc = true) : ∃ cl, tP X x scope cl := by
 subst hN hsc
 unfold Zy at h
 rw [Bool.and_eq_true, Bool.and_eq_true, List.all_eq_true] at h
 obtain ⟨⟨h1, h2⟩, h3⟩ := h
 have get : ∀ y ∈ scope.names, y.2 ≠ .cell ∧ (y.2 = .free → X.env.scope.names.lookup y.1 = some .cell) ∧ (y.2 = .local → scope.names.lookup y.1 = some .local ∧ y.1 ∉ X.N) := fun y hy => by
  have q := h1 y hy
  rw [Bool.and_eq_true, Bool.and_eq_true, Bool.or_eq_true, Bool.or_eq_true, Bool.and_eq_true] at q
  obtain ⟨⟨q1, q2⟩, q3⟩ := q
  refine ⟨of_decide_eq_true q1, fun e => ?_, fun e => ?_⟩
  ·rcases q2 with q2 | q2
   ·exact absurd e (of_decide_eq_true q2)
   ·exact of_decide_eq_true q2
  ·rcases q3 with q3 | ⟨q3, q4⟩
   ·exact absurd e (of_decide_eq_true q3)
   ·exact ⟨of_decide_eq_true q3, of_decide_eq_true q4⟩
 obtain ⟨cl, e, k1, k2, _⟩ := uN (env := X.env) scope.names [] (fun y hy hf => by rw [hce]; exact iI ((get y hy).2.1 hf)) (fun y c z => by simp at z)
 refine ⟨cl, ⟨?_, fun y hy => (get y hy).1, of_decide_eq_true h2, fun y hy q => ((get y hy).2.2 q).1, of_decide_eq_true h3, fun y hy q => ((get y hy).2.2 q).2, fun y hy q => ⟨?_, .inl ((get y hy).2.1 q), k2 y hy q⟩, k1⟩⟩
 ·unfold closureFor
  have e' := congrArg (fun m : Sem (List (Str × Addr)) => m >>= fun cs => (pure cs : Sem (List (Str × Addr)))) e
  simp only [pure_bind] at e'
  exact e'
 ·show X.env.scope.names.lookup y.1 ≠ some .local
  rw [(get y hy).2.1 q]
  decide
theorem kY {X : Cx} {elt iter : Expr} {x : Str} {px pos : Pos} {ifs : List Expr} {scope : Scope} {wi : TI} {tc : TT} {te : TE}
  (hc : X.calm = true) (hN : (x :: X.N).Nodup) (K : ∃ cl, tP X x scope cl) (hi : JI X (.Name x px) iter wi)
  (ht : ∀ cl fp C s₂ H₂, JF (hJ X x scope cl fp C s₂ H₂) ifs tc) (he : ∀ cl fp C s₂ H₂, JE (hJ X x scope cl fp C s₂ H₂) elt te)
  (hs : ∀ v, foldedSetIterable iter X.env v = pure v := by intro _; rfl) : JE X (.ListComp elt [⟨.Name x px, iter, ifs, 0⟩] scope pos) (XU wi tc te) :=
 let ⟨cl, K⟩ := K
 vY hc hN K hi (ht cl) (he cl) hs
section
variable {X : Cx} {o e : Expr} {es : List Expr} {to : TE} {t : TA} {name : Str} {apos cpos : Pos} {T id : String} {r : V → List V → Hp → VK → Prop}
theorem eF (pa : PlainAttrs T) (slot : Slot T name id) (hty : typeOf (.builtin id) = pure (.type "method_descriptor")) (hm : MtR X id r) (ho : JE X o to)
  (hbase : attributeBase o name X.env (eval o X.env) = eval o X.env := by rfl) (hline : (apos.endLine == cpos.line) = true := by rfl) : JE X (.Call (.Attribute o name apos) [] [] cpos) (tBM0 X.K T r to) := ⟨pe_bm0 pa slot hty hm ho.h hbase hline⟩
theorem uG (pa : PlainAttrs T) (slot : Slot T name id) (hty : typeOf (.builtin id) = pure (.type "method_descriptor")) (hm : MtR X id r) (ho : JE X o to) (ha : JA X (e :: es) t)
  (hbase : attributeBase o name X.env (eval o X.env) = eval o X.env := by rfl)
  (hfew : ((backTo cpos (starEach (e :: es) X.env)).all (fun x => !x.1) && (backToKw cpos (keywordEach [] X.env)).all (fun x => x.1.isSome)
   && decide ((e :: es).length + ([] : List Keyword).length + (if ([] : List Keyword).isEmpty then 0 else 1) < 30)) = true := by rfl)
  (hline : (apos.endLine == cpos.line) = true := by rfl) (hs : pJ e = true := by rfl) (hall : es.all pJ = true := by rfl) :
  JE X (.Call (.Attribute o name apos) (e :: es) [] cpos) (tBM X.K T r to t) := ⟨pe_bm pa slot hty hm ho.h ha.h hbase hfew hline (tV hs) (iD hall)⟩
end
structure JP (X : Cx) (pos : Pos) (keys : List (Option Expr)) (values : List Expr) (trs : List (TE × TE)) : Prop where
 h : PPs X pos keys values trs
section
variable {X : Cx} {pos : Pos}
theorem V1 : JP X pos [] [] [] := ⟨pps_nil⟩
theorem zU {k v : Expr} {ks : List (Option Expr)} {vs : List Expr} {tk tv : TE} {trs : List (TE × TE)} (hk : JE X k tk) (hv : JE X v tv) (hr : JP X pos ks vs trs) : JP X pos (some k :: ks) (v :: vs) ((tk, tv) :: trs) := ⟨Vt hk.h hv.h hr.h⟩
theorem JR {keys : List (Option Expr)} {values : List Expr} {trs : List (TE × TE)} (h : JP X pos keys values trs) (hall : keys.all (·.isSome) = true := by rfl) (hl : keys.length = values.length := by rfl) (h0 : keys.isEmpty = false := by rfl)
  (h15 : keys.length ≤ 15 := by decide) : JE X (.Dict keys values pos) (tDisp trs) := ⟨pe_disp h.h hall hl (fun e => by rw [e] at h0; cases h0) h15⟩
theorem m2_of {o e f : Expr} {m : Str} {apos cpos : Pos} (hb : attributeBase o m X.env (eval o X.env) = eval o X.env) (hl : (apos.endLine == cpos.line) = true) (he : pJ e = true) (hf : pJ f = true) : M2 X o m apos e f cpos := by
 have e1 : starEach [e, f] X.env = [(false, eval e X.env), (false, eval f X.env)] := by
  rw [tV he, tV hf]
  rfl
 refine ⟨hb, ?_, hl, ?_⟩
 ·rw [e1]; rfl
 ·rw [e1]; rfl
theorem Zh {o e f : Expr} {td ty tx : TE} {apos cpos : Pos} (hu : X.A.units + 1 < cLine) (ho : JE X o td) (he : JE X e ty) (hf : JE X f tx) (hb : attributeBase o "get" X.env (eval o X.env) = eval o X.env := by rfl) (hl : (apos.endLine == cpos.line) = true := by rfl)
  (h1 : pJ e = true := by rfl) (h2 : pJ f = true := by rfl) : JE X (.Call (.Attribute o "get" apos) [e, f] [] cpos) (Vh td ty tx) := ⟨VC hu ho.h he.h hf.h (m2_of hb hl h1 h2)⟩
end
end L2
namespace L2
open PySem PySem.Spec PyProof.Rows
noncomputable def dO (p : Params) (l : List (Str × Tok × Value × V)) : List DictEntry := l.map fun x => { hash := PyData.keyHash p x.1, key := .str x.1 x.2.1, val := x.2.2.1 }
noncomputable def valKvs (l : List (Str × Tok × Value × V)) : List (Key × V) := l.map fun x => (Sum.inr x.1, x.2.2.2)
theorem kd_ofV {K : W.Frag} {P : Program} {w : World} {d : Addr} {l : List (Str × Tok × Value × V)} {n : Nat} (h : K.lookup d = some { cls := .type "dict", data := .dict (dO w.params l).toArray n })
  (hn : (l.map (·.1)).Nodup) (hd : (d == sysModules) = false) (hh : ∀ x : Str, PyData.keyHash w.params x = hashStr w x) (hr : Vals (l.map (·.2.2.2)) (l.map (·.2.2.1))) : KD K P w d (valKvs l) := by
 refine ⟨fun hp X => ?_, hd⟩
 refine ⟨l.map fun x => (Sum.inr x.1, x.2.2.1), ?_, _, (dO w.params l).toArray, n, X d _ h, ⟨rfl, rfl, rfl⟩, rfl, ?_, ?_, ?_⟩
 ·clear h hn
  induction l with
  | nil => exact .nil
  | cons x r ih =>
   cases hr with
   | cons a b => exact .cons ⟨rfl, a⟩ (ih b)
 ·intro e he
  have he' : e ∈ dO w.params l := by simpa using he
  obtain ⟨x, _, rfl⟩ := List.mem_map.mp he'
  exact ⟨Sum.inr x.1, aM x.1 x.2.1, hh _⟩
 ·show Pairs (iZ P w) (dO w.params l) _
  clear h hn hr
  induction l with
  | nil => exact .nil
  | cons x r ih => exact .cons (aM x.1 x.2.1) rfl ih
 ·have e : (l.map fun x => ((Sum.inr x.1 : Key), x.2.2.1)).map (·.1) = (l.map (·.1)).map Sum.inr := by
   rw [List.map_map, List.map_map]; rfl
  rw [e]
  exact List.Pairwise.map Sum.inr (fun a b hab z => hab (Sum.inr.inj z)) hn
end L2
namespace L2
open PySem PySem.Spec PyProof.Rows
section
variable {X : Cx} {o i value : Expr} {td ty tv : TE} {pos pos' : Pos}
theorem op_din (hu : X.A.units + 1 < cLine) : OpR X (compareOp .In) (fun x y H Q => ∃ d ov, y = .ref d ∧ DGet H d x ov ∧ Q (.bl ov.isSome) H) := by
 intro pins s σ H x y v u Q I rx ry h
 obtain ⟨d, ov, rfl, g, q⟩ := h
 cases ry
 exact d_in hu I g rx fun s3 I3 => ⟨.bl ov.isSome, H, I3, rfl, q⟩
theorem js_dput (hu : X.A.units + 1 < cLine) (ho : JE X o td) (hi : JE X i ty) (hv : JE X value tv) (hs : swapsWith value (some (.Subscript o i pos')) pos.line X.env = pure false := by rfl) :
  JS X (.Assign [.Subscript o i pos'] value pos) (sDPut td ty tv) := ⟨ps_dput hu ho.h hi.h hv.h hs⟩
end
end L2
namespace PySem.SeqAt
open MeetsSeq
theorem ZQ (b : Str) (u : Tok) (l : Addr) (dd : Option Addr) (es : Array DictEntry) (n : Nat) (sl : Array (Option Value)) :
  Meets (Builtin.«str.__eq__» ⟨[.str b u, .ref l], []⟩) (fun _ R s => s.heap.get? l = some ⟨.type "dict", dd, .dict es n, sl⟩ ∧ R (.ok (.ret .notImplemented)) s) :=
 .of_wp fun prog w A R s h => by
  obtain ⟨hp, g, d, tk, os⟩ := s
  obtain ⟨hl, h⟩ := h
  wp_walk using wpAny_load hl
  exact ⟨_, rfl, h⟩
theorem XL (b : Str) (u : Tok) (l : Addr) (dd : Option Addr) (es : Array DictEntry) (n : Nat) (sl : Array (Option Value)) :
  Meets (Builtin.«dict.__eq__» ⟨[.ref l, .str b u], []⟩) (fun _ R s => s.heap.get? l = some ⟨.type "dict", dd, .dict es n, sl⟩ ∧ R (.ok (.ret .notImplemented)) s) :=
 .of_wp fun prog w A R s h => by
  obtain ⟨hp, g, d, tk, os⟩ := s
  obtain ⟨hl, h⟩ := h
  have f1 := F.sub_str_dict
  wp_walk using wpAny_load hl
  exact ⟨_, rfl, h⟩
theorem vw_eq_str_dict {A : Around} {s : Shared} {b : Str} {u : Tok} {l : Addr} {dd : Option Addr} {es : Array DictEntry} {n : Nat} {sl : Array (Option Value)} (hl : s.heap.get? l = some ⟨.type "dict", dd, .dict es n, sl⟩) (hu : A.units < cLine) :
  EqAt A s (.str b u) (.ref l) false := fun prog w E Q h => by
 unfold eqBool
 refine wpAny_holding (wpAny_ite_split (fun hab => absurd (eq_of_beq hab) nofun) (fun _ => wpAny_bind ?_))
 have R : RcAt A s (.str b u) (.ref l) false := fun prog w E Q h => rc_eq_decline_or (k := false) (typeIs_str s b u) ⟨_, hl, rfl⟩ (by decide) F.sub_dict_str F.slot_str_eq F.slot_dict_eq_refl
  (fun _ hq => call_meets F.slot_str_eq (typeIs_str s b u) F.entry_str_eq (F.args_str_eq_2 _ _) (ZQ b u l dd es n sl) ⟨hl, hq⟩)
  (fun _ hq => call_meets F.slot_dict_eq_refl ⟨_, hl, rfl⟩ F.entry_dict_eq (F.args_dict_eq_2 _ _) (XL b u l dd es n sl) ⟨hl, hq⟩)
  (fun _ hq => wpAny_of_eq (show isSame (.str b u) (.ref l) = pure false from rfl) hq) (.inr hu) h
 exact R prog w E _ (wpAny_truthy_bool h)
end PySem.SeqAt
namespace L2
open PySem PySem.Spec PyProof.Rows
section
variable {X : Cx}
theorem vC {A : Around} {s : Shared} {x : V} {v : Value} (hx : ∀ (z : Str) (t : Tok), SeqAt.EqAt A s (.str z t) v (eqV (.str z) x)) : ∀ {l : List Str} {us : List Value}, Vals (l.map V.str) us → ∀ u ∈ us, SeqAt.EqAt A s u v (eqU x u)
 | [], _, .nil => fun u hu => by cases hu
 | z :: l, u :: us, .cons r t => fun u' hu => by
  rcases List.mem_cons.mp hu with rfl | hu
  ·obtain ⟨t', rfl⟩ := r
   exact hx z t'
  ·exact vC hx t u' hu
theorem aF {A : Around} {pins : List (Addr × Obj)} {σ : St} {H : Hp} {s : Shared} {x : V} {v : Value} {c : Ty} (I : Inv X pins σ H s) (rx : RelV x v) (hc : tyN H x = some c) (hu : A.units < cLine) (z : Str) (t : Tok) :
  SeqAt.EqAt A s (.str z t) v (eqV (.str z) x) := by
 cases x with
 | non => exact lI (y := .str z) ⟨t, rfl⟩ rx rfl rfl
 | bl b => exact lI (y := .str z) ⟨t, rfl⟩ rx rfl rfl
 | int i => exact lI (y := .str z) ⟨t, rfl⟩ rx rfl rfl
 | str y => exact lI (y := .str z) ⟨t, rfl⟩ rx rfl rfl
 | ref a =>
  cases (show v = Value.ref a from rx)
  have hc : (H a).bind tyH = some c := hc
  cases e : H a with
  | none => rw [e] at hc; cases hc
  | some o =>
   rw [e] at hc
   have hc : tyH o = some c := hc
   have ok := I.hok a o e
   cases o with
   | lst xs =>
    obtain ⟨_, its, n, _, h1⟩ := (show ObjOk X.prog X.w H s.heap a (.lst xs) from ok)
    exact SeqAt.EqAt.str_list z t (items := its.toArray) ⟨_, h1, rfl, n, rfl⟩ hu
   | tup xs =>
    obtain ⟨_, its, _, p⟩ := (show ObjOk X.prog X.w H s.heap a (.tup xs) from ok)
    exact SeqAt.EqAt.str_tuple z t p hu
   | dK kvs =>
    obtain ⟨_, _, vs, _, p⟩ := (show ObjOk X.prog X.w H s.heap a (.dK kvs) from ok)
    obtain ⟨⟨cls, dd, dat, sl⟩, es, ep, h1, h2, h3, _⟩ := p
    have h2 := h2.1
    simp only at h2 h3
    subst h2 h3
    exact SeqAt.vw_eq_str_dict h1 hu
   | dT kvs =>
    obtain ⟨_, _, xs, _, ⟨cls, dd, dat, sl⟩, es, ep, h1, h2, h3, _⟩ := (show ObjOk X.prog X.w H s.heap a (.dT kvs) from ok)
    have h2 := h2.1
    simp only at h2 h3
    subst h2 h3
    exact SeqAt.vw_eq_str_dict h1 hu
   | frz ob u =>
    cases u with
    | lst xs =>
     obtain ⟨_, _, its, n, _, h1⟩ := (show ObjOk X.prog X.w H s.heap a (.frz ob (.lst xs)) from ok)
     exact SeqAt.EqAt.str_list z t (items := its.toArray) ⟨_, h1, rfl, n, rfl⟩ hu
    | _ => cases hc
   | _ => cases hc
 | byt b => cases hc
 | flt b => cases hc
 | ty b => cases hc
noncomputable def inS (l : List Str) : V → Bool
 | .str z => l.contains z
 | _ => false
theorem mP (x : V) : ∀ {l : List Str} {us : List Value}, Vals (l.map V.str) us → us.any (eqU x) = inS l x
 | [], _, .nil => by cases x <;> rfl
 | z :: l, u :: us, .cons r t => by
  obtain ⟨t', rfl⟩ := r
  rw [List.any_cons, mP x t]
  cases x with
  | str y =>
   show ((z == y) || l.contains y) = (z :: l).contains y
   rw [List.contains_cons]
   congr 1
   rw [Bool.eq_iff_iff, beq_iff_eq, beq_iff_eq]
   exact eq_comm
  | _ => rfl
noncomputable def rInS (K : W.Frag) (neg : Bool) : R2 := fun x y H Q => ∃ p l c, y = .ref p ∧ (SqL K H p (List.map V.str l) ∨ SqT K H p (List.map V.str l)) ∧ tyN H x = some c ∧ Q (.bl (if neg then !inS l x else inS l x)) H
theorem xC (hu : X.A.units + 1 < cLine) : OpR X (compareOp .In) (rInS X.K false) := by
 intro pins s σ H x y v u Q I rx ry h
 obtain ⟨p, l, c, rfl, hq, hc, q⟩ := h
 cases ry
 rcases hq with hq | hq
 ·obtain ⟨its, r, pl, hz⟩ := I.list hq
  refine SeqAt.in_listAt (eqU x) pl.isList (fun w hw => vC (aF I rx hc hu) r w (by simpa using hw)) ⟨.bl _, H, I, rfl, ?_⟩
  rw [show its.toArray.any (eqU x) = its.any (eqU x) by simp, mP x r]
  exact q
 ·obtain ⟨its, r, pl, hz⟩ := I.tuple hq
  refine SeqAt.in_tupleAt (eqU x) pl (fun w hw => vC (aF I rx hc hu) r w (by simpa using hw)) ⟨.bl _, H, I, rfl, ?_⟩
  rw [show its.toArray.any (eqU x) = its.any (eqU x) by simp, mP x r]
  exact q
theorem cV (hu : X.A.units + 1 < cLine) : OpR X (compareOp .NotIn) (rInS X.K true) := by
 intro pins s σ H x y v u Q I rx ry h
 obtain ⟨p, l, c, rfl, hq, hc, q⟩ := h
 cases ry
 rcases hq with hq | hq
 ·obtain ⟨its, r, pl, hz⟩ := I.list hq
  refine SeqAt.notIn_listAt (eqU x) pl.isList (fun w hw => vC (aF I rx hc hu) r w (by simpa using hw)) ⟨.bl _, H, I, rfl, ?_⟩
  rw [show its.toArray.any (eqU x) = its.any (eqU x) by simp, mP x r]
  exact q
 ·obtain ⟨its, r, pl, hz⟩ := I.tuple hq
  refine SeqAt.notIn_tupleAt (eqU x) pl (fun w hw => vC (aF I rx hc hu) r w (by simpa using hw)) ⟨.bl _, H, I, rfl, ?_⟩
  rw [show its.toArray.any (eqU x) = its.any (eqU x) by simp, mP x r]
  exact q
noncomputable def tKGet2 (d : Addr) (kvs : List (Key × V)) (td ty tx : TE) : TE := fun σ H Q => td σ H fun x H1 => x = .ref d ∧ ty σ H1 fun y H2 => tx σ H2 fun z H3 => ∃ k, y = kV k ∧ Q ((nV kvs k).getD z) H3
theorem KI {d : Addr} {kvs : List (Key × V)} {o e f : Expr} {td ty tx : TE} {apos cpos : Pos} (kd : KD X.K X.prog X.w d kvs) (ho : JE X o td) (he : JE X e ty) (hf : JE X f tx) (hb : attributeBase o "get" X.env (eval o X.env) = eval o X.env := by rfl) (hl : (apos.endLine == cpos.line) = true := by rfl)
  (h1 : pJ e = true := by rfl) (h2 : pJ f = true := by rfl) : JE X (.Call (.Attribute o "get" apos) [e, f] [] cpos) (tKGet2 d kvs td ty tx) := by
 refine ⟨fun pins s σ H Q I h => ?_⟩
 have m : M2 X o "get" apos e f cpos := m2_of hb hl h1 h2
 refine wpAny_Call_method m.base m.few m.line PySem.F.plainAttrs_dict PySem.F.slot_dict_get PySem.F.type_dict_get (thn (ho.h pins s σ H _ I h) fun u s1 ⟨x, H1, I1, rx, ex, q1⟩ => ?_)
 subst ex
 obtain rfl : u = Value.ref d := rx
 obtain ⟨vs, rel, dd⟩ := kd.all s1.heap I1.kIn
 refine ⟨dd.typeIs, fun b q => ?_, ?_⟩
 ·cases q
  obtain ⟨ob, _, _, e1, e2, _⟩ := dd
  exact ⟨ob, e1, e2.2.1⟩
 rw [m.trees]
 refine Calls.callWith_builtin rfl (Calls.evalArgs_plain (Calls.spliced_cons (thn (he.h pins s1 σ H1 _ I1 q1) fun iv s2 ⟨y, H2, I2, ry, q2⟩ =>
  Calls.spliced_cons (thn (hf.h pins s2 σ H2 _ I2 q2) fun fv s3 ⟨z, H3, I3, rz, k, ey, q3⟩ => Calls.spliced_nil ?_))))
 subst ey
 obtain ⟨vs, rel, dd⟩ := kd.all s3.heap I3.kIn
 exact call_meetsIn PySem.F.slot_dict_get dd.typeIs PySem.F.entry_dict_get (PySem.F.args_dict_get_3 _ _ _) (meets_dict_get_default (iZ X.prog X.w) d (bT ry) kd.ne fv) ⟨_, dd.mapOf, ⟨_, H3, I3.tok _, (rel.val k).getD rz, q3⟩⟩
end
end L2
namespace L2
open PySem PySem.Spec PyProof.Rows
section
variable {X : Cx}
noncomputable def rCatTA (K : W.Frag) : R2 := fun x y H Q => ∃ a b xs ys, x = .ref a ∧ y = .ref b ∧ SqT K H a xs ∧ SqT K H b ys ∧ xs.length + ys.length ≤ sizeLine ∧
 (xs = [] → Q (.ref b) H) ∧ (xs ≠ [] → ys = [] → Q (.ref a) H) ∧ (xs ≠ [] → ys ≠ [] → ∀ p, H p = none → Q (.ref p) (upd H p (.tup (xs ++ ys))))
theorem X0 : OpR X (binaryOp .Add) (rCatTA X.K) := by
 intro pins s σ H x y v u Q I rx ry h
 obtain ⟨a, b, xs, ys, rfl, rfl, ha, hb, hz, q0, q1, q2⟩ := h
 by_cases hx : xs = []
 ·cases rx
  cases ry
  obtain ⟨its, r1, p1, _⟩ := I.tuple ha
  obtain ⟨its2, r2, p2, _⟩ := I.tuple hb
  have e := r1.nil_iff.mpr hx
  subst e
  obtain ⟨⟨cls, dd, data, sl⟩, ho, hc, n, hd⟩ := id p1
  obtain ⟨⟨cls2, dd2, data2, sl2⟩, ho2, hc2, n2, hd2⟩ := id p2
  simp only at hc hd hc2 hd2
  subst hc hd hc2 hd2
  exact concat_meets ⟨_, ho, rfl⟩ ⟨_, ho2, rfl⟩ noFill_tuple_add seq_tuple_add PySem.F.slot_tuple_add PySem.F.entry_tuple_add (PySem.F.args_tuple_add_2 _ _)
   (tuple_addW0 a b _ its2.toArray n n2 dd dd2 sl sl2 rfl) ⟨ho, ho2, ⟨.ref b, H, I, rfl, q0 hx⟩⟩
 ·exact op_catT pins s σ H (.ref a) (.ref b) v u Q I rx ry ⟨a, b, xs, ys, rfl, rfl, ha, hb, hx, hz, q1 hx, q2 hx⟩
end
end L2
namespace PySem
open PySem.Spec PyProof.Rows PyProof.Rows.F
section
variable {κ : Type} [DecidableEq κ]
noncomputable def Zz (l : List κ) (k : κ) : List κ := if k ∈ l then l else l ++ [k]
noncomputable def qW (l : List κ) : List κ := l.foldl Zz []
theorem aH (l : List κ) (k : κ) : qW (l ++ [k]) = Zz (qW l) k := by simp [qW, List.foldl_append]
theorem VT (l : List κ) (k x : κ) : decide (x ∈ Zz l k) = (decide (x ∈ l) || decide (x = k)) := by
 unfold Zz
 by_cases h : k ∈ l
 ·by_cases e : x = k
  ·simp [e, h]
  ·simp [e, h]
 ·simp [h]
theorem wI (l : List κ) (k : κ) : (Zz l k).length = if decide (k ∈ l) = true then l.length else l.length + 1 := by
 unfold Zz
 by_cases h : k ∈ l <;> simp [h]
theorem oR (l : List κ) : ∀ i, (qW (l.take i)).length ≤ i
 | 0 => by simp [qW]
 | i + 1 => by
  have ih := oR l i
  by_cases h : i < l.length
  ·rw [← List.take_append_getElem h, aH, wI]
   by_cases hm : l[i] ∈ qW (List.take i l) <;> simp [hm] <;> omega
  ·rw [List.take_of_length_le (by omega)]
   rw [List.take_of_length_le (by omega)] at ih
   omega
end
section
variable {prog : Program} {w : World} {κ : Type} [DecidableEq κ] {knd : KeyKind prog w κ} {A : Around} {S I l : Addr} {items : Array Value} {ks : List κ}
theorem XW {h h' : Heap} {f : κ → Bool} {n : Nat} (x : h.SetOf knd S f n) (e : ∀ o, h.get? S = some o → h'.get? S = some o) : h'.SetOf knd S f n :=
 let ⟨o, es, ep, t, q, r⟩ := x
 ⟨o, es, ep, t, e o q, r⟩
theorem Xg {R : Result → Shared → Prop} (few : ks.length + 1 < scanBound) (calm : A.in1.handled = none) (nSI : S ≠ I) (nSl : S ≠ l) (nlI : l ≠ I)
  (key : ∀ i (h : i < ks.length), ∃ v, items[i]? = some v ∧ knd.is ks[i] v = true ∧ v.scannable = true) (stop : items[ks.length]? = none) : ∀ (r i : Nat) (s : Shared), i + r = ks.length → s.heap.IsListIter I l i → s.heap.IsList l items →
   s.heap.SetOf knd S (fun x => decide (x ∈ qW (ks.take i))) (qW (ks.take i)).length →
   (∀ (h : Heap) (tk : Nat), (∀ b o, b ≠ S → b ≠ I → s.heap.get? b = some o → h.get? b = some o) → h.SetOf knd S (fun x => decide (x ∈ qW ks)) (qW ks).length → R (.ok (.ret .none)) { s with heap := h, toks := tk }) →
   codeAny (model prog w) A (.builtin "set.update.loop" ⟨[.ref S, .ref I], []⟩) R s := by
 intro r
 induction r with
 | zero =>
  intro i s e it li st fin
  have ei : i = ks.length := by omega
  subst ei
  rw [List.take_length] at st
  refine codeAny_builtin F.entry_set_update_loop ?_
  have u : A.under (.builtin "set.update.loop" ⟨[.ref S, .ref I], []⟩) = A.in1 := Around.under_plainId F.plain_set_update_loop _
  rw [u]
  exact wpAny_bind (wpAny_pyNext_list_end calm it li stop fun h x => wpAny_pure (fin h s.toks (fun b o _ nb q => x b o nb q) (XW st fun o q => x S o nSI q)))
 | succ r ih =>
  intro i s e it li st fin
  have hi : i < ks.length := by omega
  obtain ⟨v, hv, kv, sv⟩ := key i hi
  refine codeAny_builtin F.entry_set_update_loop ?_
  have u : A.under (.builtin "set.update.loop" ⟨[.ref S, .ref I], []⟩) = A.in1 := Around.under_plainId F.plain_set_update_loop _
  rw [u]
  refine wpAny_bind (wpAny_pyNext_list_item it li hv fun h1 it1 b1 => ?_)
  have st1 := XW st fun o q => b1.extBut S o nSI q
  have li1 := li.at fun o q => b1.extBut l o nlI q
  have room : (qW (ks.take i)).length + 1 < scanBound := by
   have := oR ks i
   omega
  refine wpAny_bind (m := holding [v] (setAdd S v)) (wpAny_holding ?_)
  unfold setAdd
  refine wpAny_holding (wpAny_bind (knd.pyHash kv ?_))
  refine wpAny_setAddHashed_of (s := { s with heap := h1, toks := s.toks + 1 }) kv sv st1 room fun h2 b2 st2 => ?_
  have st3 : h2.SetOf knd S (fun x => decide (x ∈ qW (ks.take (i + 1)))) (qW (ks.take (i + 1))).length := by
   rw [← List.take_append_getElem hi, aH, wI]
   have ef : (fun x => decide (x ∈ Zz (qW (List.take i ks)) ks[i])) = fun x => (decide (x ∈ qW (List.take i ks)) || decide (x = ks[i])) := funext fun x => VT _ _ _
   rw [ef]
   exact st2
  exact wpAny_pure ⟨plainId_quiet F.plain_set_update_loop _, ih (i + 1) _ (by omega) (it1.at fun o q => (b2.2 I nSI.symm).trans q) (li1.at fun o q => (b2.2 l nSl.symm).trans q) st3 fun h tk keep st4 => fin h tk (fun b o n1 n2 q => keep b o n1 n2 ((b2.2 b n1).trans (b1.extBut b o n2 q))) st4⟩
end
noncomputable abbrev fF (led : Bool) : Obj := { cls := .type "set", dict := none, data := .set #[] 0 (.fresh 0 0 led) }
section
variable {prog : Program} {w : World} {κ : Type} [DecidableEq κ] {knd : KeyKind prog w κ} {A : Around} {E : Value → Shared → Prop} {s : Shared} {l : Addr} {items : Array Value} {ks : List κ}
theorem Xu {Z : Fin → Shared → Prop} (led : Bool) (calm : A.handled = none) (few : ks.length + 1 < scanBound) (li : s.heap.IsList l items) (stop : items[ks.length]? = none)
  (key : ∀ i (h : i < ks.length), ∃ v, items[i]? = some v ∧ knd.is ks[i] v = true ∧ v.scannable = true)
  (fin : ∀ (h : Heap) (tk : Nat), (∀ b o, s.heap.get? b = some o → h.get? b = some o) → h.SetOf knd s.heap.objs.size (fun x => decide (x ∈ qW ks)) (qW ks).length → Z (.done (.ret .none)) { s with heap := h, toks := tk }) :
  wpAny (model prog w) A (Builtin.«set.__init__» ⟨[.ref s.heap.objs.size, .ref l], []⟩) Z E { s with heap := s.heap.push (fF led) } := by
 have oS : (s.heap.push (fF led)).get? s.heap.objs.size = some (fF led) := Heap.get?_push_size _ rfl
 obtain ⟨⟨c1, d1, x1, y1⟩, q1, q2, nl, q3⟩ := li
 simp only at q2 q3
 subst q2
 subst q3
 have q4 : (s.heap.push (fF led)).get? l = some { cls := .type "list", dict := d1, data := .seq items nl, slots := y1 } := Heap.get?_push_of_some _ q1
 have q5 := F.sub_list_set
 have q6 := F.sub_list_frozenset
 have q7 : (Value.type "list" == Value.type "dict") = false := by decide
 unfold Builtin.«set.__init__» noKeywords Builtin.Frozenset.updateFrom
 generalize hP : pyIter = p
 wp_walk
 subst hP
 have li1 : (s.heap.push (fF led)).IsList l items := ⟨_, q4, rfl, nl, rfl⟩
 refine wpAny_pyIter_list li1 (wpAny_bind (wpAny_runValue ?_))
 have hl := Heap.lt_size q1
 have nSI : s.heap.objs.size ≠ (s.heap.push (fF led)).objs.size := by
  rw [Heap.size_push]
  exact Nat.ne_of_lt (Nat.lt_succ_self _)
 have nlI : l ≠ (s.heap.push (fF led)).objs.size := by
  rw [Heap.size_push]
  exact Nat.ne_of_lt (Nat.lt_succ_of_lt hl)
 refine Xg (knd := knd) few (by simp [calm]) nSI (Nat.ne_of_gt hl) nlI key stop ks.length 0 _ (Nat.zero_add _) ⟨_, Heap.get?_push_size _ rfl, rfl, rfl⟩ (li1.push _) ?_ fun h tk keep st => ?_
 ·exact (setObjOf_fresh (knd := knd) led).setOf (Heap.get?_push_of_some _ oS) (by unfold scanBound; omega)
 ·refine wpAny_pure (wpAny_pure (fin h tk (fun b o q => ?_) st))
  have hb := Heap.lt_size q
  refine keep b o (Nat.ne_of_lt hb) ?_ (Heap.get?_push_of_some _ (Heap.get?_push_of_some _ q))
  rw [Heap.size_push]
  exact Nat.ne_of_lt (Nat.lt_succ_of_lt hb)
theorem XV {Q : Value → Shared → Prop} (calm : A.handled = none) (few : ks.length + 1 < scanBound) (li : s.heap.IsList l items) (stop : items[ks.length]? = none)
  (key : ∀ i (h : i < ks.length), ∃ v, items[i]? = some v ∧ knd.is ks[i] v = true ∧ v.scannable = true)
  (fin : ∀ (h : Heap) (tk : Nat), (∀ b o, s.heap.get? b = some o → h.get? b = some o) → h.SetOf knd s.heap.objs.size (fun x => decide (x ∈ qW ks)) (qW ks).length → Q (.ref s.heap.objs.size) { s with heap := h, toks := tk }) :
  wpAny (model prog w) A (call (.type "set") [.ref l]) Q E s := by
 obtain ⟨c, tl, e1⟩ := F.called_set.mro
 obtain ⟨e2, e3, e4, e5, e6⟩ : _ ∧ _ ∧ _ ∧ _ ∧ _ := ⟨F.called_set.made, F.called_set.sub, F.called_set.notType, F.called_set.canCreate, F.typeCall_set_1 (.ref l)⟩
 refine wpAny_call (codeAny_of_tree (wpAny_pure ⟨Code.quiet_builtin _ (by decide +kernel), codeAny_builtin F.entry_type_call ?_⟩))
 have u : A.under (.builtin "type.__call__" ⟨[.type "set", .ref l], []⟩) = A.in1 := Around.under_plain (weight_type_call_type "set" [.ref l] []) rfl
 rw [u]
 repeat (any_goals (first | assumption | wp_step))
 refine codeAny_mono (code_set_new_1 (.ref l) (E := E) (Q₁ := fun o s₁ => ∃ led : Bool, o = .ref s.heap.objs.size ∧ s₁ = { s with heap := s.heap.push (fF led) }) fun led => ⟨led, rfl, rfl⟩) fun r s₁ hr => ?_
 match r, hr with
 | .error e, h => exact h
 | .ok (.ret o), h =>
  obtain ⟨led, rfl, rfl⟩ := h
  have ty : Shared.TypeIs { s with heap := s.heap.push (fF led) } (.ref s.heap.objs.size) "set" := ⟨_, Heap.get?_push_size _ rfl, rfl⟩
  obtain ⟨e7, e8⟩ := And.intro F.called_set.init.lookup (F.called_set.init.bind (.ref s.heap.objs.size))
  repeat (any_goals (first | assumption | wp_step))
  refine codeAny_call_builtin F.called_set.init.plain F.entry_set_init (check_set_init_1 ty (Xu led (by simp [calm]) few li stop key fun h tk keep st => ?_))
  repeat (any_goals (first | assumption | wp_step))
  exact fin h tk keep st
end
end PySem
namespace L2
open PySem PySem.Spec PyProof.Rows
noncomputable def yH (l : List Str) : Nat := (qW l).length
noncomputable def tL (d : Addr) (n : Nat) : Heap → Prop := fun h => ∃ o es ep t, h.get? d = some o ∧ o.ExactSet ∧ o.data = .set es ep t ∧ t.fits es.size = true ∧ es.size = n ∧ n < 4096
theorem Ju : ∀ {l : List Str} {us : List Value}, Vals (l.map V.str) us → ∀ i (h : i < l.length), ∃ t, us[i]? = some (.str l[i] t)
 | [], _, .nil, i, h => absurd h (Nat.not_lt_zero i)
 | z :: l, _, .cons r x, i, h => by
  obtain ⟨t', rfl⟩ := r
  cases i with
  | zero => exact ⟨t', rfl⟩
  | succ i =>
   obtain ⟨t, e⟩ := Ju x i (Nat.lt_of_succ_lt_succ h)
   exact ⟨t, by simpa using e⟩
theorem J2 (l : List Str) : yH l ≤ l.length := by
 have h := oR l l.length
 rw [List.take_length] at h
 exact h
section
variable {X : Cx}
theorem mS (hc : X.calm = true) : pY X (.type "set") (fun xs H Q => ∃ p l, xs = [.ref p] ∧ SqL X.K H p (List.map V.str l) ∧ l.length < 4094 ∧ ∀ d, H d = none → Q (.ref d) (upd H d (.ext (tL d (yH l))))) := by
 intro pins s σ H xs us Q I r h
 obtain ⟨p, l, rfl, hq, hl, q⟩ := h
 obtain ⟨u, rfl, rx⟩ := uH r
 cases rx
 obtain ⟨its, rv, pl, hz⟩ := I.list hq
 have hlen : its.length = l.length := by rw [← rv.length, List.length_map]
 refine XV (knd := strKind X.prog X.w) (ks := l) (I.ok.hd hc) (by unfold scanBound; omega) pl.isList (by simp [hlen]) (fun i hi => ?_) fun h' tk hk hS => ?_
 ·obtain ⟨t, e⟩ := Ju rv i hi
  exact ⟨_, by simpa using e, strKind_is _ _ _ _, rfl⟩
 obtain ⟨o, es, ep, t, h1, h2, h3, _, _, h4, h5, h6⟩ := hS
 have fr : H s.heap.objs.size = none := I.fresh
 refine ⟨.ref s.heap.objs.size, _, I.laid (t' := tk) (o := .ext (tL s.heap.objs.size (yH l))) (fun b ob e => hk b ob e) lR ?_, rfl, q _ fr⟩
 refine ⟨⟨o, es, ep, t, h1, h2, h3, h5, h6, Nat.lt_of_le_of_lt (J2 l) (by omega)⟩, ⟨o, h1⟩, ?_⟩
 rintro h1' h2' ⟨o', es', ep', t', k1, k2⟩ e
 exact ⟨o', es', ep', t', e _ k1, k2⟩
theorem fS : pY X (.builtin "len") (fun xs H Q => ∃ d n, xs = [.ref d] ∧ H d = some (.ext (tL d n)) ∧ Q (.int (n : Nat)) H) := by
 intro pins s σ H xs us Q I r h
 obtain ⟨d, n, rfl, hd, q⟩ := h
 obtain ⟨u, rfl, rx⟩ := uH r
 cases rx
 obtain ⟨⟨o, es, ep, t, h1, h2, h3, h4, rfl, h5⟩, _, _⟩ := (show ObjOk X.prog X.w H s.heap d (.ext (tL d n)) from I.hok d _ hd)
 exact call_len_set h1 h2 h3 h4 (by omega) ⟨.int _, H, I.tok _, ⟨_, rfl⟩, q⟩
end
theorem yA (l : List Str) : ∀ i, i ≤ l.length → ((l.take i).Nodup → qW (l.take i) = l.take i) ∧ (¬ (l.take i).Nodup → (qW (l.take i)).length < i)
 | 0, _ => ⟨fun _ => by rw [List.take_zero]; rfl, fun h => absurd (by rw [List.take_zero]; exact List.nodup_nil) h⟩
 | i + 1, hi => by
  obtain ⟨h1, h2⟩ := yA l i (by omega)
  have hg : l[i]? = some l[i] := List.getElem?_eq_getElem (by omega)
  have et : l.take (i + 1) = l.take i ++ [l[i]] := by rw [List.take_succ, hg]; rfl
  rw [et, aH]
  have hlen : (l.take i).length = i := by rw [List.length_take]; omega
  by_cases hn : (l.take i).Nodup
  ·rw [h1 hn]
   unfold Zz
   by_cases hm : l[i] ∈ l.take i
   ·rw [if_pos hm]
    refine ⟨fun h => ?_, fun _ => by omega⟩
    rw [List.nodup_append] at h
    exact absurd rfl (h.2.2 _ hm _ List.mem_cons_self)
   ·rw [if_neg hm]
    refine ⟨fun _ => rfl, fun h => absurd ?_ h⟩
    rw [List.nodup_append]
    refine ⟨hn, by simp, fun a ha b hb e => ?_⟩
    subst e
    have hb : a = l[i] := by simpa using hb
    exact hm (hb ▸ ha)
  ·refine ⟨fun h => absurd (List.nodup_append.mp h).1 hn, fun _ => ?_⟩
   have := h2 hn
   rw [wI]
   split <;> omega
theorem Xx (l : List Str) : yH l = l.length ↔ l.Nodup := by
 obtain ⟨h1, h2⟩ := yA l l.length lR
 rw [List.take_length] at h1 h2
 constructor
 ·intro h
  by_cases hn : l.Nodup
  ·exact hn
  ·have := h2 hn
   unfold yH at h
   omega
 ·intro h
  unfold yH
  rw [h1 h]
end L2
namespace L2
open PySem PySem.Spec PyProof.Rows
noncomputable abbrev Cx.at_ (X : Cx) (k : Nat) : Cx := { X with N := X.N.set k "?" }
noncomputable def ZA (k : Nat) (σ : St) : Prop := ∀ v, σ[k]? ≠ some (some v)
section
variable {X : Cx} {pins : List (Addr × Obj)} {σ : St} {H : Hp} {s : Shared} {k : Nat} {e : Expr} {te : TE} {st : Stmt} {t : TS}
theorem ok_at (ok : X.Ok) : (X.at_ k).Ok := by
 obtain ⟨h1, h2, h3, h4, h5, h6, h7, h8, h9, h10, h11, h12, h13, h14, h15, h16, h17, h18⟩ := ok
 exact ⟨h1, h2, h3, h4, h5, h6, h7, h8, h9, h10, h11, h12, h13, h14, h15, h16, h17, h18⟩
theorem VM (ok : (X.at_ k).Ok) : X.Ok := by
 obtain ⟨h1, h2, h3, h4, h5, h6, h7, h8, h9, h10, h11, h12, h13, h14, h15, h16, h17, h18⟩ := ok
 exact ⟨h1, h2, h3, h4, h5, h6, h7, h8, h9, h10, h11, h12, h13, h14, h15, h16, h17, h18⟩
theorem V8 (n : ZA k σ) (I : Inv X pins σ H s) : Inv (X.at_ k) pins σ H s := by
 obtain ⟨m, hm, hl⟩ := I.loc
 refine ⟨ok_at I.ok, I.os, I.bare, I.base, ⟨m, hm, fun i x v e1 e2 e3 => ?_⟩, I.cell, I.free, I.freeC, I.pin, I.hok, ?_⟩
 ·by_cases hi : k = i
  ·subst hi; exact absurd e2 (n v)
  ·have e1 : (X.N.set k "?")[i]? = some x := e1
   rw [List.getElem?_set_ne hi] at e1
   exact hl i x v e1 e2 e3
 ·show σ.length = (X.N.set k "?").length
  rw [List.length_set]
  exact I.len
theorem jF (n : ZA k σ) (I : Inv (X.at_ k) pins σ H s) : Inv X pins σ H s := by
 obtain ⟨m, hm, hl⟩ := I.loc
 refine ⟨VM I.ok, I.os, I.bare, I.base, ⟨m, hm, fun i x v e1 e2 e3 => ?_⟩, I.cell, I.free, I.freeC, I.pin, I.hok, ?_⟩
 ·by_cases hi : k = i
  ·subst hi; exact absurd e2 (n v)
  ·refine hl i x v ?_ e2 e3
   show (X.N.set k "?")[i]? = some x
   rw [List.getElem?_set_ne hi]
   exact e1
 ·have := I.len
  rw [this]
  show (X.N.set k "?").length = _
  rw [List.length_set]
theorem JQ (k : Nat) (he : JE (X.at_ k) e te) : JE X e (fun σ H Q => ZA k σ ∧ te σ H Q) :=
 ⟨fun pins s σ H Q I h => thn (he.h pins s σ H Q (V8 h.1 I) h.2) fun v s1 ⟨x, H1, I1, r1, q1⟩ => ⟨x, H1, jF h.1 I1, r1, q1⟩⟩
theorem VZ (k : Nat) (h : JS X st t) : JS X st (fun D σ H => t D (σ.set k none) H) :=
 ⟨fun pins s σ H D I q => h.h pins s (σ.set k none) H D (I.weak (by rw [List.length_set]) fun i v e => by
  by_cases hi : k = i
  ·subst hi
   rw [List.getElem?_set_self'] at e
   cases hk : σ[k]? with
   | none => rw [hk] at e; cases e
   | some x => rw [hk] at e; cases e
  ·rw [List.getElem?_set_ne hi] at e
   exact e) q⟩
end
end L2
namespace L2
open PySem PySem.Spec PyProof.Rows
section
variable {X : Cx}
theorem mC {i : Nat} {y x : Str} {py px pos spos : Pos} {elt iter : Expr} {ifs : List Expr} {scope : Scope} {cl : List (Str × Addr)} {wi : TI} {tc : TT} {te : TE}
  (hNd : X.N.Nodup) (hi : X.N[i]? = some y) (hy : Loc X.env.scope y) (hc : X.calm = true) (hN : (x :: X.N).Nodup) (K : tP X x scope cl) (hI : JI X (.Name x px) iter wi)
  (ht : ∀ fp C s₂ H₂, JF (hJ X x scope cl fp C s₂ H₂) ifs tc) (he : ∀ fp C s₂ H₂, JE (hJ X x scope cl fp C s₂ H₂) elt te)
  (hs : ∀ v, foldedSetIterable iter X.env v = pure v := by intro _; rfl)
  (hsw : swapsWith (.ListComp elt [⟨.Name x px, iter, ifs, 0⟩] scope pos) (some (.Name y py)) spos.line X.env = pure true := by rfl)
  (hf : X.fn y = true ∨ X.env.scope.names.lookup y = some .local := by first | exact .inl rfl | exact .inr rfl | assumption) :
  JS X (.Assign [.Name y py] (.ListComp elt [⟨.Name x px, iter, ifs, 0⟩] scope pos) spos) (Ki (XU wi tc te) (nT i)) := by
 refine ⟨fun pins s σ H D I h => ?_⟩
 rw [exec_Assign_Name_used _ _ _ _ hsw]
 refine wpAny_bind (wpAny_standAt (wpAny_bind (wpAny_bind (wpAny_comprehension_free (use := some (assign (.Name y py) X.env)) rfl hs K.clos K.kind K.names (thn (hI.h pins s σ H _ I h) fun xv s₁ h₁ => thn h₁ fun itv s₂ h₂ => ?_)))))
 obtain ⟨it, fp, tn, J, H₂, e, I₂, T, st₂, f₂, R⟩ := h₂
 subst e
 refine aI (Q := fun x H1 => nT i x σ H1 D.nx) hc hN K (fun fp C s₂ H₂ => (ht fp C s₂ H₂).h) (fun fp C s₂ H₂ => (he fp C s₂ H₂).h) I₂ T st₂ f₂ R ?_
 intro D' C H' s4 m hn hCL hC0 hCc hCsz I4 q
 refine wpAny_assign_Name (QH I4 hNd hi hy (v := .ref D') rfl (fun s5 I5 hsb => ?_) hf)
 obtain ⟨b, hsb, hb⟩ := hsb
 have hbC : C ≠ b := by
  rcases hb with rfl | hb
  ·exact hCL
  ·exact fun z => hCc _ _ hb z.symm
 refine ⟨m, hn.at' fun o e => (hsb.2 C hbC).trans e, fun h' hsb' => wpAny_pure (wpAny_pure ?_)⟩
 refine ⟨_, H', ?_, q⟩
 refine I5.turned (it := C) (t' := s5.toks) (fun b o hb e => (hsb'.2 b hb).trans e) hC0 hCL (.inr (Nat.le_trans I₂.sz hCsz)) hCc fun p hp z => ?_
 exact absurd (Nat.lt_of_lt_of_le (Heap.lt_size (I₂.pin p hp).1) (by rw [z]; exact hCsz)) (Nat.lt_irrefl _)
theorem js_drop {st : Stmt} {t : TS} (k : Nat) (h : JS (X.at_ k) st t) : JS X st (fun D σ H => ZA k σ ∧ t { nx := fun σ' H' => ZA k σ' ∧ D.nx σ' H', rt := D.rt, bk := fun σ' H' => ZA k σ' ∧ D.bk σ' H', ct := fun σ' H' => ZA k σ' ∧ D.ct σ' H' } σ H) :=
 ⟨fun pins s σ H D I q => thn (h.h pins s σ H _ (V8 q.1 I) q.2) fun f s1 z => by
  cases f with
  | next => obtain ⟨σ', H', I', n, z⟩ := z; exact ⟨σ', H', jF n I', z⟩
  | brk => obtain ⟨σ', H', I', n, z⟩ := z; exact ⟨σ', H', jF n I', z⟩
  | cont => obtain ⟨σ', H', I', n, z⟩ := z; exact ⟨σ', H', jF n I', z⟩
  | ret u =>
   obtain ⟨v, σ', H', I', r, z⟩ := z
   have n : ZA k (σ'.set k none) := fun v e => by
    rw [List.getElem?_set_self'] at e
    cases hk : σ'[k]? with
    | none => rw [hk] at e; cases e
    | some x => rw [hk] at e; cases e
   refine ⟨v, σ'.set k none, H', jF n (I'.weak (by rw [List.length_set]) fun i v e => ?_), r, z⟩
   by_cases hi : k = i
   ·subst hi; exact absurd e (n v)
   ·rw [List.getElem?_set_ne hi] at e
    exact e⟩
end
end L2
namespace PySem
open Builtin
theorem kH : fillsNumberSlot (.type "tuple") "mul" = pure false := fillsNumberSlot_seq (id := "tuple.__mul__") (r := some (.builtin "tuple.__rmul__")) F.slot_tuple_mul.lookup (by decide +kernel) F.slot_tuple_rmul.lookup (by decide +kernel)
theorem tT : seqRepeat? (.type "tuple") = pure (some (.builtin "tuple.__mul__")) := by
 unfold seqRepeat?
 rw [seqSlot_of (T := "tuple") (name := "__mul__") (id := "tuple.__mul__") F.slot_tuple_mul.lookup (by decide +kernel), seqSlot_of (T := "tuple") (name := "__rmul__") (id := "tuple.__rmul__") F.slot_tuple_rmul.lookup (by decide +kernel)]; rfl
theorem Ql (a : Int) (t : Tok) (l : Addr) (items : Array Value) (n : Nat) (dd : Option Addr) (sl : Array (Option Value)) : Meets (Builtin.«int.__rmul__» ⟨[.int a t, .ref l], []⟩) (fun _ R s => s.heap.get? l = some ⟨.type "tuple", dd, .seq items n, sl⟩ ∧ R (.ok (.ret Value.notImplemented)) s) :=
 .of_wp fun prog w A R s h => by obtain ⟨hp, g, d, tk, os⟩ := s; obtain ⟨hl, h⟩ := h; wp_walk using wpAny_load hl; exact ⟨_, rfl, h⟩
theorem ZR (l : Addr) (items : Array Value) (n : Nat) (dd : Option Addr) (sl : Array (Option Value)) (u : Tok) : Meets (Builtin.«tuple.__mul__» ⟨[.ref l, .int 1 u], []⟩) (fun _ R s => s.heap.get? l = some ⟨.type "tuple", dd, .seq items n, sl⟩ ∧ R (.ok (.ret (.ref l))) s) :=
 .of_wp fun prog w A R s h => by
  obtain ⟨hp, g, d, tk, os⟩ := s
  obtain ⟨hl, h⟩ := h
  unfold Builtin.«tuple.__mul__»
  wp_walk using wpAny_load hl
  exact ⟨_, rfl, h⟩
theorem XI (l : Addr) (items : Array Value) (n : Nat) (dd : Option Addr) (sl : Array (Option Value)) (u : Tok) (he : items.isEmpty = false) : Meets (Builtin.«tuple.__mul__» ⟨[.ref l, .int 0 u], []⟩) (fun _ R s => s.heap.get? l = some ⟨.type "tuple", dd, .seq items n, sl⟩ ∧ R (.ok (.ret (.ref s.heap.objs.size))) { s with heap := s.heap.push { cls := .type "tuple", data := .seq #[] } }) :=
 .of_wp fun prog w A R s h => by
  obtain ⟨hp, g, d, tk, os⟩ := s
  obtain ⟨hl, h⟩ := h
  unfold Builtin.«tuple.__mul__»
  wp_walk using wpAny_load hl
  exact ⟨_, rfl, h⟩
theorem XJ (l : Addr) (items : Array Value) (n : Nat) (dd : Option Addr) (sl : Array (Option Value)) (x : Int) (u : Tok) (he : items.isEmpty = false) (h2 : 2 ≤ x) (h3 : x < 64) (hs : items.size = 1) (hsz : ((List.replicate x.toNat items).foldl (fun a b => a ++ b) #[]).size ≤ sizeLine) : Meets (Builtin.«tuple.__mul__» ⟨[.ref l, .int x u], []⟩) (fun _ R s => s.heap.get? l = some ⟨.type "tuple", dd, .seq items n, sl⟩ ∧ R (.ok (.ret (.ref s.heap.objs.size))) { s with heap := s.heap.push { cls := .type "tuple", data := .seq ((List.replicate x.toNat items).foldl (fun a b => a ++ b) #[]) } }) :=
 .of_wp fun prog w A R s h => by
  obtain ⟨hp, g, d, tk, os⟩ := s
  obtain ⟨hl, h⟩ := h
  have e1 : (decide (x < -(2 ^ 63)) || decide (x ≥ 2 ^ 63)) = false := by
   rw [decide_eq_false (by omega), decide_eq_false (by omega)]; rfl
  have e2 : (x == 1) = false := by simpa using (show ¬ x = 1 by omega)
  have e3 : decide (x ≤ 0) = false := decide_eq_false (by omega)
  unfold Builtin.«tuple.__mul__»
  have e4 : Builtin.Tuple.tupleTooMany (items.size * x) = false := by
   rw [hs]
   unfold Builtin.Tuple.tupleTooMany
   have hsl : (64 : Nat) ≤ sizeLine := by decide
   exact decide_eq_false (by omega)
  wp_walk using wpAny_load hl
  refine wpAny_ite_false (by rw [e1]; rfl) ?_
  wp_walk using wpAny_load hl
  refine wpAny_ite_false (decide_eq_false (by rw [hs]; omega)) ?_
  wp_walk using wpAny_load hl
  refine wpAny_ite_false (by rw [e4]; rfl) ?_
  wp_walk using wpAny_load hl
  exact ⟨_, rfl, h⟩
end PySem
namespace L2
open PySem PySem.Spec PyProof.Rows
noncomputable def rRepT : R2 := fun x y H Q => ∃ l k z, x = .ref l ∧ y = .int k ∧ H l = some (.tup [z]) ∧ 0 ≤ k ∧ k < 64 ∧ (k = 1 → Q (.ref l) H) ∧ (k ≠ 1 → ∀ p, H p = none → Q (.ref p) (upd H p (.tup (List.replicate k.toNat z))))
theorem Zr (u : Value) : ∀ (k : Nat) (a : Array Value), (List.replicate k #[u]).foldl (fun a b => a ++ b) a = (a.toList ++ List.replicate k u).toArray
 | 0, a => by simp
 | k + 1, a => by
  rw [List.replicate_succ, List.foldl_cons, Zr u k]
  apply Array.toList_inj.mp
  simp [List.replicate_succ]
theorem XN {z : V} {u : Value} (r : RelV z u) : ∀ k : Nat, Vals (List.replicate k z) (List.replicate k u)
 | 0 => .nil
 | k + 1 => .cons r (XN r k)
section
variable {X : Cx}
theorem op_repT : OpR X (binaryOp .Mult) rRepT := by
 intro pins s σ H x y v u Q I rx ry h
 obtain ⟨l, k, z, rfl, rfl, hH, h0, h64, q1, q2⟩ := h
 cases rx
 obtain ⟨t, rfl⟩ := ry
 obtain ⟨hz, its, r, p⟩ := (show ObjOk X.prog X.w H s.heap l (.tup [z]) from I.hok l _ hH)
 obtain ⟨u, rfl, ru⟩ := r.one
 obtain ⟨⟨cls, dd, data, sl⟩, ho, hc, n, hd⟩ := id p
 simp only at hc hd
 subst hc hd
 have hsl : (64 : Nat) ≤ sizeLine := by decide
 refine wpAny_binaryOp_repeat_ref (T := "tuple") (U := "int") (by decide) ⟨_, ho, rfl⟩ (fun s' => typeIs_int s' k t) kH F.fills_int_mul F.slot_int_rmul tT F.slot_int_index.lookup
  (call_meets F.slot_int_rmul (typeIs_int s k t) F.entry_int_rmul (F.args_int_rmul_2 _ _) (Ql k t l _ n dd sl) ⟨ho, rfl, ⟨_, ho, rfl⟩, ?_⟩)
 by_cases h1 : k = 1
 ·subst h1
  exact call_meets F.slot_tuple_mul ⟨_, ho, rfl⟩ F.entry_tuple_mul (F.args_tuple_mul_2 _ _) (ZR l _ n dd sl t) ⟨ho, ⟨.ref l, H, I, rfl, q1 rfl⟩⟩
 ·by_cases h2 : k = 0
  ·subst h2
   refine call_meets F.slot_tuple_mul ⟨_, ho, rfl⟩ F.entry_tuple_mul (F.args_tuple_mul_2 _ _) (XI l _ n dd sl t rfl) ⟨ho, ?_⟩
   refine ⟨.ref s.heap.objs.size, _, I.laid (t' := s.toks) (o := .tup []) (fun b ob e => Heap.get?_push_of_some _ e) lR ?_, rfl, q2 (by decide) _ I.fresh⟩
   exact ⟨Nat.zero_le _, [], .nil, IsTup.new _ _⟩
  ·have e : (List.replicate k.toNat [u].toArray).foldl (fun a b => a ++ b) #[] = (List.replicate k.toNat u).toArray := by
    have := Zr u k.toNat #[]
    simpa using this
   refine call_meets F.slot_tuple_mul ⟨_, ho, rfl⟩ F.entry_tuple_mul (F.args_tuple_mul_2 _ _) (XJ l _ n dd sl k t rfl (by omega) h64 rfl (by rw [e, List.size_toArray, List.length_replicate]; omega)) ⟨ho, ?_⟩
   rw [e]
   refine ⟨.ref s.heap.objs.size, _, I.laid (t' := s.toks) (o := .tup (List.replicate k.toNat z)) (fun b ob e => Heap.get?_push_of_some _ e) lR ?_, rfl, q2 h1 _ I.fresh⟩
   exact ⟨by rw [List.length_replicate]; omega, _, XN ru _, IsTup.new _ _⟩
end
end L2
namespace L2
open PySem PySem.Spec PyProof.Rows
theorem Xe {H : Hp} {p : Addr} (h : H p = none) (o : HO) : Same H (upd H p o) := fun b u q => by rw [uX (uZ q h)]; exact q
section
variable {X : Cx}
noncomputable def rRepU : R2 := fun x y H Q => ∃ l k z, x = .ref l ∧ y = .int k ∧ H l = some (.tup [z]) ∧ 0 ≤ k ∧ k < 64 ∧ ∀ r H', Same H H' → H' r = some (.tup (List.replicate k.toNat z)) → (H r = none ∨ r = l) → Q (.ref r) H'
theorem Jz : OpR X (binaryOp .Mult) rRepU := by
 intro pins s σ H x y v u Q I rx ry h
 obtain ⟨l, k, z, e1, e2, hH, h0, h64, q⟩ := h
 exact op_repT pins s σ H x y v u Q I rx ry ⟨l, k, z, e1, e2, hH, h0, h64, fun h1 => q l H (Same.refl H) (by subst h1; exact hH) (.inr rfl), fun _ p hp => q p _ (Xe hp _) zQ (.inl hp)⟩
noncomputable def rCatU : R2 := fun x y H Q => ∃ a b xs ys, x = .ref a ∧ y = .ref b ∧ H a = some (.tup xs) ∧ H b = some (.tup ys) ∧ xs.length + ys.length ≤ sizeLine ∧ ∀ r H', Same H H' → H' r = some (.tup (xs ++ ys)) → (H r = none ∨ r = a ∨ r = b) → Q (.ref r) H'
theorem lO : OpR X (binaryOp .Add) rCatU := by
 intro pins s σ H x y v u Q I rx ry h
 obtain ⟨a, b, xs, ys, e1, e2, ha, hb, hz, q⟩ := h
 refine X0 pins s σ H x y v u Q I rx ry ⟨a, b, xs, ys, e1, e2, SqT.of ha, SqT.of hb, hz, fun h => q b H (Same.refl H) (by rw [h]; exact hb) (.inr (.inr rfl)), fun _ h => q a H (Same.refl H) (by rw [h, List.append_nil]; exact ha) (.inr (.inl rfl)), fun _ _ p hp => q p _ (Xe hp _) zQ (.inl hp)⟩
end
end L2
namespace HT
open PySem PyProof.Rows
section
variable {prog : Program} {w : World} {A : Around} {E : Value → Shared → Prop} {s : Shared}
theorem whole_of_tuple {t sl : Addr} {items : Array Value} {vl vu : Value} {lo hi : Option Int} {Q : Value → Shared → Prop} (ht : IsTup s.heap t items) (hs : s.heap.IsSliceOf sl vl vu .none) (pl : IsPart vl lo) (pu : IsPart vu hi)
  (hw : sIx items.size 0 lo = 0 ∧ sIx items.size items.size hi = items.size) (h : Q (.ref t) s) : wpAny (model prog w) A (getItem (.ref t) (.ref sl)) Q E s := by
 obtain ⟨os, hos, hcs, hds⟩ := id hs
 have hTs : s.TypeIs (.ref sl) "slice" := ⟨os, hos, hcs⟩
 unfold getItem
 try with_reducible refine wpAny_holding ?_
 first | refine wpAny_bind (wpAny_pure ?_) | skip
 refine wpAny_bind (wpAny_sequenceKey ht.typeIs (by decide) ?_)
 refine wpAny_bind (wpAny_callSpecial?_slot (name := Str.ofString "__getitem__") ht.typeIs PyProof.Rows.slot_tuple_getitem (wpAny_call_entry PyProof.Rows.slot_tuple_getitem ht.typeIs entry_tuple_getitem ?_ (args_tuple_getitem _ _)))
 show wpAny _ _ (Builtin.Tuple.tupleItemsOf (.ref t) >>= _) _ _ s
 refine wpAny_bind (tupleItemsOf_ ht ?_)
 refine wpAny_bind (wpAny_typeOf hTs ?_)
 rw [if_pos (by decide)]
 refine wpAny_bind (sM hs pl pu ?_)
 rw [hw.1, hw.2]
 show wpAny _ _ (if (((0 : Nat) : Int) == 0 && (1 : Int) == 1 && (items.size - 0) == items.size) = true then _ else _) _ _ s
 rw [if_pos (by simp)]
 unfold Builtin.Tuple.tupleIsExact
 refine wpAny_bind (wpAny_bind (wpAny_typeOf ht.typeIs (wpAny_pure ?_)))
 rw [if_pos (by decide)]
 first
  | exact wpAny_bind (wpAny_rule (wpAny_pure ⟨_, rfl, wpAny_pure h⟩))
  | exact wpAny_bind (wpAny_pure (wpAny_pure ⟨_, rfl, wpAny_pure h⟩))
  | exact wpAny_bind (wpAny_pure ⟨_, rfl, wpAny_pure h⟩)
end
end HT
namespace L2
open PySem PySem.Spec PyProof.Rows
section
variable {X : Cx}
noncomputable def rSlU : V → Option Int → Option Int → Hp → VK → Prop := fun x lo hi H Q => ∃ a xs, x = .ref a ∧ H a = some (.tup xs) ∧ ∀ r H', Same H H' → H' r = some (.tup (oX xs lo hi)) → (H r = none ∨ r = a) → Q (.ref r) H'
theorem Jw : SlR X rSlU := by
 intro pins s σ H x v vl vu lo hi sl Q I rx hs pl pu h
 obtain ⟨a, xs, rfl, hx, q⟩ := h
 by_cases hw : HT.sIx xs.length 0 lo = 0 ∧ HT.sIx xs.length xs.length hi = xs.length
 ·cases rx
  obtain ⟨its, r, ht, hz⟩ := I.tuple (SqT.of hx)
  have hlen : its.toArray.size = xs.length := by rw [List.size_toArray]; exact r.length.symm
  refine ⟨"tuple", _, PyProof.Rows.slot_tuple_getitem.lookup, ht.typeIs, ?_⟩
  refine HT.whole_of_tuple ht hs pl pu (by rw [hlen]; exact hw) ⟨.ref a, H, I, rfl, q a H (Same.refl H) ?_ (.inr rfl)⟩
  unfold oX
  rw [hw.1, hw.2, hx]
  simp
 ·exact uR pins s σ H _ v vl vu lo hi sl Q I rx hs pl pu ⟨a, xs, rfl, SqT.of hx, hw, fun p hp => q p _ (Xe hp _) zQ (.inl hp)⟩
end
end L2
namespace L2
open PySem PySem.Spec PyProof.Rows PySem.W
section
variable {X : Cx}
theorem VG (hu : X.A.units < cLine) : OpR X (compareOp .NotEq) (fun x y H Q => ∃ a b, ∃ l : List Str, x = .ref a ∧ y = .ref b ∧ SqL X.K H a (l.map V.str) ∧ SqL X.K H b (l.map V.str) ∧ Q (.bl false) H) := by
 intro pins s σ H x y v u Q I rx ry h
 obtain ⟨a, b, l, rfl, rfl, ha, hb, q⟩ := h
 cases rx
 cases ry
 obtain ⟨its, r1, p1, _⟩ := I.list ha
 obtain ⟨its2, r2, p2, _⟩ := I.list hb
 have l1 : its.length = l.length := by have := r1.length; rw [List.length_map] at this; omega
 have l2 : its2.length = l.length := by have := r2.length; rw [List.length_map] at this; omega
 have R := SeqAt.RcNeAt.lists (A := X.A) (e := fun _ => true) p1.isList p2.isList (by rw [List.size_toArray, List.size_toArray, l1, l2]) hu (fun j h1 h2 => by
  have hj : j < l.length := by rw [List.size_toArray] at h1; omega
  have hg : (l.map V.str)[j]? = some (V.str l[j]) := by rw [List.getElem?_map, List.getElem?_eq_getElem hj]; rfl
  obtain ⟨w1, g1, t1, e1⟩ := r1.get hg
  obtain ⟨w2, g2, t2, e2⟩ := r2.get hg
  have k1 : its.toArray[j] = .str l[j] t1 := by
   rw [List.getElem_toArray]
   rw [List.getElem?_eq_getElem (by omega)] at g1
   rw [Option.some.inj g1, e1]
  have k2 : its2.toArray[j] = .str l[j] t2 := by
   rw [List.getElem_toArray]
   rw [List.getElem?_eq_getElem (by omega)] at g2
   rw [Option.some.inj g2, e2]
  rw [k1, k2]
  have := SeqAt.EqAt.str_str (A := X.A.in1) (s := s) l[j] t1 l[j] t2
  rw [beq_self_eq_true] at this
  exact this)
 rw [show (!(List.range its.toArray.size).all fun _ => true) = false by simp] at R
 exact R _ _ _ _ ⟨.bl false, H, I, rfl, q⟩
theorem op_neT (hu : X.A.units < cLine) : OpR X (compareOp .NotEq) (fun x y H Q => ∃ a xs, x = .ref a ∧ y = .ref a ∧ SqT X.K H a xs ∧ Q (.bl false) H) := by
 intro pins s σ H x y v u Q I rx ry h
 obtain ⟨a, xs, rfl, rfl, ha, q⟩ := h
 cases rx
 cases ry
 obtain ⟨its, r1, p1, _⟩ := I.tuple ha
 have R := SeqAt.RcNeAt.tuples (A := X.A) (e := fun _ => true) p1 p1 hu (fun j h1 h2 => SeqAt.EqAt.same _)
 rw [show (!((List.range (min its.toArray.size its.toArray.size)).all (fun _ => true) && its.toArray.size == its.toArray.size)) = false by simp] at R
 exact R _ _ _ _ ⟨.bl false, H, I, rfl, q⟩
noncomputable def bI : V → Bool | .non => true | _ => false
noncomputable def aO : Value → Bool | .none => true | _ => false
theorem J9 : ∀ {xs : List V} {us : List Value}, Vals xs us → (∀ v ∈ xs, v = .non ∨ ∃ a, v = .ref a) → us.any aO = xs.any bI
 | _, _, .nil, _ => rfl
 | y :: xs, u :: us, .cons r t, f => by
  rw [List.any_cons, List.any_cons, J9 t fun v hv => f v (List.mem_cons_of_mem _ hv)]
  rcases f y List.mem_cons_self with rfl | ⟨a, rfl⟩
  ·cases (show u = Value.none from r); rfl
  ·cases (show u = Value.ref a from r); rfl
theorem Vals.memOf : ∀ {xs : List V} {us : List Value}, Vals xs us → ∀ u ∈ us, ∃ x ∈ xs, RelV x u
 | _, _, .nil => fun u hu => by cases hu
 | y :: xs, u :: us, .cons r t => fun u' hu => by
  rcases List.mem_cons.mp hu with rfl | hu
  ·exact ⟨y, List.mem_cons_self, r⟩
  ·obtain ⟨x, hx, hr⟩ := Vals.memOf t u' hu
   exact ⟨x, List.mem_cons_of_mem _ hx, hr⟩
theorem Kt (hu : X.A.units + 1 < cLine) : OpR X (compareOp .In) (fun x y H Q => ∃ p xs, x = .non ∧ y = .ref p ∧ SqL X.K H p xs ∧ (∀ v ∈ xs, v = .non ∨ ∃ a zs, v = .ref a ∧ SqL X.K H a zs) ∧ Q (.bl (xs.any bI)) H) := by
 intro pins s σ H x y v u Q I rx ry h
 obtain ⟨p, xs, rfl, rfl, hq, hx, q⟩ := h
 cases rx
 cases ry
 obtain ⟨its, r, pl, hz⟩ := I.list hq
 refine SeqAt.in_listAt aO pl.isList (fun w hw => ?_) ⟨.bl _, H, I, rfl, ?_⟩
 ·obtain ⟨x', hx', rx'⟩ := Vals.memOf r w (by simpa using hw)
  rcases hx x' hx' with rfl | ⟨a, zs, rfl, ha⟩
  ·cases (show w = Value.none from rx')
   exact SeqAt.EqAt.same _
  ·cases (show w = Value.ref a from rx')
   obtain ⟨_, _, pa, _⟩ := I.list ha
   exact SeqAt.EqAt.list_none pa.isList hu
 ·rw [show its.toArray.any aO = its.any aO by simp, J9 r fun v hv => (hx v hv).imp id fun ⟨a, _, e, _⟩ => ⟨a, e⟩]
  exact q
noncomputable def isS (z : Str) : Value → Bool
 | .str y _ => y == z
 | _ => false
noncomputable def rIndexS : V → List V → Hp → VK → Prop := fun x vs H Q => ∃ (l : Addr) (zs : List Str) (z : Str) (j : Nat), x = .ref l ∧ vs = [.str z] ∧ H l = some (.lst (zs.map V.str)) ∧ zs[j]? = some z ∧ (∀ m, m < j → zs[m]? ≠ some z) ∧ Q (.int j) H
theorem Kw : MtM X "list.index" rIndexS := by
 intro pins s σ H x vs v us Q I rx rv h
 obtain ⟨l, zs, z, j, rfl, rfl, hH, hj, hno, q⟩ := h
 cases rx
 obtain ⟨u, rfl, ru⟩ := rv.one
 obtain ⟨t, rfl⟩ := ru
 obtain ⟨hz, its, n, r, hl, e⟩ := I.lstM hH
 rw [List.length_map] at hz hl
 have hjl : j < zs.length := (List.getElem?_eq_some_iff.mp hj).1
 have l63 := rL
 have at_ : ∀ m (hm : m < its.toArray.size) (k : Str), zs[m]? = some k → ∃ t', its.toArray[m] = .str k t' := fun m hm k hk => by
  obtain ⟨w1, g1, t1, e1⟩ := r.get (show (zs.map V.str)[m]? = some (V.str k) by rw [List.getElem?_map, hk]; rfl)
  refine ⟨t1, ?_⟩
  rw [List.getElem_toArray]
  rw [List.getElem?_eq_getElem (by rw [List.size_toArray] at hm; exact hm)] at g1
  rw [Option.some.inj g1, e1]
 refine call_meets F.slot_list_index ⟨_, e, rfl⟩ F.entry_list_index (F.args_list_index_2 _ _)
  (SeqAt.list_indexAt l its.toArray n none #[] (.str z t) (isS z) j (by rw [List.size_toArray]; omega) (by omega) ?_ ?_) ⟨e, fun y hy => ?_, ⟨.int j, H, I.tok _, ⟨_, rfl⟩, q⟩⟩
 ·obtain ⟨t', e'⟩ := at_ j (by rw [List.size_toArray]; omega) z hj
  rw [e']
  exact beq_self_eq_true z
 ·intro m hm hmj
  have hml : m < zs.length := by rw [List.size_toArray] at hm; omega
  obtain ⟨t', e'⟩ := at_ m hm zs[m] (List.getElem?_eq_getElem hml)
  rw [e']
  show (zs[m] == z) = false
  rw [Bool.eq_false_iff]
  intro hb
  exact hno m hmj (by rw [List.getElem?_eq_getElem hml, eq_of_beq hb])
 ·obtain ⟨x', hx', rx'⟩ := Vals.memOf r y (by simpa using hy)
  obtain ⟨k, _, rfl⟩ := List.mem_map.mp hx'
  obtain ⟨t', rfl⟩ := rx'
  exact SeqAt.EqAt.str_str (A := X.A.in1) (s := s) k t' z t
theorem VY {i : Nat} {y x : Str} {py px pos spos : Pos} {elt iter : Expr} {ifs : List Expr} {scope : Scope} {wi : TI} {tc : TT} {te : TE}
  (hNd : X.N.Nodup) (hi : X.N[i]? = some y) (hy : Loc X.env.scope y) (hc : X.calm = true) (hN : (x :: X.N).Nodup) (K : ∃ cl, tP X x scope cl) (hI : JI X (.Name x px) iter wi)
  (ht : ∀ cl fp C s₂ H₂, JF (hJ X x scope cl fp C s₂ H₂) ifs tc) (he : ∀ cl fp C s₂ H₂, JE (hJ X x scope cl fp C s₂ H₂) elt te)
  (hs : ∀ v, foldedSetIterable iter X.env v = pure v := by intro _; rfl)
  (hsw : swapsWith (.ListComp elt [⟨.Name x px, iter, ifs, 0⟩] scope pos) (some (.Name y py)) spos.line X.env = pure true := by rfl)
  (hf : X.fn y = true ∨ X.env.scope.names.lookup y = some .local := by first | exact .inl rfl | exact .inr rfl | assumption) :
  JS X (.Assign [.Name y py] (.ListComp elt [⟨.Name x px, iter, ifs, 0⟩] scope pos) spos) (Ki (XU wi tc te) (nT i)) :=
 let ⟨cl, K⟩ := K
 mC hNd hi hy hc hN K hI (ht cl) (he cl) hs hsw hf
end
end L2
namespace L2
open PySem PySem.Spec PyProof.Rows
theorem sZ0 : 0 ≤ sizeLine := by decide
theorem sZ1 : 1 ≤ sizeLine := by decide
theorem sZ2 : 2 ≤ sizeLine := by decide
theorem sZ3 : 3 ≤ sizeLine := by decide
theorem sZ4 : 4 ≤ sizeLine := by decide
end L2
namespace K06
open PySem L2
noncomputable def top (i : Nat) : Stmt := PySem.Challenge.pw_viewwood_k06_what_is_a_house.main.body.getD i (.Pass ⟨0, 0, 0, 0⟩)
noncomputable abbrev eK : Stmt := top 4
noncomputable abbrev sW : Stmt := top 5
noncomputable abbrev gJ : Stmt := top 13
noncomputable abbrev bJ : Stmt := top 14
noncomputable abbrev uJ : Stmt := top 15
noncomputable abbrev yK : Stmt := top 21
noncomputable abbrev wJ : Stmt := top 22
noncomputable abbrev yJ : Stmt := top 23
noncomputable abbrev oK : Stmt := top 24
noncomputable abbrev pV : Stmt := top 25
noncomputable abbrev lZ : Stmt := top 26
noncomputable abbrev vK : Stmt := top 27
noncomputable abbrev jZ : Stmt := top 28
noncomputable abbrev gK : Stmt := top 29
noncomputable abbrev bK : Stmt := top 30
noncomputable abbrev eJ : Stmt := top 31
noncomputable abbrev nW : Stmt := top 36
noncomputable abbrev aK : Stmt := top 37
noncomputable abbrev qV : Stmt := top 38
noncomputable abbrev wK : Stmt := top 39
noncomputable abbrev dW : Stmt := top 40
noncomputable abbrev wG : Stmt := top 41
noncomputable abbrev kG : Stmt := top 43
noncomputable abbrev xV : Stmt := top 44
noncomputable abbrev eV : Stmt := top 45
noncomputable abbrev fZ : Stmt := top 46
noncomputable abbrev dZ : Stmt := top 47
noncomputable abbrev eY : Stmt := top 48
noncomputable abbrev kK : Stmt := top 49
noncomputable abbrev vG : Stmt := top 50
noncomputable abbrev tK : Stmt := top 51
noncomputable abbrev tJ : Stmt := top 52
noncomputable abbrev lW : Stmt := top 53
noncomputable abbrev fV : Stmt := top 54
noncomputable abbrev uK : Stmt := top 55
noncomputable abbrev nJ : Stmt := top 56
noncomputable abbrev eZ : Stmt := top 57
noncomputable abbrev vJ : Stmt := top 58
noncomputable abbrev oJ : Stmt := top 59
noncomputable abbrev sJ : Stmt := top 60
noncomputable abbrev rJ : Stmt := top 61
noncomputable abbrev lJ : Stmt := top 62
noncomputable abbrev mV : Stmt := top 63
noncomputable abbrev cW : Stmt := top 64
noncomputable abbrev rW : Stmt := top 65
noncomputable abbrev kB : Stmt := top 66
set_option genInjectivity false in
set_option genSizeOfSpec false in
structure Adr where
 is_number : Addr
 vP : FuncData
 is_name : Addr
 gS : FuncData
 is_reckoning : Addr
 cU : FuncData
 inner_things : Addr
 lU : FuncData
 stands_alone : Addr
 fU : FuncData
 lines_fit : Addr
 zP : FuncData
 inner_lines : Addr
 wM : FuncData
 turns_within : Addr
 mU : FuncData
 line_fits : Addr
 jP : FuncData
 key_fits : Addr
 kN : FuncData
 reckoning_fits : Addr
 oY : FuncData
 pairs_fit : Addr
 qP : FuncData
 begins_with_names : Addr
 xW : FuncData
 hands_fit : Addr
 yP : FuncData
 hand_fits : Addr
 uP : FuncData
 change_fits : Addr
 yM : FuncData
 is_part : Addr
 uS : FuncData
 boxes_fit : Addr
 gP : FuncData
 is_house : Addr
 yN : FuncData
 names_only : Addr
 iF : FuncData
 part_of : Addr
 jS : FuncData
 behind : Addr
 tI : FuncData
 Xr : Addr
 sI : FuncData
 aR : Addr
 oI : FuncData
 oO : Addr
 wS : FuncData
 zY : Addr
 dU : FuncData
 aY : Addr
 dG : FuncData
 Zf : Addr
 Xz : FuncData
 qH : Addr
 kS : FuncData
 iR : Addr
 kP : FuncData
 zH : Addr
 xP : FuncData
 mB : Addr
 kM : FuncData
 sO : Addr
 vS : FuncData
 uC : Addr
 xN : FuncData
 rF : Addr
 qD : FuncData
 yB : Addr
 zM : FuncData
 iY : Addr
 cG : FuncData
 fB : Addr
 vM : FuncData
 bB : Addr
 xM : FuncData
 uB : Addr
 jM : FuncData
 wB : Addr
 qM : FuncData
 tF : Addr
 zD : FuncData
 yC : Addr
 jN : FuncData
 nO : Addr
 xS : FuncData
 tO : Addr
 yS : FuncData
 law : Addr
 Zv : FuncData
 t_BOUND : Tok
 Kh : Tok
 kE : Tok
 NAMING : Addr
 JOINING : Addr
 LINE_SIZES : Addr
 INNER_PLACES : Addr
 oZ : Addr
 sZ : Addr
 nZ : Addr
 rZ : Addr
 hZ : Addr
 CHANGING : Addr
 lN : Tok
 Q9 : Tok
 XQ : Tok
 Qm : Tok
 XR : Tok
 Xa : Tok
 Q7 : Tok
 Q8 : Tok
structure Txt (P : Program) (w : World) (K : W.Frag) (mg : Str → Option Value) (a : Adr) : Prop where
 We : mg "BOUND" = some (.int 1000000000 a.t_BOUND)
 Wd : mg "LETTERS" = some (.str "abcdefghijklmnopqrstuvwxyz" a.Kh)
 Qv : mg "LONGEST_NAME" = some (.int 8 a.kE)
 gNAMING : mg "NAMING" = some (.ref a.NAMING)
 qNAMING : ∀ H : Hp, SqT K H a.NAMING [.str "take", .str "box", .str "down", .str "turn"]
 Zq : mg "JOINING" = some (.ref a.JOINING)
 Zx : KD K P w a.JOINING [(Sum.inr "add", .int 2), (Sum.inr "times", .int 2), (Sum.inr "less", .int 2), (Sum.inr "pick", .int 3)]
 Zp : mg "LINE_SIZES" = some (.ref a.LINE_SIZES)
 Zw : KD K P w a.LINE_SIZES [(Sum.inr "plain", .int 6), (Sum.inr "part", .int 4), (Sum.inr "give", .int 5), (Sum.inr "when", .int 4), (Sum.inr "each", .int 4)]
 Qw : mg "INNER_PLACES" = some (.ref a.INNER_PLACES)
 Qx : KD K P w a.INNER_PLACES [(Sum.inr "plain", .ref a.oZ), (Sum.inr "part", .ref a.sZ), (Sum.inr "give", .ref a.nZ), (Sum.inr "when", .ref a.rZ), (Sum.inr "each", .ref a.hZ)]
 jO : ∀ H : Hp, SqT K H a.oZ [.int 5]
 zO : ∀ H : Hp, SqT K H a.sZ []
 qO : ∀ H : Hp, SqT K H a.nZ [.int 4]
 aT : ∀ H : Hp, SqT K H a.rZ [.int 2, .int 3]
 eT : ∀ H : Hp, SqT K H a.hZ [.int 3]
 KQ : mg "CHANGING" = some (.ref a.CHANGING)
 Kn : ∀ H : Hp, SqT K H a.CHANGING [.str "set", .str "add", .str "times"]
 zS : mg "MOST_RECKONINGS" = some (.int 20 a.lN)
 Zn : mg "MOST_LINES" = some (.int 30 a.Q9)
 Je : mg "MOST_DEEP" = some (.int 6 a.XQ)
 Xw : mg "MOST_EACHES" = some (.int 2 a.Qm)
 Jf : mg "LAST_RANK" = some (.int 3 a.XR)
 Zo : mg "MOST_BOXES" = some (.int 4 a.Xa)
 Zl : mg "MOST_WORKS" = some (.int 4 a.Q7)
 Zm : mg "MOST_PARTS" = some (.int 6 a.Q8)
 z_abs : mg "abs" = none
 zE : mg "all" = none
 wR : mg "bool" = none
 Jm : mg "int" = none
 rQ : mg "isinstance" = none
 aX : mg "len" = none
 eD : mg "list" = none
 z_max : mg "max" = none
 vF : mg "range" = none
 K6 : mg "set" = none
 jT : mg "str" = none
 tX : mg "tuple" = none
 cL : mg "is_number" = some (.ref a.is_number)
 rP : Fun K "is_number" "is_number" eK a.is_number a.vP
 eM : mg "is_name" = some (.ref a.is_name)
 zT : Fun K "is_name" "is_name" sW a.is_name a.gS
 kI : mg "is_reckoning" = some (.ref a.is_reckoning)
 iU : Fun K "is_reckoning" "is_reckoning" gJ a.is_reckoning a.cU
 lL : mg "inner_things" = some (.ref a.inner_things)
 qB : Fun K "inner_things" "inner_things" bJ a.inner_things a.lU
 jI : mg "stands_alone" = some (.ref a.stands_alone)
 eU : Fun K "stands_alone" "stands_alone" uJ a.stands_alone a.fU
 X9 : mg "lines_fit" = some (.ref a.lines_fit)
 dP : Fun K "lines_fit" "lines_fit" yK a.lines_fit a.zP
 cH : mg "inner_lines" = some (.ref a.inner_lines)
 lM : Fun K "inner_lines" "inner_lines" wJ a.inner_lines a.wM
 zI : mg "turns_within" = some (.ref a.turns_within)
 tU : Fun K "turns_within" "turns_within" yJ a.turns_within a.mU
 Za : mg "line_fits" = some (.ref a.line_fits)
 cP : Fun K "line_fits" "line_fits" oK a.line_fits a.jP
 Z7 : mg "key_fits" = some (.ref a.key_fits)
 fN : Fun K "key_fits" "key_fits" pV a.key_fits a.kN
 iJ : mg "reckoning_fits" = some (.ref a.reckoning_fits)
 tY : Fun K "reckoning_fits" "reckoning_fits" lZ a.reckoning_fits a.oY
 uT : mg "pairs_fit" = some (.ref a.pairs_fit)
 pP : Fun K "pairs_fit" "pairs_fit" vK a.pairs_fit a.qP
 lK : mg "begins_with_names" = some (.ref a.begins_with_names)
 vW : Fun K "begins_with_names" "begins_with_names" jZ a.begins_with_names a.xW
 Zc : mg "hands_fit" = some (.ref a.hands_fit)
 nP : Fun K "hands_fit" "hands_fit" gK a.hands_fit a.yP
 Zd : mg "hand_fits" = some (.ref a.hand_fits)
 sP : Fun K "hand_fits" "hand_fits" bK a.hand_fits a.uP
 Qu : mg "change_fits" = some (.ref a.change_fits)
 rM : Fun K "change_fits" "change_fits" eJ a.change_fits a.yM
 KB : mg "is_part" = some (.ref a.is_part)
 qT : Fun K "is_part" "is_part" nW a.is_part a.uS
 Ze : mg "boxes_fit" = some (.ref a.boxes_fit)
 oP : Fun K "boxes_fit" "boxes_fit" aK a.boxes_fit a.gP
 Z8 : mg "is_house" = some (.ref a.is_house)
 pN : Fun K "is_house" "is_house" qV a.is_house a.yN
 Xp : mg "names_only" = some (.ref a.names_only)
 xD : Fun K "names_only" "names_only" wK a.names_only a.iF
 QQ : mg "part_of" = some (.ref a.part_of)
 rS : Fun K "part_of" "part_of" dW a.part_of a.jS
 vI : mg "behind" = some (.ref a.behind)
 Qk : Fun K "behind" "behind" wG a.behind a.tI
 VU : mg "_law_tape" = some (.ref a.Xr)
 Qi : Fun K "_law_tape" "_law_tape" kG a.Xr a.sI
 kZ : mg "_law_draw" = some (.ref a.aR)
 Qj : Fun K "_law_draw" "_law_draw" xV a.aR a.oI
 Kz : mg "_law_names" = some (.ref a.oO)
 aS : Fun K "_law_names" "_law_names" eV a.oO a.wS
 xI : mg "_law_small_part" = some (.ref a.zY)
 aU : Fun K "_law_small_part" "_law_small_part" fZ a.zY a.dU
 wO : mg "_law_small_house" = some (.ref a.aY)
 lG : Fun K "_law_small_house" "_law_small_house" dZ a.aY a.dG
 JJ : mg "_law_odd" = some (.ref a.Zf)
 XH : Fun K "_law_odd" "_law_odd" eY a.Zf a.Xz
 Ky : mg "_law_other" = some (.ref a.qH)
 tS : Fun K "_law_other" "_law_other" kK a.qH a.kS
 Zb : mg "_law_bent" = some (.ref a.iR)
 vR : Fun K "_law_bent" "_law_bent" vG a.iR a.kP
 lV : mg "_law_is_name" = some (.ref a.zH)
 lP : Fun K "_law_is_name" "_law_is_name" tK a.zH a.xP
 aB : mg "_law_is_number" = some (.ref a.mB)
 dM : Fun K "_law_is_number" "_law_is_number" tJ a.mB a.kM
 QR : mg "_law_nodes" = some (.ref a.sO)
 eS : Fun K "_law_nodes" "_law_nodes" lW a.sO a.vS
 Z6 : mg "_law_is_sum" = some (.ref a.uC)
 mN : Fun K "_law_is_sum" "_law_is_sum" fV a.uC a.xN
 iV : mg "_law_sum_fits" = some (.ref a.rF)
 kD : Fun K "_law_sum_fits" "_law_sum_fits" uK a.rF a.qD
 dH : mg "_law_pairs_fit" = some (.ref a.yB)
 mM : Fun K "_law_pairs_fit" "_law_pairs_fit" nJ a.yB a.zM
 yO : mg "_law_change_fits" = some (.ref a.iY)
 tG : Fun K "_law_change_fits" "_law_change_fits" eZ a.iY a.cG
 Qt : mg "_law_hands_fit" = some (.ref a.fB)
 cM : Fun K "_law_hands_fit" "_law_hands_fit" vJ a.fB a.vM
 Qs : mg "_law_line_fits" = some (.ref a.bB)
 pM : Fun K "_law_line_fits" "_law_line_fits" oJ a.bB a.xM
 Qr : mg "_law_lines_fit" = some (.ref a.uB)
 fM : Fun K "_law_lines_fit" "_law_lines_fit" sJ a.uB a.jM
 Qq : mg "_law_part_fits" = some (.ref a.wB)
 bM : Fun K "_law_part_fits" "_law_part_fits" rJ a.wB a.qM
 wC : mg "_law_is_house" = some (.ref a.tF)
 vD : Fun K "_law_is_house" "_law_is_house" lJ a.tF a.zD
 Z5 : mg "_law_turned" = some (.ref a.yC)
 bN : Fun K "_law_turned" "_law_turned" mV a.yC a.jN
 iP : mg "_law_right" = some (.ref a.nO)
 nS : Fun K "_law_right" "_law_right" cW a.nO a.xS
 KA : mg "_law_named" = some (.ref a.tO)
 iS : Fun K "_law_named" "_law_named" rW a.tO a.yS
 m_law : mg "law" = some (.ref a.law)
 F_law : Fun K "law" "law" kB a.law a.Zv
section
variable {P : Program} {w : World} {K : W.Frag} {mg : Str → Option Value} {a : Adr}
theorem Txt.k_is_number (T : Txt P w K mg a) : W.keepIn K (.ref a.is_number) = true := T.rP.kp
theorem Txt.b_is_number (T : Txt P w K mg a) : Binds K a.vP ["thing"] [] := T.rP.binds (ps := ["thing"]) fun _ _ _ _ _ _ us hl => match us, hl with | [_], _ => rfl
theorem Txt.k_is_name (T : Txt P w K mg a) : W.keepIn K (.ref a.is_name) = true := T.zT.kp
theorem Txt.b_is_name (T : Txt P w K mg a) : Binds K a.gS ["thing"] [] := T.zT.binds (ps := ["thing"]) fun _ _ _ _ _ _ us hl => match us, hl with | [_], _ => rfl
theorem Txt.k_is_reckoning (T : Txt P w K mg a) : W.keepIn K (.ref a.is_reckoning) = true := T.iU.kp
theorem Txt.b_is_reckoning (T : Txt P w K mg a) : Binds K a.cU ["thing"] [] := T.iU.binds (ps := ["thing"]) fun _ _ _ _ _ _ us hl => match us, hl with | [_], _ => rfl
theorem Txt.k_inner_things (T : Txt P w K mg a) : W.keepIn K (.ref a.inner_things) = true := T.qB.kp
theorem Txt.b_inner_things (T : Txt P w K mg a) : Binds K a.lU ["thing"] [] := T.qB.binds (ps := ["thing"]) fun _ _ _ _ _ _ us hl => match us, hl with | [_], _ => rfl
theorem Txt.k_stands_alone (T : Txt P w K mg a) : W.keepIn K (.ref a.stands_alone) = true := T.eU.kp
theorem Txt.b_stands_alone (T : Txt P w K mg a) : Binds K a.fU ["thing"] [] := T.eU.binds (ps := ["thing"]) fun _ _ _ _ _ _ us hl => match us, hl with | [_], _ => rfl
theorem Txt.k_lines_fit (T : Txt P w K mg a) : W.keepIn K (.ref a.lines_fit) = true := T.dP.kp
theorem Txt.b_lines_fit (T : Txt P w K mg a) : Binds K a.zP ["lines", "boxes"] [] := T.dP.binds (ps := ["lines", "boxes"]) fun _ _ _ _ _ _ us hl => match us, hl with | [_, _], _ => rfl
theorem Txt.k_inner_lines (T : Txt P w K mg a) : W.keepIn K (.ref a.inner_lines) = true := T.lM.kp
theorem Txt.b_inner_lines (T : Txt P w K mg a) : Binds K a.wM ["line"] [] := T.lM.binds (ps := ["line"]) fun _ _ _ _ _ _ us hl => match us, hl with | [_], _ => rfl
theorem Txt.k_turns_within (T : Txt P w K mg a) : W.keepIn K (.ref a.turns_within) = true := T.tU.kp
theorem Txt.b_turns_within (T : Txt P w K mg a) : Binds K a.mU ["line", "turns"] [] := T.tU.binds (ps := ["line", "turns"]) fun _ _ _ _ _ _ us hl => match us, hl with | [_, _], _ => rfl
theorem Txt.k_line_fits (T : Txt P w K mg a) : W.keepIn K (.ref a.line_fits) = true := T.cP.kp
theorem Txt.b_line_fits (T : Txt P w K mg a) : Binds K a.jP ["line", "boxes", "turns"] [] := T.cP.binds (ps := ["line", "boxes", "turns"]) fun _ _ _ _ _ _ us hl => match us, hl with | [_, _, _], _ => rfl
theorem Txt.k_key_fits (T : Txt P w K mg a) : W.keepIn K (.ref a.key_fits) = true := T.fN.kp
theorem Txt.b_key_fits (T : Txt P w K mg a) : Binds K a.kN ["key", "boxes", "turns"] [] := T.fN.binds (ps := ["key", "boxes", "turns"]) fun _ _ _ _ _ _ us hl => match us, hl with | [_, _, _], _ => rfl
theorem Txt.k_reckoning_fits (T : Txt P w K mg a) : W.keepIn K (.ref a.reckoning_fits) = true := T.tY.kp
theorem Txt.b_reckoning_fits (T : Txt P w K mg a) : Binds K a.oY ["thing", "boxes", "turns"] [] := T.tY.binds (ps := ["thing", "boxes", "turns"]) fun _ _ _ _ _ _ us hl => match us, hl with | [_, _, _], _ => rfl
theorem Txt.k_pairs_fit (T : Txt P w K mg a) : W.keepIn K (.ref a.pairs_fit) = true := T.pP.kp
theorem Txt.b_pairs_fit (T : Txt P w K mg a) : Binds K a.qP ["thing", "boxes", "turns"] [] := T.pP.binds (ps := ["thing", "boxes", "turns"]) fun _ _ _ _ _ _ us hl => match us, hl with | [_, _, _], _ => rfl
theorem Txt.k_begins_with_names (T : Txt P w K mg a) : W.keepIn K (.ref a.begins_with_names) = true := T.vW.kp
theorem Txt.b_begins_with_names (T : Txt P w K mg a) : Binds K a.xW ["thing", "size"] [] := T.vW.binds (ps := ["thing", "size"]) fun _ _ _ _ _ _ us hl => match us, hl with | [_, _], _ => rfl
theorem Txt.k_hands_fit (T : Txt P w K mg a) : W.keepIn K (.ref a.hands_fit) = true := T.nP.kp
theorem Txt.b_hands_fit (T : Txt P w K mg a) : Binds K a.yP ["thing", "boxes", "turns"] [] := T.nP.binds (ps := ["thing", "boxes", "turns"]) fun _ _ _ _ _ _ us hl => match us, hl with | [_, _, _], _ => rfl
theorem Txt.k_hand_fits (T : Txt P w K mg a) : W.keepIn K (.ref a.hand_fits) = true := T.sP.kp
theorem Txt.b_hand_fits (T : Txt P w K mg a) : Binds K a.uP ["hand", "boxes", "turns"] [] := T.sP.binds (ps := ["hand", "boxes", "turns"]) fun _ _ _ _ _ _ us hl => match us, hl with | [_, _, _], _ => rfl
theorem Txt.k_change_fits (T : Txt P w K mg a) : W.keepIn K (.ref a.change_fits) = true := T.rM.kp
theorem Txt.b_change_fits (T : Txt P w K mg a) : Binds K a.yM ["change", "boxes", "turns"] [] := T.rM.binds (ps := ["change", "boxes", "turns"]) fun _ _ _ _ _ _ us hl => match us, hl with | [_, _, _], _ => rfl
theorem Txt.k_is_part (T : Txt P w K mg a) : W.keepIn K (.ref a.is_part) = true := T.qT.kp
theorem Txt.b_is_part (T : Txt P w K mg a) : Binds K a.uS ["thing"] [] := T.qT.binds (ps := ["thing"]) fun _ _ _ _ _ _ us hl => match us, hl with | [_], _ => rfl
theorem Txt.k_boxes_fit (T : Txt P w K mg a) : W.keepIn K (.ref a.boxes_fit) = true := T.oP.kp
theorem Txt.b_boxes_fit (T : Txt P w K mg a) : Binds K a.gP ["thing"] [] := T.oP.binds (ps := ["thing"]) fun _ _ _ _ _ _ us hl => match us, hl with | [_], _ => rfl
theorem Txt.k_is_house (T : Txt P w K mg a) : W.keepIn K (.ref a.is_house) = true := T.pN.kp
theorem Txt.b_is_house (T : Txt P w K mg a) : Binds K a.yN ["thing"] [] := T.pN.binds (ps := ["thing"]) fun _ _ _ _ _ _ us hl => match us, hl with | [_], _ => rfl
theorem Txt.k_names_only (T : Txt P w K mg a) : W.keepIn K (.ref a.names_only) = true := T.xD.kp
theorem Txt.b_names_only (T : Txt P w K mg a) : Binds K a.iF ["part", "names"] [] := T.xD.binds (ps := ["part", "names"]) fun _ _ _ _ _ _ us hl => match us, hl with | [_, _], _ => rfl
theorem Txt.k_part_of (T : Txt P w K mg a) : W.keepIn K (.ref a.part_of) = true := T.rS.kp
theorem Txt.b_part_of (T : Txt P w K mg a) : Binds K a.jS ["house", "name"] [] := T.rS.binds (ps := ["house", "name"]) fun _ _ _ _ _ _ us hl => match us, hl with | [_, _], _ => rfl
theorem Txt.k_behind (T : Txt P w K mg a) : W.keepIn K (.ref a.behind) = true := T.Qk.kp
theorem Txt.b_behind (T : Txt P w K mg a) : Binds K a.tI ["house", "name"] [] := T.Qk.binds (ps := ["house", "name"]) fun _ _ _ _ _ _ us hl => match us, hl with | [_, _], _ => rfl
theorem Txt.k_l_tape (T : Txt P w K mg a) : W.keepIn K (.ref a.Xr) = true := T.Qi.kp
theorem Txt.b_l_tape (T : Txt P w K mg a) : Binds K a.sI ["_law_script"] [] := T.Qi.binds (ps := ["_law_script"]) fun _ _ _ _ _ _ us hl => match us, hl with | [_], _ => rfl
theorem Txt.k_l_draw (T : Txt P w K mg a) : W.keepIn K (.ref a.aR) = true := T.Qj.kp
theorem Txt.b_l_draw (T : Txt P w K mg a) : Binds K a.oI ["_law_tape_here", "_law_many"] [] := T.Qj.binds (ps := ["_law_tape_here", "_law_many"]) fun _ _ _ _ _ _ us hl => match us, hl with | [_, _], _ => rfl
theorem Txt.k_l_names (T : Txt P w K mg a) : W.keepIn K (.ref a.oO) = true := T.aS.kp
theorem Txt.b_l_names (T : Txt P w K mg a) : Binds K a.wS ["_law_tape_here", "_law_many"] [] := T.aS.binds (ps := ["_law_tape_here", "_law_many"]) fun _ _ _ _ _ _ us hl => match us, hl with | [_, _], _ => rfl
theorem Txt.k_l_small_part (T : Txt P w K mg a) : W.keepIn K (.ref a.zY) = true := T.aU.kp
theorem Txt.b_l_small_part (T : Txt P w K mg a) : Binds K a.dU ["_law_tape_here", "_law_names_here", "_law_k"] [] := T.aU.binds (ps := ["_law_tape_here", "_law_names_here", "_law_k"]) fun _ _ _ _ _ _ us hl => match us, hl with | [_, _, _], _ => rfl
theorem Txt.k_l_small_house (T : Txt P w K mg a) : W.keepIn K (.ref a.aY) = true := T.lG.kp
theorem Txt.b_l_small_house (T : Txt P w K mg a) : Binds K a.dG ["_law_tape_here"] [] := T.lG.binds (ps := ["_law_tape_here"]) fun _ _ _ _ _ _ us hl => match us, hl with | [_], _ => rfl
theorem Txt.k_l_odd (T : Txt P w K mg a) : W.keepIn K (.ref a.Zf) = true := T.XH.kp
theorem Txt.b_l_odd (T : Txt P w K mg a) : Binds K a.Xz ["_law_tape_here"] [] := T.XH.binds (ps := ["_law_tape_here"]) fun _ _ _ _ _ _ us hl => match us, hl with | [_], _ => rfl
theorem Txt.k_l_other (T : Txt P w K mg a) : W.keepIn K (.ref a.qH) = true := T.tS.kp
theorem Txt.b_l_other (T : Txt P w K mg a) : Binds K a.kS ["_law_tape_here", "_law_thing"] [] := T.tS.binds (ps := ["_law_tape_here", "_law_thing"]) fun _ _ _ _ _ _ us hl => match us, hl with | [_, _], _ => rfl
theorem Txt.k_l_bent (T : Txt P w K mg a) : W.keepIn K (.ref a.iR) = true := T.vR.kp
theorem Txt.b_l_bent (T : Txt P w K mg a) : Binds K a.kP ["_law_tape_here", "_law_thing"] [] := T.vR.binds (ps := ["_law_tape_here", "_law_thing"]) fun _ _ _ _ _ _ us hl => match us, hl with | [_, _], _ => rfl
theorem Txt.k_l_is_name (T : Txt P w K mg a) : W.keepIn K (.ref a.zH) = true := T.lP.kp
theorem Txt.b_l_is_name (T : Txt P w K mg a) : Binds K a.xP ["_law_thing"] [] := T.lP.binds (ps := ["_law_thing"]) fun _ _ _ _ _ _ us hl => match us, hl with | [_], _ => rfl
theorem Txt.k_l_is_number (T : Txt P w K mg a) : W.keepIn K (.ref a.mB) = true := T.dM.kp
theorem Txt.b_l_is_number (T : Txt P w K mg a) : Binds K a.kM ["_law_thing"] [] := T.dM.binds (ps := ["_law_thing"]) fun _ _ _ _ _ _ us hl => match us, hl with | [_], _ => rfl
theorem Txt.k_l_nodes (T : Txt P w K mg a) : W.keepIn K (.ref a.sO) = true := T.eS.kp
theorem Txt.b_l_nodes (T : Txt P w K mg a) : Binds K a.vS ["_law_thing"] [] := T.eS.binds (ps := ["_law_thing"]) fun _ _ _ _ _ _ us hl => match us, hl with | [_], _ => rfl
theorem Txt.k_l_is_sum (T : Txt P w K mg a) : W.keepIn K (.ref a.uC) = true := T.mN.kp
theorem Txt.b_l_is_sum (T : Txt P w K mg a) : Binds K a.xN ["_law_thing"] [] := T.mN.binds (ps := ["_law_thing"]) fun _ _ _ _ _ _ us hl => match us, hl with | [_], _ => rfl
theorem Txt.k_l_sum_fits (T : Txt P w K mg a) : W.keepIn K (.ref a.rF) = true := T.kD.kp
theorem Txt.b_l_sum_fits (T : Txt P w K mg a) : Binds K a.qD ["_law_thing", "_law_boxes", "_law_turns"] [] := T.kD.binds (ps := ["_law_thing", "_law_boxes", "_law_turns"]) fun _ _ _ _ _ _ us hl => match us, hl with | [_, _, _], _ => rfl
theorem Txt.k_l_pairs_fit (T : Txt P w K mg a) : W.keepIn K (.ref a.yB) = true := T.mM.kp
theorem Txt.b_l_pairs_fit (T : Txt P w K mg a) : Binds K a.zM ["_law_thing", "_law_boxes", "_law_turns"] [] := T.mM.binds (ps := ["_law_thing", "_law_boxes", "_law_turns"]) fun _ _ _ _ _ _ us hl => match us, hl with | [_, _, _], _ => rfl
theorem Txt.k_l_change_fits (T : Txt P w K mg a) : W.keepIn K (.ref a.iY) = true := T.tG.kp
theorem Txt.b_l_change_fits (T : Txt P w K mg a) : Binds K a.cG ["_law_thing", "_law_boxes", "_law_turns"] [] := T.tG.binds (ps := ["_law_thing", "_law_boxes", "_law_turns"]) fun _ _ _ _ _ _ us hl => match us, hl with | [_, _, _], _ => rfl
theorem Txt.k_l_hands_fit (T : Txt P w K mg a) : W.keepIn K (.ref a.fB) = true := T.cM.kp
theorem Txt.b_l_hands_fit (T : Txt P w K mg a) : Binds K a.vM ["_law_thing", "_law_boxes", "_law_turns"] [] := T.cM.binds (ps := ["_law_thing", "_law_boxes", "_law_turns"]) fun _ _ _ _ _ _ us hl => match us, hl with | [_, _, _], _ => rfl
theorem Txt.k_l_line_fits (T : Txt P w K mg a) : W.keepIn K (.ref a.bB) = true := T.pM.kp
theorem Txt.b_l_line_fits (T : Txt P w K mg a) : Binds K a.xM ["_law_line", "_law_boxes", "_law_turns"] [] := T.pM.binds (ps := ["_law_line", "_law_boxes", "_law_turns"]) fun _ _ _ _ _ _ us hl => match us, hl with | [_, _, _], _ => rfl
theorem Txt.k_l_lines_fit (T : Txt P w K mg a) : W.keepIn K (.ref a.uB) = true := T.fM.kp
theorem Txt.b_l_lines_fit (T : Txt P w K mg a) : Binds K a.jM ["_law_lines", "_law_boxes"] [] := T.fM.binds (ps := ["_law_lines", "_law_boxes"]) fun _ _ _ _ _ _ us hl => match us, hl with | [_, _], _ => rfl
theorem Txt.k_l_part_fits (T : Txt P w K mg a) : W.keepIn K (.ref a.wB) = true := T.bM.kp
theorem Txt.b_l_part_fits (T : Txt P w K mg a) : Binds K a.qM ["_law_thing"] [] := T.bM.binds (ps := ["_law_thing"]) fun _ _ _ _ _ _ us hl => match us, hl with | [_], _ => rfl
theorem Txt.k_l_is_house (T : Txt P w K mg a) : W.keepIn K (.ref a.tF) = true := T.vD.kp
theorem Txt.b_l_is_house (T : Txt P w K mg a) : Binds K a.zD ["_law_thing"] [] := T.vD.binds (ps := ["_law_thing"]) fun _ _ _ _ _ _ us hl => match us, hl with | [_], _ => rfl
theorem Txt.k_l_turned (T : Txt P w K mg a) : W.keepIn K (.ref a.yC) = true := T.bN.kp
theorem Txt.b_l_turned (T : Txt P w K mg a) : Binds K a.jN ["_law_tape_here", "_law_house"] [] := T.bN.binds (ps := ["_law_tape_here", "_law_house"]) fun _ _ _ _ _ _ us hl => match us, hl with | [_, _], _ => rfl
theorem Txt.k_l_right (T : Txt P w K mg a) : W.keepIn K (.ref a.nO) = true := T.nS.kp
theorem Txt.b_l_right (T : Txt P w K mg a) : Binds K a.xS ["_law_thing"] [] := T.nS.binds (ps := ["_law_thing"]) fun _ _ _ _ _ _ us hl => match us, hl with | [_], _ => rfl
theorem Txt.k_l_named (T : Txt P w K mg a) : W.keepIn K (.ref a.tO) = true := T.iS.kp
theorem Txt.b_l_named (T : Txt P w K mg a) : Binds K a.yS ["_law_house"] [] := T.iS.binds (ps := ["_law_house"]) fun _ _ _ _ _ _ us hl => match us, hl with | [_], _ => rfl
theorem eN : vX ["thing"] ["thing"] (vQ eK) := ⟨rfl, rfl, rfl, by decide +kernel, rfl, by decide +kernel, by decide +kernel⟩
theorem lE : vX ["thing"] ["thing"] (vQ sW) := ⟨rfl, rfl, rfl, by decide +kernel, rfl, by decide +kernel, by decide +kernel⟩
theorem mD : vX ["thing", "waiting", "count", "inner"] ["thing"] (vQ gJ) := ⟨rfl, rfl, rfl, by decide +kernel, rfl, by decide +kernel, by decide +kernel⟩
theorem dD : vX ["thing", "word"] ["thing"] (vQ bJ) := ⟨rfl, rfl, rfl, by decide +kernel, rfl, by decide +kernel, by decide +kernel⟩
theorem uD : vX ["thing"] ["thing"] (vQ uJ) := ⟨rfl, rfl, rfl, by decide +kernel, rfl, by decide +kernel, by decide +kernel⟩
theorem nN : vX ["lines", "boxes", "waiting", "count", "place", "line", "turns"] ["lines", "boxes"] (vQ yK) := ⟨rfl, rfl, rfl, by decide +kernel, rfl, by decide +kernel, by decide +kernel⟩
theorem yL : vX ["line"] ["line"] (vQ wJ) := ⟨rfl, rfl, rfl, by decide +kernel, rfl, by decide +kernel, by decide +kernel⟩
theorem yD : vX ["line", "turns"] ["line", "turns"] (vQ yJ) := ⟨rfl, rfl, rfl, by decide +kernel, rfl, by decide +kernel, by decide +kernel⟩
theorem oN : vX ["line", "boxes", "turns", "word"] ["line", "boxes", "turns"] (vQ oK) := ⟨rfl, rfl, rfl, by decide +kernel, rfl, by decide +kernel, by decide +kernel⟩
theorem vT : vX ["key", "boxes", "turns"] ["key", "boxes", "turns"] (vQ pV) := ⟨rfl, rfl, rfl, by decide +kernel, rfl, by decide +kernel, by decide +kernel⟩
theorem xB : vX ["thing", "boxes", "turns", "waiting", "inner"] ["thing", "boxes", "turns"] (vQ lZ) := ⟨rfl, rfl, rfl, by decide +kernel, rfl, by decide +kernel, by decide +kernel⟩
theorem rN : vX ["thing", "boxes", "turns"] ["thing", "boxes", "turns"] (vQ vK) := ⟨rfl, rfl, rfl, by decide +kernel, rfl, by decide +kernel, by decide +kernel⟩
theorem xG : vX ["thing", "size", "names", "inner"] ["thing", "size"] (vQ jZ) := ⟨rfl, rfl, rfl, by decide +kernel, rfl, by decide +kernel, by decide +kernel⟩
theorem aN : vX ["thing", "boxes", "turns"] ["thing", "boxes", "turns"] (vQ gK) := ⟨rfl, rfl, rfl, by decide +kernel, rfl, by decide +kernel, by decide +kernel⟩
theorem iN : vX ["hand", "boxes", "turns"] ["hand", "boxes", "turns"] (vQ bK) := ⟨rfl, rfl, rfl, by decide +kernel, rfl, by decide +kernel, by decide +kernel⟩
theorem uL : vX ["change", "boxes", "turns"] ["change", "boxes", "turns"] (vQ eJ) := ⟨rfl, rfl, rfl, by decide +kernel, rfl, by decide +kernel, by decide +kernel⟩
theorem cE : vX ["thing", "boxes"] ["thing"] (vQ nW) := ⟨rfl, rfl, rfl, by decide +kernel, rfl, by decide +kernel, by decide +kernel⟩
theorem qC : vX ["thing"] ["thing"] (vQ aK) := ⟨rfl, rfl, rfl, by decide +kernel, rfl, by decide +kernel, by decide +kernel⟩
theorem wT : vX ["thing"] ["thing"] (vQ qV) := ⟨rfl, rfl, rfl, by decide +kernel, rfl, by decide +kernel, by decide +kernel⟩
theorem gH : vX ["part", "names", "waiting", "lines", "line"] ["part", "names"] (vQ wK) := ⟨rfl, rfl, rfl, by decide +kernel, rfl, by decide +kernel, by decide +kernel⟩
theorem yE : vX ["house", "name", "part"] ["house", "name"] (vQ dW) := ⟨rfl, rfl, rfl, by decide +kernel, rfl, by decide +kernel, by decide +kernel⟩
theorem QK : vX ["house", "name", "names"] ["house", "name"] (vQ wG) := ⟨rfl, rfl, rfl, by decide +kernel, rfl, by decide +kernel, by decide +kernel⟩
theorem QI : vX ["_law_script"] ["_law_script"] (vQ kG) := ⟨rfl, rfl, rfl, by decide +kernel, rfl, by decide +kernel, by decide +kernel⟩
theorem QJ : vX ["_law_tape_here", "_law_many", "_law_script", "_law_digit", "_law_cell", "_law_mixed"] ["_law_tape_here", "_law_many"] (vQ xV) := ⟨rfl, rfl, rfl, by decide +kernel, rfl, by decide +kernel, by decide +kernel⟩
theorem pE : vX ["_law_tape_here", "_law_many", "_law_pool", "_law_start", "_law_stride"] ["_law_tape_here", "_law_many"] (vQ eV) := ⟨rfl, rfl, rfl, by decide +kernel, rfl, by decide +kernel, by decide +kernel⟩
theorem bD : vX ["_law_tape_here", "_law_names_here", "_law_k", "_law_box", "_law_boxes", "_law_rule", "_law_lines", "_law_j", "_law_way", "_law_plain"] ["_law_tape_here", "_law_names_here", "_law_k"] (vQ fZ) := ⟨rfl, rfl, rfl, by decide +kernel, rfl, by decide +kernel, by decide +kernel⟩
theorem oM : vX ["_law_tape_here", "_law_names_here"] ["_law_tape_here"] (vQ dZ) := ⟨rfl, rfl, rfl, by decide +kernel, rfl, by decide +kernel, by decide +kernel⟩
theorem XX : vX ["_law_tape_here", "_law_some"] ["_law_tape_here"] (vQ eY) := ⟨rfl, rfl, rfl, by decide +kernel, rfl, by decide +kernel, by decide +kernel⟩
theorem bE : vX ["_law_tape_here", "_law_thing", "_law_way", "_law_some", "_law_at"] ["_law_tape_here", "_law_thing"] (vQ kK) := ⟨rfl, rfl, rfl, by decide +kernel, rfl, by decide +kernel, by decide +kernel⟩
theorem gR : vX ["_law_tape_here", "_law_thing", "_law_some", "_law_at"] ["_law_tape_here", "_law_thing"] (vQ vG) := ⟨rfl, rfl, rfl, by decide +kernel, rfl, by decide +kernel, by decide +kernel⟩
theorem tN : vX ["_law_thing"] ["_law_thing"] (vQ tK) := ⟨rfl, rfl, rfl, by decide +kernel, rfl, by decide +kernel, by decide +kernel⟩
theorem kL : vX ["_law_thing"] ["_law_thing"] (vQ tJ) := ⟨rfl, rfl, rfl, by decide +kernel, rfl, by decide +kernel, by decide +kernel⟩
theorem mE : vX ["_law_thing", "_law_todo", "_law_found", "_law_one", "_law_many"] ["_law_thing"] (vQ lW) := ⟨rfl, rfl, rfl, by decide +kernel, rfl, by decide +kernel, by decide +kernel⟩
theorem kT : vX ["_law_thing", "_law_nodes_here"] ["_law_thing"] (vQ fV) := ⟨rfl, rfl, rfl, by decide +kernel, rfl, by decide +kernel, by decide +kernel⟩
theorem bH : vX ["_law_thing", "_law_boxes", "_law_turns", "_law_one"] ["_law_thing", "_law_boxes", "_law_turns"] (vQ uK) := ⟨rfl, rfl, rfl, by decide +kernel, rfl, by decide +kernel, by decide +kernel⟩
theorem zL : vX ["_law_thing", "_law_boxes", "_law_turns", "_law_one"] ["_law_thing", "_law_boxes", "_law_turns"] (vQ nJ) := ⟨rfl, rfl, rfl, by decide +kernel, rfl, by decide +kernel, by decide +kernel⟩
theorem tM : vX ["_law_thing", "_law_boxes", "_law_turns"] ["_law_thing", "_law_boxes", "_law_turns"] (vQ eZ) := ⟨rfl, rfl, rfl, by decide +kernel, rfl, by decide +kernel, by decide +kernel⟩
theorem vL : vX ["_law_thing", "_law_boxes", "_law_turns", "_law_one"] ["_law_thing", "_law_boxes", "_law_turns"] (vQ vJ) := ⟨rfl, rfl, rfl, by decide +kernel, rfl, by decide +kernel, by decide +kernel⟩
theorem xL : vX ["_law_line", "_law_boxes", "_law_turns"] ["_law_line", "_law_boxes", "_law_turns"] (vQ oJ) := ⟨rfl, rfl, rfl, by decide +kernel, rfl, by decide +kernel, by decide +kernel⟩
theorem jL : vX ["_law_lines", "_law_boxes", "_law_todo", "_law_many", "_law_goals", "_law_some", "_law_turns", "_law_deep", "_law_line", "_law_around", "_law_inner"] ["_law_lines", "_law_boxes"] (vQ sJ) := ⟨rfl, rfl, rfl, by decide +kernel, rfl, by decide +kernel, by decide +kernel⟩
theorem qL : vX ["_law_thing", "_law_box", "_law_boxes"] ["_law_thing"] (vQ rJ) := ⟨rfl, rfl, rfl, by decide +kernel, rfl, by decide +kernel, by decide +kernel⟩
theorem mH : vX ["_law_thing", "_law_goals", "_law_names_here", "_law_k", "_law_lost"] ["_law_thing"] (vQ lJ) := ⟨rfl, rfl, rfl, by decide +kernel, rfl, by decide +kernel, by decide +kernel⟩
theorem xT : vX ["_law_tape_here", "_law_house", "_law_parts", "_law_at", "_law_way", "_law_goal"] ["_law_tape_here", "_law_house"] (vQ mV) := ⟨rfl, rfl, rfl, by decide +kernel, rfl, by decide +kernel, by decide +kernel⟩
theorem uE : vX ["_law_thing", "_law_found"] ["_law_thing"] (vQ cW) := ⟨rfl, rfl, rfl, by decide +kernel, rfl, by decide +kernel, by decide +kernel⟩
theorem dE : vX ["_law_house", "_law_names_here", "_law_k", "_law_rest"] ["_law_house"] (vQ rW) := ⟨rfl, rfl, rfl, by decide +kernel, rfl, by decide +kernel, by decide +kernel⟩
theorem Vk : vX ["_law_script", "_law_tape_here", "_law_house", "_law_k", "_law_other_here"] ["_law_script"] (vQ kB) := ⟨rfl, rfl, rfl, by decide +kernel, rfl, by decide +kernel, by decide +kernel⟩
end
theorem txt_mk {P : Program} {w : World} {K : W.Frag} {h : Heap} {mg : Str → Option Value} (X : K.In h) (G : h.Ns mainGlobals mg)
  {f0 f1 f2 f3 f4 f5 f6 f7 f8 f9 f10 f11 f12 f13 f14 f15 f16 f17 f18 f19 f20 f21 f22 f23 f24 f25 f26 f27 f28 f29 f30 f31 f32 f33 f34 f35 f36 f37 f38 f39 f40 f41 f42 f43 f44 f45 ga3 ga4 ga5 ga6 r6_0 r6_1 r6_2 r6_3 r6_4 ga7 : Addr} {od0 an0 od1 an1 od2 an2 od3 an3 od4 an4 od5 an5 od6 an6 od7 an7 od8 an8 od9 an9 od10 an10 od11 an11 od12 an12 od13 an13 od14 an14 od15 an15 od16 an16 od17 an17 od18 an18 od19 an19 od20 an20 od21 an21 od22 an22 od23 an23 od24 an24 od25 an25 od26 an26 od27 an27 od28 an28 od29 an29 od30 an30 od31 an31 od32 an32 od33 an33 od34 an34 od35 an35 od36 an36 od37 an37 od38 an38 od39 an39 od40 an40 od41 an41 od42 an42 od43 an43 od44 an44 od45 an45 : Option Addr} {sl0 sl1 sl2 sl3 sl4 sl5 sl6 sl7 sl8 sl9 sl10 sl11 sl12 sl13 sl14 sl15 sl16 sl17 sl18 sl19 sl20 sl21 sl22 sl23 sl24 sl25 sl26 sl27 sl28 sl29 sl30 sl31 sl32 sl33 sl34 sl35 sl36 sl37 sl38 sl39 sl40 sl41 sl42 sl43 sl44 sl45 : Array (Option Value)} {oc0 kV0 dc0 pm0 cd0 ct0 oc1 kV1 dc1 pm1 cd1 ct1 oc2 kV2 dc2 pm2 cd2 ct2 oc3 kV3 dc3 pm3 cd3 ct3 oc4 kV4 dc4 pm4 cd4 ct4 oc5 kV5 dc5 pm5 cd5 ct5 oc6 kV6 dc6 pm6 cd6 ct6 oc7 kV7 dc7 pm7 cd7 ct7 oc8 kV8 dc8 pm8 cd8 ct8 oc9 kV9 dc9 pm9 cd9 ct9 oc10 kV10 dc10 pm10 cd10 ct10 oc11 kV11 dc11 pm11 cd11 ct11 oc12 kV12 dc12 pm12 cd12 ct12 oc13 kV13 dc13 pm13 cd13 ct13 oc14 kV14 dc14 pm14 cd14 ct14 oc15 kV15 dc15 pm15 cd15 ct15 oc16 kV16 dc16 pm16 cd16 ct16 oc17 kV17 dc17 pm17 cd17 ct17 oc18 kV18 dc18 pm18 cd18 ct18 oc19 kV19 dc19 pm19 cd19 ct19 oc20 kV20 dc20 pm20 cd20 ct20 oc21 kV21 dc21 pm21 cd21 ct21 oc22 kV22 dc22 pm22 cd22 ct22 oc23 kV23 dc23 pm23 cd23 ct23 oc24 kV24 dc24 pm24 cd24 ct24 oc25 kV25 dc25 pm25 cd25 ct25 oc26 kV26 dc26 pm26 cd26 ct26 oc27 kV27 dc27 pm27 cd27 ct27 oc28 kV28 dc28 pm28 cd28 ct28 oc29 kV29 dc29 pm29 cd29 ct29 oc30 kV30 dc30 pm30 cd30 ct30 oc31 kV31 dc31 pm31 cd31 ct31 oc32 kV32 dc32 pm32 cd32 ct32 oc33 kV33 dc33 pm33 cd33 ct33 oc34 kV34 dc34 pm34 cd34 ct34 oc35 kV35 dc35 pm35 cd35 ct35 oc36 kV36 dc36 pm36 cd36 ct36 oc37 kV37 dc37 pm37 cd37 ct37 oc38 kV38 dc38 pm38 cd38 ct38 oc39 kV39 dc39 pm39 cd39 ct39 oc40 kV40 dc40 pm40 cd40 ct40 oc41 kV41 dc41 pm41 cd41 ct41 oc42 kV42 dc42 pm42 cd42 ct42 oc43 kV43 dc43 pm43 cd43 ct43 oc44 kV44 dc44 pm44 cd44 ct44 oc45 kV45 dc45 pm45 cd45 ct45 : Value} {t0 t1 t2 t3_0 t3_1 t3_2 t3_3 k4_0 k4_1 k4_2 k4_3 v4_0 v4_1 v4_2 v4_3 k5_0 k5_1 k5_2 k5_3 k5_4 v5_0 v5_1 v5_2 v5_3 v5_4 k6_0 k6_1 k6_2 k6_3 k6_4 t6_0_0 t6_2_0 t6_3_0 t6_3_1 t6_4_0 t7_0 t7_1 t7_2 t8 t9 t10 t11 t12 t13 t14 t15 : Tok} {gn3 gn4 gn5 gn6 m6_0 m6_1 m6_2 m6_3 m6_4 gn7 : Nat}
  (a0 : W.nsIn K mainGlobals "is_number" = some (some (.ref f0))) (l0 : K.lookup f0 = some ⟨oc0, od0, .func (W.fnOf "is_number" "is_number" (dQ eK) (fQ eK) (vQ eK) .none kV0 dc0 pm0 an0 cd0 ct0), sl0⟩) (c0 : W.codeIn K cd0 "is_number" = true) (k0 : W.keepIn K (.ref f0) = true)
  (a1 : W.nsIn K mainGlobals "is_name" = some (some (.ref f1))) (l1 : K.lookup f1 = some ⟨oc1, od1, .func (W.fnOf "is_name" "is_name" (dQ sW) (fQ sW) (vQ sW) .none kV1 dc1 pm1 an1 cd1 ct1), sl1⟩) (c1 : W.codeIn K cd1 "is_name" = true) (k1 : W.keepIn K (.ref f1) = true)
  (a2 : W.nsIn K mainGlobals "is_reckoning" = some (some (.ref f2))) (l2 : K.lookup f2 = some ⟨oc2, od2, .func (W.fnOf "is_reckoning" "is_reckoning" (dQ gJ) (fQ gJ) (vQ gJ) .none kV2 dc2 pm2 an2 cd2 ct2), sl2⟩) (c2 : W.codeIn K cd2 "is_reckoning" = true) (k2 : W.keepIn K (.ref f2) = true)
  (a3 : W.nsIn K mainGlobals "inner_things" = some (some (.ref f3))) (l3 : K.lookup f3 = some ⟨oc3, od3, .func (W.fnOf "inner_things" "inner_things" (dQ bJ) (fQ bJ) (vQ bJ) .none kV3 dc3 pm3 an3 cd3 ct3), sl3⟩) (c3 : W.codeIn K cd3 "inner_things" = true) (k3 : W.keepIn K (.ref f3) = true)
  (a4 : W.nsIn K mainGlobals "stands_alone" = some (some (.ref f4))) (l4 : K.lookup f4 = some ⟨oc4, od4, .func (W.fnOf "stands_alone" "stands_alone" (dQ uJ) (fQ uJ) (vQ uJ) .none kV4 dc4 pm4 an4 cd4 ct4), sl4⟩) (c4 : W.codeIn K cd4 "stands_alone" = true) (k4 : W.keepIn K (.ref f4) = true)
  (a5 : W.nsIn K mainGlobals "lines_fit" = some (some (.ref f5))) (l5 : K.lookup f5 = some ⟨oc5, od5, .func (W.fnOf "lines_fit" "lines_fit" (dQ yK) (fQ yK) (vQ yK) .none kV5 dc5 pm5 an5 cd5 ct5), sl5⟩) (c5 : W.codeIn K cd5 "lines_fit" = true) (k5 : W.keepIn K (.ref f5) = true)
  (a6 : W.nsIn K mainGlobals "inner_lines" = some (some (.ref f6))) (l6 : K.lookup f6 = some ⟨oc6, od6, .func (W.fnOf "inner_lines" "inner_lines" (dQ wJ) (fQ wJ) (vQ wJ) .none kV6 dc6 pm6 an6 cd6 ct6), sl6⟩) (c6 : W.codeIn K cd6 "inner_lines" = true) (k6 : W.keepIn K (.ref f6) = true)
  (a7 : W.nsIn K mainGlobals "turns_within" = some (some (.ref f7))) (l7 : K.lookup f7 = some ⟨oc7, od7, .func (W.fnOf "turns_within" "turns_within" (dQ yJ) (fQ yJ) (vQ yJ) .none kV7 dc7 pm7 an7 cd7 ct7), sl7⟩) (c7 : W.codeIn K cd7 "turns_within" = true) (k7 : W.keepIn K (.ref f7) = true)
  (a8 : W.nsIn K mainGlobals "line_fits" = some (some (.ref f8))) (l8 : K.lookup f8 = some ⟨oc8, od8, .func (W.fnOf "line_fits" "line_fits" (dQ oK) (fQ oK) (vQ oK) .none kV8 dc8 pm8 an8 cd8 ct8), sl8⟩) (c8 : W.codeIn K cd8 "line_fits" = true) (k8 : W.keepIn K (.ref f8) = true)
  (a9 : W.nsIn K mainGlobals "key_fits" = some (some (.ref f9))) (l9 : K.lookup f9 = some ⟨oc9, od9, .func (W.fnOf "key_fits" "key_fits" (dQ pV) (fQ pV) (vQ pV) .none kV9 dc9 pm9 an9 cd9 ct9), sl9⟩) (c9 : W.codeIn K cd9 "key_fits" = true) (k9 : W.keepIn K (.ref f9) = true)
  (a10 : W.nsIn K mainGlobals "reckoning_fits" = some (some (.ref f10))) (l10 : K.lookup f10 = some ⟨oc10, od10, .func (W.fnOf "reckoning_fits" "reckoning_fits" (dQ lZ) (fQ lZ) (vQ lZ) .none kV10 dc10 pm10 an10 cd10 ct10), sl10⟩) (c10 : W.codeIn K cd10 "reckoning_fits" = true) (k10 : W.keepIn K (.ref f10) = true)
  (a11 : W.nsIn K mainGlobals "pairs_fit" = some (some (.ref f11))) (l11 : K.lookup f11 = some ⟨oc11, od11, .func (W.fnOf "pairs_fit" "pairs_fit" (dQ vK) (fQ vK) (vQ vK) .none kV11 dc11 pm11 an11 cd11 ct11), sl11⟩) (c11 : W.codeIn K cd11 "pairs_fit" = true) (k11 : W.keepIn K (.ref f11) = true)
  (a12 : W.nsIn K mainGlobals "begins_with_names" = some (some (.ref f12))) (l12 : K.lookup f12 = some ⟨oc12, od12, .func (W.fnOf "begins_with_names" "begins_with_names" (dQ jZ) (fQ jZ) (vQ jZ) .none kV12 dc12 pm12 an12 cd12 ct12), sl12⟩) (c12 : W.codeIn K cd12 "begins_with_names" = true) (k12 : W.keepIn K (.ref f12) = true)
  (a13 : W.nsIn K mainGlobals "hands_fit" = some (some (.ref f13))) (l13 : K.lookup f13 = some ⟨oc13, od13, .func (W.fnOf "hands_fit" "hands_fit" (dQ gK) (fQ gK) (vQ gK) .none kV13 dc13 pm13 an13 cd13 ct13), sl13⟩) (c13 : W.codeIn K cd13 "hands_fit" = true) (k13 : W.keepIn K (.ref f13) = true)
  (a14 : W.nsIn K mainGlobals "hand_fits" = some (some (.ref f14))) (l14 : K.lookup f14 = some ⟨oc14, od14, .func (W.fnOf "hand_fits" "hand_fits" (dQ bK) (fQ bK) (vQ bK) .none kV14 dc14 pm14 an14 cd14 ct14), sl14⟩) (c14 : W.codeIn K cd14 "hand_fits" = true) (k14 : W.keepIn K (.ref f14) = true)
  (a15 : W.nsIn K mainGlobals "change_fits" = some (some (.ref f15))) (l15 : K.lookup f15 = some ⟨oc15, od15, .func (W.fnOf "change_fits" "change_fits" (dQ eJ) (fQ eJ) (vQ eJ) .none kV15 dc15 pm15 an15 cd15 ct15), sl15⟩) (c15 : W.codeIn K cd15 "change_fits" = true) (k15 : W.keepIn K (.ref f15) = true)
  (a16 : W.nsIn K mainGlobals "is_part" = some (some (.ref f16))) (l16 : K.lookup f16 = some ⟨oc16, od16, .func (W.fnOf "is_part" "is_part" (dQ nW) (fQ nW) (vQ nW) .none kV16 dc16 pm16 an16 cd16 ct16), sl16⟩) (c16 : W.codeIn K cd16 "is_part" = true) (k16 : W.keepIn K (.ref f16) = true)
  (a17 : W.nsIn K mainGlobals "boxes_fit" = some (some (.ref f17))) (l17 : K.lookup f17 = some ⟨oc17, od17, .func (W.fnOf "boxes_fit" "boxes_fit" (dQ aK) (fQ aK) (vQ aK) .none kV17 dc17 pm17 an17 cd17 ct17), sl17⟩) (c17 : W.codeIn K cd17 "boxes_fit" = true) (k17 : W.keepIn K (.ref f17) = true)
  (a18 : W.nsIn K mainGlobals "is_house" = some (some (.ref f18))) (l18 : K.lookup f18 = some ⟨oc18, od18, .func (W.fnOf "is_house" "is_house" (dQ qV) (fQ qV) (vQ qV) .none kV18 dc18 pm18 an18 cd18 ct18), sl18⟩) (c18 : W.codeIn K cd18 "is_house" = true) (k18 : W.keepIn K (.ref f18) = true)
  (a19 : W.nsIn K mainGlobals "names_only" = some (some (.ref f19))) (l19 : K.lookup f19 = some ⟨oc19, od19, .func (W.fnOf "names_only" "names_only" (dQ wK) (fQ wK) (vQ wK) .none kV19 dc19 pm19 an19 cd19 ct19), sl19⟩) (c19 : W.codeIn K cd19 "names_only" = true) (k19 : W.keepIn K (.ref f19) = true)
  (a20 : W.nsIn K mainGlobals "part_of" = some (some (.ref f20))) (l20 : K.lookup f20 = some ⟨oc20, od20, .func (W.fnOf "part_of" "part_of" (dQ dW) (fQ dW) (vQ dW) .none kV20 dc20 pm20 an20 cd20 ct20), sl20⟩) (c20 : W.codeIn K cd20 "part_of" = true) (k20 : W.keepIn K (.ref f20) = true)
  (a21 : W.nsIn K mainGlobals "behind" = some (some (.ref f21))) (l21 : K.lookup f21 = some ⟨oc21, od21, .func (W.fnOf "behind" "behind" (dQ wG) (fQ wG) (vQ wG) .none kV21 dc21 pm21 an21 cd21 ct21), sl21⟩) (c21 : W.codeIn K cd21 "behind" = true) (k21 : W.keepIn K (.ref f21) = true)
  (a22 : W.nsIn K mainGlobals "_law_tape" = some (some (.ref f22))) (l22 : K.lookup f22 = some ⟨oc22, od22, .func (W.fnOf "_law_tape" "_law_tape" (dQ kG) (fQ kG) (vQ kG) .none kV22 dc22 pm22 an22 cd22 ct22), sl22⟩) (c22 : W.codeIn K cd22 "_law_tape" = true) (k22 : W.keepIn K (.ref f22) = true)
  (a23 : W.nsIn K mainGlobals "_law_draw" = some (some (.ref f23))) (l23 : K.lookup f23 = some ⟨oc23, od23, .func (W.fnOf "_law_draw" "_law_draw" (dQ xV) (fQ xV) (vQ xV) .none kV23 dc23 pm23 an23 cd23 ct23), sl23⟩) (c23 : W.codeIn K cd23 "_law_draw" = true) (k23 : W.keepIn K (.ref f23) = true)
  (a24 : W.nsIn K mainGlobals "_law_names" = some (some (.ref f24))) (l24 : K.lookup f24 = some ⟨oc24, od24, .func (W.fnOf "_law_names" "_law_names" (dQ eV) (fQ eV) (vQ eV) .none kV24 dc24 pm24 an24 cd24 ct24), sl24⟩) (c24 : W.codeIn K cd24 "_law_names" = true) (k24 : W.keepIn K (.ref f24) = true)
  (a25 : W.nsIn K mainGlobals "_law_small_part" = some (some (.ref f25))) (l25 : K.lookup f25 = some ⟨oc25, od25, .func (W.fnOf "_law_small_part" "_law_small_part" (dQ fZ) (fQ fZ) (vQ fZ) .none kV25 dc25 pm25 an25 cd25 ct25), sl25⟩) (c25 : W.codeIn K cd25 "_law_small_part" = true) (k25 : W.keepIn K (.ref f25) = true)
  (a26 : W.nsIn K mainGlobals "_law_small_house" = some (some (.ref f26))) (l26 : K.lookup f26 = some ⟨oc26, od26, .func (W.fnOf "_law_small_house" "_law_small_house" (dQ dZ) (fQ dZ) (vQ dZ) .none kV26 dc26 pm26 an26 cd26 ct26), sl26⟩) (c26 : W.codeIn K cd26 "_law_small_house" = true) (k26 : W.keepIn K (.ref f26) = true)
  (a27 : W.nsIn K mainGlobals "_law_odd" = some (some (.ref f27))) (l27 : K.lookup f27 = some ⟨oc27, od27, .func (W.fnOf "_law_odd" "_law_odd" (dQ eY) (fQ eY) (vQ eY) .none kV27 dc27 pm27 an27 cd27 ct27), sl27⟩) (c27 : W.codeIn K cd27 "_law_odd" = true) (k27 : W.keepIn K (.ref f27) = true)
  (a28 : W.nsIn K mainGlobals "_law_other" = some (some (.ref f28))) (l28 : K.lookup f28 = some ⟨oc28, od28, .func (W.fnOf "_law_other" "_law_other" (dQ kK) (fQ kK) (vQ kK) .none kV28 dc28 pm28 an28 cd28 ct28), sl28⟩) (c28 : W.codeIn K cd28 "_law_other" = true) (k28 : W.keepIn K (.ref f28) = true)
  (a29 : W.nsIn K mainGlobals "_law_bent" = some (some (.ref f29))) (l29 : K.lookup f29 = some ⟨oc29, od29, .func (W.fnOf "_law_bent" "_law_bent" (dQ vG) (fQ vG) (vQ vG) .none kV29 dc29 pm29 an29 cd29 ct29), sl29⟩) (c29 : W.codeIn K cd29 "_law_bent" = true) (k29 : W.keepIn K (.ref f29) = true)
  (a30 : W.nsIn K mainGlobals "_law_is_name" = some (some (.ref f30))) (l30 : K.lookup f30 = some ⟨oc30, od30, .func (W.fnOf "_law_is_name" "_law_is_name" (dQ tK) (fQ tK) (vQ tK) .none kV30 dc30 pm30 an30 cd30 ct30), sl30⟩) (c30 : W.codeIn K cd30 "_law_is_name" = true) (k30 : W.keepIn K (.ref f30) = true)
  (a31 : W.nsIn K mainGlobals "_law_is_number" = some (some (.ref f31))) (l31 : K.lookup f31 = some ⟨oc31, od31, .func (W.fnOf "_law_is_number" "_law_is_number" (dQ tJ) (fQ tJ) (vQ tJ) .none kV31 dc31 pm31 an31 cd31 ct31), sl31⟩) (c31 : W.codeIn K cd31 "_law_is_number" = true) (k31 : W.keepIn K (.ref f31) = true)
  (a32 : W.nsIn K mainGlobals "_law_nodes" = some (some (.ref f32))) (l32 : K.lookup f32 = some ⟨oc32, od32, .func (W.fnOf "_law_nodes" "_law_nodes" (dQ lW) (fQ lW) (vQ lW) .none kV32 dc32 pm32 an32 cd32 ct32), sl32⟩) (c32 : W.codeIn K cd32 "_law_nodes" = true) (k32 : W.keepIn K (.ref f32) = true)
  (a33 : W.nsIn K mainGlobals "_law_is_sum" = some (some (.ref f33))) (l33 : K.lookup f33 = some ⟨oc33, od33, .func (W.fnOf "_law_is_sum" "_law_is_sum" (dQ fV) (fQ fV) (vQ fV) .none kV33 dc33 pm33 an33 cd33 ct33), sl33⟩) (c33 : W.codeIn K cd33 "_law_is_sum" = true) (k33 : W.keepIn K (.ref f33) = true)
  (a34 : W.nsIn K mainGlobals "_law_sum_fits" = some (some (.ref f34))) (l34 : K.lookup f34 = some ⟨oc34, od34, .func (W.fnOf "_law_sum_fits" "_law_sum_fits" (dQ uK) (fQ uK) (vQ uK) .none kV34 dc34 pm34 an34 cd34 ct34), sl34⟩) (c34 : W.codeIn K cd34 "_law_sum_fits" = true) (k34 : W.keepIn K (.ref f34) = true)
  (a35 : W.nsIn K mainGlobals "_law_pairs_fit" = some (some (.ref f35))) (l35 : K.lookup f35 = some ⟨oc35, od35, .func (W.fnOf "_law_pairs_fit" "_law_pairs_fit" (dQ nJ) (fQ nJ) (vQ nJ) .none kV35 dc35 pm35 an35 cd35 ct35), sl35⟩) (c35 : W.codeIn K cd35 "_law_pairs_fit" = true) (k35 : W.keepIn K (.ref f35) = true)
  (a36 : W.nsIn K mainGlobals "_law_change_fits" = some (some (.ref f36))) (l36 : K.lookup f36 = some ⟨oc36, od36, .func (W.fnOf "_law_change_fits" "_law_change_fits" (dQ eZ) (fQ eZ) (vQ eZ) .none kV36 dc36 pm36 an36 cd36 ct36), sl36⟩) (c36 : W.codeIn K cd36 "_law_change_fits" = true) (k36 : W.keepIn K (.ref f36) = true)
  (a37 : W.nsIn K mainGlobals "_law_hands_fit" = some (some (.ref f37))) (l37 : K.lookup f37 = some ⟨oc37, od37, .func (W.fnOf "_law_hands_fit" "_law_hands_fit" (dQ vJ) (fQ vJ) (vQ vJ) .none kV37 dc37 pm37 an37 cd37 ct37), sl37⟩) (c37 : W.codeIn K cd37 "_law_hands_fit" = true) (k37 : W.keepIn K (.ref f37) = true)
  (a38 : W.nsIn K mainGlobals "_law_line_fits" = some (some (.ref f38))) (l38 : K.lookup f38 = some ⟨oc38, od38, .func (W.fnOf "_law_line_fits" "_law_line_fits" (dQ oJ) (fQ oJ) (vQ oJ) .none kV38 dc38 pm38 an38 cd38 ct38), sl38⟩) (c38 : W.codeIn K cd38 "_law_line_fits" = true) (k38 : W.keepIn K (.ref f38) = true)
  (a39 : W.nsIn K mainGlobals "_law_lines_fit" = some (some (.ref f39))) (l39 : K.lookup f39 = some ⟨oc39, od39, .func (W.fnOf "_law_lines_fit" "_law_lines_fit" (dQ sJ) (fQ sJ) (vQ sJ) .none kV39 dc39 pm39 an39 cd39 ct39), sl39⟩) (c39 : W.codeIn K cd39 "_law_lines_fit" = true) (k39 : W.keepIn K (.ref f39) = true)
  (a40 : W.nsIn K mainGlobals "_law_part_fits" = some (some (.ref f40))) (l40 : K.lookup f40 = some ⟨oc40, od40, .func (W.fnOf "_law_part_fits" "_law_part_fits" (dQ rJ) (fQ rJ) (vQ rJ) .none kV40 dc40 pm40 an40 cd40 ct40), sl40⟩) (c40 : W.codeIn K cd40 "_law_part_fits" = true) (k40 : W.keepIn K (.ref f40) = true)
  (a41 : W.nsIn K mainGlobals "_law_is_house" = some (some (.ref f41))) (l41 : K.lookup f41 = some ⟨oc41, od41, .func (W.fnOf "_law_is_house" "_law_is_house" (dQ lJ) (fQ lJ) (vQ lJ) .none kV41 dc41 pm41 an41 cd41 ct41), sl41⟩) (c41 : W.codeIn K cd41 "_law_is_house" = true) (k41 : W.keepIn K (.ref f41) = true)
  (a42 : W.nsIn K mainGlobals "_law_turned" = some (some (.ref f42))) (l42 : K.lookup f42 = some ⟨oc42, od42, .func (W.fnOf "_law_turned" "_law_turned" (dQ mV) (fQ mV) (vQ mV) .none kV42 dc42 pm42 an42 cd42 ct42), sl42⟩) (c42 : W.codeIn K cd42 "_law_turned" = true) (k42 : W.keepIn K (.ref f42) = true)
  (a43 : W.nsIn K mainGlobals "_law_right" = some (some (.ref f43))) (l43 : K.lookup f43 = some ⟨oc43, od43, .func (W.fnOf "_law_right" "_law_right" (dQ cW) (fQ cW) (vQ cW) .none kV43 dc43 pm43 an43 cd43 ct43), sl43⟩) (c43 : W.codeIn K cd43 "_law_right" = true) (k43 : W.keepIn K (.ref f43) = true)
  (a44 : W.nsIn K mainGlobals "_law_named" = some (some (.ref f44))) (l44 : K.lookup f44 = some ⟨oc44, od44, .func (W.fnOf "_law_named" "_law_named" (dQ rW) (fQ rW) (vQ rW) .none kV44 dc44 pm44 an44 cd44 ct44), sl44⟩) (c44 : W.codeIn K cd44 "_law_named" = true) (k44 : W.keepIn K (.ref f44) = true)
  (a45 : W.nsIn K mainGlobals "law" = some (some (.ref f45))) (l45 : K.lookup f45 = some ⟨oc45, od45, .func (W.fnOf "law" "law" (dQ kB) (fQ kB) (vQ kB) .none kV45 dc45 pm45 an45 cd45 ct45), sl45⟩) (c45 : W.codeIn K cd45 "law" = true) (k45 : W.keepIn K (.ref f45) = true)
  (gl0 : W.nsIn K mainGlobals "BOUND" = some (some (.int 1000000000 t0)))
  (gl1 : W.nsIn K mainGlobals "LETTERS" = some (some (.str "abcdefghijklmnopqrstuvwxyz" t1)))
  (gl2 : W.nsIn K mainGlobals "LONGEST_NAME" = some (some (.int 8 t2)))
  (gl3 : W.nsIn K mainGlobals "NAMING" = some (some (.ref ga3)))
  (ql3 : K.lookup ga3 = some { cls := .type "tuple", data := .seq #[.str "take" t3_0, .str "box" t3_1, .str "down" t3_2, .str "turn" t3_3] gn3 })
  (gl4 : W.nsIn K mainGlobals "JOINING" = some (some (.ref ga4)))
  (ql4 : K.lookup ga4 = some { cls := .type "dict", data := .dict #[{ hash := PyData.keyHash w.params "add", key := .str "add" k4_0, val := .int 2 v4_0 }, { hash := PyData.keyHash w.params "times", key := .str "times" k4_1, val := .int 2 v4_1 }, { hash := PyData.keyHash w.params "less", key := .str "less" k4_2, val := .int 2 v4_2 }, { hash := PyData.keyHash w.params "pick", key := .str "pick" k4_3, val := .int 3 v4_3 }] gn4 }) (sm4 : (ga4 == sysModules) = false)
  (gl5 : W.nsIn K mainGlobals "LINE_SIZES" = some (some (.ref ga5)))
  (ql5 : K.lookup ga5 = some { cls := .type "dict", data := .dict #[{ hash := PyData.keyHash w.params "plain", key := .str "plain" k5_0, val := .int 6 v5_0 }, { hash := PyData.keyHash w.params "part", key := .str "part" k5_1, val := .int 4 v5_1 }, { hash := PyData.keyHash w.params "give", key := .str "give" k5_2, val := .int 5 v5_2 }, { hash := PyData.keyHash w.params "when", key := .str "when" k5_3, val := .int 4 v5_3 }, { hash := PyData.keyHash w.params "each", key := .str "each" k5_4, val := .int 4 v5_4 }] gn5 }) (sm5 : (ga5 == sysModules) = false)
  (gl6 : W.nsIn K mainGlobals "INNER_PLACES" = some (some (.ref ga6)))
  (ql6 : K.lookup ga6 = some { cls := .type "dict", data := .dict #[{ hash := PyData.keyHash w.params "plain", key := .str "plain" k6_0, val := .ref r6_0 }, { hash := PyData.keyHash w.params "part", key := .str "part" k6_1, val := .ref r6_1 }, { hash := PyData.keyHash w.params "give", key := .str "give" k6_2, val := .ref r6_2 }, { hash := PyData.keyHash w.params "when", key := .str "when" k6_3, val := .ref r6_3 }, { hash := PyData.keyHash w.params "each", key := .str "each" k6_4, val := .ref r6_4 }] gn6 }) (sm6 : (ga6 == sysModules) = false)
  (pl6_0 : K.lookup r6_0 = some { cls := .type "tuple", data := .seq #[.int 5 t6_0_0] m6_0 })
  (pl6_1 : K.lookup r6_1 = some { cls := .type "tuple", data := .seq #[] m6_1 })
  (pl6_2 : K.lookup r6_2 = some { cls := .type "tuple", data := .seq #[.int 4 t6_2_0] m6_2 })
  (pl6_3 : K.lookup r6_3 = some { cls := .type "tuple", data := .seq #[.int 2 t6_3_0, .int 3 t6_3_1] m6_3 })
  (pl6_4 : K.lookup r6_4 = some { cls := .type "tuple", data := .seq #[.int 3 t6_4_0] m6_4 })
  (gl7 : W.nsIn K mainGlobals "CHANGING" = some (some (.ref ga7)))
  (ql7 : K.lookup ga7 = some { cls := .type "tuple", data := .seq #[.str "set" t7_0, .str "add" t7_1, .str "times" t7_2] gn7 })
  (gl8 : W.nsIn K mainGlobals "MOST_RECKONINGS" = some (some (.int 20 t8)))
  (gl9 : W.nsIn K mainGlobals "MOST_LINES" = some (some (.int 30 t9)))
  (gl10 : W.nsIn K mainGlobals "MOST_DEEP" = some (some (.int 6 t10)))
  (gl11 : W.nsIn K mainGlobals "MOST_EACHES" = some (some (.int 2 t11)))
  (gl12 : W.nsIn K mainGlobals "LAST_RANK" = some (some (.int 3 t12)))
  (gl13 : W.nsIn K mainGlobals "MOST_BOXES" = some (some (.int 4 t13)))
  (gl14 : W.nsIn K mainGlobals "MOST_WORKS" = some (some (.int 4 t14)))
  (gl15 : W.nsIn K mainGlobals "MOST_PARTS" = some (some (.int 6 t15)))
  (z0 : W.nsIn K mainGlobals "abs" = some none)
  (z1 : W.nsIn K mainGlobals "all" = some none)
  (z2 : W.nsIn K mainGlobals "bool" = some none)
  (z3 : W.nsIn K mainGlobals "int" = some none)
  (z4 : W.nsIn K mainGlobals "isinstance" = some none)
  (z5 : W.nsIn K mainGlobals "len" = some none)
  (z6 : W.nsIn K mainGlobals "list" = some none)
  (z7 : W.nsIn K mainGlobals "max" = some none)
  (z8 : W.nsIn K mainGlobals "range" = some none)
  (z9 : W.nsIn K mainGlobals "set" = some none)
  (z10 : W.nsIn K mainGlobals "str" = some none)
  (z11 : W.nsIn K mainGlobals "tuple" = some none)
  : ∃ a : Adr, Txt P w K mg a ∧ ∃ (f : Addr) (kV dc pm : Value) (an : Option Addr) (cd ct : Value), a.law = f ∧ a.Zv = W.fnOf "law" "law" (dQ kB) (fQ kB) (vQ kB) .none kV dc pm an cd ct :=
 ⟨⟨f0, W.fnOf "is_number" "is_number" (dQ eK) (fQ eK) (vQ eK) .none kV0 dc0 pm0 an0 cd0 ct0, f1, W.fnOf "is_name" "is_name" (dQ sW) (fQ sW) (vQ sW) .none kV1 dc1 pm1 an1 cd1 ct1, f2, W.fnOf "is_reckoning" "is_reckoning" (dQ gJ) (fQ gJ) (vQ gJ) .none kV2 dc2 pm2 an2 cd2 ct2, f3, W.fnOf "inner_things" "inner_things" (dQ bJ) (fQ bJ) (vQ bJ) .none kV3 dc3 pm3 an3 cd3 ct3, f4, W.fnOf "stands_alone" "stands_alone" (dQ uJ) (fQ uJ) (vQ uJ) .none kV4 dc4 pm4 an4 cd4 ct4, f5, W.fnOf "lines_fit" "lines_fit" (dQ yK) (fQ yK) (vQ yK) .none kV5 dc5 pm5 an5 cd5 ct5, f6, W.fnOf "inner_lines" "inner_lines" (dQ wJ) (fQ wJ) (vQ wJ) .none kV6 dc6 pm6 an6 cd6 ct6, f7, W.fnOf "turns_within" "turns_within" (dQ yJ) (fQ yJ) (vQ yJ) .none kV7 dc7 pm7 an7 cd7 ct7, f8, W.fnOf "line_fits" "line_fits" (dQ oK) (fQ oK) (vQ oK) .none kV8 dc8 pm8 an8 cd8 ct8, f9, W.fnOf "key_fits" "key_fits" (dQ pV) (fQ pV) (vQ pV) .none kV9 dc9 pm9 an9 cd9 ct9, f10, W.fnOf "reckoning_fits" "reckoning_fits" (dQ lZ) (fQ lZ) (vQ lZ) .none kV10 dc10 pm10 an10 cd10 ct10, f11, W.fnOf "pairs_fit" "pairs_fit" (dQ vK) (fQ vK) (vQ vK) .none kV11 dc11 pm11 an11 cd11 ct11, f12, W.fnOf "begins_with_names" "begins_with_names" (dQ jZ) (fQ jZ) (vQ jZ) .none kV12 dc12 pm12 an12 cd12 ct12, f13, W.fnOf "hands_fit" "hands_fit" (dQ gK) (fQ gK) (vQ gK) .none kV13 dc13 pm13 an13 cd13 ct13, f14, W.fnOf "hand_fits" "hand_fits" (dQ bK) (fQ bK) (vQ bK) .none kV14 dc14 pm14 an14 cd14 ct14, f15, W.fnOf "change_fits" "change_fits" (dQ eJ) (fQ eJ) (vQ eJ) .none kV15 dc15 pm15 an15 cd15 ct15, f16, W.fnOf "is_part" "is_part" (dQ nW) (fQ nW) (vQ nW) .none kV16 dc16 pm16 an16 cd16 ct16, f17, W.fnOf "boxes_fit" "boxes_fit" (dQ aK) (fQ aK) (vQ aK) .none kV17 dc17 pm17 an17 cd17 ct17, f18, W.fnOf "is_house" "is_house" (dQ qV) (fQ qV) (vQ qV) .none kV18 dc18 pm18 an18 cd18 ct18, f19, W.fnOf "names_only" "names_only" (dQ wK) (fQ wK) (vQ wK) .none kV19 dc19 pm19 an19 cd19 ct19, f20, W.fnOf "part_of" "part_of" (dQ dW) (fQ dW) (vQ dW) .none kV20 dc20 pm20 an20 cd20 ct20, f21, W.fnOf "behind" "behind" (dQ wG) (fQ wG) (vQ wG) .none kV21 dc21 pm21 an21 cd21 ct21, f22, W.fnOf "_law_tape" "_law_tape" (dQ kG) (fQ kG) (vQ kG) .none kV22 dc22 pm22 an22 cd22 ct22, f23, W.fnOf "_law_draw" "_law_draw" (dQ xV) (fQ xV) (vQ xV) .none kV23 dc23 pm23 an23 cd23 ct23, f24, W.fnOf "_law_names" "_law_names" (dQ eV) (fQ eV) (vQ eV) .none kV24 dc24 pm24 an24 cd24 ct24, f25, W.fnOf "_law_small_part" "_law_small_part" (dQ fZ) (fQ fZ) (vQ fZ) .none kV25 dc25 pm25 an25 cd25 ct25, f26, W.fnOf "_law_small_house" "_law_small_house" (dQ dZ) (fQ dZ) (vQ dZ) .none kV26 dc26 pm26 an26 cd26 ct26, f27, W.fnOf "_law_odd" "_law_odd" (dQ eY) (fQ eY) (vQ eY) .none kV27 dc27 pm27 an27 cd27 ct27, f28, W.fnOf "_law_other" "_law_other" (dQ kK) (fQ kK) (vQ kK) .none kV28 dc28 pm28 an28 cd28 ct28, f29, W.fnOf "_law_bent" "_law_bent" (dQ vG) (fQ vG) (vQ vG) .none kV29 dc29 pm29 an29 cd29 ct29, f30, W.fnOf "_law_is_name" "_law_is_name" (dQ tK) (fQ tK) (vQ tK) .none kV30 dc30 pm30 an30 cd30 ct30, f31, W.fnOf "_law_is_number" "_law_is_number" (dQ tJ) (fQ tJ) (vQ tJ) .none kV31 dc31 pm31 an31 cd31 ct31, f32, W.fnOf "_law_nodes" "_law_nodes" (dQ lW) (fQ lW) (vQ lW) .none kV32 dc32 pm32 an32 cd32 ct32, f33, W.fnOf "_law_is_sum" "_law_is_sum" (dQ fV) (fQ fV) (vQ fV) .none kV33 dc33 pm33 an33 cd33 ct33, f34, W.fnOf "_law_sum_fits" "_law_sum_fits" (dQ uK) (fQ uK) (vQ uK) .none kV34 dc34 pm34 an34 cd34 ct34, f35, W.fnOf "_law_pairs_fit" "_law_pairs_fit" (dQ nJ) (fQ nJ) (vQ nJ) .none kV35 dc35 pm35 an35 cd35 ct35, f36, W.fnOf "_law_change_fits" "_law_change_fits" (dQ eZ) (fQ eZ) (vQ eZ) .none kV36 dc36 pm36 an36 cd36 ct36, f37, W.fnOf "_law_hands_fit" "_law_hands_fit" (dQ vJ) (fQ vJ) (vQ vJ) .none kV37 dc37 pm37 an37 cd37 ct37, f38, W.fnOf "_law_line_fits" "_law_line_fits" (dQ oJ) (fQ oJ) (vQ oJ) .none kV38 dc38 pm38 an38 cd38 ct38, f39, W.fnOf "_law_lines_fit" "_law_lines_fit" (dQ sJ) (fQ sJ) (vQ sJ) .none kV39 dc39 pm39 an39 cd39 ct39, f40, W.fnOf "_law_part_fits" "_law_part_fits" (dQ rJ) (fQ rJ) (vQ rJ) .none kV40 dc40 pm40 an40 cd40 ct40, f41, W.fnOf "_law_is_house" "_law_is_house" (dQ lJ) (fQ lJ) (vQ lJ) .none kV41 dc41 pm41 an41 cd41 ct41, f42, W.fnOf "_law_turned" "_law_turned" (dQ mV) (fQ mV) (vQ mV) .none kV42 dc42 pm42 an42 cd42 ct42, f43, W.fnOf "_law_right" "_law_right" (dQ cW) (fQ cW) (vQ cW) .none kV43 dc43 pm43 an43 cd43 ct43, f44, W.fnOf "_law_named" "_law_named" (dQ rW) (fQ rW) (vQ rW) .none kV44 dc44 pm44 an44 cd44 ct44, f45, W.fnOf "law" "law" (dQ kB) (fQ kB) (vQ kB) .none kV45 dc45 pm45 an45 cd45 ct45, t0, t1, t2, ga3, ga4, ga5, ga6, r6_0, r6_1, r6_2, r6_3, r6_4, ga7, t8, t9, t10, t11, t12, t13, t14, t15⟩,
  ⟨W.mg_of X G gl0,
  W.mg_of X G gl1,
  W.mg_of X G gl2,
  W.mg_of X G gl3,
  fun _ => .inr ⟨_, _, _, ql3, rfl, rfl, by show 4 ≤ sizeLine; decide, (.cons ⟨_, rfl⟩ (.cons ⟨_, rfl⟩ (.cons ⟨_, rfl⟩ (.cons ⟨_, rfl⟩ .nil))))⟩,
  W.mg_of X G gl4,
  kd_of (l := [("add", k4_0, 2, v4_0), ("times", k4_1, 2, v4_1), ("less", k4_2, 2, v4_2), ("pick", k4_3, 3, v4_3)]) ql4 (by show (["add", "times", "less", "pick"] : List Str).Nodup; decide +kernel) sm4 (fun _ => rfl),
  W.mg_of X G gl5,
  kd_of (l := [("plain", k5_0, 6, v5_0), ("part", k5_1, 4, v5_1), ("give", k5_2, 5, v5_2), ("when", k5_3, 4, v5_3), ("each", k5_4, 4, v5_4)]) ql5 (by show (["plain", "part", "give", "when", "each"] : List Str).Nodup; decide +kernel) sm5 (fun _ => rfl),
  W.mg_of X G gl6,
  kd_ofV (l := [("plain", k6_0, .ref r6_0, .ref r6_0), ("part", k6_1, .ref r6_1, .ref r6_1), ("give", k6_2, .ref r6_2, .ref r6_2), ("when", k6_3, .ref r6_3, .ref r6_3), ("each", k6_4, .ref r6_4, .ref r6_4)]) ql6 (by show (["plain", "part", "give", "when", "each"] : List Str).Nodup; decide +kernel) sm6 (fun _ => rfl) (.cons rfl (.cons rfl (.cons rfl (.cons rfl (.cons rfl (.nil)))))),
  fun _ => .inr ⟨_, _, _, pl6_0, rfl, rfl, by show 1 ≤ sizeLine; decide, (.cons ⟨_, rfl⟩ .nil)⟩,
  fun _ => .inr ⟨_, _, _, pl6_1, rfl, rfl, by show 0 ≤ sizeLine; decide, .nil⟩,
  fun _ => .inr ⟨_, _, _, pl6_2, rfl, rfl, by show 1 ≤ sizeLine; decide, (.cons ⟨_, rfl⟩ .nil)⟩,
  fun _ => .inr ⟨_, _, _, pl6_3, rfl, rfl, by show 2 ≤ sizeLine; decide, (.cons ⟨_, rfl⟩ (.cons ⟨_, rfl⟩ .nil))⟩,
  fun _ => .inr ⟨_, _, _, pl6_4, rfl, rfl, by show 1 ≤ sizeLine; decide, (.cons ⟨_, rfl⟩ .nil)⟩,
  W.mg_of X G gl7,
  fun _ => .inr ⟨_, _, _, ql7, rfl, rfl, by show 3 ≤ sizeLine; decide, (.cons ⟨_, rfl⟩ (.cons ⟨_, rfl⟩ (.cons ⟨_, rfl⟩ .nil)))⟩,
  W.mg_of X G gl8,
  W.mg_of X G gl9,
  W.mg_of X G gl10,
  W.mg_of X G gl11,
  W.mg_of X G gl12,
  W.mg_of X G gl13,
  W.mg_of X G gl14,
  W.mg_of X G gl15,
  W.mg_none_of X G z0,
  W.mg_none_of X G z1,
  W.mg_none_of X G z2,
  W.mg_none_of X G z3,
  W.mg_none_of X G z4,
  W.mg_none_of X G z5,
  W.mg_none_of X G z6,
  W.mg_none_of X G z7,
  W.mg_none_of X G z8,
  W.mg_none_of X G z9,
  W.mg_none_of X G z10,
  W.mg_none_of X G z11,
  W.mg_of X G a0,
  cX l0 c0 k0,
  W.mg_of X G a1,
  cX l1 c1 k1,
  W.mg_of X G a2,
  cX l2 c2 k2,
  W.mg_of X G a3,
  cX l3 c3 k3,
  W.mg_of X G a4,
  cX l4 c4 k4,
  W.mg_of X G a5,
  cX l5 c5 k5,
  W.mg_of X G a6,
  cX l6 c6 k6,
  W.mg_of X G a7,
  cX l7 c7 k7,
  W.mg_of X G a8,
  cX l8 c8 k8,
  W.mg_of X G a9,
  cX l9 c9 k9,
  W.mg_of X G a10,
  cX l10 c10 k10,
  W.mg_of X G a11,
  cX l11 c11 k11,
  W.mg_of X G a12,
  cX l12 c12 k12,
  W.mg_of X G a13,
  cX l13 c13 k13,
  W.mg_of X G a14,
  cX l14 c14 k14,
  W.mg_of X G a15,
  cX l15 c15 k15,
  W.mg_of X G a16,
  cX l16 c16 k16,
  W.mg_of X G a17,
  cX l17 c17 k17,
  W.mg_of X G a18,
  cX l18 c18 k18,
  W.mg_of X G a19,
  cX l19 c19 k19,
  W.mg_of X G a20,
  cX l20 c20 k20,
  W.mg_of X G a21,
  cX l21 c21 k21,
  W.mg_of X G a22,
  cX l22 c22 k22,
  W.mg_of X G a23,
  cX l23 c23 k23,
  W.mg_of X G a24,
  cX l24 c24 k24,
  W.mg_of X G a25,
  cX l25 c25 k25,
  W.mg_of X G a26,
  cX l26 c26 k26,
  W.mg_of X G a27,
  cX l27 c27 k27,
  W.mg_of X G a28,
  cX l28 c28 k28,
  W.mg_of X G a29,
  cX l29 c29 k29,
  W.mg_of X G a30,
  cX l30 c30 k30,
  W.mg_of X G a31,
  cX l31 c31 k31,
  W.mg_of X G a32,
  cX l32 c32 k32,
  W.mg_of X G a33,
  cX l33 c33 k33,
  W.mg_of X G a34,
  cX l34 c34 k34,
  W.mg_of X G a35,
  cX l35 c35 k35,
  W.mg_of X G a36,
  cX l36 c36 k36,
  W.mg_of X G a37,
  cX l37 c37 k37,
  W.mg_of X G a38,
  cX l38 c38 k38,
  W.mg_of X G a39,
  cX l39 c39 k39,
  W.mg_of X G a40,
  cX l40 c40 k40,
  W.mg_of X G a41,
  cX l41 c41 k41,
  W.mg_of X G a42,
  cX l42 c42 k42,
  W.mg_of X G a43,
  cX l43 c43 k43,
  W.mg_of X G a44,
  cX l44 c44 k44,
  W.mg_of X G a45,
  cX l45 c45 k45⟩, _, _, _, _, _, _, _, rfl, rfl⟩
noncomputable def Kf (sc : Addr) (c d p : Int) : HO := .lst [.ref sc, .int c, .int d, .int p]
structure St1 (K : W.Frag) (H : Hp) (t sc : Addr) (ns : List Int) : Prop where
 tp : ∃ c d p, H t = some (Kf sc c d p) ∧ 0 ≤ p
 sq : SqL K H sc (ns.map V.int)
 le : ns.length ≤ 63
noncomputable def Ext (t : Addr) (H H' : Hp) : Prop := ∀ b o, b ≠ t → H b = some o → H' b = some o
theorem Ext.refl {t : Addr} {H : Hp} : Ext t H H := fun _ _ _ h => h
theorem Ext.trans {t : Addr} {H H1 H2 : Hp} (a : Ext t H H1) (b : Ext t H1 H2) : Ext t H H2 := fun c o n h => b c o n (a c o n h)
theorem Ext.at {t : Addr} {H : Hp} {o : HO} : Ext t H (upd H t o) := fun b u n h => by rw [uX n]; exact h
theorem Ext.same {t : Addr} {H H' : Hp} (s : Same H H') : Ext t H H' := fun b o _ h => s b o h
theorem kQ {H : Hp} {p : Addr} (h : H p = none) (o : HO) : Same H (upd H p o) := fun b u q => by rw [uX (uZ q h)]; exact q
theorem Xd {K : W.Frag} {H H' : Hp} {t sc : Addr} {ns : List Int} {c d p : Int} (h : SqL K H sc (ns.map V.int)) (hT : H t = some (Kf sc c d p)) (e : Ext t H H') : SqL K H' sc (ns.map V.int) := by
 rcases h with (h | ⟨o, h⟩) | h
 ·refine .inl (.inl (e _ _ ?_ h))
  rintro rfl
  rw [hT] at h
  have z : [V.ref sc, .int c, .int d, .int p] = ns.map V.int := by
   have := Option.some.inj h
   injection this
  cases ns with
  | nil => cases z
  | cons n r => injection z with z1 _; cases z1
 ·refine .inl (.inr ⟨o, e _ _ ?_ h⟩)
  rintro rfl
  rw [hT] at h
  cases h
 ·exact .inr h
theorem St1.ext {K : W.Frag} {H H' : Hp} {t sc : Addr} {ns : List Int} {c d p : Int} (h : St1 K H t sc ns) (e : Ext t H H') (hT : H' t = some (Kf sc c d p)) (hp : 0 ≤ p) : St1 K H' t sc ns :=
 ⟨⟨c, d, p, hT, hp⟩, let ⟨_, _, _, q, _⟩ := h.tp; Xd h.sq q e, h.le⟩
theorem St1.same {K : W.Frag} {H H' : Hp} {t sc : Addr} {ns : List Int} (h : St1 K H t sc ns) (e : Same H H') : St1 K H' t sc ns :=
 ⟨let ⟨c, d, p, q, r⟩ := h.tp; ⟨c, d, p, e _ _ q, r⟩, e.seq h.sq, h.le⟩
theorem St1.new {K : W.Frag} {H : Hp} {t sc : Addr} {ns : List Int} (h : St1 K H t sc ns) {p : Addr} (hp : H p = none) (o : HO) : St1 K (upd H p o) t sc ns := h.same (kQ hp o)
theorem St1.ne {K : W.Frag} {H : Hp} {t sc : Addr} {ns : List Int} (h : St1 K H t sc ns) {p : Addr} (hp : H p = none) : p ≠ t := fun e => by
 subst e
 obtain ⟨_, _, _, q, _⟩ := h.tp
 rw [hp] at q
 cases q
theorem Wq {ns : List Int} {k : Int} (h0 : 0 ≤ k) (h : k < (ns.length : Int)) : ∃ v : Int, atI (ns.map V.int) k = some (.int v) := by
 have hk : k.toNat < ns.length := by omega
 have ek : k = ((k.toNat : Nat) : Int) := by omega
 have q : atI (ns.map V.int) ((k.toNat : Nat) : Int) = some (.int ns[k.toNat]) := jV (by rw [List.getElem?_map, List.getElem?_eq_getElem hk] <;> rfl)
 rw [← ek] at q
 exact ⟨_, q⟩
inductive Kc (K : W.Frag) (vs : List V) (H : Hp) (Q : VK) : Prop
 | mk (t : Addr) (m : Int) (sc : Addr) (ns : List Int) (z0 : vs = [.ref t, .int m]) (z1 : St1 K H t sc ns) (z2 : 0 < m) (z3 : m < 4611686018427387904) (z4 : ∀ (k : Int) (H' : Hp), 0 ≤ k → k < m → St1 K H' t sc ns → Ext t H H' → Q (.int k) H') : Kc K vs H Q
noncomputable def spDraw (K : W.Frag) : Sp := fun vs H Q _ => Kc K vs H Q
inductive Kb (K : W.Frag) (vs : List V) (H : Hp) (Q : VK) : Prop
 | mk (sc : Addr) (ns : List Int) (z0 : vs = [.ref sc]) (z1 : SqL K H sc (ns.map V.int)) (z2 : ns.length ≤ 63) (z3 : ∀ (t : Addr) (H' : Hp), Same H H' → St1 K H' t sc ns → Q (.ref t) H') : Kb K vs H Q
noncomputable def spTape (K : W.Frag) : Sp := fun vs H Q _ => Kb K vs H Q
section
variable {P : Program} {w : World} {K : W.Frag} {mg : Str → Option Value} {base : Heap} {a : Adr}
theorem ok_tape (T : Txt P w K mg a) : FnOk P w K mg base CX0 1 a.Xr a.sI ["_law_script"] (spTape K) := by
 have S := QI
 refine T.Qi.okJ QI (fun vs H Q E h => ?_) (fun cdv A outer s H vs Q E hr h => ?_)
 ·obtain ⟨sc, ns, rfl, _⟩ := h; rfl
 obtain ⟨sc, ns, rfl, hs, hl, q⟩ := h
 refine ⟨_, (uQ (pQ (cZ (qQ (jv 0) (qQ xQ (qQ xQ (qQ xQ jQ))))))), ?_⟩
 refine ⟨_, rfl, sZ4, fun p hp => ?_⟩
 exact q p _ (kQ hp _) ⟨⟨0, 0, 0, zQ, Int.le_refl 0⟩, (kQ hp _).seq hs, hl⟩
theorem mF (T : Txt P w K mg a) : FnOk P w K mg base CX0 1 a.aR a.oI ["_law_tape_here", "_law_many"] (spDraw K) := by
 have S := QJ
 refine T.Qj.okJ QJ (fun vs H Q E h => ?_) (fun cdv A outer s H vs Q E hr h => ?_)
 ·obtain ⟨t, m, sc, ns, rfl, _⟩ := h; rfl
 obtain ⟨t, m, sc, ns, rfl, st, m0, m1, q⟩ := h
 obtain ⟨c, d, p, hT, hp⟩ := st.tp
 have sz : ns.length ≤ 63 := st.le
 have hl : (ns.map V.int).length = ns.length := List.length_map _
 have R2 : ∃ t', JB (bS CX0 P w K mg base ["_law_tape_here", "_law_many", "_law_script", "_law_digit", "_law_cell", "_law_mixed"] "_law_draw" (vQ xV) a.aR cdv A outer s H E).nox ((fQ xV).drop 6) t' ∧
   ∀ (H1 : Hp) (cell c d p : Int), H1 t = some (Kf sc c d p) → 0 ≤ p → Ext t H H1 → t' { nx := fun _ H' => Q .non H', rt := Q } [some (.ref t), some (.int m), some (.ref sc), none, some (.int cell), none] H1 := by
  refine ⟨_, (wQ (kX (i := 5) S.nd rfl (Or.inl rfl) (bX yF (bX fJ (bX fJ (bX vA (bX yF (jv 4) xQ) xQ) (bX vA (cQ hX (jv 0) xQ (fun _ _ => rfl)) xQ)) xQ) xQ)) (wQ (kX (i := 5) S.nd rfl (Or.inl rfl) (bX yF (bX vA (jv 5) (bX fJ (jv 5) xQ)) xQ)) (uQ (pQ (bX yF (bX yF (bX vA (jv 5) xQ) xQ) (jv 1)))))), ?_⟩
  intro H1 cell c d p hT hp e1
  refine ⟨_, rfl, _, _, rfl, rfl, (by show (0 : Int) < _; decide), _, _, rfl, rfl, .inr ⟨by decide, by decide⟩, _, rfl, t, _, _, _, rfl, rfl, SqL.of hT, rfl, _, _, rfl, rfl, .inr ⟨by decide, by decide⟩, _, _, rfl, rfl, _, _, rfl, rfl, _, _, rfl, rfl, (by show (0 : Int) < _; decide), ?_⟩
  have b0 := Int.emod_nonneg (cell % 2147483647 * 48271 + c * 7919 + 12345) (show (2147483629 : Int) ≠ 0 by decide)
  have b1 := Int.emod_lt_of_pos (cell % 2147483647 * 48271 + c * 7919 + 12345) (show (0 : Int) < 2147483629 by decide)
  refine ⟨_, rfl, _, rfl, _, _, rfl, rfl, _, _, rfl, rfl, .inl ⟨by omega, by omega⟩, _, _, rfl, rfl, (by show (0 : Int) < _; decide), ?_⟩
  refine ⟨_, rfl, _, _, rfl, rfl, .inr ⟨by decide, by decide⟩, _, _, rfl, rfl, (by show (0 : Int) < _; decide), _, rfl, _, _, rfl, rfl, m0, ?_⟩
  exact q _ _ (Int.emod_nonneg _ (by omega)) (Int.emod_lt_of_pos _ m0) (st.ext e1 hT hp) e1
 obtain ⟨tR2, pR2, hR2⟩ := R2
 have R : ∃ t', JB (bS CX0 P w K mg base ["_law_tape_here", "_law_many", "_law_script", "_law_digit", "_law_cell", "_law_mixed"] "_law_draw" (vQ xV) a.aR cdv A outer s H E).nox ((fQ xV).drop 3) t' ∧
   ∀ (H1 : Hp) (c d p : Int), H1 t = some (Kf sc c d p) → 0 ≤ p → Ext t H H1 → t' { nx := fun _ H' => Q .non H', rt := Q } [some (.ref t), some (.int m), some (.ref sc), none, none, none] H1 := by
  refine ⟨_, (wQ (zX (sQ eG (cQ hX (jv 0) xQ (fun _ _ => rfl)) xQ (oQ _)) (wQ (kX (i := 3) S.nd rfl (Or.inl rfl) (bX yF (cQ hX (jv 0) xQ (fun _ _ => rfl)) (jv 1))) (wQ (nL (bX XZ (cQ hX (jv 0) xQ (fun _ _ => rfl)) (jv 1)) (iH (jv 0) xQ kU)) (uQ (pQ (jv 3))))) tQ) (wQ (kX (i := 4) S.nd rfl (Or.inl rfl) xQ) (wQ (zX (sQ eG (gQ qX rfl T.aX rfl (qQ (jv 2) jQ)) xQ (oQ _)) (uQ (kX (i := 4) S.nd rfl (Or.inl rfl) (cQ hX (jv 2) (bX yF (cQ hX (jv 0) xQ (fun _ _ => rfl)) (gQ qX rfl T.aX rfl (qQ (jv 2) jQ))) (fun _ _ => rfl)))) tQ)
  pR2))), ?_⟩
  intro H1 c d p hT hp e1
  have hS : SqL K H1 sc (ns.map V.int) := let ⟨_, _, _, q', _⟩ := st.tp; Xd st.sq q' e1
  refine ⟨_, rfl, t, _, _, _, rfl, rfl, SqL.of hT, rfl, _, _, rfl, rfl, _, rfl, ?_⟩
  refine wH (fun hd => ?_) (fun hd => ?_)
  ·refine ⟨_, rfl, t, _, _, _, rfl, rfl, SqL.of hT, rfl, _, rfl, _, _, rfl, rfl, m0, ?_⟩
   refine ⟨_, rfl, t, _, _, _, rfl, rfl, SqL.of hT, rfl, _, rfl, _, _, rfl, rfl, ⟨m0, by omega⟩, _, rfl, t, _, _, _, rfl, rfl, hT, rfl, ?_⟩
   refine ⟨_, rfl, ?_⟩
   exact q _ _ (Int.emod_nonneg _ (by omega)) (Int.emod_lt_of_pos _ m0) (st.ext (e1.trans Ext.at) zQ hp) (e1.trans Ext.at)
  ·refine ⟨_, rfl, _, _, rfl, .inl ⟨_, hS, rfl⟩, _, _, rfl, rfl, _, rfl, ?_⟩
   refine wH (fun hn => ?_) (fun hn => ?_)
   ·have hn' : (0 : Int) < ((ns.map V.int).length : Nat) := of_decide_eq_true hn
    rw [hl] at hn'
    obtain ⟨v, hv⟩ := Wq (ns := ns) (k := c % (ns.length : Int)) (Int.emod_nonneg _ (by omega)) (Int.emod_lt_of_pos _ hn')
    refine ⟨_, rfl, _, rfl, t, _, _, _, rfl, rfl, SqL.of hT, rfl, _, rfl, _, _, rfl, .inl ⟨_, hS, rfl⟩, _, _, rfl, rfl, by rw [hl]; exact hn', sc, _, _, _, rfl, rfl, hS, by rw [hl]; exact hv, ?_⟩
    exact hR2 _ _ _ _ _ hT hp e1
   ·exact hR2 _ _ _ _ _ hT hp e1
 obtain ⟨tR, pR, hR⟩ := R
 refine ⟨_, (wQ (kX (i := 2) S.nd rfl (Or.inl rfl) (cQ hX (jv 0) xQ (fun _ _ => rfl))) (wQ (nL (bX fJ (cQ hX (jv 0) xQ (fun _ _ => rfl)) xQ) (iH (jv 0) xQ kU)) (wQ (zX (iX (jY (sQ wZ (cQ hX (jv 0) xQ (fun _ _ => rfl)) xQ (oQ _)) (uV (sQ bL (cQ hX (jv 0) xQ (fun _ _ => rfl)) (gQ qX rfl T.aX rfl (qQ (jv 2) jQ)) (oQ _))))) (wQ (nL (bX XZ (gQ Wn rfl T.z_abs rfl (qQ (cQ hX (jv 2) (cQ hX (jv 0) xQ (fun _ _ => rfl)) (fun _ _ => rfl)) jQ)) (bX xA xQ xQ)) (iH (jv 0) xQ kU)) (uQ (nL (bX fJ (cQ hX (jv 0) xQ (fun _ _ => rfl)) xQ) (iH (jv 0) xQ kU)))) tQ)
  pR))), ?_⟩
 refine ⟨_, rfl, t, _, _, _, rfl, rfl, SqL.of hT, rfl, ?_⟩
 refine ⟨_, rfl, t, _, _, _, rfl, rfl, SqL.of hT, rfl, _, _, rfl, rfl, _, rfl, t, _, _, _, rfl, rfl, hT, rfl, ?_⟩
 have hT1 : upd H t (.lst [.ref sc, .int (c + 1), .int d, .int p]) t = some (Kf sc (c + 1) d p) := zQ
 have e1 : Ext t H (upd H t (.lst [.ref sc, .int (c + 1), .int d, .int p])) := Ext.at
 have hS : SqL K (upd H t (.lst [.ref sc, .int (c + 1), .int d, .int p])) sc (ns.map V.int) := Xd st.sq hT e1
 refine ⟨_, rfl, t, _, _, _, rfl, rfl, SqL.of hT1, rfl, rfl, _, rfl, ?_⟩
 refine wH (fun hd => ?_) (fun hd => ?_)
 ·refine ⟨_, rfl, t, _, _, _, rfl, rfl, SqL.of hT1, rfl, _, rfl, _, _, rfl, .inl ⟨_, hS, rfl⟩, _, _, rfl, rfl, _, rfl, ?_⟩
  refine wH (fun hn => ?_) (fun hn => ?_)
  ·have hn' : p < ((ns.map V.int).length : Nat) := of_decide_eq_true hn
   rw [hl] at hn'
   obtain ⟨v, hv⟩ := Wq (ns := ns) (k := p) hp hn'
   refine ⟨_, rfl, _, rfl, t, _, _, _, rfl, rfl, SqL.of hT1, rfl, sc, _, _, _, rfl, rfl, hS, hv, _, rfl, _, _, rfl, rfl, ⟨by decide, by decide, by decide⟩, _, _, rfl, rfl, ⟨by decide, by decide⟩, _, rfl, t, _, _, _, rfl, rfl, hT1, rfl, ?_⟩
   refine ⟨_, rfl, t, _, _, _, rfl, rfl, SqL.of zQ, rfl, _, _, rfl, rfl, _, rfl, t, _, _, _, rfl, rfl, zQ, rfl, ?_⟩
   exact hR _ _ _ _ zQ (by omega) ((e1.trans Ext.at).trans Ext.at)
  ·exact hR _ _ _ _ hT1 hp e1
 ·exact hR _ _ _ _ hT1 hp e1
end
end K06
namespace K06
open PySem L2
theorem zW {H : Hp} {p : Addr} {o : HO} {n : Ty} (h : H p = some o) (e : tyH o = some n) : tyN H (.ref p) = some n := by
 show (H p).bind tyH = some n
 rw [h]
 exact e
theorem jG {H H' : Hp} {x : V} {n : Ty} (s : Same H H') (h : tyN H x = some n) : tyN H' x = some n := by
 cases x with
 | ref p =>
  have h : (H p).bind tyH = some n := h
  cases e : H p with
  | none => rw [e] at h; cases h
  | some o =>
   rw [e] at h
   exact zW (s p o e) h
 | _ => exact h
noncomputable def ScalOk : V → Nat → Prop
 | .non, k => 1 ≤ k
 | .bl _, k => 1 ≤ k
 | .int i, k => 1 ≤ k ∧ i.natAbs ≤ 1000000000 + k
 | .str z, k => z.length + 1 ≤ k
 | _, _ => False
noncomputable def kids : HO → Option (List V)
 | .tup xs => some xs
 | .lst xs => some xs
 | .dK [] => some []
 | _ => none
inductive Ths (t : Addr → Prop) (H : Hp) : List V → Nat → Nat → Prop
 | nil {n d} : Ths t H [] n d
 | sc {v vs k m n d} : ScalOk v k → Ths t H vs m d → k + m ≤ n → Ths t H (v :: vs) n d
 | ob {a o xs vs k e m n d} : ¬ t a → H a = some o → kids o = some xs → Ths t H xs k e → e + 1 ≤ d → Ths t H vs m d → k + 10 + m ≤ n → Ths t H (.ref a :: vs) n d
section
variable {t u : Addr → Prop} {H H' : Hp} {xs ys vs : List V} {v y : V} {n m k d d' : Nat}
theorem ScalOk.pos : ∀ {v : V}, ScalOk v k → 1 ≤ k
 | .non, h => h
 | .bl _, h => h
 | .int _, h => h.1
 | .str z, h => by have h : z.length + 1 ≤ k := h; omega
theorem Ths.mono (h : Ths t H xs n d) (e : n ≤ m) (e' : d ≤ d') : Ths t H xs m d' := by
 induction h generalizing m d' with
 | nil => exact .nil
 | sc a b c ih => exact .sc a (ih lR e') (by omega)
 | ob a b c f g h1 h2 ih1 ih2 => exact .ob a b c f (by omega) (ih2 lR e') (by omega)
theorem Ths.inv (h : Ths t H (v :: vs) n d) : ∃ k m, Ths t H [v] k d ∧ Ths t H vs m d ∧ k + m ≤ n ∧ 1 ≤ k := by
 cases h with
 | @sc _ _ k m _ _ a b c => exact ⟨k, m, .sc (m := 0) a .nil (by omega), b, c, a.pos⟩
 | @ob _ _ _ _ k e m _ _ a b c f g h1 h2 => exact ⟨k + 10, m, .ob (m := 0) a b c f g .nil (by omega), h1, h2, by omega⟩
theorem Ths.cons (h : Ths t H [v] k d) (h2 : Ths t H vs m d) (e : k + m ≤ n) : Ths t H (v :: vs) n d := by
 cases h with
 | @sc _ _ k' m' _ _ a b c => exact .sc a h2 (by omega)
 | @ob _ _ _ _ k' e' m' _ _ a b c f g h1 h3 => exact .ob a b c f g h2 (by omega)
theorem Ths.append (h : Ths t H xs n d) (h2 : Ths t H ys m d) : Ths t H (xs ++ ys) (n + m) d := by
 induction xs generalizing n with
 | nil => exact h2.mono (by omega) lR
 | cons v r ih =>
  obtain ⟨k, m', h3, h4, e, _⟩ := h.inv
  exact Ths.cons h3 (ih h4) (by omega)
theorem Ths.take (i : Nat) (h : Ths t H xs n d) : Ths t H (xs.take i) n d := by
 induction xs generalizing n i with
 | nil => rw [List.take_nil]; exact .nil
 | cons v r ih =>
  cases i with
  | zero => exact .nil
  | succ i =>
   obtain ⟨k, m', h3, h4, e, _⟩ := h.inv
   rw [List.take_succ_cons]
   exact Ths.cons h3 (ih i h4) e
theorem Ths.drop (i : Nat) (h : Ths t H xs n d) : Ths t H (xs.drop i) n d := by
 induction xs generalizing n i with
 | nil => rw [List.drop_nil]; exact .nil
 | cons v r ih =>
  cases i with
  | zero => exact h
  | succ i =>
   obtain ⟨k, m', h3, h4, e, _⟩ := h.inv
   rw [List.drop_succ_cons]
   exact (ih i h4).mono (by omega) lR
theorem Ths.reverse (h : Ths t H xs n d) : Ths t H xs.reverse n d := by
 induction xs generalizing n with
 | nil => exact .nil
 | cons v r ih =>
  obtain ⟨k, m', h3, h4, e, _⟩ := h.inv
  rw [List.reverse_cons]
  exact ((ih h4).append h3).mono (by omega) lR
theorem Ths.len (h : Ths t H xs n d) : xs.length ≤ n := by
 induction xs generalizing n with
 | nil => exact Nat.zero_le _
 | cons v r ih =>
  obtain ⟨k, m', h3, h4, e, p⟩ := h.inv
  have := ih h4
  rw [List.length_cons]
  omega
theorem Ths.get {i : Nat} (h : Ths t H xs n d) (e : xs[i]? = some v) : Ths t H [v] n d := by
 induction xs generalizing n i with
 | nil => simp at e
 | cons x r ih =>
  obtain ⟨k, m', h3, h4, e', p⟩ := h.inv
  cases i with
  | zero =>
   have e : x = v := by simpa using e
   subst e
   exact h3.mono (by omega) lR
  | succ i => exact (ih h4 (i := i) (by simpa using e)).mono (by omega) lR
theorem Ths.ext (e : ∀ b o, ¬ t b → H b = some o → H' b = some o) (h : Ths t H xs n d) : Ths t H' xs n d := by
 induction h with
 | nil => exact .nil
 | sc a b c ih => exact .sc a ih c
 | ob a b c f g h1 h2 ih1 ih2 => exact .ob a (e _ _ a b) c ih1 g ih2 h2
theorem Ths.same (e : Same H H') (h : Ths t H xs n d) : Ths t H' xs n d := h.ext fun b o _ q => e b o q
theorem Ths.upd {a : Addr} {o : HO} (hd : t a) (h : Ths t H xs n d) : Ths t (upd H a o) xs n d := h.ext fun b o nb q => by
 rw [uX (fun e => nb (by rw [e]; exact hd))]
 exact q
theorem Ths.weak (e : ∀ b, u b → t b) (h : Ths t H xs n d) : Ths u H xs n d := by
 induction h with
 | nil => exact .nil
 | sc a b c ih => exact .sc a ih c
 | ob a b c f g h1 h2 ih1 ih2 => exact .ob (fun z => a (e _ z)) b c ih1 g ih2 h2
theorem Ths.pos (h : Ths t H [v] n d) : 1 ≤ n := by
 obtain ⟨k, m, _, _, e, p⟩ := h.inv
 omega
theorem Ths.tup {a : Addr} {e : Nat} (ne : ¬ t a) (q : H a = some (.tup xs)) (h : Ths t H xs k e) (l : k + 10 ≤ n) (ld : e + 1 ≤ d) : Ths t H [.ref a] n d := .ob (m := 0) ne q rfl h ld .nil (by omega)
theorem Ths.lst {a : Addr} {e : Nat} (ne : ¬ t a) (q : H a = some (.lst xs)) (h : Ths t H xs k e) (l : k + 10 ≤ n) (ld : e + 1 ≤ d) : Ths t H [.ref a] n d := .ob (m := 0) ne q rfl h ld .nil (by omega)
theorem Ths.one (h : ScalOk v k) (l : k ≤ n) : Ths t H [v] n d := .sc (m := 0) h .nil (by omega)
theorem Ths.cls (h : Ths t H [v] n d) : v = .non ∨ (∃ b, v = .bl b) ∨ (∃ i, v = .int i ∧ i.natAbs ≤ 1000000000 + n) ∨ (∃ z, v = .str z ∧ z.length + 1 ≤ n) ∨
  (∃ p xs e, v = .ref p ∧ H p = some (.tup xs) ∧ Ths t H xs (n - 10) e ∧ e + 1 ≤ d ∧ 10 ≤ n) ∨ (∃ p xs e, v = .ref p ∧ H p = some (.lst xs) ∧ Ths t H xs (n - 10) e ∧ e + 1 ≤ d ∧ 10 ≤ n) ∨ ∃ p, v = .ref p ∧ H p = some (.dK []) ∧ 10 ≤ n ∧ 1 ≤ d := by
 cases h with
 | @sc _ _ k m _ _ a b c =>
  cases v with
  | non => exact .inl rfl
  | bl b => exact .inr (.inl ⟨b, rfl⟩)
  | int i => exact .inr (.inr (.inl ⟨i, rfl, by have a := a.2; omega⟩))
  | str z => exact .inr (.inr (.inr (.inl ⟨z, rfl, by have a : z.length + 1 ≤ k := a; omega⟩)))
  | _ => exact False.elim a
 | @ob p o ys _ k e m _ _ h1 h2 h3 h4 h5 h6 h7 =>
  cases o with
  | tup ys => cases h3; exact .inr (.inr (.inr (.inr (.inl ⟨p, _, e, rfl, h2, h4.mono (by omega) lR, h5, by omega⟩))))
  | lst ys => cases h3; exact .inr (.inr (.inr (.inr (.inr (.inl ⟨p, _, e, rfl, h2, h4.mono (by omega) lR, h5, by omega⟩)))))
  | dK kvs =>
   cases kvs with
   | nil => exact .inr (.inr (.inr (.inr (.inr (.inr ⟨p, rfl, h2, by omega, by omega⟩)))))
   | cons _ _ => cases h3
  | _ => cases h3
theorem Ths.ne {a : Addr} (h : Ths t H [.ref a] n d) : ¬ t a := by
 cases h with
 | @sc _ _ k m _ _ a b c => exact False.elim a
 | @ob a o xs' _ k e m _ _ h1 => exact h1
theorem Ths.avoid {l : Addr} (hl : H l = none) (h : Ths t H xs n d) : Ths (fun x => t x ∨ x = l) H xs n d := by
 induction h with
 | nil => exact .nil
 | sc a b c ih => exact .sc a ih c
 | ob a b c f g h1 h2 ih1 ih2 => exact .ob (fun z => z.elim a fun e => by rw [e, hl] at b; cases b) b c ih1 g ih2 h2
theorem Ths.cut {lo hi : Option Int} (h : Ths t H xs n d) : Ths t H (oX xs lo hi) n d := (h.drop _).take _
theorem Ths.parts (h : Ths t H xs n d) : ∀ {i : Nat}, xs[i]? = some v → ∃ c ra rb, Ths t H [v] c d ∧ Ths t H (xs.take i) ra d ∧ Ths t H (xs.drop (i + 1)) rb d ∧ c + ra + rb ≤ n := by
 induction xs generalizing n with
 | nil => intro i e; simp at e
 | cons x r ih =>
  intro i e
  obtain ⟨k, m', h3, h4, e', p⟩ := h.inv
  cases i with
  | zero =>
   have e : x = v := by simpa using e
   subst e
   exact ⟨k, 0, m', h3, .nil, h4, by omega⟩
  | succ i =>
   obtain ⟨c, ra, rb, h5, h6, h7, h8⟩ := ih h4 (i := i) (by simpa using e)
   exact ⟨c, k + ra, rb, h5, by rw [List.take_succ_cons]; exact Ths.cons h3 h6 lR, by rw [List.drop_succ_cons]; exact h7, by omega⟩
theorem Ths.two {x y : V} {i j : Nat} (h1 : ScalOk x i) (h2 : ScalOk y j) : Ths t H [x, y] (i + j) d := Ths.cons (Ths.one h1 lR) (Ths.one h2 lR) lR
theorem Ths.five {v1 v2 v3 v4 v5 : V} {k1 k2 k3 k4 k5 : Nat} (h1 : ScalOk v1 k1) (h2 : ScalOk v2 k2) (h3 : ScalOk v3 k3) (h4 : ScalOk v4 k4) (h5 : ScalOk v5 k5) : Ths t H [v1, v2, v3, v4, v5] (k1 + (k2 + (k3 + (k4 + k5)))) d :=
 Ths.cons (Ths.one h1 lR) (Ths.cons (Ths.one h2 lR) (Ths.cons (Ths.one h3 lR) (Ths.cons (Ths.one h4 lR) (Ths.one h5 lR) lR) lR) lR) lR
end
noncomputable def aL : V → Bool
 | .int i => decide (-1000000000 ≤ i) && decide (i ≤ 1000000000)
 | _ => false
noncomputable def mY (c : Nat) : Bool := !(Builtin.Str.occurrences "abcdefghijklmnopqrstuvwxyz" ⟨#[c]⟩ 0 ("abcdefghijklmnopqrstuvwxyz" : Str).length 1).isEmpty
noncomputable def aG : V → Bool
 | .str z => (decide ((1 : Int) ≤ (z.length : Nat)) && decide (((z.length : Nat) : Int) ≤ 8)) && z.cps.toList.all mY
 | _ => false
theorem ref_ty {H : Hp} {p : Addr} {n : Ty} (h : tyN H (.ref p) = some n) : n = .lst ∨ n = .tup ∨ n = .dct := by
 have h : (H p).bind tyH = some n := h
 cases e : H p with
 | none => rw [e] at h; cases h
 | some o =>
  rw [e] at h
  have h : tyH o = some n := h
  cases o with
  | lst xs => cases h; exact .inl rfl
  | tup xs => cases h; exact .inr (.inl rfl)
  | dK kvs => cases h; exact .inr (.inr rfl)
  | dT kvs => cases h; exact .inr (.inr rfl)
  | frz ob u =>
   cases u with
   | lst xs => cases h; exact .inl rfl
   | _ => cases h
  | _ => cases h
theorem Kg {α β : Type} (f : α → β) (xs : List α) (i : Nat) (c : α) (h : xs[i]? = some c) : (xs.take (i + 1)).map f = (xs.take i).map f ++ [f c] := by
 rw [List.take_succ, h, List.map_append]
 rfl
theorem all_map (p : Nat → Bool) : ∀ xs : List Nat, (xs.map p).all id = xs.all p
 | [] => rfl
 | x :: r => by
  rw [List.map_cons, List.all_cons, List.all_cons, all_map p r]
  rfl
theorem rC (p : Nat → Bool) : ∀ xs : List Nat, ((xs.filter fun c => !p c).map fun c => V.str ⟨#[c]⟩).isEmpty = xs.all p
 | [] => rfl
 | x :: r => by
  rw [List.filter_cons, List.all_cons, ← rC p r]
  cases p x <;> simp
theorem J7 {H : Hp} {x : V} {n : Ty} (hn : tyN H x = some n) : (∃ i, x = .int i ∧ n = .int) ∨ (∃ b, x = .bl b ∧ n = .bl) ∨ (∃ z, x = .str z ∧ n = .str) ∨
  (aL x = false ∧ aG x = false ∧ zF n .bl = false ∧ zF n .int = false ∧ zF n .str = false) := by
 cases x with
 | int i => cases hn; exact .inl ⟨i, rfl, rfl⟩
 | bl b => cases hn; exact .inr (.inl ⟨b, rfl, rfl⟩)
 | str z => cases hn; exact .inr (.inr (.inl ⟨z, rfl, rfl⟩))
 | non => cases hn; exact .inr (.inr (.inr ⟨rfl, rfl, rfl, rfl, rfl⟩))
 | ref p =>
  rcases ref_ty hn with rfl | rfl | rfl
  ·exact .inr (.inr (.inr ⟨rfl, rfl, rfl, rfl, rfl⟩))
  ·exact .inr (.inr (.inr ⟨rfl, rfl, rfl, rfl, rfl⟩))
  ·exact .inr (.inr (.inr ⟨rfl, rfl, rfl, rfl, rfl⟩))
 | byt b => cases hn
 | flt b => cases hn
 | ty b => cases hn
section
variable {P : Program} {w : World} {K : W.Frag} {mg : Str → Option Value} {base : Heap} {a : Adr}
inductive Wt (vs : List V) (H : Hp) (Q : VK) : Prop
 | mk (x : V) (n : Ty) (z0 : vs = [x]) (z1 : tyN H x = some n) (z2 : Q (.bl (aL x)) H) : Wt vs H Q
noncomputable def spNum : Sp := fun vs H Q _ => Wt vs H Q
inductive Wu (vs : List V) (H : Hp) (Q : VK) : Prop
 | mk (x : V) (n : Ty) (z0 : vs = [x]) (z1 : tyN H x = some n) (z2 : (∀ z, x = .str z → z.length ≤ 1000000)) (z3 : ∀ H', Same H H' → Q (.bl (aG x)) H') : Wu vs H Q
noncomputable def spNam : Sp := fun vs H Q _ => Wu vs H Q
theorem uF (T : Txt P w K mg a) : FnOk P w K mg base CX0 1 a.is_number a.vP ["thing"] spNum := by
 have S := eN
 refine T.rP.okJ eN (fun vs H Q E h => ?_) (fun cdv A outer s H vs Q E hr h => ?_)
 ·obtain ⟨x, n, rfl, _⟩ := h; rfl
 obtain ⟨x, n, rfl, hn, q⟩ := h
 refine ⟨_, (wQ (zX (iX (zZ (jX (gQ eQ rfl T.rQ rfl (qQ (jv 0) (qQ (wX rfl T.wR (v := .ty "bool") rfl rfl) jQ)))) (qZ (xX (jX (gQ eQ rfl T.rQ rfl (qQ (jv 0) (qQ (wX rfl T.Jm (v := .ty "int") rfl rfl) jQ)))))))) (uQ (pQ fX)) tQ) (uQ (pQ (Zi rD rD (cT aD (jK (v := .int 1000000000) rfl T.We ⟨_, rfl⟩)) (jv 0) (jK (v := .int 1000000000) rfl T.We ⟨_, rfl⟩))))), ?_⟩
 have no : ∀ (h1 : aL x = false) (h2 : zF n .bl = false) (h3 : zF n .int = false), Q (.bl false) H := fun h1 _ _ => by rw [h1] at q; exact q
 rcases J7 hn with ⟨i, rfl, rfl⟩ | ⟨b, rfl, rfl⟩ | ⟨z, rfl, rfl⟩ | ⟨h1, _, h2, h3, _⟩
 ·refine ⟨_, rfl, _, .bl, _, rfl, rfl, _, rfl, bQ ⟨_, rfl, _, .int, _, rfl, rfl, _, rfl, bQ ?_⟩⟩
  refine ⟨_, rfl, _, rfl, _, _, rfl, rfl, _, rfl, ?_⟩
  refine wH (fun hd => ?_) (fun hd => ?_)
  ·refine ⟨_, _, rfl, rfl, ?_⟩
   have e : aL (.int i) = decide (i ≤ 1000000000) := by
    show (decide (-1000000000 ≤ i) && decide (i ≤ 1000000000)) = _
    rw [show decide (-1000000000 ≤ i) = true from hd, Bool.true_and]
   rw [e] at q
   exact q
  ·have e : aL (.int i) = false := by
    show (decide (-1000000000 ≤ i) && decide (i ≤ 1000000000)) = _
    rw [show decide (-1000000000 ≤ i) = false from Bool.eq_false_iff.mpr hd, Bool.false_and]
   rw [e] at q
   exact q
 ·exact ⟨_, rfl, _, .bl, _, rfl, rfl, _, rfl, nQ (nQ q)⟩
 ·exact ⟨_, rfl, _, .bl, _, rfl, rfl, _, rfl, bQ ⟨_, rfl, _, .int, _, rfl, rfl, _, rfl, nQ q⟩⟩
 ·refine ⟨_, rfl, x, .bl, n, rfl, hn, _, rfl, ?_⟩
  rw [h2]
  refine bQ ⟨_, rfl, x, .int, n, rfl, hn, _, rfl, ?_⟩
  rw [h3]
  exact nQ (no h1 h2 h3)
theorem bF (T : Txt P w K mg a) : FnOk P w K mg base CX0 1 a.is_name a.gS ["thing"] spNam := by
 have S := lE
 have big : (1000000 : Nat) < sizeLine := by decide
 refine T.zT.okJ lE (fun vs H Q E h => ?_) (fun cdv A outer s H vs Q E hr h => ?_)
 ·obtain ⟨x, n, rfl, _⟩ := h; rfl
 obtain ⟨x, n, rfl, hn, hz, q⟩ := h
 refine ⟨_, (wQ (zX (iX (zZ (xX (jX (gQ eQ rfl T.rQ rfl (qQ (jv 0) (qQ (wX rfl T.jT (v := .ty "str") rfl rfl) jQ))))) (qZ (xX (yI rD rD xQ (gQ qX rfl T.aX rfl (qQ (jv 0) jQ)) (jK (v := .int 8) rfl T.Qv ⟨_, rfl⟩)))))) (uQ (pQ fX)) tQ) (uQ (pQ (gQ (nU rfl) rfl T.zE rfl (qQ (vY rfl (show (["sign", "thing"] : List Str).Nodup by decide +kernel) (gV (N := ["thing"]) rfl (by with_unfolding_all rfl) (by decide +kernel)) (V2 (jv 0)) (fun _ _ _ _ => xK) (fun _ _ _ _ => (hV Ks (jv 0) (jK (v := .str "abcdefghijklmnopqrstuvwxyz") rfl T.Wd ⟨_, rfl⟩) rfl))) jQ))))), ?_⟩
 have no : aG x = false → Q (.bl false) H := fun h1 => by
  have q' := q H (Same.refl H)
  rw [h1] at q'
  exact q'
 rcases J7 hn with ⟨i, rfl, rfl⟩ | ⟨b, rfl, rfl⟩ | ⟨z, rfl, rfl⟩ | ⟨_, h1, _, _, h2⟩
 ·exact ⟨_, rfl, _, .str, _, rfl, rfl, _, rfl, nQ (no rfl)⟩
 ·exact ⟨_, rfl, _, .str, _, rfl, rfl, _, rfl, nQ (no rfl)⟩
 ·have hl := hz z rfl
  refine ⟨_, rfl, _, .str, _, rfl, rfl, _, rfl, bQ ?_⟩
  refine ⟨_, rfl, _, _, rfl, ⟨by omega, rfl⟩, _, _, rfl, rfl, _, rfl, ?_⟩
  refine wH (fun hd => ?_) (fun hd => ?_)
  ·refine ⟨_, _, rfl, rfl, _, rfl, ?_⟩
   have e1 : decide ((1 : Int) ≤ (z.length : Nat)) = true := hd
   cases h8 : decide (((z.length : Nat) : Int) ≤ 8) with
   | false =>
    refine nQ (no ?_)
    show ((decide ((1 : Int) ≤ (z.length : Nat)) && decide (((z.length : Nat) : Int) ≤ 8)) && z.cps.toList.all mY) = false
    rw [h8, e1]
    rfl
   | true =>
    refine bQ ?_
    refine ⟨_, rfl, z, rfl, fun D hD => ?_⟩
    have hsz : z.cps.toList.length = z.cps.size := Array.length_toList
    have hzs : z.length = z.cps.size := rfl
    refine ⟨fun i m ys H' => m = z.cps.size - i ∧ i ≤ z.cps.size ∧ H' = upd H D (.lst ys) ∧ ys = (z.cps.toList.take i).map (fun c => V.bl (mY c)), ⟨z.cps.size, by simp, Nat.zero_le _, rfl, rfl⟩, ?_⟩
    rintro i m ys H' ⟨rfl, hi, rfl, rfl⟩
    by_cases hlt : i < z.cps.size
    ·refine .inr ⟨hlt, ?_⟩
     rintro x' H'' ⟨rfl, c, hc, rfl⟩
     refine ⟨_, rfl, _, _, rfl, rfl, zQ, ?_, z.cps.size - (i + 1), by omega, rfl, hlt, sV, ?_⟩
     ·rw [List.length_map, List.length_take]
      omega
     ·exact (Kg (fun c => V.bl (mY c)) z.cps.toList i c (by simpa using hc)).symm
    ·have ei : i = z.cps.size := by omega
     subst ei
     refine .inl ⟨Nat.le_refl _, D, z.cps.toList.map mY, rfl, SqL.of ?_, ?_⟩
     ·rw [zQ, List.take_of_length_le (by omega), List.map_map]
      rfl
     ·have q' := q _ (kQ hD (.lst ((z.cps.toList.take z.cps.size).map (fun c => V.bl (mY c)))))
      have e : aG (.str z) = (z.cps.toList.map mY).all id := by
       show ((decide ((1 : Int) ≤ (z.length : Nat)) && decide (((z.length : Nat) : Int) ≤ 8)) && z.cps.toList.all mY) = _
       rw [h8, e1, all_map]
       rfl
      rw [e] at q'
      exact q'
  ·refine ⟨_, rfl, nQ (no ?_)⟩
   show ((decide ((1 : Int) ≤ (z.length : Nat)) && decide (((z.length : Nat) : Int) ≤ 8)) && z.cps.toList.all mY) = false
   rw [show decide ((1 : Int) ≤ (z.length : Nat)) = false from Bool.eq_false_iff.mpr hd]
   rfl
 ·refine ⟨_, rfl, x, .str, n, rfl, hn, _, rfl, ?_⟩
  rw [h2]
  exact nQ (no h1)
end
end K06
namespace K06
open PySem L2
theorem jU (z : Str) : aG (.str z) = ((decide ((1 : Int) ≤ (z.length : Nat)) && decide (((z.length : Nat) : Int) ≤ 8)) && z.cps.toList.all mY) := rfl
theorem Zt (p : Nat → Bool) (xs : List Nat) (i c : Nat) (h : xs[i]? = some c) : ((xs.take (i + 1)).filter p).map (fun c => V.str ⟨#[c]⟩) = ((xs.take i).filter p).map (fun c => V.str ⟨#[c]⟩) ++ (if p c then [V.str ⟨#[c]⟩] else []) := by
 rw [List.take_succ, h, List.filter_append, List.map_append]
 cases hc : p c <;> simp [hc]
section
variable {P : Program} {w : World} {K : W.Frag} {mg : Str → Option Value} {base : Heap} {a : Adr}
theorem wU (T : Txt P w K mg a) : FnOk P w K mg base CX0 1 a.mB a.kM ["_law_thing"] spNum := by
 have S := kL
 refine T.dM.okJ kL (fun vs H Q E h => ?_) (fun cdv A outer s H vs Q E hr h => ?_)
 ·obtain ⟨x, n, rfl, _⟩ := h; rfl
 obtain ⟨x, n, rfl, hn, q⟩ := h
 refine ⟨_, (uQ (pQ (lY (gQ eQ rfl T.rQ rfl (qQ (jv 0) (qQ (wX rfl T.Jm (v := .ty "int") rfl rfl) jQ))) (lY (V4 (gQ eQ rfl T.rQ rfl (qQ (jv 0) (qQ (wX rfl T.wR (v := .ty "bool") rfl rfl) jQ)))) (bU (Zi rD rD (cT aD (bX xA xQ xQ)) (jv 0) (bX xA xQ xQ))))))), ?_⟩
 rcases J7 hn with ⟨i, rfl, rfl⟩ | ⟨b, rfl, rfl⟩ | ⟨z, rfl, rfl⟩ | ⟨h1, _, h2, h3, _⟩
 ·refine ⟨_, rfl, _, .int, _, rfl, rfl, _, rfl, nQ ⟨_, rfl, _, .bl, _, rfl, rfl, _, rfl, _, rfl, nQ ⟨_, _, rfl, rfl, ⟨by decide, by decide, by decide⟩, _, rfl, _, rfl, _, _, rfl, rfl, _, rfl, ?_⟩⟩⟩
  have e0 : aL (.int i) = (decide (-1000000000 ≤ i) && decide (i ≤ 1000000000)) := rfl
  have p9 : -((10 : Int) ^ Int.toNat 9) = -1000000000 := by decide
  have p9' : ((10 : Int) ^ Int.toNat 9) = 1000000000 := by decide
  rw [p9]
  cases hd : decide (-1000000000 ≤ i) with
  | true =>
   refine nQ ⟨_, _, rfl, rfl, ⟨by decide, by decide, by decide⟩, _, _, rfl, rfl, ?_⟩
   rw [e0, hd, Bool.true_and] at q
   rw [p9']
   exact q
  | false =>
   rw [e0, hd, Bool.false_and] at q
   exact bQ q
 ·exact ⟨_, rfl, _, .int, _, rfl, rfl, _, rfl, nQ ⟨_, rfl, _, .bl, _, rfl, rfl, _, rfl, _, rfl, bQ q⟩⟩
 ·exact ⟨_, rfl, _, .int, _, rfl, rfl, _, rfl, bQ q⟩
 ·rw [h1] at q
  refine ⟨_, rfl, x, .int, n, rfl, hn, _, rfl, ?_⟩
  rw [h3]
  exact bQ q
theorem iW (T : Txt P w K mg a) : FnOk P w K mg base CX0 1 a.zH a.xP ["_law_thing"] spNam := by
 have S := tN
 have big : (1000000 : Nat) < sizeLine := by decide
 refine T.lP.okJ tN (fun vs H Q E h => ?_) (fun cdv A outer s H vs Q E hr h => ?_)
 ·obtain ⟨x, n, rfl, _⟩ := h; rfl
 obtain ⟨x, n, rfl, hn, hz, q⟩ := h
 refine ⟨_, (wQ (zX (iX (zZ (xX (jX (gQ eQ rfl T.rQ rfl (qQ (jv 0) (qQ (wX rfl T.jT (v := .ty "str") rfl rfl) jQ))))) (zZ (sQ bL (gQ qX rfl T.aX rfl (qQ (jv 0) jQ)) xQ (oQ _)) (qZ (sQ eG (gQ qX rfl T.aX rfl (qQ (jv 0) jQ)) xQ (oQ _)))))) (uQ (pQ fX)) tQ) (uQ (pQ (hV (VI hr.units0) (vY rfl (show (["_law_sign", "_law_thing"] : List Str).Nodup by decide +kernel) (gV (N := ["_law_thing"]) rfl (by with_unfolding_all rfl) (by decide +kernel)) (V2 (jv 0)) (fun _ _ _ _ => (V3 (sQ Xj (jv 0) aQ rfl))) (fun _ _ _ _ => (jv 0))) (cZ jQ) (oQ _))))), ?_⟩
 have no : aG x = false → Q (.bl false) H := fun h1 => by
  have q' := q H (Same.refl H)
  rw [h1] at q'
  exact q'
 rcases J7 hn with ⟨i, rfl, rfl⟩ | ⟨b, rfl, rfl⟩ | ⟨z, rfl, rfl⟩ | ⟨_, h1, _, _, h2⟩
 ·exact ⟨_, rfl, _, .str, _, rfl, rfl, _, rfl, nQ (no rfl)⟩
 ·exact ⟨_, rfl, _, .str, _, rfl, rfl, _, rfl, nQ (no rfl)⟩
 ·have hl := hz z rfl
  refine ⟨_, rfl, _, .str, _, rfl, rfl, _, rfl, bQ ⟨_, rfl, _, _, rfl, ⟨by omega, rfl⟩, _, _, rfl, rfl, _, rfl, ?_⟩⟩
  refine wH (fun hd => ?_) (fun hd => ?_)
  ·have hd' : ((z.length : Nat) : Int) < 1 := of_decide_eq_true hd
   refine nQ (no ?_)
   rw [jU, decide_eq_false (show ¬ (1 : Int) ≤ (z.length : Nat) by omega)]
   rfl
  have hd' : ¬ ((z.length : Nat) : Int) < 1 := of_decide_eq_false (Bool.eq_false_iff.mpr hd)
  have h1 : decide ((1 : Int) ≤ (z.length : Nat)) = true := decide_eq_true (by omega)
  refine ⟨_, rfl, _, _, rfl, ⟨by omega, rfl⟩, _, _, rfl, rfl, _, rfl, ?_⟩
  refine wH (fun hd2 => ?_) (fun hd2 => ?_)
  ·have hd2' : 8 < ((z.length : Nat) : Int) := of_decide_eq_true hd2
   refine no ?_
   rw [jU, h1, decide_eq_false (show ¬ ((z.length : Nat) : Int) ≤ 8 by omega)]
   rfl
  have hd2' : ¬ 8 < ((z.length : Nat) : Int) := of_decide_eq_false (Bool.eq_false_iff.mpr hd2)
  have h8 : decide (((z.length : Nat) : Int) ≤ 8) = true := decide_eq_true (by omega)
  have e : aG (.str z) = z.cps.toList.all mY := by rw [jU, h1, h8]; rfl
  refine ⟨_, rfl, z, rfl, fun D hD => ?_⟩
  have hsz : z.cps.toList.length = z.cps.size := Array.length_toList
  have hzs : z.length = z.cps.size := rfl
  refine ⟨fun i m ys H' => m = z.cps.size - i ∧ i ≤ z.cps.size ∧ H' = upd H D (.lst ys) ∧ ys = ((z.cps.toList.take i).filter fun c => !mY c).map (fun c => V.str ⟨#[c]⟩), ⟨z.cps.size, by simp, Nat.zero_le _, rfl, rfl⟩, ?_⟩
  rintro i m ys H' ⟨rfl, hi, rfl, rfl⟩
  by_cases hlt : i < z.cps.size
  ·refine .inr ⟨hlt, ?_⟩
   rintro x' H'' ⟨rfl, c, hc, rfl⟩
   have more := Zt (fun c => !mY c) z.cps.toList i c (by simpa using hc)
   refine ⟨_, rfl, _, _, rfl, rfl, _, rfl, ?_⟩
   show if (!mY c) = true then _ else _
   cases hb : (!mY c) with
   | true =>
    rw [hb, if_pos rfl] at more
    refine nQ ⟨_, rfl, zQ, ?_, z.cps.size - (i + 1), by omega, rfl, hlt, sV, more.symm⟩
    have l1 := List.length_filter_le (fun c => !mY c) (z.cps.toList.take i)
    have l2 := List.length_take_le i z.cps.toList
    rw [List.length_map]
    omega
   | false =>
    rw [hb, if_neg Bool.false_ne_true, List.append_nil] at more
    exact bQ ⟨z.cps.size - (i + 1), by omega, rfl, hlt, rfl, more.symm⟩
  ·have ei : i = z.cps.size := by omega
   subst ei
   refine .inl ⟨Nat.le_refl _, sZ0, fun p hp => ?_⟩
   have s1 := kQ hD (.lst (((z.cps.toList.take z.cps.size).filter fun c => !mY c).map (fun c => V.str ⟨#[c]⟩)))
   have s2 := kQ hp (.lst [])
   refine ⟨D, p, _, rfl, rfl, SqL.of (s2 D _ zQ), SqL.of zQ, ?_⟩
   have q4 := q _ (s1.trans s2)
   have e' : aG (.str z) = (((z.cps.toList.take z.cps.size).filter fun c => !mY c).map (fun c => V.str ⟨#[c]⟩)).isEmpty := by
    rw [e, List.take_of_length_le (by omega), rC]
   rw [e'] at q4
   exact q4
 ·refine ⟨_, rfl, x, .str, n, rfl, hn, _, rfl, ?_⟩
  rw [h2]
  exact nQ (no h1)
end
end K06
namespace K06
open PySem L2
inductive Tr where
 | non | bl (b : Bool) | int (i : Int) | str (z : Str) | tup (xs : List Tr) | oth
mutual
noncomputable def Tr.w : Tr → Nat
 | .tup xs => wL xs + 10
 | .str z => z.length + 1
 | .non => 1
 | .bl _ => 1
 | .int _ => 1
 | .oth => 1
noncomputable def wL : List Tr → Nat
 | [] => 0
 | x :: r => x.w + wL r
end
mutual
inductive Rep (H : Hp) : V → Tr → Prop
 | non : Rep H .non .non
 | bl (b : Bool) : Rep H (.bl b) (.bl b)
 | int (i : Int) : Rep H (.int i) (.int i)
 | str (z : Str) : Rep H (.str z) (.str z)
 | tup {p xs ts} : H p = some (.tup xs) → Reps H xs ts → Rep H (.ref p) (.tup ts)
 | lst {p xs} : H p = some (.lst xs) → Rep H (.ref p) .oth
 | dct {p} : H p = some (.dK []) → Rep H (.ref p) .oth
inductive Reps (H : Hp) : List V → List Tr → Prop
 | nil : Reps H [] []
 | cons {v t vs ts} : Rep H v t → Reps H vs ts → Reps H (v :: vs) (t :: ts)
end
section
variable {H H' : Hp} {v : V} {t : Tr} {vs xs ys : List V} {ts us : List Tr}
mutual
theorem Rep.same (s : Same H H') {v : V} {t : Tr} : Rep H v t → Rep H' v t
 | .non => .non
 | .bl b => .bl b
 | .int i => .int i
 | .str z => .str z
 | .tup h r => .tup (s _ _ h) (Reps.same s r)
 | .lst h => .lst (s _ _ h)
 | .dct h => .dct (s _ _ h)
theorem Reps.same (s : Same H H') {vs : List V} {ts : List Tr} : Reps H vs ts → Reps H' vs ts
 | .nil => .nil
 | .cons a b => .cons (Rep.same s a) (Reps.same s b)
end
theorem Reps.len (h : Reps H vs ts) : vs.length = ts.length := by
 induction vs generalizing ts with
 | nil => cases h; rfl
 | cons v r ih => cases h with | cons a b => rw [List.length_cons, List.length_cons, ih b]
theorem Reps.get (h : Reps H vs ts) {i : Nat} (e : vs[i]? = some v) : ∃ t, ts[i]? = some t ∧ Rep H v t := by
 induction vs generalizing ts i with
 | nil => simp at e
 | cons x r ih =>
  cases h with
  | @cons _ t _ ts a b =>
   cases i with
   | zero =>
    have e : x = v := by simpa using e
    subst e
    exact ⟨t, rfl, a⟩
   | succ i => exact ih b (i := i) (by simpa using e)
theorem Reps.append (h : Reps H xs ts) (h2 : Reps H ys us) : Reps H (xs ++ ys) (ts ++ us) := by
 induction xs generalizing ts with
 | nil => cases h; exact h2
 | cons v r ih => cases h with | cons a b => exact .cons a (ih b)
theorem Reps.snoc (h : Reps H vs ts) {L : List V} {b : V} (e : vs = L ++ [b]) : ∃ us u, ts = us ++ [u] ∧ Reps H L us ∧ Rep H b u := by
 subst e
 induction L generalizing ts with
 | nil => cases h with | cons a b => cases b; exact ⟨[], _, rfl, .nil, a⟩
 | cons v r ih =>
  cases h with
  | cons a b =>
   obtain ⟨us, u, rfl, h1, h2⟩ := ih b
   exact ⟨_ :: us, u, rfl, .cons a h1, h2⟩
theorem Tr.pos (t : Tr) : 1 ≤ t.w := by cases t <;> simp only [Tr.w] <;> omega
theorem yQ (t : Tr) (ts : List Tr) : wL (t :: ts) = t.w + wL ts := by rw [wL]
theorem nX (ts us : List Tr) : wL (ts ++ us) = wL ts + wL us := by
 induction ts with
 | nil => simp [wL]
 | cons t r ih => rw [List.cons_append, yQ, yQ, ih]; omega
theorem kJ (ts : List Tr) : ts.length ≤ wL ts := by
 induction ts with
 | nil => exact Nat.zero_le _
 | cons t r ih => rw [yQ, List.length_cons]; have := t.pos; omega
theorem bV {i : Nat} (e : ts[i]? = some t) : t.w ≤ wL ts := by
 induction ts generalizing i with
 | nil => simp at e
 | cons x r ih =>
  rw [yQ]
  cases i with
  | zero =>
   have e : x = t := by simpa using e
   subst e
   omega
  | succ i => have := ih (i := i) (by simpa using e); omega
theorem eX (ts : List Tr) : (Tr.tup ts).w = wL ts + 10 := by rw [Tr.w]
theorem bY (z : Str) : (Tr.str z).w = z.length + 1 := by rw [Tr.w]
theorem Ths.reps {u : Addr → Prop} {n d : Nat} (h : Ths u H vs n d) : ∃ ts, Reps H vs ts ∧ wL ts ≤ n := by
 induction h with
 | nil => exact ⟨[], .nil, by rw [wL]; exact Nat.zero_le _⟩
 | @sc v vs k m n d a b c ih =>
  obtain ⟨ts, h1, h2⟩ := ih
  cases v with
  | non => exact ⟨.non :: ts, .cons .non h1, by rw [yQ, Tr.w]; have a : 1 ≤ k := a; omega⟩
  | bl b => exact ⟨.bl b :: ts, .cons (.bl b) h1, by rw [yQ, Tr.w]; have a : 1 ≤ k := a; omega⟩
  | int i => exact ⟨.int i :: ts, .cons (.int i) h1, by rw [yQ, Tr.w]; have a := a.1; omega⟩
  | str z => exact ⟨.str z :: ts, .cons (.str z) h1, by rw [yQ, bY]; have a : z.length + 1 ≤ k := a; omega⟩
  | _ => exact False.elim a
 | @ob p o xs vs k e m n d h1 h2 h3 h4 h5 h6 h7 ih1 ih2 =>
  obtain ⟨ts, r1, w1⟩ := ih1
  obtain ⟨us, r2, w2⟩ := ih2
  cases o with
  | tup ys => cases h3; exact ⟨.tup ts :: us, .cons (.tup h2 r1) r2, by rw [yQ, eX]; omega⟩
  | lst ys => cases h3; exact ⟨.oth :: us, .cons (.lst h2) r2, by rw [yQ, Tr.w]; omega⟩
  | dK kvs =>
   cases kvs with
   | nil => exact ⟨.oth :: us, .cons (.dct h2) r2, by rw [yQ, Tr.w]; omega⟩
   | cons _ _ => cases h3
  | _ => cases h3
theorem Ths.rep {u : Addr → Prop} {n d : Nat} (h : Ths u H [v] n d) : ∃ t, Rep H v t ∧ t.w ≤ n := by
 obtain ⟨ts, h1, h2⟩ := h.reps
 cases h1 with
 | cons a b =>
  rw [yQ] at h2
  exact ⟨_, a, by omega⟩
noncomputable def Tr.isTup : Tr → Bool | .tup _ => true | _ => false
noncomputable def Tr.isStr : Tr → Bool | .str _ => true | _ => false
noncomputable def Tr.isBl : Tr → Bool | .bl _ => true | _ => false
theorem Rep.ty (h : Rep H v t) : ∃ c, tyN H v = some c ∧ zF c .tup = t.isTup ∧ zF c .str = t.isStr ∧ zF c .bl = t.isBl := by
 cases h with
 | non => exact ⟨_, rfl, rfl, rfl, rfl⟩
 | bl b => exact ⟨_, rfl, rfl, rfl, rfl⟩
 | int i => exact ⟨_, rfl, rfl, rfl, rfl⟩
 | str z => exact ⟨_, rfl, rfl, rfl, rfl⟩
 | tup h r => exact ⟨.tup, zW h rfl, rfl, rfl, rfl⟩
 | lst h => exact ⟨.lst, zW h rfl, rfl, rfl, rfl⟩
 | dct h => exact ⟨.dct, zW h rfl, rfl, rfl, rfl⟩
noncomputable def nM : Tr → Bool | .int i => aL (.int i) | _ => false
noncomputable def xZ : Tr → Bool | .str z => aG (.str z) | _ => false
theorem Rep.num (h : Rep H v t) : aL v = nM t := by cases h <;> rfl
theorem Rep.nam (h : Rep H v t) : aG v = xZ t := by cases h <;> rfl
theorem Rep.strLen {z : Str} (h : Rep H v t) (e : v = .str z) : z.length + 1 ≤ t.w := by
 subst e
 cases h
 rw [bY]
 exact Nat.le_refl _
theorem aW (h : xZ t = true) : ∃ z, t = .str z := by
 cases t with
 | str z => exact ⟨z, rfl⟩
 | _ => cases h
theorem XS (h : nM t = true) : ∃ i, t = .int i := by
 cases t with
 | int z => exact ⟨z, rfl⟩
 | _ => cases h
end
noncomputable def qF (z : Str) : Option Int := if z = "add" then some 2 else if z = "times" then some 2 else if z = "less" then some 2 else if z = "pick" then some 3 else none
theorem QU (z : Str) : nV ([(Sum.inr "add", .int 2), (Sum.inr "times", .int 2), (Sum.inr "less", .int 2), (Sum.inr "pick", .int 3)] : List (Key × V)) (Sum.inr z) = (qF z).map V.int := by
 have ne : ∀ {a : Str}, ¬ z = a → ¬ (Sum.inr a : Key) = Sum.inr z := fun h e => h (Sum.inr.inj e).symm
 unfold qF
 by_cases h1 : z = "add"
 ·rw [sX (by rw [h1]), if_pos h1]; rfl
 rw [gX (ne h1), if_neg h1]
 by_cases h2 : z = "times"
 ·rw [sX (by rw [h2]), if_pos h2]; rfl
 rw [gX (ne h2), if_neg h2]
 by_cases h3 : z = "less"
 ·rw [sX (by rw [h3]), if_pos h3]; rfl
 rw [gX (ne h3), if_neg h3]
 by_cases h4 : z = "pick"
 ·rw [sX (by rw [h4]), if_pos h4]; rfl
 rw [gX (ne h4), if_neg h4]
 rfl
theorem mT {z : Str} {k : Int} (h : qF z = some k) : k = 2 ∨ k = 3 := by
 unfold qF at h
 split at h
 ·cases h; exact .inl rfl
 split at h
 ·cases h; exact .inl rfl
 split at h
 ·cases h; exact .inl rfl
 split at h
 ·cases h; exact .inr rfl
 ·cases h
noncomputable def Z3 (w : Str) : Bool := inV (.str w) [.str "take", .str "box", .str "down", .str "turn"]
noncomputable def rV (w : Str) : List Tr → Bool
 | [y] => if w = "num" then nM y else Z3 w && xZ y
 | _ => false
noncomputable def bO : List Tr → Option (List Tr)
 | .str w :: xs => match qF w with
  | some k => if (xs.length : Int) = k then some xs else none
  | none => if rV w xs = true then some [] else none
 | _ => none
noncomputable def inn : Tr → Option (List Tr)
 | .tup xs => bO xs
 | _ => none
theorem kF (z : Str) (r : List Tr) : bO (.str z :: r) = (match qF z with | some k => if (r.length : Int) = k then some r else none | none => if rV z r = true then some [] else none) := rfl
theorem dC {y : Tr} {r : List Tr} (h : y.isStr = false) : bO (y :: r) = none := by
 cases y with
 | str z => cases h
 | _ => rfl
theorem Zj {b : Tr} {xs : List Tr} (h : inn b = some xs) : wL xs + 1 ≤ b.w := by
 cases b with
 | tup ys =>
  rw [eX]
  have h : bO ys = some xs := h
  cases ys with
  | nil => cases h
  | cons y r =>
   cases hy : y.isStr with
   | false => rw [dC hy] at h; cases h
   | true =>
    cases y with
    | str z =>
     rw [kF] at h
     rw [yQ]
     cases hj : qF z with
     | some k =>
      rw [hj] at h
      have h : (if (r.length : Int) = k then some r else none) = some xs := h
      split at h
      ·cases h; omega
      ·cases h
     | none =>
      rw [hj] at h
      have h : (if rV z r = true then some [] else none) = some xs := h
      split at h
      ·cases h; rw [wL]; omega
      ·cases h
    | _ => cases hy
 | _ => cases h
inductive Run : List Tr → Option (List Tr) → Prop
 | nil : Run [] (some [])
 | bad {st b} : inn b = none → Run (st ++ [b]) none
 | step {st b xs r} : inn b = some xs → Run (st ++ xs) r → Run (st ++ [b]) (r.map (b :: ·))
theorem Run.ex (n : Nat) : ∀ st : List Tr, wL st ≤ n → ∃ r, Run st r := by
 induction n with
 | zero =>
  intro st h
  cases st with
  | nil => exact ⟨_, .nil⟩
  | cons t r => rw [yQ] at h; have := t.pos; omega
 | succ n ih =>
  intro st h
  rcases List.eq_nil_or_concat st with rfl | ⟨L, b, rfl⟩
  ·exact ⟨_, .nil⟩
  ·rw [List.concat_eq_append] at h ⊢
   cases hb : inn b with
   | none => exact ⟨_, .bad hb⟩
   | some xs =>
    rw [nX, yQ] at h
    have := Zj hb
    obtain ⟨r, hr⟩ := ih (L ++ xs) (by rw [nX]; omega)
    exact ⟨_, .step hb hr⟩
theorem Run.at_nil {st : List Tr} {r : Option (List Tr)} (h : Run st r) (e : st = []) : r = some [] := by
 cases h with
 | nil => rfl
 | bad _ => simp at e
 | step _ _ => simp at e
theorem Run.at_snoc {s : List Tr} {r : Option (List Tr)} (h : Run s r) {L : List Tr} {b : Tr} (e : s = L ++ [b]) : (inn b = none ∧ r = none) ∨ ∃ xs r', inn b = some xs ∧ Run (L ++ xs) r' ∧ r = r'.map (b :: ·) := by
 cases h with
 | nil => simp at e
 | @bad st v h1 =>
  obtain ⟨e1, e2⟩ := List.append_inj' e rfl
  cases e2
  exact .inl ⟨h1, rfl⟩
 | @step st v xs r' h1 h2 =>
  obtain ⟨e1, e2⟩ := List.append_inj' e rfl
  cases e2
  subst e1
  exact .inr ⟨xs, r', h1, h2, rfl⟩
theorem Vl (t : Tr) : ∃ r, Run [t] r := Run.ex _ [t] lR
noncomputable def run (t : Tr) : Option (List Tr) := Classical.choose (Vl t)
theorem rH (t : Tr) : Run [t] (run t) := Classical.choose_spec (Vl t)
noncomputable def iB (l : List Str) : Tr → Bool
 | .str a => l.contains a
 | _ => false
noncomputable def qK (bx tu : List Str) : Tr → Bool
 | .tup (.str w :: y :: _) => (!decide (w = "box") || iB bx y) && (!decide (w = "turn") || iB tu y)
 | _ => true
noncomputable def okC (c : Int) : Option (List Tr) → Bool
 | some k => decide (c + k.length ≤ 20)
 | none => false
noncomputable def isR (t : Tr) : Bool := okC 0 (run t)
noncomputable def rX (bx tu : List Str) (t : Tr) : Bool := match run t with
 | some ns => decide (ns.length ≤ 20) && ns.all (qK bx tu)
 | none => false
end K06
namespace K06
open PySem L2
theorem at0 {α : Type} (y : α) (r : List α) : atI (y :: r) 0 = some y := jV (j := 0) rfl
theorem at1 {α : Type} (x y : α) (r : List α) : atI (x :: y :: r) 1 = some y := jV (j := 1) rfl
theorem V5 {c A B : Prop} [Decidable c] (hc : ¬ c) (h : A) : if (!decide c) = true then A else B := by
 rw [decide_eq_false hc]
 exact nQ h
theorem mX {H H' : Hp} {l : Addr} {o : HO} (s : Same H H') (h : H l = none) : Same H (upd H' l o) := fun b u q => by
 rw [uX (uZ q h)]
 exact s b u q
theorem cut1 (x : V) (r : List V) : oX (x :: r) (some 1) none = r := by
 unfold oX
 have e1 : HT.sIx (x :: r).length 0 (some 1) = 1 := by
  have := HT.sIx_nat (x :: r).length 0 1
  have h : min 1 (x :: r).length = 1 := by rw [List.length_cons]; omega
  rw [h] at this
  exact this
 rw [e1, HT.sIx_none]
 show (List.drop 1 (x :: r)).take ((x :: r).length - 1) = r
 rw [List.length_cons]
 exact List.take_of_length_le (by show r.length ≤ _; omega)
theorem QO (x : V) (r : List V) : ¬ (HT.sIx (x :: r).length 0 (some 1) = 0 ∧ HT.sIx (x :: r).length (x :: r).length none = (x :: r).length) := fun h => by
 have := HT.sIx_nat (x :: r).length 0 1
 have h2 : min 1 (x :: r).length = 1 := by rw [List.length_cons]; omega
 rw [h2] at this
 rw [show HT.sIx (x :: r).length 0 (some 1) = 1 from this] at h
 exact absurd h.1 (by decide)
section
variable {P : Program} {w : World} {K : W.Frag} {mg : Str → Option Value} {base : Heap} {a : Adr}
inductive ZI (vs : List V) (H : Hp) (Q : VK) : Prop
 | mk (p : Addr) (z : Str) (xs : List V) (ts : List Tr) (z0 : vs = [.ref p]) (z1 : H p = some (.tup (.str z :: xs))) (z2 : Reps H xs ts) (z3 : wL ts ≤ 1000000) (z4 : ∀ H', Same H H' → Q (.bl (rV z ts)) H') : ZI vs H Q
noncomputable def spAlone : Sp := fun vs H Q _ => ZI vs H Q
theorem kO (T : Txt P w K mg a) : FnOk P w K mg base CX0 2 a.stands_alone a.fU ["thing"] spAlone := by
 have S := uD
 have mG := uF (P := P) (w := w) (base := base) T
 have tW := bF (P := P) (w := w) (base := base) T
 refine T.eU.okJ uD (fun vs H Q E h => ?_) (fun cdv A outer s H vs Q E hr h => ?_)
 ·obtain ⟨p, z, xs, ts, rfl, _⟩ := h; rfl
 obtain ⟨p, z, xs, ts, rfl, hp, hx, hn, q⟩ := h
 refine ⟨_, (wQ (zX (sQ lD (gQ qX rfl T.aX rfl (qQ (jv 0) jQ)) xQ (oQ _)) (uQ (pQ fX)) tQ) (wQ (zX (sQ wZ (cQ lQ (jv 0) xQ (fun _ _ => rfl)) aQ (oQ _)) (uQ (pQ (mQ mG hr rfl T.cL T.k_is_number T.b_is_number .nil iQ (qQ (cQ lQ (jv 0) xQ (fun _ _ => rfl)) jQ)))) tQ) (uQ (pQ (lY (hV QM (cQ lQ (jv 0) xQ (fun _ _ => rfl)) (jK (v := .ref a.NAMING) rfl T.gNAMING rfl) rfl) (bU (mQ tW hr rfl T.eM T.k_is_name T.b_is_name .nil iQ (qQ (cQ lQ (jv 0) xQ (fun _ _ => rfl)) jQ)))))))), ?_⟩
 have q0 := q H (Same.refl H)
 refine ⟨_, rfl, _, _, rfl, .inr ⟨_, SqT.of hp, rfl⟩, rfl, _, rfl, ?_⟩
 by_cases hl : ∃ y, xs = [y]
 ·obtain ⟨y, rfl⟩ := hl
  cases hx with
  | @cons _ t _ _ ht h0 =>
  cases h0
  obtain ⟨ty, hty, _⟩ := ht.ty
  rw [yQ] at hn
  refine V6 rfl ?_
  refine ⟨_, rfl, p, _, _, _, rfl, rfl, SqT.of hp, rfl, rfl, _, rfl, ?_⟩
  by_cases hz : z = "num"
  ·have e : V.str z = V.str "num" := by rw [hz]
   rw [decide_eq_true e]
   refine nQ ⟨_, rfl, p, _, _, _, rfl, rfl, SqT.of hp, rfl, y, ty, rfl, hty, ?_⟩
   have e2 : rV z [t] = aL y := by rw [ht.num]; exact if_pos hz
   rw [e2] at q0
   exact q0
  ·have e : ¬ V.str z = V.str "num" := fun h => hz (by injection h)
   rw [decide_eq_false e]
   have e2 : rV z [t] = (Z3 z && aG y) := by rw [ht.nam]; exact if_neg hz
   refine bQ ⟨_, rfl, p, _, _, _, rfl, rfl, SqT.of hp, rfl, a.NAMING, _, rfl, .inr (T.qNAMING H), rfl, rfl, _, rfl, ?_⟩
   show if Z3 z = true then _ else _
   cases hb : Z3 z with
   | true =>
    refine nQ ⟨_, rfl, p, _, _, _, rfl, rfl, SqT.of hp, rfl, y, ty, rfl, hty, fun z' e => ?_, fun H' s' => ?_⟩
    ·have := ht.strLen e
     omega
    ·have q' := q H' s'
     rw [e2, hb, Bool.true_and] at q'
     exact q'
   | false =>
    rw [e2, hb, Bool.false_and] at q0
    exact bQ q0
 ·have hlen := hx.len
  have e2 : rV z ts = false := by
   match ts, xs, hlen, hl with
   | [], _, _, _ => rfl
   | [t], [y], _, hl => exact absurd ⟨y, rfl⟩ hl
   | _ :: _ :: _, _, _, _ => rfl
  rw [e2] at q0
  refine V5 (fun e => hl ?_) q0
  have e : (((V.str z :: xs).length : Nat) : Int) = 2 := by injection e
  rw [List.length_cons] at e
  match xs, e with
  | [], e => simp at e
  | [y], _ => exact ⟨y, rfl⟩
  | _ :: _ :: _, e => simp at e; omega
inductive Wx (vs : List V) (H : Hp) (Q : VK) : Prop
 | mk (v : V) (t : Tr) (H0 : Hp) (z0 : vs = [v]) (z1 : Same H0 H) (z2 : Rep H0 v t) (z3 : t.w ≤ 1000000) (z4 : (inn t = none → ∀ H', Same H H' → Q .non H')) (z5 : ∀ ts, inn t = some ts → ∀ l xs H', Same H H' → H l = none → H' l = some (.lst xs) → Reps H0 xs ts → Q (.ref l) H') : Wx vs H Q
noncomputable def spInn : Sp := fun vs H Q _ => Wx vs H Q
theorem tD (T : Txt P w K mg a) : FnOk P w K mg base CX0 3 a.inner_things a.lU ["thing"] spInn := by
 have S := dD
 have Qe := kO (P := P) (w := w) (base := base) T
 refine T.qB.okJ dD (fun vs H Q E h => ?_) (fun cdv A outer s H vs Q E hr h => ?_)
 ·obtain ⟨v, t, H0, rfl, _⟩ := h; rfl
 obtain ⟨v, t, H0, rfl, s0, hv, hn, q1, q2⟩ := h
 refine ⟨_, (wQ (zX (iX (zZ (xX (jX (gQ eQ rfl T.rQ rfl (qQ (jv 0) (qQ (wX rfl T.tX (v := .ty "tuple") rfl rfl) jQ))))) (qZ (sQ wZ (gQ qX rfl T.aX rfl (qQ (jv 0) jQ)) xQ (oQ _))))) (uQ (pQ aZ)) tQ) (wQ (kX (i := 1) S.nd rfl (Or.inl rfl) (cQ lQ (jv 0) xQ (fun _ _ => rfl))) (wQ (zX (xX (jX (gQ eQ rfl T.rQ rfl (qQ (jv 1) (qQ (wX rfl T.jT (v := .ty "str") rfl rfl) jQ))))) (uQ (pQ aZ)) tQ) (wQ (zX (sQ (VH T.Zx) (jv 1) (jK (v := .ref a.JOINING) rfl T.Zq rfl) rfl) (uQ (pQ (gI (sQ wZ (gQ qX rfl T.aX rfl (qQ (jv 0) jQ)) (bX fJ xQ (cQ (ix_kd T.Zx) (jK (v := .ref a.JOINING) rfl T.Zq rfl) (jv 1) (fun _ _ => rfl))) (oQ _)) (mZ yY rfl T.eD rfl (qQ (yZ uR (jv 0) (qJ xQ) zJ) jQ)) aZ))) tQ) (uQ (pQ (gI (jX (mQ Qe hr rfl T.jI T.k_stands_alone T.b_stands_alone .nil iQ (qQ (jv 0) jQ))) (cZ jQ) aZ))))))), ?_⟩
 obtain ⟨ty, hty, htt, _, _⟩ := (hv.same s0).ty
 cases hT : t.isTup with
 | false =>
  have hi : inn t = none := by cases t <;> first | rfl | cases hT
  rw [hT] at htt
  refine ⟨_, rfl, v, .tup, ty, rfl, hty, _, rfl, ?_⟩
  rw [htt]
  exact nQ (q1 hi H (Same.refl H))
 | true =>
  cases hv with
  | @tup p xs ts hp0 hx =>
   have hp := s0 p _ hp0
   have hty' : tyN H (.ref p) = some .tup := zW hp rfl
   rw [eX] at hn
   refine ⟨_, rfl, _, .tup, .tup, rfl, hty', _, rfl, bQ ⟨_, rfl, _, _, rfl, .inr ⟨_, SqT.of hp, rfl⟩, rfl, _, rfl, ?_⟩⟩
   cases hx with
   | nil => exact q1 rfl H (Same.refl H)
   | @cons y ty0 r rs hy hr' =>
    have e0 : ¬ V.int (((y :: r).length : Nat) : Int) = V.int 0 := fun e => by
     injection e with e
     rw [List.length_cons] at e
     omega
    rw [decide_eq_false e0]
    rw [yQ] at hn
    refine bQ ?_
    refine ⟨_, rfl, p, _, _, _, rfl, rfl, SqT.of hp, at0 _ _, ?_⟩
    obtain ⟨ty2, hty2, _, hst, _⟩ := (hy.same s0).ty
    have hlen := hr'.len
    cases hS : ty0.isStr with
    | true =>
     obtain ⟨z, rfl, rfl⟩ : ∃ z, y = .str z ∧ ty0 = .str z := by cases hy <;> first | exact ⟨_, rfl, rfl⟩ | cases hS
     refine ⟨_, rfl, _, .str, .str, rfl, rfl, _, rfl, bQ ⟨_, rfl, _, rfl, rfl, _, rfl, ?_⟩⟩
     rw [QU]
     cases hj : qF z with
     | some j =>
      have inn2 : inn (.tup (.str z :: rs)) = if (rs.length : Int) = j then some rs else none := by
       rw [show inn (.tup (.str z :: rs)) = bO (.str z :: rs) from rfl, kF, hj]
      refine nQ ⟨_, rfl, _, _, rfl, .inr ⟨_, SqT.of hp, rfl⟩, _, rfl, z, _, rfl, rfl, by rw [QU, hj]; rfl, _, _, rfl, rfl, rfl, _, rfl, ?_⟩
      by_cases hl : (r.length : Int) = j
      ·have e : V.int (((V.str z :: r).length : Nat) : Int) = V.int (1 + j) := by
        congr 1
        rw [List.length_cons]
        omega
       rw [decide_eq_true e]
       rw [if_pos (by rw [← hlen]; exact hl)] at inn2
       refine nQ ⟨_, rfl, _, rfl, p, _, rfl, SqT.of hp, QO _ _, fun p2 h2 => ?_⟩
       refine ⟨p2, _, rfl, .inr (SqT.of zQ), fun l hl2 => ?_⟩
       rw [cut1]
       have s1 := kQ h2 (.tup r)
       rw [cut1] at hl2
       exact q2 rs inn2 l _ _ (s1.trans (kQ hl2 _)) (Same.free s1 hl2) zQ hr'
      ·have e : ¬ V.int (((V.str z :: r).length : Nat) : Int) = V.int (1 + j) := fun e => by
        injection e with e
        rw [List.length_cons] at e
        omega
       rw [decide_eq_false e]
       rw [if_neg (by rw [← hlen]; exact hl)] at inn2
       exact bQ (q1 inn2 H (Same.refl H))
     | none =>
      have inn2 : inn (.tup (.str z :: rs)) = if rV z rs = true then some [] else none := by
       rw [show inn (.tup (.str z :: rs)) = bO (.str z :: rs) from rfl, kF, hj]
      refine bQ ⟨_, rfl, p, z, r, rs, rfl, hp, hr'.same s0, by omega, fun H' s' => ⟨_, rfl, ?_⟩⟩
      cases ha : rV z rs with
      | true =>
       rw [ha, if_pos rfl] at inn2
       refine nQ ⟨sZ0, fun l hl => ?_⟩
       exact q2 [] inn2 l _ _ (s'.trans (kQ hl _)) (Same.free s' hl) zQ .nil
      | false =>
       rw [ha, if_neg Bool.false_ne_true] at inn2
       exact bQ (q1 inn2 H' s')
    | false =>
     rw [hS] at hst
     refine ⟨_, rfl, _, .str, ty2, rfl, hty2, _, rfl, ?_⟩
     rw [hst]
     exact nQ (q1 (dC hS) H (Same.refl H))
  | _ => cases hT
inductive IspIs (vs : List V) (H : Hp) (Q : VK) : Prop
 | mk (v : V) (t : Tr) (z0 : vs = [v]) (z1 : Rep H v t) (z2 : t.w ≤ 1000000) (z3 : ∀ H', Same H H' → Q (.bl (isR t)) H') : IspIs vs H Q
noncomputable def spIs : Sp := fun vs H Q _ => IspIs vs H Q
theorem vO (T : Txt P w K mg a) : FnOk P w K mg base CX0 4 a.is_reckoning a.cU ["thing"] spIs := by
 have S := mD
 have big : (1000000 : Nat) < sizeLine := by decide
 have oU := tD (P := P) (w := w) (base := base) T
 refine T.iU.okJ mD (fun vs H Q E h => ?_) (fun cdv A outer s H vs Q E hr h => ?_)
 ·obtain ⟨v, t, rfl, _⟩ := h; rfl
 obtain ⟨v, t, rfl, hv, hn, q⟩ := h
 refine ⟨_, (wQ (kX (i := 1) S.nd rfl (Or.inl rfl) (cZ (qQ (jv 0) jQ))) (wQ (kX (i := 2) S.nd rfl (Or.inl rfl) xQ) (wQ (iM PassesOwn.never (bC (jv 1)) (wQ (V0 (i := 2) S.nd rfl (Or.inl rfl) xQ JV) (wQ (kX (i := 3) S.nd rfl (Or.inl rfl) (mQ oU hr rfl T.lL T.k_inner_things T.b_inner_things .nil iQ (qQ (eF PySem.F.plainAttrs_list PySem.F.slot_list_pop PySem.F.type_list_pop nR (jv 1)) jQ))) (wQ (zX (iX (zZ (sQ Z0 (jv 3) aZ (oQ _)) (qZ (sQ eG (jv 2) (jK (v := .int 20) rfl T.zS ⟨_, rfl⟩) (oQ _))))) (uQ (pQ fX)) tQ) (uQ (zK (uG PySem.F.plainAttrs_list PySem.F.slot_list_extend PySem.F.type_list_extend aP (jv 1) (qQ (jv 3) jQ)))))))) (uQ (pQ fX))))), ?_⟩
 refine ⟨_, rfl, sZ1, fun l hl => ?_⟩
 refine ⟨fun m σ' H' => ∃ (st : List V) (ts : List Tr) (c : Int) (r' : Option (List Tr)) (x3 : Option V), σ' = [some v, some (.ref l), some (.int c), x3] ∧ Same H H' ∧ H' l = some (.lst st) ∧ Reps H st ts ∧ m = wL ts ∧ wL ts ≤ 1000000 ∧ Run ts r' ∧ 0 ≤ c ∧ c ≤ 20 ∧ okC c r' = isR t,
  ⟨_, [v], [t], 0, run t, none, rfl, kQ hl _, zQ, .cons hv .nil, rfl, by rw [yQ, wL]; omega, rH t, Int.le_refl 0, by decide, rfl⟩, ?_⟩
 rintro m σ' H' ⟨st, ts, c, r', x3, rfl, s1, hst, hT, rfl, hm, hrun, c0, c1, hok⟩
 refine ⟨_, rfl, _, .inl ⟨_, SqL.of hst, rfl⟩, ?_⟩
 rcases List.eq_nil_or_concat st with rfl | ⟨L, b, rfl⟩
 ·refine bQ ?_
  cases hT
  have e := hrun.at_nil rfl
  subst e
  have e2 : isR t = true := by
   rw [← hok]
   exact decide_eq_true (by show c + ((0 : Nat) : Int) ≤ 20; omega)
  have q' := q H' s1
  rw [e2] at q'
  exact q'
 ·rw [List.concat_eq_append] at hst hT ⊢
  have ne : (!(L ++ [b]).isEmpty) = true := by cases L <;> rfl
  rw [ne]
  refine nQ ⟨_, fun _ _ h => h, ?_⟩
  refine ⟨_, rfl, _, _, rfl, rfl, ?_⟩
  obtain ⟨us, u, rfl, t1, t2⟩ := hT.snoc rfl
  have hlen := t1.len
  have hwl := kJ us
  rw [nX, yQ, wL] at hm ⊢
  have hlast : (L ++ [b])[(L ++ [b]).length - 1]? = some b := by simp
  have s2 : Same H (upd H' l (.lst (L ++ [b]).dropLast)) := mX s1 hl
  have hdl : (L ++ [b]).dropLast = L := List.dropLast_concat
  refine ⟨_, rfl, .inl ⟨rfl, _, SqL.of hst⟩, l, _, _, rfl, rfl, hst, hlast, b, u, H, rfl, s2, t2, by omega, fun hin H2 s3 => ?_, fun xs hin l2 ys H2 s3 hl2 hl2' hys => ?_⟩
  ·refine ⟨_, rfl, rfl, _, rfl, nQ (nQ ?_)⟩
   rcases hrun.at_snoc rfl with ⟨_, e⟩ | ⟨xs, r2, h1, _⟩
   ·subst e
    have q' := q H2 (s2.trans s3)
    rw [← hok] at q'
    exact q'
   ·rw [hin] at h1; cases h1
  ·rcases hrun.at_snoc rfl with ⟨h1, _⟩ | ⟨xs', r2, h1, hrun2, e⟩
   ·rw [hin] at h1; cases h1
   rw [hin] at h1
   cases h1
   subst e
   have p3 := Zj hin
   refine ⟨_, rfl, rfl, _, rfl, bQ ⟨_, rfl, _, _, rfl, rfl, _, rfl, ?_⟩⟩
   have hcc : okC (c + 1) r2 = isR t := by
    rw [← hok]
    cases r2 with
    | none => rfl
    | some k =>
     show decide (c + 1 + (k.length : Int) ≤ 20) = decide (c + (((u :: k).length : Nat) : Int) ≤ 20)
     congr 1
     rw [List.length_cons]
     exact propext ⟨fun h => by omega, fun h => by omega⟩
   refine wH (fun hd => ?_) (fun hd => ?_)
   ·have hd' : 20 < c + 1 := of_decide_eq_true hd
    have e2 : isR t = false := by
     rw [← hcc]
     cases r2 with
     | none => rfl
     | some k => exact decide_eq_false (by omega)
    have q' := q H2 (s2.trans s3)
    rw [e2] at q'
    exact q'
   ·have hd' : ¬ 20 < c + 1 := of_decide_eq_false (Bool.eq_false_iff.mpr hd)
    have hlH2 : H2 l = some (.lst L) := by
     have := s3 l _ zQ
     rw [hdl] at this
     exact this
    have lx := hys.len
    have lx2 := kJ xs
    refine ⟨_, rfl, .inl ⟨rfl, _, SqL.of hlH2⟩, _, rfl, l, l2, L, ys, rfl, rfl, hlH2, hl2', by omega, ?_⟩
    refine ⟨wL (us ++ xs), by rw [nX]; omega, L ++ ys, us ++ xs, c + 1, r2, _, rfl, mX (s2.trans s3) hl, zQ, t1.append hys, rfl, by rw [nX]; omega, hrun2, by omega, by omega, hcc⟩
end
end K06
namespace K06
open PySem L2
noncomputable def NT (H : Hp) (b : Addr) (l : List Str) : Prop := H b = some (.tup (l.map V.str))
theorem NT.same {H H' : Hp} {b : Addr} {l : List Str} (h : NT H b l) (s : Same H H') : NT H' b l := s _ _ h
inductive Isp3 (f : List Str → List Str → Tr → Bool) (vs : List V) (H : Hp) (Q : VK) : Prop
 | mk (v : V) (t : Tr) (b u : Addr) (bx tu : List Str) (z0 : vs = [v, .ref b, .ref u]) (z1 : Rep H v t) (z2 : t.w ≤ 1000000) (z3 : NT H b bx) (z4 : NT H u tu) (z5 : ∀ H', Same H H' → Q (.bl (f bx tu t)) H') : Isp3 f vs H Q
noncomputable def sp3 (f : List Str → List Str → Tr → Bool) : Sp := fun vs H Q _ => Isp3 f vs H Q
theorem dB {H : Hp} {v : V} {t : Tr} (h : Rep H v t) (l : List Str) : inS l v = iB l t := by cases h <;> rfl
theorem fI {z : Str} {ys xs : List Tr} (h : bO (.str z :: ys) = some xs) : ∃ y r, ys = y :: r := by
 cases ys with
 | cons y r => exact ⟨y, r, rfl⟩
 | nil =>
  rw [kF] at h
  cases hj : qF z with
  | some k =>
   rw [hj] at h
   have h : (if (([] : List Tr).length : Int) = k then some [] else none) = some xs := h
   have := mT hj
   rw [if_neg (by show ¬ (0 : Int) = k; omega)] at h
   cases h
  | none =>
   rw [hj] at h
   cases h
theorem QW {H : Hp} {v : V} {t : Tr} {xs : List Tr} (hv : Rep H v t) (h : inn t = some xs) : ∃ p z y r ty rs, v = .ref p ∧ H p = some (.tup (.str z :: y :: r)) ∧ t = .tup (.str z :: ty :: rs) ∧ Rep H y ty := by
 cases hv with
 | @tup p vs ts hp hx =>
  have h : bO ts = some xs := h
  cases hx with
  | nil => cases h
  | @cons y0 t0 r0 rs0 h0 hr0 =>
   cases h0 with
   | str z =>
    obtain ⟨ty, rs, rfl⟩ := fI h
    cases hr0 with
    | cons hy _ => exact ⟨p, z, _, _, ty, rs, rfl, hp, rfl, hy⟩
   | _ => cases h
 | _ => cases h
section
variable {P : Program} {w : World} {K : W.Frag} {mg : Str → Option Value} {base : Heap} {a : Adr}
theorem wV (T : Txt P w K mg a) : FnOk P w K mg base CX0 5 a.reckoning_fits a.oY ["thing", "boxes", "turns"] (sp3 rX) := by
 have S := xB
 have big : (1000000 : Nat) < sizeLine := by decide
 have Qh := vO (P := P) (w := w) (base := base) T
 have oU := (tD (P := P) (w := w) (base := base) T).mono (show 3 ≤ 4 by decide)
 refine T.tY.okJ xB (fun vs H Q E h => ?_) (fun cdv A outer s H vs Q E hr h => ?_)
 ·obtain ⟨v, t, b, u, bx, tu, rfl, _⟩ := h; rfl
 obtain ⟨v, t, b, u, bx, tu, rfl, hv, hn, hb, hu, q⟩ := h
 refine ⟨_, (wQ (zX (xX (jX (mQ Qh hr rfl T.kI T.k_is_reckoning T.b_is_reckoning .nil iQ (qQ (jv 0) jQ)))) (uQ (pQ fX)) tQ) (wQ (kX (i := 3) S.nd rfl (Or.inl rfl) (cZ (qQ (jv 0) jQ))) (wQ (iM PassesOwn.never (bC (jv 3)) (wQ (kX (i := 4) S.nd rfl (Or.inl rfl) (eF PySem.F.plainAttrs_list PySem.F.slot_list_pop PySem.F.type_list_pop nR (jv 3))) (wQ (zX (iX (jY (sQ wZ (cQ lQ (jv 4) xQ (fun _ _ => rfl)) aQ (oQ _)) (uV (sQ (cV (iG hr)) (cQ lQ (jv 4) xQ (fun _ _ => rfl)) (jv 1) rfl)))) (uQ (pQ fX)) tQ) (wQ (zX (iX (jY (sQ wZ (cQ lQ (jv 4) xQ (fun _ _ => rfl)) aQ (oQ _)) (uV (sQ (cV (iG hr)) (cQ lQ (jv 4) xQ (fun _ _ => rfl)) (jv 2) rfl)))) (uQ (pQ fX)) tQ) (uQ (zK (uG PySem.F.plainAttrs_list PySem.F.slot_list_extend PySem.F.type_list_extend aP (jv 3) (qQ (mQ oU hr rfl T.lL T.k_inner_things T.b_inner_things .nil iQ (qQ (jv 4) jQ)) jQ)))))))) (uQ (pQ fX))))), ?_⟩
 refine ⟨_, rfl, v, t, rfl, hv, hn, fun H1 s1 => ⟨_, rfl, ?_⟩⟩
 cases hR : isR t with
 | false =>
  refine nQ ?_
  have e : rX bx tu t = false := by
   unfold rX
   unfold isR okC at hR
   cases hr : run t with
   | none => rfl
   | some ns =>
    rw [hr] at hR
    have hR : decide ((0 : Int) + (ns.length : Nat) ≤ 20) = false := hR
    have := of_decide_eq_false hR
    show (decide (ns.length ≤ 20) && _) = false
    rw [decide_eq_false (by omega), Bool.false_and]
  have q' := q H1 s1
  rw [e] at q'
  exact q'
 | true =>
  refine bQ ?_
  obtain ⟨ns, hns, hle⟩ : ∃ ns, run t = some ns ∧ ns.length ≤ 20 := by
   unfold isR okC at hR
   cases hr : run t with
   | none => rw [hr] at hR; cases hR
   | some ns =>
    rw [hr] at hR
    have hR : decide ((0 : Int) + (ns.length : Nat) ≤ 20) = true := hR
    have := of_decide_eq_true hR
    exact ⟨ns, rfl, by omega⟩
  have hrun0 := rH t
  rw [hns] at hrun0
  have ef : rX bx tu t = ns.all (qK bx tu) := by
   unfold rX
   rw [hns]
   show (decide (ns.length ≤ 20) && _) = _
   rw [decide_eq_true hle, Bool.true_and]
  refine ⟨_, rfl, sZ1, fun l hl => ?_⟩
  have hv1 := hv.same s1
  have hb1 := hb.same s1
  have hu1 := hu.same s1
  refine ⟨fun m σ' H' => ∃ (st : List V) (ts : List Tr) (ns' : List Tr) (x4 : Option V), σ' = [some v, some (.ref b), some (.ref u), some (.ref l), x4] ∧ Same H1 H' ∧ H' l = some (.lst st) ∧ Reps H1 st ts ∧ m = wL ts ∧ wL ts ≤ 1000000 ∧ Run ts (some ns') ∧ ns'.all (qK bx tu) = rX bx tu t,
   ⟨_, [v], [t], ns, none, rfl, kQ hl _, zQ, .cons hv1 .nil, rfl, by rw [yQ, wL]; omega, hrun0, ef.symm⟩, ?_⟩
  rintro m σ' H' ⟨st, ts, ns', x4, rfl, s2, hst, hT, rfl, hm, hrun, hok⟩
  refine ⟨_, rfl, _, .inl ⟨_, SqL.of hst, rfl⟩, ?_⟩
  rcases List.eq_nil_or_concat st with rfl | ⟨L, bb, rfl⟩
  ·refine bQ ?_
   cases hT
   have e := hrun.at_nil rfl
   cases e
   have q' := q H' (s1.trans s2)
   rw [← hok] at q'
   exact q'
  ·rw [List.concat_eq_append] at hst hT ⊢
   have ne : (!(L ++ [bb]).isEmpty) = true := by cases L <;> rfl
   rw [ne]
   refine nQ ⟨_, fun _ _ h => h, ?_⟩
   obtain ⟨us, uu, rfl, t1, t2⟩ := hT.snoc rfl
   rcases hrun.at_snoc rfl with ⟨_, h2⟩ | ⟨xs, r', hin, hrun2, he⟩
   ·cases h2
   have hlen := t1.len
   have hwl := kJ us
   rw [nX, yQ, wL] at hm ⊢
   have hlast : (L ++ [bb])[(L ++ [bb]).length - 1]? = some bb := by simp
   have hdl : (L ++ [bb]).dropLast = L := List.dropLast_concat
   refine ⟨_, rfl, .inl ⟨rfl, _, SqL.of hst⟩, l, _, _, rfl, rfl, hst, hlast, ?_⟩
   have s3 : Same H1 (upd H' l (.lst (L ++ [bb]).dropLast)) := mX s2 hl
   have hl3 : (upd H' l (.lst (L ++ [bb]).dropLast)) l = some (.lst L) := by rw [hdl]; exact zQ
   generalize (upd H' l (.lst (L ++ [bb]).dropLast)) = H3 at s3 hl3 ⊢
   obtain ⟨p, z, y, r, ty, rs, rfl, hp, rfl, hy⟩ := QW t2 hin
   have hp3 := s3 p _ hp
   obtain ⟨c, hc, _⟩ := (hy.same s3).ty
   cases r' with
   | none => cases he
   | some ns2 =>
   have he : ns' = Tr.tup (.str z :: ty :: rs) :: ns2 := by injection he
   subst he
   have fin : (qK bx tu (.tup (.str z :: ty :: rs)) = false) → Q (.bl false) H3 := fun hf => by
    have q' := q H3 (s1.trans s3)
    rw [← hok, List.all_cons, hf, Bool.false_and] at q'
    exact q'
   have hno : qK bx tu (.tup (.str z :: ty :: rs)) = ((!decide (z = "box") || iB bx ty) && (!decide (z = "turn") || iB tu ty)) := rfl
   have e0 : ∀ {k : Str}, z = k → decide (V.str z = V.str k) = true := fun h => decide_eq_true (by rw [h])
   have e1 : ∀ {k : Str}, ¬ z = k → decide (V.str z = V.str k) = false := fun h => decide_eq_false (fun e => h (by injection e))
   have more : qK bx tu (.tup (.str z :: ty :: rs)) = true → ns2.all (qK bx tu) = rX bx tu t := fun h => by rw [← hok, List.all_cons, h, Bool.true_and]
   refine ⟨_, rfl, p, _, _, _, rfl, rfl, SqT.of hp3, at0 _ _, rfl, _, rfl, ?_⟩
   by_cases hz : z = "box"
   ·rw [e0 hz]
    refine nQ ⟨_, rfl, p, _, _, _, rfl, rfl, SqT.of hp3, at1 _ _ _, _, rfl, b, bx, c, rfl, .inr (SqT.of (hb1.same s3)), hc, _, rfl, ?_⟩
    show if (!inS bx y) = true then _ else _
    rw [dB hy]
    have hz2 : ¬ z = "turn" := by rw [hz]; decide
    cases hi : iB bx ty with
    | false =>
     refine nQ (fin ?_)
     rw [hno, decide_eq_true hz, hi]
     rfl
    | true =>
     refine bQ ⟨_, rfl, p, _, _, _, rfl, rfl, SqT.of hp3, at0 _ _, rfl, _, rfl, ?_⟩
     rw [e1 hz2]
     have more := more (by rw [hno, decide_eq_false hz2, hi, Bool.or_true]; rfl)
     refine bQ (bQ ?_)
     refine ⟨_, rfl, .inl ⟨rfl, _, SqL.of hl3⟩, _, rfl, .ref p, _, H1, rfl, s3, t2, by omega, fun h => ?_, fun xs' h l2 ys H4 s4 hl2 hl4 hys => ?_⟩
     ·rw [hin] at h; cases h
     rw [hin] at h
     cases h
     have p3 := Zj hin
     have lx := hys.len
     have lx2 := kJ xs
     refine ⟨l, l2, L, ys, rfl, rfl, s4 l _ hl3, hl4, by omega, ?_⟩
     exact ⟨wL (us ++ xs), by rw [nX]; omega, L ++ ys, us ++ xs, ns2, _, rfl, mX (s3.trans s4) hl, zQ, t1.append hys, rfl, by rw [nX]; omega, hrun2, more⟩
   rw [e1 hz]
   refine bQ (bQ ⟨_, rfl, p, _, _, _, rfl, rfl, SqT.of hp3, at0 _ _, rfl, _, rfl, ?_⟩)
   by_cases hz2 : z = "turn"
   ·rw [e0 hz2]
    refine nQ ⟨_, rfl, p, _, _, _, rfl, rfl, SqT.of hp3, at1 _ _ _, _, rfl, u, tu, c, rfl, .inr (SqT.of (hu1.same s3)), hc, _, rfl, ?_⟩
    show if (!inS tu y) = true then _ else _
    rw [dB hy]
    cases hi : iB tu ty with
    | false =>
     refine nQ (fin ?_)
     rw [hno, decide_eq_false hz, decide_eq_true hz2, hi]
     rfl
    | true =>
     have more := more (by rw [hno, decide_eq_false hz, hi, Bool.or_true]; rfl)
     refine bQ ?_
     refine ⟨_, rfl, .inl ⟨rfl, _, SqL.of hl3⟩, _, rfl, .ref p, _, H1, rfl, s3, t2, by omega, fun h => ?_, fun xs' h l2 ys H4 s4 hl2 hl4 hys => ?_⟩
     ·rw [hin] at h; cases h
     rw [hin] at h
     cases h
     have p3 := Zj hin
     have lx := hys.len
     have lx2 := kJ xs
     refine ⟨l, l2, L, ys, rfl, rfl, s4 l _ hl3, hl4, by omega, ?_⟩
     exact ⟨wL (us ++ xs), by rw [nX]; omega, L ++ ys, us ++ xs, ns2, _, rfl, mX (s3.trans s4) hl, zQ, t1.append hys, rfl, by rw [nX]; omega, hrun2, more⟩
   ·rw [e1 hz2]
    have more := more (by rw [hno, decide_eq_false hz, decide_eq_false hz2]; rfl)
    refine bQ (bQ ?_)
    refine ⟨_, rfl, .inl ⟨rfl, _, SqL.of hl3⟩, _, rfl, .ref p, _, H1, rfl, s3, t2, by omega, fun h => ?_, fun xs' h l2 ys H4 s4 hl2 hl4 hys => ?_⟩
    ·rw [hin] at h; cases h
    rw [hin] at h
    cases h
    have p3 := Zj hin
    have lx := hys.len
    have lx2 := kJ xs
    refine ⟨l, l2, L, ys, rfl, rfl, s4 l _ hl3, hl4, by omega, ?_⟩
    exact ⟨wL (us ++ xs), by rw [nX]; omega, L ++ ys, us ++ xs, ns2, _, rfl, mX (s3.trans s4) hl, zQ, t1.append hys, rfl, by rw [nX]; omega, hrun2, more⟩
end
end K06
namespace K06
open PySem L2
noncomputable def dY (bx tu : List Str) : Tr → Bool
 | .non => true
 | t => rX bx tu t
noncomputable def kW (k : Nat) : Tr → Bool
 | .tup (n :: r) => decide (r.length + 1 = k) && xZ n
 | _ => false
noncomputable def nm : Tr → Str
 | .tup (.str a :: _) => a
 | _ => ""
noncomputable def bnR (k : Nat) : List Str → List Tr → Bool
 | _, [] => true
 | seen, x :: r => kW k x && !seen.contains (nm x) && bnR k (seen ++ [nm x]) r
noncomputable def fY (k : Nat) : Tr → Bool
 | .tup xs => bnR k [] xs
 | _ => false
noncomputable def vH : Tr → Tr
 | .tup (_ :: s :: _) => s
 | _ => .non
noncomputable def pZ (bx tu : List Str) : Tr → Bool
 | .tup xs => fY 2 (.tup xs) && xs.all fun x => rX bx tu (vH x)
 | _ => false
theorem qR {k : Nat} : ∀ {xs : List Tr} {seen : List Str}, bnR k seen xs = true → ∀ x ∈ xs, kW k x = true
 | [], _, _ => fun x hx => by cases hx
 | y :: r, seen, h => fun x hx => by
  rw [bnR, Bool.and_eq_true, Bool.and_eq_true] at h
  rcases List.mem_cons.mp hx with rfl | hx
  ·exact h.1.1
  ·exact qR h.2 x hx
theorem cJ {H : Hp} {v : V} {t : Tr} {k : Nat} (hv : Rep H v t) (h : kW k t = true) : ∃ p z r rs, v = .ref p ∧ H p = some (.tup (.str z :: r)) ∧ t = .tup (.str z :: rs) ∧ Reps H r rs ∧ rs.length + 1 = k := by
 cases hv with
 | @tup p vs ts hp hx =>
  cases hx with
  | nil => cases h
  | @cons y0 t0 r0 rs0 h0 hr0 =>
   have h : (decide (rs0.length + 1 = k) && xZ t0) = true := h
   rw [Bool.and_eq_true] at h
   have h1 := of_decide_eq_true h.1
   cases h0 with
   | str z => exact ⟨p, z, _, _, rfl, hp, rfl, hr0, h1⟩
   | _ => cases h.2
 | _ => cases h
theorem Reps.one {H : Hp} {r : List V} {rs : List Tr} (h : Reps H r rs) (e : rs.length = 1) : ∃ y ty, r = [y] ∧ rs = [ty] ∧ Rep H y ty := by
 cases h with
 | nil => cases e
 | cons a b =>
  cases b with
  | nil => exact ⟨_, _, rfl, rfl, a⟩
  | cons _ _ => simp at e
theorem Reps.two {H : Hp} {r : List V} {rs : List Tr} (h : Reps H r rs) (e : rs.length = 2) : ∃ y z ty tz, r = [y, z] ∧ rs = [ty, tz] ∧ Rep H y ty ∧ Rep H z tz := by
 cases h with
 | nil => cases e
 | cons a b =>
  obtain ⟨z, tz, rfl, rfl, hz⟩ := b.one (by rw [List.length_cons] at e; omega)
  exact ⟨_, _, _, _, rfl, rfl, a, hz⟩
theorem Reps.three {H : Hp} {r : List V} {rs : List Tr} (h : Reps H r rs) (e : rs.length = 3) : ∃ x y z tx ty tz, r = [x, y, z] ∧ rs = [tx, ty, tz] ∧ Rep H x tx ∧ Rep H y ty ∧ Rep H z tz := by
 cases h with
 | nil => cases e
 | cons a b =>
  obtain ⟨y, z, ty, tz, rfl, rfl, hy, hz⟩ := b.two (by rw [List.length_cons] at e; omega)
  exact ⟨_, _, _, _, _, _, rfl, rfl, a, hy, hz⟩
theorem Reps.four {H : Hp} {r : List V} {rs : List Tr} (h : Reps H r rs) (e : rs.length = 4) : ∃ w x y z tw tx ty tz, r = [w, x, y, z] ∧ rs = [tw, tx, ty, tz] ∧ Rep H w tw ∧ Rep H x tx ∧ Rep H y ty ∧ Rep H z tz := by
 cases h with
 | nil => cases e
 | cons a b =>
  obtain ⟨x, y, z, tx, ty, tz, rfl, rfl, hx, hy, hz⟩ := b.three (by rw [List.length_cons] at e; omega)
  exact ⟨_, _, _, _, _, _, _, _, rfl, rfl, a, hx, hy, hz⟩
theorem Reps.five {H : Hp} {r : List V} {rs : List Tr} (h : Reps H r rs) (e : rs.length = 5) : ∃ v w x y z tv tw tx ty tz, r = [v, w, x, y, z] ∧ rs = [tv, tw, tx, ty, tz] ∧ Rep H v tv ∧ Rep H w tw ∧ Rep H x tx ∧ Rep H y ty ∧ Rep H z tz := by
 cases h with
 | nil => cases e
 | cons a b =>
  obtain ⟨w, x, y, z, tw, tx, ty, tz, rfl, rfl, hw, hx, hy, hz⟩ := b.four (by rw [List.length_cons] at e; omega)
  exact ⟨_, _, _, _, _, _, _, _, _, _, rfl, rfl, a, hw, hx, hy, hz⟩
theorem at2 {α : Type} (x y z : α) (r : List α) : atI (x :: y :: z :: r) 2 = some z := jV (j := 2) rfl
theorem at3 {α : Type} (x y z u : α) (r : List α) : atI (x :: y :: z :: u :: r) 3 = some u := jV (j := 3) rfl
theorem at4 {α : Type} (x y z u v : α) (r : List α) : atI (x :: y :: z :: u :: v :: r) 4 = some v := jV (j := 4) rfl
theorem eC {α : Type} {ts : List α} {i : Nat} {t : α} (h : ts[i]? = some t) : ts.drop i = t :: ts.drop (i + 1) := by
 obtain ⟨hl, e⟩ := List.getElem?_eq_some_iff.mp h
 rw [← e]
 exact List.drop_eq_getElem_cons hl
section
variable {P : Program} {w : World} {K : W.Frag} {mg : Str → Option Value} {base : Heap} {a : Adr}
theorem X2 (T : Txt P w K mg a) : FnOk P w K mg base CX0 6 a.key_fits a.kN ["key", "boxes", "turns"] (sp3 dY) := by
 have S := vT
 have vZ := wV (P := P) (w := w) (base := base) T
 refine T.fN.okJ vT (fun vs H Q E h => ?_) (fun cdv A outer s H vs Q E hr h => ?_)
 ·obtain ⟨v, t, b, u, bx, tu, rfl, _⟩ := h; rfl
 obtain ⟨v, t, b, u, bx, tu, rfl, hv, hn, hb, hu, q⟩ := h
 refine ⟨_, (uQ (pQ (je_or (hV Z0 (jv 0) aZ (oQ _)) (bU (mQ vZ hr rfl T.iJ T.k_reckoning_fits T.b_reckoning_fits .nil iQ (qQ (jv 0) (qQ (jv 1) (qQ (jv 2) jQ)))))))), ?_⟩
 refine ⟨_, rfl, rfl, _, rfl, ?_⟩
 by_cases hN : v = .non
 ·rw [decide_eq_true hN]
  subst hN
  cases hv
  exact nQ (q H (Same.refl H))
 ·rw [decide_eq_false hN]
  have e : dY bx tu t = rX bx tu t := by
   cases hv <;> first | rfl | exact absurd rfl hN
  rw [e] at q
  exact bQ ⟨_, rfl, _, rfl, _, rfl, v, t, b, u, bx, tu, rfl, hv, hn, hb, hu, q⟩
inductive WA (vs : List V) (H : Hp) (Q : VK) : Prop
 | mk (v : V) (t : Tr) (k : Nat) (z0 : vs = [v, .int k]) (z1 : Rep H v t) (z2 : t.w ≤ 1000000) (z3 : 1 ≤ k) (z4 : ∀ H', Same H H' → Q (.bl (fY k t)) H') : WA vs H Q
noncomputable def spBeg : Sp := fun vs H Q _ => WA vs H Q
theorem mK (T : Txt P w K mg a) : FnOk P w K mg base CX0 2 a.begins_with_names a.xW ["thing", "size"] spBeg := by
 have S := xG
 have big : (1000000 : Nat) < sizeLine := by decide
 have tW := bF (P := P) (w := w) (base := base) T
 refine T.vW.okJ xG (fun vs H Q E h => ?_) (fun cdv A outer s H vs Q E hr h => ?_)
 ·obtain ⟨v, t, k, rfl, _⟩ := h; rfl
 obtain ⟨v, t, k, rfl, hv, hn, k1, q⟩ := h
 refine ⟨_, (wQ (zX (xX (jX (gQ eQ rfl T.rQ rfl (qQ (jv 0) (qQ (wX rfl T.tX (v := .ty "tuple") rfl rfl) jQ))))) (uQ (pQ fX)) tQ) (wQ (kX (i := 2) S.nd rfl (Or.inl rfl) Zg) (wQ (xY PassesOwn.never rfl (dJ (jv 0)) (pK (i := 3) S.nd rfl (Or.inl rfl)) (wQ (zX (iX (zZ (xX (jX (gQ eQ rfl T.rQ rfl (qQ (jv 3) (qQ (wX rfl T.tX (v := .ty "tuple") rfl rfl) jQ))))) (qZ (sQ lD (gQ qX rfl T.aX rfl (qQ (jv 3) jQ)) (jv 1) (oQ _))))) (uQ (pQ fX)) tQ) (wQ (zX (iX (zZ (xX (jX (mQ tW hr rfl T.eM T.k_is_name T.b_is_name .nil iQ (qQ (cQ lQ (jv 3) xQ (fun _ _ => rfl)) jQ)))) (qZ (sQ (op_din (iG hr)) (cQ lQ (jv 3) xQ (fun _ _ => rfl)) (jv 2) rfl)))) (uQ (pQ fX)) tQ) (uQ (js_dput (iG hr) (jv 2) (cQ lQ (jv 3) xQ (fun _ _ => rfl)) fX))))) (uQ (pQ fX))))), ?_⟩
 obtain ⟨ty, hty, htt, _, _⟩ := hv.ty
 refine ⟨_, rfl, v, .tup, ty, rfl, hty, _, rfl, ?_⟩
 rw [htt]
 cases hT : t.isTup with
 | false =>
  have e : fY k t = false := by cases t <;> first | rfl | cases hT
  have q' := q H (Same.refl H)
  rw [e] at q'
  exact nQ q'
 | true =>
 refine bQ ?_
 obtain ⟨p, xs, ts, rfl, rfl, hp, hx⟩ : ∃ p xs ts, v = .ref p ∧ t = .tup ts ∧ H p = some (.tup xs) ∧ Reps H xs ts := by
  cases hv <;> first | exact ⟨_, _, _, rfl, rfl, ‹_›, ‹_›⟩ | cases hT
 rw [eX] at hn
 have hlen := hx.len
 have hwl := kJ ts
 refine fun d hd => ?_
 have s1 := kQ hd (.dK [])
 refine ⟨_, rfl, p, rfl, ⟨xs, SqT.of (s1 p _ hp)⟩, ?_⟩
 refine bW (xs := xs) (fun i σ' H' => ∃ (kvs : List (Key × V)) (seen : List Str) (x3 : Option V), σ' = [some (.ref p), some (.int k), some (.ref d), x3] ∧ Same H H' ∧ H' d = some (.dK kvs) ∧ kvs.length ≤ i ∧ (∀ z : Str, (nV kvs (Sum.inr z)).isSome = seen.contains z) ∧ bnR k seen (ts.drop i) = fY k (.tup ts)) ?_ ?_ ?_ ?_
 ·exact ⟨[], [], none, rfl, s1, zQ, Nat.zero_le _, fun z => rfl, rfl⟩
 ·rintro i σ' H' _ ⟨kvs, seen, x3, rfl, s2, _⟩
  exact SqT.of (s2 p _ hp)
 ·rintro i x σ' H' hxi ⟨kvs, seen, x3, rfl, s2, hd2, hk, hv, hbn⟩
  obtain ⟨tx, htx, hrx⟩ := hx.get hxi
  rw [eC htx, bnR] at hbn
  have wx := bV htx
  have il : i < xs.length := (List.getElem?_eq_some_iff.mp hxi).1
  have no : ∀ H3, Same H H3 → (kW k tx && !seen.contains (nm tx)) = false → Q (.bl false) H3 := fun H3 s3 e => by
   have q' := q H3 s3
   rw [← hbn, e, Bool.false_and] at q'
   exact q'
  obtain ⟨c, hc, hct, _, _⟩ := (hrx.same s2).ty
  refine ⟨_, rfl, x, .tup, c, rfl, hc, _, rfl, ?_⟩
  rw [hct]
  cases hT2 : tx.isTup with
  | false =>
   refine nQ (no _ s2 ?_)
   have e : kW k tx = false := by cases tx <;> first | rfl | cases hT2
   rw [e, Bool.false_and]
  | true =>
  obtain ⟨p2, vs2, ts2, rfl, rfl, hp2, hx2⟩ : ∃ p xs ts, x = .ref p ∧ tx = .tup ts ∧ H p = some (.tup xs) ∧ Reps H xs ts := by
   cases hrx <;> first | exact ⟨_, _, _, rfl, rfl, ‹_›, ‹_›⟩ | cases hT2
  rw [eX] at wx
  have hp2' := s2 p2 _ hp2
  refine bQ ⟨_, rfl, _, _, rfl, .inr ⟨_, SqT.of hp2', rfl⟩, _, rfl, rfl, _, rfl, ?_⟩
  have l2 := hx2.len
  by_cases hl : vs2.length = k
  ·rw [decide_eq_true (show V.int ((vs2.length : Nat) : Int) = V.int (k : Int) by rw [hl])]
   refine bQ ?_
   cases hx2 with
   | nil => exact absurd hl (by show ¬ 0 = k; omega)
   | @cons y ty2 r rs hy hr2 =>
   rw [yQ] at wx
   obtain ⟨c2, hc2, _⟩ := (hy.same s2).ty
   have l3 := hr2.len
   rw [List.length_cons] at hl
   have eb : kW k (.tup (ty2 :: rs)) = xZ ty2 := by
    show (decide (rs.length + 1 = k) && xZ ty2) = _
    rw [decide_eq_true (by omega), Bool.true_and]
   refine ⟨_, rfl, p2, _, _, _, rfl, rfl, SqT.of hp2', at0 _ _, y, c2, rfl, hc2, fun z' e => ?_, fun H3 s3 => ⟨_, rfl, ?_⟩⟩
   ·have := hy.strLen e
    omega
   rw [hy.nam]
   cases hN : xZ ty2 with
   | false => exact nQ (no _ (s2.trans s3) (by rw [eb, hN, Bool.false_and]))
   | true =>
    obtain ⟨z, rfl⟩ := aW hN
    cases hy
    have s23 := s2.trans s3
    have hp3 := s23 p2 _ hp2
    have hd3 := s3 d _ hd2
    refine bQ ⟨_, rfl, p2, _, _, _, rfl, rfl, SqT.of hp3, at0 _ _, _, rfl, d, _, rfl, DGet.k (k := Sum.inr z) hd3, _, rfl, ?_⟩
    rw [hv z]
    cases hs : seen.contains z with
    | true => exact nQ (no _ s23 (by rw [show nm (.tup (.str z :: rs)) = z from rfl, hs, Bool.not_true, Bool.and_false]))
    | false =>
     refine bQ ⟨_, rfl, _, rfl, p2, _, _, _, rfl, rfl, SqT.of hp3, at0 _ _, d, _, rfl, DPut.k (k := Sum.inr z) hd3 (by omega), ?_⟩
     rw [eb, hN, show nm (.tup (.str z :: rs)) = z from rfl, hs, Bool.not_false, Bool.true_and, Bool.true_and] at hbn
     refine ⟨_, seen ++ [z], _, rfl, mX s23 hd, zQ, ?_, fun z' => ?_, hbn⟩
     ·have := vB kvs (Sum.inr z) (.bl true)
      omega
     ·rw [Vb]
      by_cases hz : z' = z
      ·subst hz
       rw [if_pos rfl]
       simp
      ·rw [if_neg (fun e => hz (Sum.inr.inj e)), hv z']
       simp [hz]
  ·rw [decide_eq_false (fun e => hl (by injection e with e; exact Int.ofNat.inj e))]
   refine nQ (no _ s2 ?_)
   have e : kW k (.tup ts2) = false := by
    cases ts2 with
    | nil => rfl
    | cons y r =>
     show (decide (r.length + 1 = k) && xZ y) = false
     rw [decide_eq_false (by rw [List.length_cons] at l2; omega), Bool.false_and]
   rw [e, Bool.false_and]
 ·rintro σ' H' ⟨kvs, seen, x3, rfl, s2, hd2, hk, hv, hbn⟩
  have q' := q H' s2
  rw [← hbn, hlen, List.drop_length] at q'
  exact q'
theorem map_take {α : Type} {f : Tr → α} {ts : List Tr} {i : Nat} {t : Tr} (h : ts[i]? = some t) : (ts.take (i + 1)).map f = (ts.take i).map f ++ [f t] := by
 rw [List.take_succ, h, List.map_append]
 rfl
theorem cS (f : Tr → Bool) : ∀ ts : List Tr, (ts.map f).all id = ts.all f
 | [] => rfl
 | x :: r => by rw [List.map_cons, List.all_cons, List.all_cons, cS f r]; rfl
theorem kC (T : Txt P w K mg a) : FnOk P w K mg base CX0 6 a.pairs_fit a.qP ["thing", "boxes", "turns"] (sp3 pZ) := by
 have S := rN
 have big : (1000000 : Nat) < sizeLine := by decide
 have vZ := wV (P := P) (w := w) (base := base) T
 have bZ := (mK (P := P) (w := w) (base := base) T).mono (show 2 ≤ 5 by decide)
 refine T.pP.okJ rN (fun vs H Q E h => ?_) (fun cdv A outer s H vs Q E hr h => ?_)
 ·obtain ⟨v, t, b, u, bx, tu, rfl, _⟩ := h; rfl
 obtain ⟨v, t, b, u, bx, tu, rfl, hv, hn, hb, hu, q⟩ := h
 refine ⟨_, (wQ (zX (xX (jX (mQ bZ hr rfl T.lK T.k_begins_with_names T.b_begins_with_names .nil iQ (qQ (jv 0) (qQ xQ jQ))))) (uQ (pQ fX)) tQ) (uQ (pQ (gQ (nU rfl) rfl T.zE rfl (qQ (kY rfl (show (["pair", "thing", "boxes", "turns"] : List Str).Nodup by decide +kernel) (uW (N := ["thing", "boxes", "turns"]) (sc := vQ vK) rfl rfl rfl (by decide +kernel)) (dJ (jv 0)) (fun _ _ _ _ _ => xK) (fun _ _ _ _ _ => (mQ vZ hr rfl T.iJ T.k_reckoning_fits T.b_reckoning_fits .nil iQ (qQ (cQ (r := zC K) lQ (jv 0) xQ (fun _ _ => rfl)) (qQ (jv 2) (qQ (jv 3) jQ)))))) jQ))))), ?_⟩
 refine ⟨_, rfl, v, t, 2, rfl, hv, hn, by decide, fun H1 s1 => ⟨_, rfl, ?_⟩⟩
 cases hB : fY 2 t with
 | false =>
  have e : pZ bx tu t = false := by
   cases t with
   | tup xs =>
    show (fY 2 (.tup xs) && _) = false
    rw [hB, Bool.false_and]
   | _ => rfl
  have q' := q H1 s1
  rw [e] at q'
  exact nQ q'
 | true =>
  obtain ⟨p, xs, ts, rfl, rfl, hp, hx⟩ : ∃ p xs ts, v = .ref p ∧ t = .tup ts ∧ H p = some (.tup xs) ∧ Reps H xs ts := by
   cases hv <;> first | exact ⟨_, _, _, rfl, rfl, ‹_›, ‹_›⟩ | cases hB
  have e : pZ bx tu (.tup ts) = ts.all fun x => rX bx tu (vH x) := by
   show (fY 2 (.tup ts) && _) = _
   rw [hB, Bool.true_and]
  rw [e] at q
  rw [eX] at hn
  have hlen := hx.len
  have hwl := kJ ts
  refine bQ ⟨_, rfl, p, rfl, ⟨xs, SqT.of (s1 p _ hp)⟩, fun D hD => ?_⟩
  refine ⟨fun i m ys H' => m = xs.length - i ∧ i ≤ xs.length ∧ Same H1 H' ∧ H' D = some (.lst ys) ∧ ys = (ts.take i).map (fun x => V.bl (rX bx tu (vH x))), ⟨xs.length, by simp, Nat.zero_le _, kQ hD _, zQ, rfl⟩, ?_⟩
  rintro i m ys H' ⟨rfl, hi, s2, hD2, rfl⟩
  have s12 := s1.trans s2
  by_cases hlt : i < xs.length
  ·refine .inr ⟨⟨xs, xs[i], SqT.of (s12 p _ hp), List.getElem?_eq_getElem hlt⟩, ?_⟩
   rintro x' H'' ⟨rfl, hxi⟩
   have hxi := hxi xs (SqT.of (s12 p _ hp))
   obtain ⟨tx, htx, hrx⟩ := hx.get hxi
   have wx := bV htx
   have hbt : kW 2 tx = true := qR (show bnR 2 [] ts = true from hB) tx (List.mem_of_getElem? htx)
   obtain ⟨p2, z, r, rs, rfl, hp2, rfl, hr2, hl2⟩ := cJ hrx hbt
   obtain ⟨y, ty, rfl, rfl, hy⟩ : ∃ y ty, r = [y] ∧ rs = [ty] ∧ Rep H y ty := by
    exact hr2.one (by omega)
   rw [eX, yQ, yQ] at wx
   refine ⟨_, rfl, p2, _, _, _, rfl, rfl, SqT.of (s12 p2 _ hp2), at1 _ _ _, _, rfl, _, rfl, y, ty, b, u, bx, tu, rfl, hy.same s12, by omega, hb.same s12, hu.same s12, fun H3 s3 => ?_⟩
   refine ⟨s3 D _ hD2, by rw [List.length_map, List.length_take]; omega, xs.length - (i + 1), by omega, rfl, hlt, mX (s2.trans s3) hD, zQ, ?_⟩
   exact (map_take (f := fun x => V.bl (rX bx tu (vH x))) htx).symm
  ·have ei : i = xs.length := by omega
   subst ei
   refine .inl ⟨⟨xs, SqT.of (s12 p _ hp), Nat.le_refl _⟩, D, ts.map (fun x => rX bx tu (vH x)), rfl, SqL.of ?_, ?_⟩
   ·rw [hD2, hlen, List.take_length, List.map_map]
    rfl
   ·have q' := q H' s12
    rw [cS]
    exact q'
end
end K06
namespace K06
open PySem L2
noncomputable def XB : List Str := ["set", "add", "times"]
noncomputable def rK (bx tu : List Str) : Tr → Bool
 | .tup [b, w, s] => iB bx b && (iB XB w && rX bx tu s)
 | _ => false
noncomputable def cD : Tr → Bool
 | .int i => decide (1 ≤ i) && decide (i ≤ 3)
 | _ => false
noncomputable def nY (bx tu : List Str) : Tr → Bool
 | .tup [_, r, l, .tup cs] => cD r && l.isBl && cs.all (rK bx tu)
 | _ => false
noncomputable def pG (bx tu : List Str) : Tr → Bool
 | .tup xs => fY 4 (.tup xs) && xs.all (nY bx tu)
 | _ => false
theorem nK {H : Hp} {v : V} {t : Tr} (h : Rep H v t) (e : t.isTup = true) : ∃ p xs ts, v = .ref p ∧ t = .tup ts ∧ H p = some (.tup xs) ∧ Reps H xs ts := by
 cases h <;> first | exact ⟨_, _, _, rfl, rfl, ‹_›, ‹_›⟩ | cases e
section
variable {P : Program} {w : World} {K : W.Frag} {mg : Str → Option Value} {base : Heap} {a : Adr}
theorem iA (T : Txt P w K mg a) : FnOk P w K mg base CX0 6 a.change_fits a.yM ["change", "boxes", "turns"] (sp3 rK) := by
 have S := uL
 have vZ := wV (P := P) (w := w) (base := base) T
 refine T.rM.okJ uL (fun vs H Q E h => ?_) (fun cdv A outer s H vs Q E hr h => ?_)
 ·obtain ⟨v, t, b, u, bx, tu, rfl, _⟩ := h; rfl
 obtain ⟨v, t, b, u, bx, tu, rfl, hv, hn, hb, hu, q⟩ := h
 refine ⟨_, (wQ (zX (iX (zZ (xX (jX (gQ eQ rfl T.rQ rfl (qQ (jv 0) (qQ (wX rfl T.tX (v := .ty "tuple") rfl rfl) jQ))))) (qZ (sQ lD (gQ qX rfl T.aX rfl (qQ (jv 0) jQ)) xQ (oQ _))))) (uQ (pQ fX)) tQ) (uQ (pQ (lY (hV (xC (iG hr)) (cQ lQ (jv 0) xQ (fun _ _ => rfl)) (jv 1) rfl) (lY (hV (xC (iG hr)) (cQ lQ (jv 0) xQ (fun _ _ => rfl)) (jK (v := .ref a.CHANGING) rfl T.KQ rfl) rfl) (bU (mQ vZ hr rfl T.iJ T.k_reckoning_fits T.b_reckoning_fits .nil iQ (qQ (cQ lQ (jv 0) xQ (fun _ _ => rfl)) (qQ (jv 1) (qQ (jv 2) jQ)))))))))), ?_⟩
 have q0 := q H (Same.refl H)
 obtain ⟨ty, hty, htt, _, _⟩ := hv.ty
 refine ⟨_, rfl, v, .tup, ty, rfl, hty, _, rfl, ?_⟩
 rw [htt]
 cases hT : t.isTup with
 | false =>
  have e : rK bx tu t = false := by cases t <;> first | rfl | cases hT
  rw [e] at q0
  exact nQ q0
 | true =>
 obtain ⟨p, xs, ts, rfl, rfl, hp, hx⟩ := nK hv hT
 rw [eX] at hn
 refine bQ ⟨_, rfl, _, _, rfl, .inr ⟨_, SqT.of hp, rfl⟩, rfl, _, rfl, ?_⟩
 have hlen := hx.len
 by_cases hl : ts.length = 3
 ·obtain ⟨x, y, z, tx, ty', tz, rfl, rfl, hx1, hy1, hz1⟩ := hx.three hl
  obtain ⟨c1, hc1, _⟩ := hx1.ty
  obtain ⟨c2, hc2, _⟩ := hy1.ty
  rw [yQ, yQ, yQ] at hn
  refine bQ ⟨_, rfl, p, _, _, _, rfl, rfl, SqT.of hp, at0 _ _, _, rfl, b, bx, c1, rfl, .inr (SqT.of hb), hc1, _, rfl, ?_⟩
  have e0 : rK bx tu (.tup [tx, ty', tz]) = (iB bx tx && (iB XB ty' && rX bx tu tz)) := rfl
  show if inS bx x = true then _ else _
  rw [dB hx1]
  cases h1 : iB bx tx with
  | false =>
   rw [e0, h1, Bool.false_and] at q0
   exact bQ q0
  | true =>
   refine nQ ⟨_, rfl, p, _, _, _, rfl, rfl, SqT.of hp, at1 _ _ _, a.CHANGING, XB, c2, rfl, .inr (T.Kn H), hc2, _, rfl, ?_⟩
   show if inS XB y = true then _ else _
   rw [dB hy1]
   cases h2 : iB XB ty' with
   | false =>
    rw [e0, h1, h2, Bool.false_and, Bool.true_and] at q0
    exact bQ q0
   | true =>
    rw [e0, h1, h2, Bool.true_and, Bool.true_and] at q
    exact nQ ⟨_, rfl, p, _, _, _, rfl, rfl, SqT.of hp, at2 _ _ _ _, _, rfl, _, rfl, z, tz, b, u, bx, tu, rfl, hz1, by omega, hb, hu, q⟩
 ·have e : rK bx tu (.tup ts) = false := by
   match ts, hl with
   | [], _ => rfl
   | [_], _ => rfl
   | [_, _], _ => rfl
   | [_, _, _], h => exact absurd rfl h
   | _ :: _ :: _ :: _ :: _, _ => rfl
  rw [e] at q0
  rw [decide_eq_false (fun e => hl (by injection e with e; omega))]
  exact nQ q0
theorem bP {f : Tr → Bool} {ts : List Tr} {i : Nat} {t : Tr} (h : ts[i]? = some t) : (ts.take i).map (fun x => V.bl (f x)) ++ [V.bl (f t)] = (ts.take (i + 1)).map (fun x => V.bl (f x)) := (map_take (f := fun x => V.bl (f x)) h).symm
inductive Isp3h (f : List Str → List Str → Tr → Bool) (vs : List V) (H : Hp) (Q : VK) : Prop
 | mk (v : V) (t : Tr) (b u : Addr) (bx tu : List Str) (z0 : vs = [v, .ref b, .ref u]) (z1 : Rep H v t) (z2 : t.w ≤ 1000000) (z3 : kW 4 t = true) (z4 : NT H b bx) (z5 : NT H u tu) (z6 : ∀ H', Same H H' → Q (.bl (f bx tu t)) H') : Isp3h f vs H Q
noncomputable def sp3h (f : List Str → List Str → Tr → Bool) : Sp := fun vs H Q _ => Isp3h f vs H Q
theorem Xn (T : Txt P w K mg a) : FnOk P w K mg base CX0 7 a.hand_fits a.uP ["hand", "boxes", "turns"] (sp3h nY) := by
 have S := iN
 have big : (1000000 : Nat) < sizeLine := by decide
 have mG := (uF (P := P) (w := w) (base := base) T).mono (show 1 ≤ 6 by decide)
 have QC := iA (P := P) (w := w) (base := base) T
 refine T.sP.okJ iN (fun vs H Q E h => ?_) (fun cdv A outer s H vs Q E hr h => ?_)
 ·obtain ⟨v, t, b, u, bx, tu, rfl, _⟩ := h; rfl
 obtain ⟨v, t, b, u, bx, tu, rfl, hv, hn, hbeg, hb, hu, q⟩ := h
 refine ⟨_, (wQ (zX (iX (zZ (xX (jX (mQ mG hr rfl T.cL T.k_is_number T.b_is_number .nil iQ (qQ (cQ lQ (jv 0) xQ (fun _ _ => rfl)) jQ)))) (qZ (xX (yI rD rD xQ (cQ lQ (jv 0) xQ (fun _ _ => rfl)) (jK (v := .int 3) rfl T.Jf ⟨_, rfl⟩)))))) (uQ (pQ fX)) tQ) (wQ (zX (iX (zZ (xX (jX (gQ eQ rfl T.rQ rfl (qQ (cQ lQ (jv 0) xQ (fun _ _ => rfl)) (qQ (wX rfl T.wR (v := .ty "bool") rfl rfl) jQ))))) (qZ (xX (jX (gQ eQ rfl T.rQ rfl (qQ (cQ lQ (jv 0) xQ (fun _ _ => rfl)) (qQ (wX rfl T.tX (v := .ty "tuple") rfl rfl) jQ)))))))) (uQ (pQ fX)) tQ) (uQ (pQ (gQ (nU rfl) rfl T.zE rfl (qQ (kY rfl (show (["change", "hand", "boxes", "turns"] : List Str).Nodup by decide +kernel) (uW (N := ["hand", "boxes", "turns"]) (sc := vQ bK) rfl rfl rfl (by decide +kernel)) (dJ (cQ lQ (jv 0) xQ (fun _ _ => rfl))) (fun _ _ _ _ _ => xK) (fun _ _ _ _ _ => (mQ QC hr rfl T.Qu T.k_change_fits T.b_change_fits .nil iQ (qQ (jv 0) (qQ (jv 2) (qQ (jv 3) jQ)))))) jQ)))))), ?_⟩
 have q0 := q H (Same.refl H)
 obtain ⟨p, z, r, rs, rfl, hp, rfl, hr2, hl2⟩ := cJ hv hbeg
 obtain ⟨x1, x2, x3, t1, t2, t3, rfl, rfl, h1, h2, h3⟩ := hr2.three (by omega)
 rw [eX, yQ, yQ, yQ, yQ] at hn
 obtain ⟨c1, hc1, _⟩ := h1.ty
 obtain ⟨c2, hc2, _, _, hb2⟩ := h2.ty
 obtain ⟨c3, hc3, ht3, _, _⟩ := h3.ty
 have no1 : cD t1 = false → Q (.bl false) H := fun e => by
  have e : nY bx tu (.tup [.str z, t1, t2, t3]) = false := by
   cases t3 <;> first | rfl | (show (cD t1 && t2.isBl && _) = false; rw [e]; rfl)
  rw [e] at q0
  exact q0
 refine ⟨_, rfl, p, _, _, _, rfl, rfl, SqT.of hp, at1 _ _ _, x1, c1, rfl, hc1, _, rfl, ?_⟩
 rw [h1.num]
 cases hN : nM t1 with
 | false =>
  refine nQ (no1 ?_)
  cases t1 with
  | int i =>
   have hN : (decide (-1000000000 ≤ i) && decide (i ≤ 1000000000)) = false := hN
   show (decide (1 ≤ i) && decide (i ≤ 3)) = false
   rw [Bool.and_eq_false_iff] at hN ⊢
   rcases hN with h | h
   ·have := of_decide_eq_false h
    exact .inl (decide_eq_false (by omega))
   ·have := of_decide_eq_false h
    exact .inr (decide_eq_false (by omega))
  | _ => rfl
 | true =>
  obtain ⟨i, rfl⟩ := XS hN
  cases h1
  refine bQ ⟨_, rfl, p, _, _, _, rfl, rfl, SqT.of hp, at1 _ _ _, _, _, rfl, rfl, _, rfl, ?_⟩
  have er : cD (.int i) = (decide (1 ≤ i) && decide (i ≤ 3)) := rfl
  cases hd1 : decide (1 ≤ i) with
  | false =>
   refine bQ ⟨_, rfl, nQ (no1 ?_)⟩
   rw [er, hd1, Bool.false_and]
  | true =>
  refine nQ ⟨_, _, rfl, rfl, _, rfl, ?_⟩
  cases hd2 : decide (i ≤ 3) with
  | false =>
   refine nQ (no1 ?_)
   rw [er, hd2, Bool.and_false]
  | true =>
  refine bQ ⟨_, rfl, p, _, _, _, rfl, rfl, SqT.of hp, at2 _ _ _ _, x2, .bl, c2, rfl, hc2, _, rfl, ?_⟩
  rw [hb2]
  cases hB : t2.isBl with
  | false =>
   have e : nY bx tu (.tup [.str z, .int i, t2, t3]) = false := by
    cases t3 <;> first | rfl | (show (cD (.int i) && t2.isBl && _) = false; rw [hB, Bool.and_false, Bool.false_and])
   rw [e] at q0
   exact nQ q0
  | true =>
  refine bQ ⟨_, rfl, p, _, _, _, rfl, rfl, SqT.of hp, at3 _ _ _ _ _, x3, .tup, c3, rfl, hc3, _, rfl, ?_⟩
  rw [ht3]
  cases hT : t3.isTup with
  | false =>
   have e : nY bx tu (.tup [.str z, .int i, t2, t3]) = false := by cases t3 <;> first | rfl | cases hT
   rw [e] at q0
   exact nQ q0
  | true =>
  obtain ⟨p3, xs3, ts3, rfl, rfl, hp3, hx3⟩ := nK h3 hT
  have e : nY bx tu (.tup [.str z, .int i, t2, .tup ts3]) = ts3.all (rK bx tu) := by
   show (cD (.int i) && t2.isBl && _) = _
   rw [er, hd1, hd2, hB]
   rfl
  rw [e] at q
  have hlen := hx3.len
  have hwl := kJ ts3
  rw [eX] at hn
  refine bQ ⟨_, rfl, p, _, _, _, rfl, rfl, SqT.of hp, at3 _ _ _ _ _, p3, rfl, ⟨xs3, SqT.of hp3⟩, fun D hD => ?_⟩
  have s1 := Same.refl H
  refine ⟨fun i m ys H' => m = xs3.length - i ∧ i ≤ xs3.length ∧ Same H H' ∧ H' D = some (.lst ys) ∧ ys = (ts3.take i).map (fun x => V.bl ((rK bx tu) x)), ⟨xs3.length, by simp, Nat.zero_le _, kQ hD _, zQ, rfl⟩, ?_⟩
  rintro i m ys H' ⟨rfl, hi, s2, hD2, rfl⟩
  have s12 := s1.trans s2
  by_cases hlt : i < xs3.length
  ·refine .inr ⟨⟨xs3, xs3[i], SqT.of (s12 p3 _ hp3), List.getElem?_eq_getElem hlt⟩, ?_⟩
   rintro x' H'' ⟨rfl, hxi⟩
   have hxi := hxi xs3 (SqT.of (s12 p3 _ hp3))
   obtain ⟨tx, htx, hrx⟩ := hx3.get hxi
   have wx := bV htx
   refine ⟨_, rfl, _, rfl, _, rfl, x', tx, b, u, bx, tu, rfl, hrx.same s12, by omega, hb.same s12, hu.same s12, fun H3 s3 => ?_⟩
   exact ⟨s3 D _ hD2, by rw [List.length_map, List.length_take]; omega, xs3.length - (i + 1), by omega, rfl, hlt, mX (s2.trans s3) hD, zQ, bP htx⟩
  ·have ei : i = xs3.length := by omega
   subst ei
   refine .inl ⟨⟨xs3, SqT.of (s12 p3 _ hp3), Nat.le_refl _⟩, D, ts3.map (rK bx tu), rfl, SqL.of ?_, ?_⟩
   ·rw [hD2, hlen, List.take_length, List.map_map]
    rfl
   ·have q' := q H' s12
    rw [cS]
    exact q'
theorem Xm (T : Txt P w K mg a) : FnOk P w K mg base CX0 8 a.hands_fit a.yP ["thing", "boxes", "turns"] (sp3 pG) := by
 have S := aN
 have big : (1000000 : Nat) < sizeLine := by decide
 have ZM := Xn (P := P) (w := w) (base := base) T
 have bZ := (mK (P := P) (w := w) (base := base) T).mono (show 2 ≤ 7 by decide)
 refine T.nP.okJ aN (fun vs H Q E h => ?_) (fun cdv A outer s H vs Q E hr h => ?_)
 ·obtain ⟨v, t, b, u, bx, tu, rfl, _⟩ := h; rfl
 obtain ⟨v, t, b, u, bx, tu, rfl, hv, hn, hb, hu, q⟩ := h
 refine ⟨_, (wQ (zX (xX (jX (mQ bZ hr rfl T.lK T.k_begins_with_names T.b_begins_with_names .nil iQ (qQ (jv 0) (qQ xQ jQ))))) (uQ (pQ fX)) tQ) (uQ (pQ (gQ (nU rfl) rfl T.zE rfl (qQ (kY rfl (show (["hand", "thing", "boxes", "turns"] : List Str).Nodup by decide +kernel) (uW (N := ["thing", "boxes", "turns"]) (sc := vQ gK) rfl rfl rfl (by decide +kernel)) (dJ (jv 0)) (fun _ _ _ _ _ => xK) (fun _ _ _ _ _ => (mQ ZM hr rfl T.Zd T.k_hand_fits T.b_hand_fits .nil iQ (qQ (jv 0) (qQ (jv 2) (qQ (jv 3) jQ)))))) jQ))))), ?_⟩
 refine ⟨_, rfl, v, t, 4, rfl, hv, hn, by decide, fun H1 s1 => ⟨_, rfl, ?_⟩⟩
 cases hB : fY 4 t with
 | false =>
  have e : pG bx tu t = false := by
   cases t with
   | tup xs =>
    show (fY 4 (.tup xs) && _) = false
    rw [hB, Bool.false_and]
   | _ => rfl
  have q' := q H1 s1
  rw [e] at q'
  exact nQ q'
 | true =>
  obtain ⟨p, xs, ts, rfl, rfl, hp, hx⟩ : ∃ p xs ts, v = .ref p ∧ t = .tup ts ∧ H p = some (.tup xs) ∧ Reps H xs ts := by
   cases hv <;> first | exact ⟨_, _, _, rfl, rfl, ‹_›, ‹_›⟩ | cases hB
  have e : pG bx tu (.tup ts) = ts.all (nY bx tu) := by
   show (fY 4 (.tup ts) && _) = _
   rw [hB, Bool.true_and]
  rw [e] at q
  rw [eX] at hn
  have hlen := hx.len
  have hwl := kJ ts
  refine bQ ⟨_, rfl, p, rfl, ⟨xs, SqT.of (s1 p _ hp)⟩, fun D hD => ?_⟩
  refine ⟨fun i m ys H' => m = xs.length - i ∧ i ≤ xs.length ∧ Same H1 H' ∧ H' D = some (.lst ys) ∧ ys = (ts.take i).map (fun x => V.bl ((nY bx tu) x)), ⟨xs.length, by simp, Nat.zero_le _, kQ hD _, zQ, rfl⟩, ?_⟩
  rintro i m ys H' ⟨rfl, hi, s2, hD2, rfl⟩
  have s12 := s1.trans s2
  by_cases hlt : i < xs.length
  ·refine .inr ⟨⟨xs, xs[i], SqT.of (s12 p _ hp), List.getElem?_eq_getElem hlt⟩, ?_⟩
   rintro x' H'' ⟨rfl, hxi⟩
   have hxi := hxi xs (SqT.of (s12 p _ hp))
   obtain ⟨tx, htx, hrx⟩ := hx.get hxi
   have wx := bV htx
   have hbt : kW 4 tx = true := qR (show bnR 4 [] ts = true from hB) tx (List.mem_of_getElem? htx)
   refine ⟨_, rfl, _, rfl, _, rfl, x', tx, b, u, bx, tu, rfl, hrx.same s12, by omega, hbt, hb.same s12, hu.same s12, fun H3 s3 => ?_⟩
   exact ⟨s3 D _ hD2, by rw [List.length_map, List.length_take]; omega, xs.length - (i + 1), by omega, rfl, hlt, mX (s2.trans s3) hD, zQ, bP htx⟩
  ·have ei : i = xs.length := by omega
   subst ei
   refine .inl ⟨⟨xs, SqT.of (s12 p _ hp), Nat.le_refl _⟩, D, ts.map (nY bx tu), rfl, SqL.of ?_, ?_⟩
   ·rw [hD2, hlen, List.take_length, List.map_map]
    rfl
   ·have q' := q H' s12
    rw [cS]
    exact q'
end
end K06
namespace K06
open PySem L2
noncomputable def szK (z : Str) : Int := if z = "plain" then 6 else if z = "part" then 4 else if z = "give" then 5 else if z = "when" then 4 else if z = "each" then 4 else 0
theorem Jt (z : Str) : (nV ([(Sum.inr "plain", .int 6), (Sum.inr "part", .int 4), (Sum.inr "give", .int 5), (Sum.inr "when", .int 4), (Sum.inr "each", .int 4)] : List (Key × V)) (Sum.inr z)).getD (.int 0) = .int (szK z) := by
 have ne : ∀ {a : Str}, ¬ z = a → ¬ (Sum.inr a : Key) = Sum.inr z := fun h e => h (Sum.inr.inj e).symm
 unfold szK
 by_cases h1 : z = "plain"
 ·rw [sX (by rw [h1]), if_pos h1]; rfl
 rw [gX (ne h1), if_neg h1]
 by_cases h2 : z = "part"
 ·rw [sX (by rw [h2]), if_pos h2]; rfl
 rw [gX (ne h2), if_neg h2]
 by_cases h3 : z = "give"
 ·rw [sX (by rw [h3]), if_pos h3]; rfl
 rw [gX (ne h3), if_neg h3]
 by_cases h4 : z = "when"
 ·rw [sX (by rw [h4]), if_pos h4]; rfl
 rw [gX (ne h4), if_neg h4]
 by_cases h5 : z = "each"
 ·rw [sX (by rw [h5]), if_pos h5]; rfl
 rw [gX (ne h5), if_neg h5]
 rfl
noncomputable def wW (bx tu : List Str) (w : Str) : List Tr → Bool
 | [x1, x2, x3] => if w = "when" then rX bx tu x1 else if w = "each" then xZ x1 && (rX bx tu x2 && decide (tu.length < 2)) else if w = "part" then (dY bx tu x1 && xZ x2) && pZ bx tu x3 else false
 | [x1, x2, x3, _] => if w = "give" then (dY bx tu x1 && xZ x2) && rX bx tu x3 else false
 | [x1, x2, x3, x4, _] => if w = "plain" then (dY bx tu x1 && xZ x2) && (pG bx tu x4 && pZ bx tu x3) else false
 | _ => false
noncomputable def yV (bx tu : List Str) : Tr → Bool
 | .tup (.str w :: xs) => wW bx tu w xs
 | _ => false
theorem sR {bx tu : List Str} {z : Str} {xs : List Tr} (h : ¬ ((xs.length + 1 : Nat) : Int) = szK z) : wW bx tu z xs = false := by
 match xs with
 | [] => rfl
 | [_] => rfl
 | [_, _] => rfl
 | [x1, x2, x3] =>
  have h : ¬ (4 : Int) = szK z := h
  show (if z = "when" then _ else if z = "each" then _ else if z = "part" then _ else false) = false
  rw [if_neg, if_neg, if_neg]
  all_goals (intro e; subst e; exact h (by decide))
 | [x1, x2, x3, x4] =>
  have h : ¬ (5 : Int) = szK z := h
  show (if z = "give" then _ else false) = false
  rw [if_neg]
  all_goals (intro e; subst e; exact h (by decide))
 | [x1, x2, x3, x4, x5] =>
  have h : ¬ (6 : Int) = szK z := h
  show (if z = "plain" then _ else false) = false
  rw [if_neg]
  all_goals (intro e; subst e; exact h (by decide))
 | _ :: _ :: _ :: _ :: _ :: _ :: _ => rfl
theorem oV {z : Str} {n : Nat} (h : ((n + 1 : Nat) : Int) = szK z) : (z = "when" ∧ n = 3) ∨ (z = "each" ∧ n = 3) ∨ (z = "part" ∧ n = 3) ∨ (z = "give" ∧ n = 4) ∨ (z = "plain" ∧ n = 5) := by
 unfold szK at h
 split at h
 ·exact .inr (.inr (.inr (.inr ⟨‹_›, by omega⟩)))
 split at h
 ·exact .inr (.inr (.inl ⟨‹_›, by omega⟩))
 split at h
 ·exact .inr (.inr (.inr (.inl ⟨‹_›, by omega⟩)))
 split at h
 ·exact .inl ⟨‹_›, by omega⟩
 split at h
 ·exact .inr (.inl ⟨‹_›, by omega⟩)
 ·omega
theorem dT {z k : Str} (h : z = k) : decide (V.str z = V.str k) = true := decide_eq_true (by rw [h])
theorem dF {z k : Str} (h : ¬ z = k) : decide (V.str z = V.str k) = false := decide_eq_false (fun e => h (by injection e))
section
variable {P : Program} {w : World} {K : W.Frag} {mg : Str → Option Value} {base : Heap} {a : Adr}
theorem Xl (T : Txt P w K mg a) : FnOk P w K mg base CX0 9 a.line_fits a.jP ["line", "boxes", "turns"] (sp3 yV) := by
 have S := oN
 have big : (1000000 : Nat) < sizeLine := by decide
 have vZ := (wV (P := P) (w := w) (base := base) T).mono (show 5 ≤ 8 by decide)
 have tW := (bF (P := P) (w := w) (base := base) T).mono (show 1 ≤ 8 by decide)
 have Jk := (X2 (P := P) (w := w) (base := base) T).mono (show 6 ≤ 8 by decide)
 have ZL := Xm (P := P) (w := w) (base := base) T
 have fP := (kC (P := P) (w := w) (base := base) T).mono (show 6 ≤ 8 by decide)
 refine T.cP.okJ oN (fun vs H Q E h => ?_) (fun cdv A outer s H vs Q E hr h => ?_)
 ·obtain ⟨v, t, b, u, bx, tu, rfl, _⟩ := h; rfl
 obtain ⟨v, t, b, u, bx, tu, rfl, hv, hn, hb, hu, q⟩ := h
 refine ⟨_, (wQ (zX (iX (zZ (xX (jX (gQ eQ rfl T.rQ rfl (qQ (jv 0) (qQ (wX rfl T.tX (v := .ty "tuple") rfl rfl) jQ))))) (zZ (sQ wZ (gQ qX rfl T.aX rfl (qQ (jv 0) jQ)) xQ (oQ _)) (qZ (xX (jX (gQ eQ rfl T.rQ rfl (qQ (cQ lQ (jv 0) xQ (fun _ _ => rfl)) (qQ (wX rfl T.jT (v := .ty "str") rfl rfl) jQ))))))))) (uQ (pQ fX)) tQ) (wQ (kX (i := 3) S.nd rfl (Or.inl rfl) (cQ lQ (jv 0) xQ (fun _ _ => rfl))) (wQ (zX (sQ lD (gQ qX rfl T.aX rfl (qQ (jv 0) jQ)) (KI T.Zw (jK (v := .ref a.LINE_SIZES) rfl T.Zp rfl) (jv 3) xQ) (oQ _)) (uQ (pQ fX)) tQ) (wQ (zX (sQ wZ (jv 3) aQ (oQ _)) (uQ (pQ (mQ vZ hr rfl T.iJ T.k_reckoning_fits T.b_reckoning_fits .nil iQ (qQ (cQ lQ (jv 0) xQ (fun _ _ => rfl)) (qQ (jv 1) (qQ (jv 2) jQ)))))) tQ) (wQ (zX (sQ wZ (jv 3) aQ (oQ _)) (uQ (pQ (lY (mQ tW hr rfl T.eM T.k_is_name T.b_is_name .nil iQ (qQ (cQ lQ (jv 0) xQ (fun _ _ => rfl)) jQ)) (lY (mQ vZ hr rfl T.iJ T.k_reckoning_fits T.b_reckoning_fits .nil iQ (qQ (cQ lQ (jv 0) xQ (fun _ _ => rfl)) (qQ (jv 1) (qQ (jv 2) jQ)))) (bU (hV bL (gQ qX rfl T.aX rfl (qQ (jv 2) jQ)) (jK (v := .int 2) rfl T.Xw ⟨_, rfl⟩) (oQ _))))))) tQ) (wQ (zX (iX (zZ (xX (jX (mQ Jk hr rfl T.Z7 T.k_key_fits T.b_key_fits .nil iQ (qQ (cQ lQ (jv 0) xQ (fun _ _ => rfl)) (qQ (jv 1) (qQ (jv 2) jQ)))))) (qZ (xX (jX (mQ tW hr rfl T.eM T.k_is_name T.b_is_name .nil iQ (qQ (cQ lQ (jv 0) xQ (fun _ _ => rfl)) jQ))))))) (uQ (pQ fX)) tQ) (wQ (zX (sQ wZ (jv 3) aQ (oQ _)) (uQ (pQ (mQ vZ hr rfl T.iJ T.k_reckoning_fits T.b_reckoning_fits .nil iQ (qQ (cQ lQ (jv 0) xQ (fun _ _ => rfl)) (qQ (jv 1) (qQ (jv 2) jQ)))))) tQ) (wQ (zX (iX (jY (sQ wZ (jv 3) aQ (oQ _)) (uV (xX (jX (mQ ZL hr rfl T.Zc T.k_hands_fit T.b_hands_fit .nil iQ (qQ (cQ lQ (jv 0) xQ (fun _ _ => rfl)) (qQ (jv 1) (qQ (jv 2) jQ))))))))) (uQ (pQ fX)) tQ) (uQ (pQ (mQ fP hr rfl T.uT T.k_pairs_fit T.b_pairs_fit .nil iQ (qQ (cQ lQ (jv 0) xQ (fun _ _ => rfl)) (qQ (jv 1) (qQ (jv 2) jQ)))))))))))))), ?_⟩
 have q0 := q H (Same.refl H)
 have no : yV bx tu t = false → ∀ H', Same H H' → Q (.bl false) H' := fun e H' s' => by
  have q' := q H' s'
  rw [e] at q'
  exact q'
 obtain ⟨ty, hty, htt, _, _⟩ := hv.ty
 refine ⟨_, rfl, v, .tup, ty, rfl, hty, _, rfl, ?_⟩
 rw [htt]
 cases hT : t.isTup with
 | false => exact nQ (no (by cases t <;> first | rfl | cases hT) H (Same.refl H))
 | true =>
 obtain ⟨p, xs, ts, rfl, rfl, hp, hx⟩ := nK hv hT
 rw [eX] at hn
 refine bQ ⟨_, rfl, _, _, rfl, .inr ⟨_, SqT.of hp, rfl⟩, rfl, _, rfl, ?_⟩
 have hlen := hx.len
 cases hx with
 | nil => exact nQ (no rfl H (Same.refl H))
 | @cons y ty0 r rs hy hr2 =>
 have e0 : ¬ V.int (((y :: r).length : Nat) : Int) = V.int 0 := fun e => by
  injection e with e
  rw [List.length_cons] at e
  omega
 rw [decide_eq_false e0]
 rw [yQ] at hn
 obtain ⟨c0, hc0, _, hs0, _⟩ := hy.ty
 refine bQ ⟨_, rfl, p, _, _, _, rfl, rfl, SqT.of hp, at0 _ _, y, .str, c0, rfl, hc0, _, rfl, ?_⟩
 rw [hs0]
 cases hS : ty0.isStr with
 | false => exact nQ (no (by cases ty0 <;> first | rfl | cases hS) H (Same.refl H))
 | true =>
 obtain ⟨z, rfl, rfl⟩ : ∃ z, y = .str z ∧ ty0 = .str z := by cases hy <;> first | exact ⟨_, rfl, rfl⟩ | cases hS
 refine bQ ⟨_, rfl, p, _, _, _, rfl, rfl, SqT.of hp, at0 _ _, ?_⟩
 refine ⟨_, rfl, _, _, rfl, .inr ⟨_, SqT.of hp, rfl⟩, rfl, _, rfl, Sum.inr z, rfl, ?_⟩
 rw [Jt]
 refine ⟨rfl, _, rfl, ?_⟩
 have l2 := hr2.len
 by_cases hl : ((rs.length + 1 : Nat) : Int) = szK z
 ·rw [decide_eq_true (show V.int (((V.str z :: r).length : Nat) : Int) = V.int (szK z) by rw [List.length_cons, l2, hl])]
  refine bQ ?_
  have eL : yV bx tu (.tup (.str z :: rs)) = wW bx tu z rs := rfl
  rw [eL] at q no q0
  rcases oV hl with ⟨hz, hn3⟩ | ⟨hz, hn3⟩ | ⟨hz, hn3⟩ | ⟨hz, hn3⟩ | ⟨hz, hn3⟩
  ·obtain ⟨x1, x2, x3, t1, t2, t3, rfl, rfl, h1, h2, h3⟩ := hr2.three hn3
   rw [yQ, yQ, yQ] at hn
   have e : wW bx tu z [t1, t2, t3] = rX bx tu t1 := if_pos hz
   rw [e] at q
   refine ⟨_, rfl, rfl, _, rfl, ?_⟩
   rw [dT hz]
   exact nQ ⟨_, rfl, p, _, _, _, rfl, rfl, SqT.of hp, at1 _ _ _, _, rfl, _, rfl, x1, t1, b, u, bx, tu, rfl, h1, by omega, hb, hu, q⟩
  ·obtain ⟨x1, x2, x3, t1, t2, t3, rfl, rfl, h1, h2, h3⟩ := hr2.three hn3
   rw [yQ, yQ, yQ] at hn
   have nw : ¬ z = "when" := by rw [hz]; decide
   have e : wW bx tu z [t1, t2, t3] = (xZ t1 && (rX bx tu t2 && decide (tu.length < 2))) := by
    show (if z = "when" then _ else if z = "each" then _ else _) = _
    rw [if_neg nw, if_pos hz]
   refine ⟨_, rfl, rfl, _, rfl, ?_⟩
   rw [dF nw]
   refine bQ ⟨_, rfl, rfl, _, rfl, ?_⟩
   rw [dT hz]
   obtain ⟨c1, hc1, _⟩ := h1.ty
   refine nQ ⟨_, rfl, p, _, _, _, rfl, rfl, SqT.of hp, at1 _ _ _, x1, c1, rfl, hc1, fun z' e => ?_, fun H1 s1 => ⟨_, rfl, ?_⟩⟩
   ·have := h1.strLen e
    omega
   rw [h1.nam]
   cases hN : xZ t1 with
   | false => exact bQ (no (by rw [e, hN, Bool.false_and]) _ s1)
   | true =>
   refine nQ ⟨_, rfl, p, _, _, _, rfl, rfl, SqT.of (s1 p _ hp), at2 _ _ _ _, _, rfl, _, rfl, x2, t2, b, u, bx, tu, rfl, h2.same s1, by omega, hb.same s1, hu.same s1, fun H2 s2 => ⟨_, rfl, ?_⟩⟩
   cases hF : rX bx tu t2 with
   | false => exact bQ (no (by rw [e, hF, Bool.false_and, Bool.and_false]) _ (s1.trans s2))
   | true =>
   have s12 := s1.trans s2
   refine nQ ⟨_, rfl, _, _, rfl, .inr ⟨_, SqT.of (s12 u _ hu), rfl⟩, _, _, rfl, rfl, ?_⟩
   have q' := q _ s12
   rw [e, hN, hF, Bool.true_and, Bool.true_and] at q'
   have el : decide ((((tu.map V.str).length : Nat) : Int) < 2) = decide (tu.length < 2) := by
    rw [List.length_map]
    congr 1
    exact propext ⟨fun h => by omega, fun h => by omega⟩
   show Q (.bl (decide ((((tu.map V.str).length : Nat) : Int) < 2))) _
   rw [el]
   exact q'
  ·obtain ⟨x1, x2, x3, t1, t2, t3, rfl, rfl, h1, h2, h3⟩ := hr2.three hn3
   rw [yQ, yQ, yQ] at hn
   have nw : ¬ z = "when" := by rw [hz]; decide
   have ne : ¬ z = "each" := by rw [hz]; decide
   have e : wW bx tu z [t1, t2, t3] = ((dY bx tu t1 && xZ t2) && pZ bx tu t3) := by
    show (if z = "when" then _ else if z = "each" then _ else if z = "part" then _ else _) = _
    rw [if_neg nw, if_neg ne, if_pos hz]
   refine ⟨_, rfl, rfl, _, rfl, ?_⟩
   rw [dF nw]
   refine bQ ⟨_, rfl, rfl, _, rfl, ?_⟩
   rw [dF ne]
   obtain ⟨c2, hc2, _⟩ := h2.ty
   refine bQ ⟨_, rfl, p, _, _, _, rfl, rfl, SqT.of hp, at1 _ _ _, _, rfl, _, rfl, x1, t1, b, u, bx, tu, rfl, h1, by omega, hb, hu, fun H1 s1 => ⟨_, rfl, ?_⟩⟩
   cases hK : dY bx tu t1 with
   | false => exact nQ (no (by rw [e, hK, Bool.false_and, Bool.false_and]) _ s1)
   | true =>
   refine bQ ⟨_, rfl, p, _, _, _, rfl, rfl, SqT.of (s1 p _ hp), at2 _ _ _ _, x2, c2, rfl, jG s1 hc2, fun z' e => ?_, fun H2 s2 => ⟨_, rfl, ?_⟩⟩
   ·have := h2.strLen e
    omega
   rw [h2.nam]
   cases hN : xZ t2 with
   | false => exact nQ (no (by rw [e, hN, Bool.and_false, Bool.false_and]) _ (s1.trans s2))
   | true =>
   have s12 := s1.trans s2
   rw [e, hK, hN, Bool.true_and, Bool.true_and] at q
   refine bQ ⟨_, rfl, rfl, _, rfl, ?_⟩
   rw [dF (show ¬ z = "give" by rw [hz]; decide)]
   refine bQ ⟨_, rfl, rfl, _, rfl, ?_⟩
   rw [dF (show ¬ z = "plain" by rw [hz]; decide)]
   exact bQ (bQ ⟨_, rfl, p, _, _, _, rfl, rfl, SqT.of (s12 p _ hp), at3 _ _ _ _ _, _, rfl, _, rfl, x3, t3, b, u, bx, tu, rfl, h3.same s12, by omega, hb.same s12, hu.same s12, fun H3 s3 => q _ (s12.trans s3)⟩)
  ·obtain ⟨x1, x2, x3, x4, t1, t2, t3, t4, rfl, rfl, h1, h2, h3, h4⟩ := hr2.four hn3
   rw [yQ, yQ, yQ, yQ] at hn
   have nw : ¬ z = "when" := by rw [hz]; decide
   have ne : ¬ z = "each" := by rw [hz]; decide
   have e : wW bx tu z [t1, t2, t3, t4] = ((dY bx tu t1 && xZ t2) && rX bx tu t3) := if_pos hz
   refine ⟨_, rfl, rfl, _, rfl, ?_⟩
   rw [dF nw]
   refine bQ ⟨_, rfl, rfl, _, rfl, ?_⟩
   rw [dF ne]
   obtain ⟨c2, hc2, _⟩ := h2.ty
   refine bQ ⟨_, rfl, p, _, _, _, rfl, rfl, SqT.of hp, at1 _ _ _, _, rfl, _, rfl, x1, t1, b, u, bx, tu, rfl, h1, by omega, hb, hu, fun H1 s1 => ⟨_, rfl, ?_⟩⟩
   cases hK : dY bx tu t1 with
   | false => exact nQ (no (by rw [e, hK, Bool.false_and, Bool.false_and]) _ s1)
   | true =>
   refine bQ ⟨_, rfl, p, _, _, _, rfl, rfl, SqT.of (s1 p _ hp), at2 _ _ _ _, x2, c2, rfl, jG s1 hc2, fun z' e => ?_, fun H2 s2 => ⟨_, rfl, ?_⟩⟩
   ·have := h2.strLen e
    omega
   rw [h2.nam]
   cases hN : xZ t2 with
   | false => exact nQ (no (by rw [e, hN, Bool.and_false, Bool.false_and]) _ (s1.trans s2))
   | true =>
   have s12 := s1.trans s2
   rw [e, hK, hN, Bool.true_and, Bool.true_and] at q
   refine bQ ⟨_, rfl, rfl, _, rfl, ?_⟩
   rw [dT hz]
   exact nQ ⟨_, rfl, p, _, _, _, rfl, rfl, SqT.of (s12 p _ hp), at3 _ _ _ _ _, _, rfl, _, rfl, x3, t3, b, u, bx, tu, rfl, h3.same s12, by omega, hb.same s12, hu.same s12, fun H3 s3 => q _ (s12.trans s3)⟩
  ·obtain ⟨x1, x2, x3, x4, x5, t1, t2, t3, t4, t5, rfl, rfl, h1, h2, h3, h4, h5⟩ := hr2.five hn3
   rw [yQ, yQ, yQ, yQ, yQ] at hn
   have nw : ¬ z = "when" := by rw [hz]; decide
   have ne : ¬ z = "each" := by rw [hz]; decide
   have e : wW bx tu z [t1, t2, t3, t4, t5] = ((dY bx tu t1 && xZ t2) && (pG bx tu t4 && pZ bx tu t3)) := if_pos hz
   refine ⟨_, rfl, rfl, _, rfl, ?_⟩
   rw [dF nw]
   refine bQ ⟨_, rfl, rfl, _, rfl, ?_⟩
   rw [dF ne]
   obtain ⟨c2, hc2, _⟩ := h2.ty
   refine bQ ⟨_, rfl, p, _, _, _, rfl, rfl, SqT.of hp, at1 _ _ _, _, rfl, _, rfl, x1, t1, b, u, bx, tu, rfl, h1, by omega, hb, hu, fun H1 s1 => ⟨_, rfl, ?_⟩⟩
   cases hK : dY bx tu t1 with
   | false => exact nQ (no (by rw [e, hK, Bool.false_and, Bool.false_and]) _ s1)
   | true =>
   refine bQ ⟨_, rfl, p, _, _, _, rfl, rfl, SqT.of (s1 p _ hp), at2 _ _ _ _, x2, c2, rfl, jG s1 hc2, fun z' e => ?_, fun H2 s2 => ⟨_, rfl, ?_⟩⟩
   ·have := h2.strLen e
    omega
   rw [h2.nam]
   cases hN : xZ t2 with
   | false => exact nQ (no (by rw [e, hN, Bool.and_false, Bool.false_and]) _ (s1.trans s2))
   | true =>
   have s12 := s1.trans s2
   rw [e, hK, hN, Bool.true_and, Bool.true_and] at q
   refine bQ ⟨_, rfl, rfl, _, rfl, ?_⟩
   rw [dF (show ¬ z = "give" by rw [hz]; decide)]
   refine bQ ⟨_, rfl, rfl, _, rfl, ?_⟩
   rw [dT hz]
   refine nQ ⟨_, rfl, p, _, _, _, rfl, rfl, SqT.of (s12 p _ hp), at4 _ _ _ _ _ _, _, rfl, _, rfl, x4, t4, b, u, bx, tu, rfl, h4.same s12, by omega, hb.same s12, hu.same s12, fun H3 s3 => ⟨_, rfl, ?_⟩⟩
   have s13 := s12.trans s3
   cases hH : pG bx tu t4 with
   | false =>
    have q' := q _ s13
    rw [hH, Bool.false_and] at q'
    exact nQ q'
   | true =>
    rw [hH, Bool.true_and] at q
    exact bQ ⟨_, rfl, p, _, _, _, rfl, rfl, SqT.of (s13 p _ hp), at3 _ _ _ _ _, _, rfl, _, rfl, x3, t3, b, u, bx, tu, rfl, h3.same s13, by omega, hb.same s13, hu.same s13, fun H4 s4 => q _ (s13.trans s4)⟩
 ·rw [decide_eq_false (fun e => hl (by injection e with e; rw [← e, List.length_cons, l2]))]
  exact nQ (no (sR hl) H (Same.refl H))
end
end K06
namespace K06
open PySem L2
noncomputable def qS (w : Str) : List Tr → List Tr
 | [_, x2, x3] => if w = "when" then [x2, x3] else if w = "each" then [x3] else []
 | [_, _, _, x4] => [x4]
 | [_, _, _, _, x5] => [x5]
 | _ => []
noncomputable def yW : Tr → List Tr
 | .tup (.str w :: xs) => qS w xs
 | _ => []
noncomputable def tuW (tu : List Str) (w : Str) : List Tr → List Str
 | .str n :: _ => if w = "each" then tu ++ [n] else tu
 | _ => tu
noncomputable def tuL (tu : List Str) : Tr → List Str
 | .tup (.str w :: xs) => tuW tu w xs
 | _ => tu
theorem lF {H : Hp} {v : V} {t : Tr} {bx tu : List Str} (hv : Rep H v t) (h : yV bx tu t = true) : ∃ p z r rs, v = .ref p ∧ H p = some (.tup (.str z :: r)) ∧ t = .tup (.str z :: rs) ∧ Reps H r rs ∧ wW bx tu z rs = true ∧ ((rs.length + 1 : Nat) : Int) = szK z := by
 cases hv with
 | @tup p vs ts hp hx =>
  cases hx with
  | nil => cases h
  | @cons y0 t0 r0 rs0 h0 hr0 =>
   cases h0 with
   | str z =>
    have h : wW bx tu z rs0 = true := h
    refine ⟨p, z, _, _, rfl, hp, rfl, hr0, h, ?_⟩
    by_cases hl : ((rs0.length + 1 : Nat) : Int) = szK z
    ·exact hl
    ·rw [sR hl] at h; cases h
   | _ => cases h
 | _ => cases h
section
variable {P : Program} {w : World} {K : W.Frag} {mg : Str → Option Value} {base : Heap} {a : Adr}
theorem Kp (a : Adr) (z : Str) : (z = "plain" → nV ([(Sum.inr "plain", .ref a.oZ), (Sum.inr "part", .ref a.sZ), (Sum.inr "give", .ref a.nZ), (Sum.inr "when", .ref a.rZ), (Sum.inr "each", .ref a.hZ)] : List (Key × V)) (Sum.inr z) = some (.ref a.oZ)) ∧
  (z = "part" → nV ([(Sum.inr "plain", .ref a.oZ), (Sum.inr "part", .ref a.sZ), (Sum.inr "give", .ref a.nZ), (Sum.inr "when", .ref a.rZ), (Sum.inr "each", .ref a.hZ)] : List (Key × V)) (Sum.inr z) = some (.ref a.sZ)) ∧
  (z = "give" → nV ([(Sum.inr "plain", .ref a.oZ), (Sum.inr "part", .ref a.sZ), (Sum.inr "give", .ref a.nZ), (Sum.inr "when", .ref a.rZ), (Sum.inr "each", .ref a.hZ)] : List (Key × V)) (Sum.inr z) = some (.ref a.nZ)) ∧
  (z = "when" → nV ([(Sum.inr "plain", .ref a.oZ), (Sum.inr "part", .ref a.sZ), (Sum.inr "give", .ref a.nZ), (Sum.inr "when", .ref a.rZ), (Sum.inr "each", .ref a.hZ)] : List (Key × V)) (Sum.inr z) = some (.ref a.rZ)) ∧
  (z = "each" → nV ([(Sum.inr "plain", .ref a.oZ), (Sum.inr "part", .ref a.sZ), (Sum.inr "give", .ref a.nZ), (Sum.inr "when", .ref a.rZ), (Sum.inr "each", .ref a.hZ)] : List (Key × V)) (Sum.inr z) = some (.ref a.hZ)) := by
 have ne : ∀ {a : Str}, ¬ z = a → ¬ (Sum.inr a : Key) = Sum.inr z := fun h e => h (Sum.inr.inj e).symm
 refine ⟨fun h => ?_, fun h => ?_, fun h => ?_, fun h => ?_, fun h => ?_⟩
 ·rw [sX (by rw [h])]
 ·rw [gX (ne (by rw [h]; decide)), sX (by rw [h])]
 ·rw [gX (ne (by rw [h]; decide)), gX (ne (by rw [h]; decide)), sX (by rw [h])]
 ·rw [gX (ne (by rw [h]; decide)), gX (ne (by rw [h]; decide)), gX (ne (by rw [h]; decide)), sX (by rw [h])]
 ·rw [gX (ne (by rw [h]; decide)), gX (ne (by rw [h]; decide)), gX (ne (by rw [h]; decide)), gX (ne (by rw [h]; decide)), sX (by rw [h])]
inductive Wy (vs : List V) (H : Hp) (Q : VK) : Prop
 | mk (v : V) (t : Tr) (H0 : Hp) (bx tu : List Str) (z0 : vs = [v]) (z1 : Same H0 H) (z2 : Rep H0 v t) (z3 : yV bx tu t = true) (z4 : ∀ l xs H', Same H H' → H l = none → H' l = some (.lst xs) → Reps H0 xs (yW t) → Q (.ref l) H') : Wy vs H Q
noncomputable def spInL : Sp := fun vs H Q _ => Wy vs H Q
theorem fL (T : Txt P w K mg a) : FnOk P w K mg base CX0 1 a.inner_lines a.wM ["line"] spInL := by
 have S := yL
 refine T.lM.okJ yL (fun vs H Q E h => ?_) (fun cdv A outer s H vs Q E hr h => ?_)
 ·obtain ⟨v, t, H0, bx, tu, rfl, _⟩ := h; rfl
 obtain ⟨v, t, H0, bx, tu, rfl, s0, hv, hL, q⟩ := h
 refine ⟨_, (uQ (pQ (kY rfl (show (["place", "line"] : List Str).Nodup by decide +kernel) (uW (N := ["line"]) (sc := vQ wJ) rfl rfl rfl (by decide +kernel)) (dJ (cQ (ix_kd T.Qx) (jK (v := .ref a.INNER_PLACES) rfl T.Qw rfl) (cQ lQ (jv 0) xQ (fun _ _ => rfl)) (fun _ _ => rfl))) (fun _ _ _ _ _ => xK) (fun _ _ _ _ _ => (cQ (r := zC K) lQ (jv 1) (jv 0) (fun _ _ => rfl)))))), ?_⟩
 obtain ⟨p, z, r, rs, rfl, hp0, rfl, hr2, hW, hsz⟩ := lF hv hL
 have hp := s0 p _ hp0
 have pv := Kp a z
 obtain ⟨ip, ps, hval, hsq, hltp, hpl, hreps⟩ : ∃ (ip : Addr) (ps : List Nat), nV ([(Sum.inr "plain", .ref a.oZ), (Sum.inr "part", .ref a.sZ), (Sum.inr "give", .ref a.nZ), (Sum.inr "when", .ref a.rZ), (Sum.inr "each", .ref a.hZ)] : List (Key × V)) (Sum.inr z) = some (.ref ip) ∧
   (∀ H, SqT K H ip (ps.map fun j => V.int (j : Nat))) ∧ (∀ j ∈ ps, j < (V.str z :: r).length) ∧ ps.length ≤ 5 ∧ Reps H0 (ps.map fun j => (V.str z :: r).getD j .non) (qS z rs) := by
  rcases oV hsz with ⟨hz, hn3⟩ | ⟨hz, hn3⟩ | ⟨hz, hn3⟩ | ⟨hz, hn3⟩ | ⟨hz, hn3⟩
  ·obtain ⟨x1, x2, x3, t1, t2, t3, rfl, rfl, h1, h2, h3⟩ := hr2.three hn3
   refine ⟨_, [2, 3], pv.2.2.2.1 hz, T.aT, (by show ∀ j ∈ ([2, 3] : List Nat), j < 4; decide), (by decide), ?_⟩
   have e : qS z [t1, t2, t3] = [t2, t3] := if_pos hz
   rw [e]
   exact .cons h2 (.cons h3 .nil)
  ·obtain ⟨x1, x2, x3, t1, t2, t3, rfl, rfl, h1, h2, h3⟩ := hr2.three hn3
   refine ⟨_, [3], pv.2.2.2.2 hz, T.eT, (by show ∀ j ∈ ([3] : List Nat), j < 4; decide), (by decide), ?_⟩
   have e : qS z [t1, t2, t3] = [t3] := by
    show (if z = "when" then _ else if z = "each" then _ else _) = _
    rw [if_neg (by rw [hz]; decide), if_pos hz]
   rw [e]
   exact .cons h3 .nil
  ·obtain ⟨x1, x2, x3, t1, t2, t3, rfl, rfl, h1, h2, h3⟩ := hr2.three hn3
   refine ⟨_, [], pv.2.1 hz, T.zO, (by show ∀ j ∈ ([] : List Nat), j < 4; decide), (by decide), ?_⟩
   have e : qS z [t1, t2, t3] = [] := by
    show (if z = "when" then _ else if z = "each" then _ else _) = _
    rw [if_neg (by rw [hz]; decide), if_neg (by rw [hz]; decide)]
   rw [e]
   exact .nil
  ·obtain ⟨x1, x2, x3, x4, t1, t2, t3, t4, rfl, rfl, h1, h2, h3, h4⟩ := hr2.four hn3
   exact ⟨_, [4], pv.2.2.1 hz, T.qO, (by show ∀ j ∈ ([4] : List Nat), j < 5; decide), (by decide), .cons h4 .nil⟩
  ·obtain ⟨x1, x2, x3, x4, x5, t1, t2, t3, t4, t5, rfl, rfl, h1, h2, h3, h4, h5⟩ := hr2.five hn3
   exact ⟨_, [5], pv.1 hz, T.jO, (by show ∀ j ∈ ([5] : List Nat), j < 6; decide), (by decide), .cons h5 .nil⟩
 refine ⟨_, rfl, p, _, _, _, rfl, rfl, SqT.of hp, at0 _ _, z, _, rfl, rfl, hval, ip, rfl, ⟨_, hsq H⟩, fun D hD => ?_⟩
 have big : (1000000 : Nat) < sizeLine := by decide
 refine ⟨fun i m ys H' => m = ps.length - i ∧ i ≤ ps.length ∧ H' = upd H D (.lst ys) ∧ ys = (ps.take i).map (fun j => (V.str z :: r).getD j .non), ⟨ps.length, by simp, Nat.zero_le _, rfl, rfl⟩, ?_⟩
 rintro i m ys H' ⟨rfl, hi, rfl, rfl⟩
 by_cases hlt : i < ps.length
 ·have hg : (ps.map fun j => V.int (j : Nat))[i]? = some (V.int ((ps[i] : Nat) : Int)) := by
   rw [List.getElem?_map, List.getElem?_eq_getElem hlt]
   rfl
  refine .inr ⟨⟨_, _, hsq _, hg⟩, ?_⟩
  rintro x' H'' ⟨rfl, hxi⟩
  have hxi := hxi _ (hsq _)
  rw [hg] at hxi
  cases hxi
  have hj := hltp ps[i] (List.getElem_mem hlt)
  refine ⟨_, rfl, _, rfl, p, _, _, _, rfl, rfl, SqT.of (kQ hD _ p _ hp), jV (List.getElem?_eq_getElem hj), ?_⟩
  refine ⟨zQ, by rw [List.length_map, List.length_take]; omega, ps.length - (i + 1), by omega, rfl, hlt, sV, ?_⟩
  rw [List.take_succ, List.getElem?_eq_getElem hlt, List.map_append]
  have eg : (V.str z :: r).getD ps[i] .non = (V.str z :: r)[ps[i]] := by rw [List.getD_eq_getElem?_getD, List.getElem?_eq_getElem hj]; rfl
  show _ ++ [(V.str z :: r)[ps[i]]] = _ ++ [(V.str z :: r).getD ps[i] .non]
  rw [eg]
 ·have ei : i = ps.length := by omega
  subst ei
  refine .inl ⟨⟨_, hsq _, by rw [List.length_map]; exact Nat.le_refl _⟩, ?_⟩
  rw [List.take_length]
  exact q D _ _ (kQ hD _) hD zQ hreps
inductive IspTW (vs : List V) (H : Hp) (Q : VK) : Prop
 | mk (v : V) (t : Tr) (u : Addr) (bx tu : List Str) (z0 : vs = [v, .ref u]) (z1 : Rep H v t) (z2 : NT H u tu) (z3 : yV bx tu t = true) (z4 : ∀ u' H', Same H H' → NT H' u' (tuL tu t) → Q (.ref u') H') : IspTW vs H Q
noncomputable def spTW : Sp := fun vs H Q _ => IspTW vs H Q
theorem xO (T : Txt P w K mg a) : FnOk P w K mg base CX0 1 a.turns_within a.mU ["line", "turns"] spTW := by
 have S := yD
 refine T.tU.okJ yD (fun vs H Q E h => ?_) (fun cdv A outer s H vs Q E hr h => ?_)
 ·obtain ⟨v, t, u, bx, tu, rfl, _⟩ := h; rfl
 obtain ⟨v, t, u, bx, tu, rfl, hv, hu, hL, q⟩ := h
 refine ⟨_, (uQ (pQ (gI (sQ wZ (cQ lQ (jv 0) xQ (fun _ _ => rfl)) aQ (oQ _)) (bX X0 (jv 1) (yX (qQ (cQ lQ (jv 0) xQ (fun _ _ => rfl)) jQ))) (jv 1)))), ?_⟩
 obtain ⟨p, z, r, rs, rfl, hp, rfl, hr2, hW, hsz⟩ := lF hv hL
 refine ⟨_, rfl, p, _, _, _, rfl, rfl, SqT.of hp, at0 _ _, rfl, _, rfl, ?_⟩
 by_cases hz : z = "each"
 ·rw [dT hz]
  have hn3 : rs.length = 3 := by
   rcases oV hsz with ⟨h, e⟩ | ⟨h, e⟩ | ⟨h, e⟩ | ⟨h, e⟩ | ⟨h, e⟩
   ·exact e
   ·exact e
   ·exact e
   ·rw [hz] at h; exact absurd h (by decide)
   ·rw [hz] at h; exact absurd h (by decide)
  obtain ⟨x1, x2, x3, t1, t2, t3, rfl, rfl, h1, h2, h3⟩ := hr2.three hn3
  have e : wW bx tu z [t1, t2, t3] = (xZ t1 && (rX bx tu t2 && decide (tu.length < 2))) := by
   show (if z = "when" then _ else if z = "each" then _ else _) = _
   rw [if_neg (by rw [hz]; decide), if_pos hz]
  rw [e, Bool.and_eq_true, Bool.and_eq_true] at hW
  obtain ⟨n, rfl⟩ := aW hW.1
  have hlt := of_decide_eq_true hW.2.2
  cases h1
  have et : tuL tu (.tup [.str z, .str n, t2, t3]) = tu ++ [n] := if_pos hz
  rw [et] at q
  refine nQ ⟨_, rfl, _, rfl, p, _, _, _, rfl, rfl, SqT.of hp, at1 _ _ _, sZ1, fun p2 h2 => ?_⟩
  have s1 := kQ h2 (.tup [.str n])
  have hu1 := hu.same s1
  refine ⟨u, p2, _, _, rfl, rfl, SqT.of hu1, SqT.of zQ, (by rw [List.length_map]; show tu.length + 1 ≤ _; exact Nat.le_trans (by omega : tu.length + 1 ≤ 10) (by decide)), fun h => ?_, fun _ h => (nomatch h), fun _ _ p3 h3 => ?_⟩
  ·have : tu = [] := by cases tu with | nil => rfl | cons _ _ => cases h
   subst this
   exact q p2 _ s1 zQ
  ·refine q p3 _ (s1.trans (kQ h3 _)) ?_
   show upd _ p3 _ p3 = some (.tup ((tu ++ [n]).map V.str))
   rw [zQ, List.map_append]
   rfl
 ·rw [dF hz]
  have et : tuL tu (.tup (.str z :: rs)) = tu := by
   show tuW tu z rs = tu
   unfold tuW
   split
   ·rw [if_neg hz]
   ·rfl
  rw [et] at q
  exact bQ ⟨_, rfl, q u H (Same.refl H) hu⟩
end
end K06
namespace K06
open PySem L2
noncomputable abbrev Pl := Tr × Nat × List Str
noncomputable def yU (bx : List Str) : Pl → Bool
 | (.tup ls, d, tu) => (ls.isEmpty || decide (d < 6)) && ls.all (yV bx tu)
 | _ => false
noncomputable def dX (d : Nat) (tu : List Str) (l : Tr) : List Pl := (yW l).map fun x => (x, d + 1, tuL tu l)
noncomputable def QX : Pl → List Pl
 | (.tup ls, d, tu) => ls.flatMap (dX d tu)
 | _ => []
noncomputable def JK : Pl → Nat
 | (.tup ls, _, _) => ls.length
 | _ => 0
noncomputable def wP : List Pl → Nat
 | [] => 0
 | p :: r => p.1.w + wP r
theorem tZ (xs ys : List Pl) : wP (xs ++ ys) = wP xs + wP ys := by
 induction xs with
 | nil => rw [List.nil_append]; show _ = 0 + _; omega
 | cons x r ih => rw [List.cons_append]; show x.1.w + wP (r ++ ys) = x.1.w + wP r + _; rw [ih]; omega
theorem yR (xs : List Pl) : xs.length ≤ wP xs := by
 induction xs with
 | nil => exact Nat.zero_le _
 | cons x r ih => rw [List.length_cons]; show _ ≤ x.1.w + wP r; have := x.1.pos; omega
theorem innW_w (z : Str) (xs : List Tr) : wL (qS z xs) ≤ wL xs := by
 unfold qS
 split
 ·split
  ·simp only [yQ, wL]; omega
  split
  ·simp only [yQ, wL]; omega
  ·simp only [wL]; omega
 ·simp only [yQ, wL]; omega
 ·simp only [yQ, wL]; omega
 ·simp only [wL]; omega
theorem zN (l : Tr) : wL (yW l) + 1 ≤ l.w := by
 unfold yW
 split
 ·rename_i z xs
  have := innW_w z xs
  rw [eX, yQ]
  omega
 ·have := l.pos
  simp only [wL]
  omega
theorem K8 (d : Nat) (tu : List Str) : ∀ xs : List Tr, wP (xs.map fun x => (x, d, tu)) = wL xs
 | [] => by rw [wL]; rfl
 | x :: r => by rw [List.map_cons, yQ, ← K8 d tu r]; rfl
theorem QE (d : Nat) (tu : List Str) (l : Tr) : wP (dX d tu l) + 1 ≤ l.w := by
 unfold dX
 rw [K8]
 exact zN l
theorem wF (d : Nat) (tu : List Str) : ∀ ls : List Tr, wP (ls.flatMap (dX d tu)) ≤ wL ls
 | [] => by rw [wL]; exact Nat.le_refl _
 | l :: r => by
  have h1 := QE d tu l
  have h2 := wF d tu r
  rw [List.flatMap_cons, tZ, yQ]
  omega
theorem K9 (p : Pl) : wP (QX p) + 1 ≤ p.1.w := by
 obtain ⟨t, d, tu⟩ := p
 cases t with
 | tup ls =>
  have := wF d tu ls
  show wP (ls.flatMap (dX d tu)) + 1 ≤ (Tr.tup ls).w
  rw [eX]
  omega
 | _ => show 0 + 1 ≤ Tr.w _; exact Tr.pos _
inductive Walk (bx : List Str) : List Pl → Option Nat → Prop
 | nil : Walk bx [] (some 0)
 | bad {st p} : yU bx p = false → Walk bx (st ++ [p]) none
 | step {st p r} : yU bx p = true → Walk bx (st ++ QX p) r → Walk bx (st ++ [p]) (r.map (· + JK p))
theorem Walk.ex (bx : List Str) (n : Nat) : ∀ st : List Pl, wP st ≤ n → ∃ r, Walk bx st r := by
 induction n with
 | zero =>
  intro st h
  cases st with
  | nil => exact ⟨_, .nil⟩
  | cons t r => have h : t.1.w + wP r ≤ 0 := h; have := t.1.pos; omega
 | succ n ih =>
  intro st h
  rcases List.eq_nil_or_concat st with rfl | ⟨L, b, rfl⟩
  ·exact ⟨_, .nil⟩
  ·rw [List.concat_eq_append] at h ⊢
   cases hb : yU bx b with
   | false => exact ⟨_, .bad hb⟩
   | true =>
    rw [tZ] at h
    have h2 : wP [b] = b.1.w := by show b.1.w + 0 = _; omega
    have := K9 b
    obtain ⟨r, hr⟩ := ih (L ++ QX b) (by rw [tZ]; omega)
    exact ⟨_, .step hb hr⟩
theorem Walk.at_nil {bx : List Str} {st : List Pl} {r : Option Nat} (h : Walk bx st r) (e : st = []) : r = some 0 := by
 cases h with
 | nil => rfl
 | bad _ => simp at e
 | step _ _ => simp at e
theorem Walk.at_snoc {bx : List Str} {s : List Pl} {r : Option Nat} (h : Walk bx s r) {L : List Pl} {b : Pl} (e : s = L ++ [b]) : (yU bx b = false ∧ r = none) ∨ ∃ r', yU bx b = true ∧ Walk bx (L ++ QX b) r' ∧ r = r'.map (· + JK b) := by
 cases h with
 | nil => simp at e
 | @bad st v h1 =>
  obtain ⟨e1, e2⟩ := List.append_inj' e rfl
  cases e2
  exact .inl ⟨h1, rfl⟩
 | @step st v r' h1 h2 =>
  obtain ⟨e1, e2⟩ := List.append_inj' e rfl
  cases e2
  subst e1
  exact .inr ⟨r', h1, h2, rfl⟩
theorem Jn (bx : List Str) (t : Tr) : ∃ r, Walk bx [(t, 0, [])] r := Walk.ex bx _ _ lR
noncomputable def Jo (bx : List Str) (t : Tr) : Option Nat := Classical.choose (Jn bx t)
theorem pO (bx : List Str) (t : Tr) : Walk bx [(t, 0, [])] (Jo bx t) := Classical.choose_spec (Jn bx t)
noncomputable def okL (c : Int) : Option Nat → Bool
 | some k => decide (c + k ≤ 30)
 | none => false
noncomputable def sK (bx : List Str) (t : Tr) : Bool := okL 0 (Jo bx t)
end K06
namespace K06
open PySem L2
noncomputable def PlRep (H0 H : Hp) (x : V) (p : Pl) : Prop := ∃ q u v, x = .ref q ∧ H q = some (.tup [v, .int p.2.1, .ref u]) ∧ NT H u p.2.2 ∧ Rep H0 v p.1
inductive PlReps (H0 H : Hp) : List V → List Pl → Prop
 | nil : PlReps H0 H [] []
 | cons {x p xs ps} : PlRep H0 H x p → PlReps H0 H xs ps → PlReps H0 H (x :: xs) (p :: ps)
section
variable {H0 H H' : Hp} {xs ys : List V} {ps rs : List Pl} {x : V} {p : Pl}
theorem PlRep.same (s : Same H H') : PlRep H0 H x p → PlRep H0 H' x p := fun ⟨q, u, v, e, h1, h2, h3⟩ => ⟨q, u, v, e, s _ _ h1, s _ _ h2, h3⟩
theorem PlRep.upd {l : Addr} {zs ws : List V} (hl : H l = some (.lst zs)) : PlRep H0 H x p → PlRep H0 (L2.upd H l (.lst ws)) x p := fun ⟨q, u, v, e, h1, h2, h3⟩ => by
 refine ⟨q, u, v, e, ?_, ?_, h3⟩
 ·rw [uX (yT h1 hl (by intro z; cases z))]; exact h1
 ·show L2.upd H l _ u = _
  rw [uX (yT h2 hl (by intro z; cases z))]; exact h2
theorem PlReps.same (s : Same H H') (h : PlReps H0 H xs ps) : PlReps H0 H' xs ps := by
 induction h with
 | nil => exact .nil
 | cons a b ih => exact .cons (a.same s) ih
theorem PlReps.upd {l : Addr} {zs ws : List V} (hl : H l = some (.lst zs)) (h : PlReps H0 H xs ps) : PlReps H0 (L2.upd H l (.lst ws)) xs ps := by
 induction h with
 | nil => exact .nil
 | cons a b ih => exact .cons (a.upd hl) ih
theorem PlReps.append (h : PlReps H0 H xs ps) (h2 : PlReps H0 H ys rs) : PlReps H0 H (xs ++ ys) (ps ++ rs) := by
 induction h with
 | nil => exact h2
 | cons a b ih => exact .cons a ih
theorem PlReps.len (h : PlReps H0 H xs ps) : xs.length = ps.length := by
 induction h with
 | nil => rfl
 | cons a b ih => rw [List.length_cons, List.length_cons, ih]
theorem PlReps.snoc (h : PlReps H0 H xs ps) {L : List V} {b : V} (e : xs = L ++ [b]) : ∃ us u, ps = us ++ [u] ∧ PlReps H0 H L us ∧ PlRep H0 H b u := by
 subst e
 induction L generalizing ps with
 | nil => cases h with | cons a b => cases b; exact ⟨[], _, rfl, .nil, a⟩
 | cons v r ih =>
  cases h with
  | cons a b =>
   obtain ⟨us, u, rfl, h1, h2⟩ := ih b
   exact ⟨_ :: us, u, rfl, .cons a h1, h2⟩
end
section
variable {P : Program} {w : World} {K : W.Frag} {mg : Str → Option Value} {base : Heap} {a : Adr}
inductive IspLF (vs : List V) (H : Hp) (Q : VK) : Prop
 | mk (v : V) (t : Tr) (b : Addr) (bx : List Str) (z0 : vs = [v, .ref b]) (z1 : Rep H v t) (z2 : t.w ≤ 1000000) (z3 : NT H b bx) (z4 : ∀ H', Same H H' → Q (.bl (sK bx t)) H') : IspLF vs H Q
noncomputable def spLF : Sp := fun vs H Q _ => IspLF vs H Q
theorem Xk (T : Txt P w K mg a) : FnOk P w K mg base CX0 10 a.lines_fit a.zP ["lines", "boxes"] spLF := by
 have S := nN
 have big : (3000000 : Nat) < sizeLine := by decide
 have ZK := Xl (P := P) (w := w) (base := base) T
 have Qd := (xO (P := P) (w := w) (base := base) T).mono (show 1 ≤ 9 by decide)
 have gM := (fL (P := P) (w := w) (base := base) T).mono (show 1 ≤ 9 by decide)
 refine T.dP.okJ nN (fun vs H Q E h => ?_) (fun cdv A outer s H vs Q E hr h => ?_)
 ·obtain ⟨v, t, b, bx, rfl, _⟩ := h; rfl
 obtain ⟨v, t, b, bx, rfl, hv, hn, hb, q⟩ := h
 refine ⟨_, (wQ (kX (i := 2) S.nd rfl (Or.inl rfl) (cZ (qQ (yX (qQ (jv 0) (qQ xQ (qQ (yX jQ) jQ)))) jQ))) (wQ (kX (i := 3) S.nd rfl (Or.inl rfl) xQ) (wQ (iM PassesOwn.never (bC (jv 2)) (wQ (kX (i := 4) S.nd rfl (Or.inr rfl) (eF PySem.F.plainAttrs_list PySem.F.slot_list_pop PySem.F.type_list_pop nR (jv 2))) (wQ (zX (xX (jX (gQ eQ rfl T.rQ rfl (qQ (cQ lQ (jv 4) xQ (fun _ _ => rfl)) (qQ (wX rfl T.tX (v := .ty "tuple") rfl rfl) jQ))))) (uQ (pQ fX)) tQ) (uQ (xY PassesOwn.never rfl (dJ (cQ lQ (jv 4) xQ (fun _ _ => rfl))) (pK (i := 5) S.nd rfl (Or.inl rfl)) (wQ (V0 (i := 3) S.nd rfl (Or.inl rfl) xQ JV) (wQ (zX (iX (zZ (sQ eG (jv 3) (jK (v := .int 30) rfl T.Zn ⟨_, rfl⟩) (oQ _)) (zZ (sQ op_ge (cQ lQ (jv 4) xQ (fun _ _ => rfl)) (jK (v := .int 6) rfl T.Je ⟨_, rfl⟩) (oQ _)) (qZ (xX (jX (mQ ZK hr rfl T.Za T.k_line_fits T.b_line_fits .nil iQ (qQ (jv 5) (qQ (jv 1) (qQ (cQ lQ (jv 4) xQ (fun _ _ => rfl)) jQ)))))))))) (uQ (pQ fX)) tQ) (wQ (kX (i := 6) S.nd rfl (Or.inr rfl) (mQ Qd hr rfl T.zI T.k_turns_within T.b_turns_within .nil iQ (qQ (jv 5) (qQ (cQ lQ (jv 4) xQ (fun _ _ => rfl)) jQ)))) (uQ (zK (uG PySem.F.plainAttrs_list PySem.F.slot_list_extend PySem.F.type_list_extend aP (jv 2) (qQ (kY rfl (show (["inner", "lines", "boxes", "waiting", "count", "place", "line", "turns"] : List Str).Nodup by decide +kernel) (uW (N := ["lines", "boxes", "waiting", "count", "place", "line", "turns"]) (sc := vQ yK) rfl rfl rfl (by decide +kernel)) (eO (mQ gM hr rfl T.cH T.k_inner_lines T.b_inner_lines .nil iQ (qQ (jv 5) jQ))) (fun _ _ _ _ _ => xK) (fun _ _ _ _ _ => (yX (qQ (jv 0) (qQ (bX fJ (cQ (r := zC K) lQ (jv 5) xQ (fun _ _ => rfl)) xQ) (qQ (jv 7) jQ)))))) jQ)))))))))))) (uQ (pQ fX))))), ?_⟩
 refine ⟨_, rfl, sZ0, fun p0 h0 => ⟨sZ3, fun p1 h1 => ⟨sZ1, fun l hl => ?_⟩⟩⟩
 have s0 := kQ h0 (.tup [])
 have s1 := kQ h1 (.tup [v, .int 0, .ref p0])
 have s2 := kQ hl (.lst [.ref p1])
 have hl0 : H l = none := Same.free (s0.trans s1) hl
 refine ⟨fun m σ' H' => ∃ (st : List V) (ps : List Pl) (c : Int) (r' : Option Nat) (x4 x5 x6 : Option V), σ' = [some v, some (.ref b), some (.ref l), some (.int c), x4, x5, x6] ∧ Same H H' ∧ H' l = some (.lst st) ∧ PlReps H H' st ps ∧ m = wP ps ∧ wP ps ≤ 1000000 ∧ Walk bx ps r' ∧ 0 ≤ c ∧ c ≤ 30 ∧ okL c r' = sK bx t,
  ⟨_, [.ref p1], [(t, 0, [])], 0, Jo bx t, none, none, none, rfl, (s0.trans s1).trans s2, zQ, .cons ⟨p1, p0, v, rfl, s2 p1 _ zQ, s2 p0 _ (s1 p0 _ zQ), hv⟩ .nil, rfl, by show t.w + 0 ≤ _; omega, pO bx t, Int.le_refl 0, by decide, rfl⟩, ?_⟩
 rintro m σ' H' ⟨st, ps, c, r', x4, x5, x6, rfl, s3, hst, hT, rfl, hm, hrun, c0, c1, hok⟩
 refine ⟨_, rfl, _, .inl ⟨_, SqL.of hst, rfl⟩, ?_⟩
 rcases List.eq_nil_or_concat st with rfl | ⟨L, bb, rfl⟩
 ·refine bQ ?_
  cases hT
  have e := hrun.at_nil rfl
  subst e
  have e2 : sK bx t = true := by
   rw [← hok]
   exact decide_eq_true (by show c + ((0 : Nat) : Int) ≤ 30; omega)
  have q' := q H' s3
  rw [e2] at q'
  exact q'
 ·rw [List.concat_eq_append] at hst hT ⊢
  have ne : (!(L ++ [bb]).isEmpty) = true := by cases L <;> rfl
  rw [ne]
  refine nQ ⟨_, fun _ _ h => h, ?_⟩
  obtain ⟨us, pp, rfl, t1, t2⟩ := hT.snoc rfl
  have hlen := t1.len
  have hwl := yR us
  have hw1 : wP [pp] = pp.1.w := by show pp.1.w + 0 = _; omega
  rw [tZ, hw1] at hm ⊢
  have hlast : (L ++ [bb])[(L ++ [bb]).length - 1]? = some bb := by simp
  have hdl : (L ++ [bb]).dropLast = L := List.dropLast_concat
  refine ⟨_, rfl, .inl ⟨rfl, _, SqL.of hst⟩, l, _, _, rfl, rfl, hst, hlast, ?_⟩
  rw [hdl]
  have s4 : Same H (upd H' l (.lst L)) := mX s3 hl0
  have hl4 : (upd H' l (.lst L)) l = some (.lst L) := zQ
  have t1 := t1.upd (ws := L) hst
  have t2 := t2.upd (ws := L) hst
  generalize (upd H' l (.lst L)) = H4 at s4 hl4 t1 t2 ⊢
  obtain ⟨row, d, tu⟩ := pp
  obtain ⟨qq, u, vr, rfl, hq, hu, hrow⟩ := t2
  have hq : H4 qq = some (.tup [vr, .int d, .ref u]) := hq
  have hu : NT H4 u tu := hu
  have hrow : Rep H vr row := hrow
  have bad : ∀ {H5 : Hp}, yU bx (row, d, tu) = false → Same H H5 → Q (.bl false) H5 := fun {H5} e s5 => by
   have q' := q H5 s5
   rcases hrun.at_snoc rfl with ⟨_, e2⟩ | ⟨r2, h2, _⟩
   ·subst e2
    rw [← hok] at q'
    exact q'
   ·rw [e] at h2; cases h2
  obtain ⟨cr, hcr, htr, _, _⟩ := (hrow.same s4).ty
  refine ⟨_, rfl, qq, _, _, _, rfl, rfl, SqT.of hq, at0 _ _, vr, .tup, cr, rfl, hcr, _, rfl, ?_⟩
  rw [htr]
  cases hTu : row.isTup with
  | false => exact nQ (bad (by cases row <;> first | rfl | cases hTu) s4)
  | true =>
  obtain ⟨pr, xs, ts, rfl, rfl, hpr, hx⟩ := nK hrow hTu
  have hlx := hx.len
  have hwt := kJ ts
  have hm : wP us + (Tr.tup ts).w ≤ 1000000 := hm
  rw [eX] at hm
  have eR : yU bx (.tup ts, d, tu) = ((ts.isEmpty || decide (d < 6)) && ts.all (yV bx tu)) := rfl
  refine bQ ⟨_, rfl, qq, _, _, _, rfl, rfl, SqT.of hq, at0 _ _, pr, rfl, ⟨xs, SqT.of (s4 pr _ hpr)⟩, ?_⟩
  refine bW (xs := xs) (fun i σ' H'' => ∃ (st2 : List V) (y5 y6 : Option V), σ' = [some v, some (.ref b), some (.ref l), some (.int (c + i)), some (.ref qq), y5, y6] ∧ Same H H'' ∧ H'' l = some (.lst (L ++ st2)) ∧ PlReps H H'' (L ++ st2) (us ++ (ts.take i).flatMap (dX d tu)) ∧ H'' qq = some (.tup [.ref pr, .int d, .ref u]) ∧ NT H'' u tu ∧ (ts.take i).all (yV bx tu) = true ∧ (i = 0 ∨ d < 6) ∧ c + i ≤ 30) ?_ ?_ ?_ ?_
  ·exact ⟨[], x5, x6, (by rw [show c + ((0 : Nat) : Int) = c by omega]; rfl), s4, by rw [List.append_nil]; exact hl4, by rw [List.append_nil]; simpa using t1, hq, hu, rfl, .inl rfl, by omega⟩
  ·rintro i σ' H'' _ ⟨st2, y5, y6, rfl, s5, _⟩
   exact SqT.of (s5 pr _ hpr)
  ·rintro i x σ' H5 hxi ⟨st2, y5, y6, rfl, s5, hl5, t5, hq5, hu5, hall, hd5, hc5⟩
   obtain ⟨tx, htx, hrx⟩ := hx.get hxi
   have wx := bV htx
   have ilt : i < ts.length := (List.getElem?_eq_some_iff.mp htx).1
   have tne : ts.isEmpty = false := by cases ts with | nil => exact absurd ilt (Nat.not_lt_zero _) | cons _ _ => rfl
   refine ⟨_, rfl, _, _, rfl, rfl, _, rfl, _, _, rfl, rfl, _, rfl, ?_⟩
   cases h30 : decide ((30 : Int) < c + i + 1) with
   | true =>
    have h30 := of_decide_eq_true h30
    have e : sK bx t = false := by
     rw [← hok]
     rcases hrun.at_snoc rfl with ⟨_, e2⟩ | ⟨r2, _, _, e2⟩
     ·rw [e2]; rfl
     ·rw [e2]
      cases r2 with
      | none => rfl
      | some k =>
       show decide (c + ((k + ts.length : Nat) : Int) ≤ 30) = false
       exact decide_eq_false (by omega)
    have q' := q H5 s5
    rw [e] at q'
    exact nQ q'
   | false =>
   have h30 := of_decide_eq_false h30
   refine bQ ⟨_, rfl, qq, _, _, _, rfl, rfl, SqT.of hq5, at1 _ _ _, _, _, rfl, rfl, _, rfl, ?_⟩
   cases h6 : decide ((6 : Int) ≤ (d : Int)) with
   | true =>
    have h6 := of_decide_eq_true h6
    exact nQ (bad (by rw [eR, tne, decide_eq_false (show ¬ d < 6 by omega)]; rfl) s5)
   | false =>
   have h6 := of_decide_eq_false h6
   refine bQ ⟨_, rfl, _, rfl, _, rfl, qq, _, _, _, rfl, rfl, SqT.of hq5, at2 _ _ _ _, x, tx, b, u, bx, tu, rfl, hrx.same s5, by omega, hb.same s5, hu5, fun H6 s6 => ⟨_, rfl, ?_⟩⟩
   have s56 := s5.trans s6
   cases hL : yV bx tu tx with
   | false =>
    refine nQ (bad ?_ s56)
    rw [eR, Bool.and_eq_false_iff]
    refine .inr ?_
    rw [Bool.eq_false_iff]
    intro h
    have := List.all_eq_true.mp h tx (List.mem_of_getElem? htx)
    rw [hL] at this
    cases this
   | true =>
   refine bQ ⟨_, rfl, _, rfl, qq, _, _, _, rfl, rfl, SqT.of (s6 qq _ hq5), at2 _ _ _ _, x, tx, u, bx, tu, rfl, hrx.same s56, hu5.same s6, hL, fun u2 H7 s7 hu2 => ?_⟩
   have s57 := s56.trans s7
   have hl7 : H7 l = some (.lst (L ++ st2)) := s7 l _ (s6 l _ hl5)
   have hq7 : H7 qq = some (.tup [.ref pr, .int d, .ref u]) := s7 qq _ (s6 qq _ hq5)
   have t7 := t5.same (s6.trans s7)
   refine ⟨_, rfl, .inl ⟨rfl, _, SqL.of hl7⟩, _, rfl, x, tx, H, bx, tu, rfl, s57, hrx, hL, fun lin ys H8 s8 hlin0 hlin hys => ⟨lin, rfl, ⟨ys, SqL.of hlin⟩, fun D hD => ?_⟩⟩
   have hly := hys.len
   have hwy := kJ (yW tx)
   have hwi := zN tx
   refine ⟨fun j m zs H9 => m = ys.length - j ∧ j ≤ ys.length ∧ Same H8 H9 ∧ H9 D = some (.lst zs) ∧ PlReps H H9 zs (((yW tx).take j).map fun x => (x, d + 1, tuL tu tx)), ⟨ys.length, by simp, Nat.zero_le _, kQ hD _, zQ, .nil⟩, ?_⟩
   rintro j m zs H9 ⟨rfl, hj, s9, hD9, hz⟩
   have s79 := s8.trans s9
   by_cases hlt : j < ys.length
   ·refine .inr ⟨⟨ys, ys[j], SqL.of (s9 lin _ hlin), List.getElem?_eq_getElem hlt⟩, ?_⟩
    rintro x' H10 ⟨rfl, hxj⟩
    have hxj := hxj ys (SqL.of (s9 lin _ hlin))
    obtain ⟨tj, htj, hrj⟩ := hys.get hxj
    refine ⟨_, rfl, _, rfl, qq, _, _, _, rfl, rfl, SqT.of (s79 qq _ hq7), at1 _ _ _, _, _, rfl, rfl, _, rfl, sZ3, fun pz hpz => ?_⟩
    have s10 := kQ hpz (.tup [x', .int ((d : Int) + 1), .ref u2])
    have hzl := hz.len
    rw [List.length_map, List.length_take] at hzl
    refine ⟨s10 D _ hD9, by omega, ys.length - (j + 1), by omega, rfl, hlt, mX (s9.trans s10) hD, zQ, ?_⟩
    rw [List.take_succ, htj, List.map_append]
    refine PlReps.upd (s10 D _ hD9) (PlReps.append (hz.same s10) (.cons ⟨pz, u2, x', rfl, ?_, (hu2.same s79).same s10, hrj⟩ .nil))
    show upd _ pz _ pz = some (.tup [x', .int ((d + 1 : Nat) : Int), .ref u2])
    rw [zQ]
    rfl
   ·have ej : j = ys.length := by omega
    subst ej
    rw [hly, List.take_length] at hz
    have hzl := hz.len
    rw [List.length_map] at hzl
    have htl := t7.len
    have hwf := wF d tu (ts.take i)
    have hwt : wL (ts.take i) ≤ wL ts := by
     have := nX (ts.take i) (ts.drop i)
     rw [List.take_append_drop] at this
     omega
    have hpl := yR (us ++ (ts.take i).flatMap (dX d tu))
    rw [tZ] at hpl
    refine .inl ⟨⟨ys, SqL.of (s9 lin _ hlin), Nat.le_refl _⟩, l, D, L ++ st2, zs, rfl, rfl, s79 l _ hl7, hD9, by omega, ?_⟩
    refine ⟨st2 ++ zs, some x, some (.ref u2), ?_, mX (s57.trans s79) hl0, ?_, ?_, ?_, ?_, ?_, .inr (by omega), by omega⟩
    ·rw [show c + ((i + 1 : Nat) : Int) = c + i + 1 by omega]
     rfl
    ·rw [zQ, List.append_assoc]
    ·have e : us ++ (ts.take (i + 1)).flatMap (dX d tu) = (us ++ (ts.take i).flatMap (dX d tu)) ++ dX d tu tx := by
      rw [List.take_succ, htx, List.flatMap_append, List.append_assoc]
      simp
     rw [e, ← List.append_assoc]
     exact PlReps.upd (s79 l _ hl7) ((t7.same s79).append hz)
    ·rw [uX (yT (s79 qq _ hq7) (s79 l _ hl7) (by intro z; cases z))]
     exact s79 qq _ hq7
    ·show upd _ l _ u = _
     have := ((hu5.same s6).same s7).same s79
     rw [uX (yT this (s79 l _ hl7) (by intro z; cases z))]
     exact this
    ·rw [List.take_succ, htx, List.all_append, hall, Bool.true_and]
     show (yV bx tu tx && true) = true
     rw [hL]
     rfl
  ·rintro σ' H5 ⟨st2, y5, y6, rfl, s5, hl5, t5, hq5, hu5, hall, hd5, hc5⟩
   rw [hlx, List.take_length] at hall t5
   rw [hlx] at hd5 hc5
   have good : yU bx (.tup ts, d, tu) = true := by
    rw [eR, hall, Bool.and_true]
    cases ts with
    | nil => rfl
    | cons y r =>
     rcases hd5 with h | h
     ·cases h
     ·rw [decide_eq_true h, Bool.or_true]
   rcases hrun.at_snoc rfl with ⟨e2, _⟩ | ⟨r2, _, hw2, e2⟩
   ·rw [good] at e2; cases e2
   have hfl := wF d tu ts
   refine ⟨wP (us ++ ts.flatMap (dX d tu)), ?_, L ++ st2, us ++ ts.flatMap (dX d tu), c + ts.length, r2, some (.ref qq), y5, y6, by rw [hlx], s5, hl5, t5, rfl, ?_, hw2, by omega, hc5, ?_⟩
   ·rw [tZ]
    show _ < wP us + (Tr.tup ts).w
    rw [eX]
    omega
   ·rw [tZ]
    omega
   ·rw [← hok, e2]
    cases r2 with
    | none => rfl
    | some k =>
     show decide (c + (ts.length : Int) + (k : Int) ≤ 30) = decide (c + ((k + ts.length : Nat) : Int) ≤ 30)
     congr 1
     exact propext ⟨fun h => by omega, fun h => by omega⟩
end
end K06
namespace K06
open PySem L2
noncomputable def uO : Tr → Nat
 | .tup xs => xs.length
 | _ => 0
noncomputable def pW : Tr → Bool
 | .tup xs => fY 2 (.tup xs) && (decide (xs.length ≤ 4) && xs.all fun x => nM (vH x))
 | _ => false
noncomputable def uY : Tr → List Str
 | .tup xs => xs.map nm
 | _ => []
noncomputable def jJ : Tr → Bool
 | .tup [n, b, w, l] => xZ n && (pW b && ((pZ (uY b) [] w && decide (uO w ≤ 4)) && sK (uY b) l))
 | _ => false
section
variable {P : Program} {w : World} {K : W.Frag} {mg : Str → Option Value} {base : Heap} {a : Adr}
inductive Isp1 (f : Tr → Bool) (vs : List V) (H : Hp) (Q : VK) : Prop
 | mk (v : V) (t : Tr) (z0 : vs = [v]) (z1 : Rep H v t) (z2 : t.w ≤ 1000000) (z3 : ∀ H', Same H H' → Q (.bl (f t)) H') : Isp1 f vs H Q
noncomputable def sp1 (f : Tr → Bool) : Sp := fun vs H Q _ => Isp1 f vs H Q
theorem Xi {H : Hp} {x : V} {tx : Tr} (hrx : Rep H x tx) (hbt : kW 2 tx = true) : ∃ p z y ty, x = .ref p ∧ H p = some (.tup [.str z, y]) ∧ tx = .tup [.str z, ty] ∧ Rep H y ty := by
 obtain ⟨p2, z, r, rs, rfl, hp2, rfl, hr2, hl2⟩ := cJ hrx hbt
 obtain ⟨y, ty, rfl, rfl, hy⟩ := hr2.one (by omega)
 exact ⟨p2, z, y, ty, rfl, hp2, rfl, hy⟩
theorem Xo (T : Txt P w K mg a) : FnOk P w K mg base CX0 3 a.boxes_fit a.gP ["thing"] (sp1 pW) := by
 have S := qC
 have big : (1000000 : Nat) < sizeLine := by decide
 have mG := (uF (P := P) (w := w) (base := base) T).mono (show 1 ≤ 2 by decide)
 have bZ := mK (P := P) (w := w) (base := base) T
 refine T.oP.okJ qC (fun vs H Q E h => ?_) (fun cdv A outer s H vs Q E hr h => ?_)
 ·obtain ⟨v, t, rfl, _⟩ := h; rfl
 obtain ⟨v, t, rfl, hv, hn, q⟩ := h
 refine ⟨_, (wQ (zX (iX (zZ (xX (jX (mQ bZ hr rfl T.lK T.k_begins_with_names T.b_begins_with_names .nil iQ (qQ (jv 0) (qQ xQ jQ))))) (qZ (sQ eG (gQ qX rfl T.aX rfl (qQ (jv 0) jQ)) (jK (v := .int 4) rfl T.Zo ⟨_, rfl⟩) (oQ _))))) (uQ (pQ fX)) tQ) (uQ (pQ (gQ (nU rfl) rfl T.zE rfl (qQ (vY rfl (show (["box", "thing"] : List Str).Nodup by decide +kernel) (gV (N := ["thing"]) rfl (by with_unfolding_all rfl) (by decide +kernel)) (dJ (jv 0)) (fun _ _ _ _ => xK) (fun _ _ _ _ => (mQ mG hr rfl T.cL T.k_is_number T.b_is_number .nil iQ (qQ (cQ (r := zC K) lQ (jv 0) xQ (fun _ _ => rfl)) jQ)))) jQ))))), ?_⟩
 refine ⟨_, rfl, v, t, 2, rfl, hv, hn, by decide, fun H1 s1 => ⟨_, rfl, ?_⟩⟩
 cases hB : fY 2 t with
 | false =>
  have e : pW t = false := by
   cases t with
   | tup xs =>
    show (fY 2 (.tup xs) && _) = false
    rw [hB, Bool.false_and]
   | _ => rfl
  have q' := q H1 s1
  rw [e] at q'
  exact nQ q'
 | true =>
  obtain ⟨p, xs, ts, rfl, rfl, hp, hx⟩ : ∃ p xs ts, v = .ref p ∧ t = .tup ts ∧ H p = some (.tup xs) ∧ Reps H xs ts := by
   cases hv <;> first | exact ⟨_, _, _, rfl, rfl, ‹_›, ‹_›⟩ | cases hB
  have e : pW (.tup ts) = (decide (ts.length ≤ 4) && ts.all fun x => nM (vH x)) := by
   show (fY 2 (.tup ts) && _) = _
   rw [hB, Bool.true_and]
  rw [e] at q
  rw [eX] at hn
  have hlen := hx.len
  have hwl := kJ ts
  refine bQ ⟨_, rfl, _, _, rfl, .inr ⟨_, SqT.of (s1 p _ hp), rfl⟩, _, _, rfl, rfl, _, rfl, ?_⟩
  cases h4 : decide ((4 : Int) < (xs.length : Nat)) with
  | true =>
   have h4 := of_decide_eq_true h4
   have q' := q H1 s1
   rw [decide_eq_false (show ¬ ts.length ≤ 4 by omega), Bool.false_and] at q'
   exact nQ q'
  | false =>
  have h4 := of_decide_eq_false h4
  rw [decide_eq_true (show ts.length ≤ 4 by omega), Bool.true_and] at q
  refine bQ ⟨_, rfl, p, rfl, ⟨xs, SqT.of (s1 p _ hp)⟩, fun D hD => ?_⟩
  refine ⟨fun i m ys H' => m = xs.length - i ∧ i ≤ xs.length ∧ Same H1 H' ∧ H' D = some (.lst ys) ∧ ys = (ts.take i).map (fun x => V.bl (nM (vH x))), ⟨xs.length, by simp, Nat.zero_le _, kQ hD _, zQ, rfl⟩, ?_⟩
  rintro i m ys H' ⟨rfl, hi, s2, hD2, rfl⟩
  have s12 := s1.trans s2
  by_cases hlt : i < xs.length
  ·refine .inr ⟨⟨xs, xs[i], SqT.of (s12 p _ hp), List.getElem?_eq_getElem hlt⟩, ?_⟩
   rintro x' H'' ⟨rfl, hxi⟩
   have hxi := hxi xs (SqT.of (s12 p _ hp))
   obtain ⟨tx, htx, hrx⟩ := hx.get hxi
   have hbt : kW 2 tx = true := qR (show bnR 2 [] ts = true from hB) tx (List.mem_of_getElem? htx)
   obtain ⟨p2, z, y, ty, rfl, hp2, rfl, hy⟩ := Xi hrx hbt
   obtain ⟨c, hc, _⟩ := (hy.same s12).ty
   refine ⟨_, rfl, p2, _, _, _, rfl, rfl, SqT.of (s12 p2 _ hp2), at1 _ _ _, y, c, rfl, hc, ?_⟩
   rw [hy.num]
   exact ⟨hD2, by rw [List.length_map, List.length_take]; omega, xs.length - (i + 1), by omega, rfl, hlt, mX s2 hD, zQ, bP (f := fun x => nM (vH x)) htx⟩
  ·have ei : i = xs.length := by omega
   subst ei
   refine .inl ⟨⟨xs, SqT.of (s12 p _ hp), Nat.le_refl _⟩, D, ts.map (fun x => nM (vH x)), rfl, SqL.of ?_, ?_⟩
   ·rw [hD2, hlen, List.take_length, List.map_map]
    rfl
   ·have q' := q H' s12
    rw [cS]
    exact q'
theorem Z2 (T : Txt P w K mg a) : FnOk P w K mg base CX0 11 a.is_part a.uS ["thing"] (sp1 jJ) := by
 have S := cE
 have big : (1000000 : Nat) < sizeLine := by decide
 have tW := (bF (P := P) (w := w) (base := base) T).mono (show 1 ≤ 10 by decide)
 have ZN := (Xo (P := P) (w := w) (base := base) T).mono (show 3 ≤ 10 by decide)
 have fP := (kC (P := P) (w := w) (base := base) T).mono (show 6 ≤ 10 by decide)
 have ZJ := Xk (P := P) (w := w) (base := base) T
 refine T.qT.okJ cE (fun vs H Q E h => ?_) (fun cdv A outer s H vs Q E hr h => ?_)
 ·obtain ⟨v, t, rfl, _⟩ := h; rfl
 obtain ⟨v, t, rfl, hv, hn, q⟩ := h
 refine ⟨_, (wQ (zX (iX (zZ (xX (jX (gQ eQ rfl T.rQ rfl (qQ (jv 0) (qQ (wX rfl T.tX (v := .ty "tuple") rfl rfl) jQ))))) (qZ (sQ lD (gQ qX rfl T.aX rfl (qQ (jv 0) jQ)) xQ (oQ _))))) (uQ (pQ fX)) tQ) (wQ (zX (iX (zZ (xX (jX (mQ tW hr rfl T.eM T.k_is_name T.b_is_name .nil iQ (qQ (cQ lQ (jv 0) xQ (fun _ _ => rfl)) jQ)))) (qZ (xX (jX (mQ ZN hr rfl T.Ze T.k_boxes_fit T.b_boxes_fit .nil iQ (qQ (cQ lQ (jv 0) xQ (fun _ _ => rfl)) jQ))))))) (uQ (pQ fX)) tQ) (wQ (kX (i := 1) S.nd rfl (Or.inl rfl) (mZ aJ rfl T.tX rfl (qQ (vY rfl (show (["box", "thing", "boxes"] : List Str).Nodup by decide +kernel) (gV (N := ["thing", "boxes"]) rfl (by with_unfolding_all rfl) (by decide +kernel)) (dJ (cQ lQ (jv 0) xQ (fun _ _ => rfl))) (fun _ _ _ _ => xK) (fun _ _ _ _ => (cQ (r := zC K) lQ (jv 0) xQ (fun _ _ => rfl)))) jQ))) (wQ (zX (iX (zZ (xX (jX (mQ fP hr rfl T.uT T.k_pairs_fit T.b_pairs_fit .nil iQ (qQ (cQ lQ (jv 0) xQ (fun _ _ => rfl)) (qQ (jv 1) (qQ (yX jQ) jQ)))))) (qZ (sQ eG (gQ qX rfl T.aX rfl (qQ (cQ lQ (jv 0) xQ (fun _ _ => rfl)) jQ)) (jK (v := .int 4) rfl T.Zl ⟨_, rfl⟩) (oQ _))))) (uQ (pQ fX)) tQ) (uQ (pQ (mQ ZJ hr rfl T.X9 T.k_lines_fit T.b_lines_fit .nil iQ (qQ (cQ lQ (jv 0) xQ (fun _ _ => rfl)) (qQ (jv 1) jQ))))))))), ?_⟩
 have no : jJ t = false → ∀ H', Same H H' → Q (.bl false) H' := fun e H' s' => by
  have q' := q H' s'
  rw [e] at q'
  exact q'
 obtain ⟨ty, hty, htt, _, _⟩ := hv.ty
 refine ⟨_, rfl, v, .tup, ty, rfl, hty, _, rfl, ?_⟩
 rw [htt]
 cases hT : t.isTup with
 | false => exact nQ (no (by cases t <;> first | rfl | cases hT) H (Same.refl H))
 | true =>
 obtain ⟨p, xs, ts, rfl, rfl, hp, hx⟩ := nK hv hT
 rw [eX] at hn
 refine bQ ⟨_, rfl, _, _, rfl, .inr ⟨_, SqT.of hp, rfl⟩, rfl, _, rfl, ?_⟩
 have hlen := hx.len
 by_cases hl : ts.length = 4
 ·obtain ⟨x1, x2, x3, x4, t1, t2, t3, t4, rfl, rfl, h1, h2, h3, h4⟩ := hx.four hl
  rw [yQ, yQ, yQ, yQ] at hn
  have e : jJ (.tup [t1, t2, t3, t4]) = (xZ t1 && (pW t2 && ((pZ (uY t2) [] t3 && decide (uO t3 ≤ 4)) && sK (uY t2) t4))) := rfl
  obtain ⟨c1, hc1, _⟩ := h1.ty
  refine bQ ⟨_, rfl, p, _, _, _, rfl, rfl, SqT.of hp, at0 _ _, x1, c1, rfl, hc1, fun z' e => ?_, fun H1 s1 => ⟨_, rfl, ?_⟩⟩
  ·have := h1.strLen e
   omega
  rw [h1.nam]
  cases hN : xZ t1 with
  | false => exact nQ (no (by rw [e, hN, Bool.false_and]) _ s1)
  | true =>
  refine bQ ⟨_, rfl, p, _, _, _, rfl, rfl, SqT.of (s1 p _ hp), at1 _ _ _, x2, t2, rfl, h2.same s1, by omega, fun H2 s2 => ⟨_, rfl, ?_⟩⟩
  have s12 := s1.trans s2
  cases hB : pW t2 with
  | false => exact nQ (no (by rw [e, hB, Bool.false_and, Bool.and_false]) _ s12)
  | true =>
  rw [e, hN, hB, Bool.true_and, Bool.true_and] at q no
  obtain ⟨pb, xb, tb, rfl, rfl, hpb, hxb⟩ : ∃ p xs ts, x2 = .ref p ∧ t2 = .tup ts ∧ H p = some (.tup xs) ∧ Reps H xs ts := by
   cases h2 <;> first | exact ⟨_, _, _, rfl, rfl, ‹_›, ‹_›⟩ | cases hB
  have hBg : bnR 2 [] tb = true := by
   have hB : (fY 2 (.tup tb) && _) = true := hB
   rw [Bool.and_eq_true] at hB
   exact hB.1
  have hb4 : tb.length ≤ 4 := by
   have hB : (fY 2 (.tup tb) && (decide (tb.length ≤ 4) && _)) = true := hB
   rw [Bool.and_eq_true, Bool.and_eq_true] at hB
   exact of_decide_eq_true hB.2.1
  have hlb := hxb.len
  refine bQ ⟨_, rfl, p, _, _, _, rfl, rfl, SqT.of (s12 p _ hp), at1 _ _ _, pb, rfl, ⟨xb, SqT.of (s12 pb _ hpb)⟩, fun D hD => ?_⟩
  refine ⟨fun i m ys H' => m = xb.length - i ∧ i ≤ xb.length ∧ H' = upd H2 D (.lst ys) ∧ ys = (tb.take i).map (fun x => V.str (nm x)), ⟨xb.length, by simp, Nat.zero_le _, rfl, rfl⟩, ?_⟩
  rintro i m ys H' ⟨rfl, hi, rfl, rfl⟩
  have sD := kQ hD (.lst ((tb.take i).map (fun x => V.str (nm x))))
  by_cases hlt : i < xb.length
  ·refine .inr ⟨⟨xb, xb[i], SqT.of (sD pb _ (s12 pb _ hpb)), List.getElem?_eq_getElem hlt⟩, ?_⟩
   rintro x' H'' ⟨rfl, hxi⟩
   have hxi := hxi xb (SqT.of (sD pb _ (s12 pb _ hpb)))
   obtain ⟨tx, htx, hrx⟩ := hxb.get hxi
   have hbt : kW 2 tx = true := qR hBg tx (List.mem_of_getElem? htx)
   obtain ⟨p2, z, y, ty2, rfl, hp2, rfl, hy⟩ := Xi hrx hbt
   refine ⟨_, rfl, p2, _, _, _, rfl, rfl, SqT.of (sD p2 _ (s12 p2 _ hp2)), at0 _ _, ?_⟩
   exact ⟨zQ, by rw [List.length_map, List.length_take]; omega, xb.length - (i + 1), by omega, rfl, hlt, sV, (map_take (f := fun x => V.str (nm x)) htx).symm⟩
  ·have ei : i = xb.length := by omega
   subst ei
   rw [hlb, List.take_length] at sD ⊢
   refine .inl ⟨⟨xb, SqT.of (sD pb _ (s12 pb _ hpb)), by omega⟩, D, _, rfl, .inl ⟨SqL.of zQ, fun b hb => ?_⟩⟩
   have sb := kQ hb (.tup (tb.map fun x => V.str (nm x)))
   have s3 := (s12.trans sD).trans sb
   have hbx : NT (upd (upd H2 D (.lst (tb.map fun x => V.str (nm x)))) b (.tup (tb.map fun x => V.str (nm x)))) b (uY (.tup tb)) := by
    show upd _ b _ b = some (.tup ((tb.map nm).map V.str))
    rw [zQ, List.map_map]
    rfl
   generalize hH3 : upd (upd H2 D (.lst (tb.map fun x => V.str (nm x)))) b (.tup (tb.map fun x => V.str (nm x))) = H3 at s3 hbx ⊢
   refine ⟨_, rfl, p, _, _, _, rfl, rfl, SqT.of (s3 p _ hp), at2 _ _ _ _, _, rfl, sZ0, fun u hu => ?_⟩
   have su := kQ hu (.tup [])
   have s4 := s3.trans su
   have hu4 : NT (upd H3 u (.tup [])) u [] := zQ
   have hb4' := hbx.same su
   generalize upd H3 u (.tup []) = H4 at s4 hu4 hb4' ⊢
   refine ⟨x3, t3, b, u, uY (.tup tb), [], rfl, h3.same s4, by omega, hb4', hu4, fun H5 s5 => ⟨_, rfl, ?_⟩⟩
   have s45 := s4.trans s5
   cases hP : pZ (uY (.tup tb)) [] t3 with
   | false => exact nQ (no (by rw [hP, Bool.false_and, Bool.false_and]) _ s45)
   | true =>
   obtain ⟨p3, x3', t3', rfl, rfl, hp3, hx3⟩ : ∃ p xs ts, x3 = .ref p ∧ t3 = .tup ts ∧ H p = some (.tup xs) ∧ Reps H xs ts := by
    cases h3 <;> first | exact ⟨_, _, _, rfl, rfl, ‹_›, ‹_›⟩ | cases hP
   have hl3 := hx3.len
   refine bQ ⟨_, rfl, p, _, _, _, rfl, rfl, SqT.of (s45 p _ hp), at2 _ _ _ _, _, _, rfl, .inr ⟨_, SqT.of (s45 p3 _ hp3), rfl⟩, _, _, rfl, rfl, _, rfl, ?_⟩
   cases h5 : decide ((4 : Int) < (x3'.length : Nat)) with
   | true =>
    have h5 := of_decide_eq_true h5
    exact nQ (no (by rw [hP, decide_eq_false (show ¬ uO (.tup t3') ≤ 4 by show ¬ t3'.length ≤ 4; omega), Bool.and_false, Bool.false_and]) _ s45)
   | false =>
    have h5 := of_decide_eq_false h5
    rw [hP, decide_eq_true (show uO (.tup t3') ≤ 4 by show t3'.length ≤ 4; omega), Bool.true_and, Bool.true_and] at q
    exact bQ ⟨_, rfl, p, _, _, _, rfl, rfl, SqT.of (s45 p _ hp), at3 _ _ _ _ _, _, rfl, x4, t4, b, uY (.tup tb), rfl, h4.same s45, by omega, hb4'.same s5, fun H6 s6 => q _ (s45.trans s6)⟩
 ·have e : jJ (.tup ts) = false := by
   match ts, hl with
   | [], _ => rfl
   | [_], _ => rfl
   | [_, _], _ => rfl
   | [_, _, _], _ => rfl
   | [_, _, _, _], h => exact absurd rfl h
   | _ :: _ :: _ :: _ :: _ :: _, _ => rfl
  rw [decide_eq_false (fun e => hl (by injection e with e; omega))]
  exact nQ (no e H (Same.refl H))
end
end K06
namespace K06
open PySem L2
noncomputable def pH (z : Str) : Int := match qF z with
 | some k => k + 1
 | none => 2
noncomputable def Xs : List (Key × V) := [(Sum.inr "add", .int 3), (Sum.inr "times", .int 3), (Sum.inr "less", .int 3), (Sum.inr "pick", .int 4)]
theorem merge4 : fW [] Xs = Xs := by decide +kernel
theorem Kx (z : Str) : (nV (fW [] Xs) (Sum.inr z)).getD (.int 2) = .int (pH z) := by
 have ne : ∀ {a : Str}, ¬ z = a → ¬ (Sum.inr a : Key) = Sum.inr z := fun h e => h (Sum.inr.inj e).symm
 rw [merge4]
 unfold Xs pH qF
 by_cases h1 : z = "add"
 ·rw [sX (by rw [h1]), if_pos h1]; rfl
 rw [gX (ne h1), if_neg h1]
 by_cases h2 : z = "times"
 ·rw [sX (by rw [h2]), if_pos h2]; rfl
 rw [gX (ne h2), if_neg h2]
 by_cases h3 : z = "less"
 ·rw [sX (by rw [h3]), if_pos h3]; rfl
 rw [gX (ne h3), if_neg h3]
 by_cases h4 : z = "pick"
 ·rw [sX (by rw [h4]), if_pos h4]; rfl
 rw [gX (ne h4), if_neg h4]
 rfl
section
variable {P : Program} {w : World} {K : W.Frag} {mg : Str → Option Value} {base : Heap} {a : Adr}
inductive ZE (vs : List V) (H : Hp) (Q : VK) : Prop
 | mk (v : V) (t : Tr) (z0 : vs = [v]) (z1 : Rep H v t) (z2 : t.w ≤ 1000000) (z3 : (run t = none → ∀ H', Same H H' → Q .non H')) (z4 : ∀ ns, run t = some ns → ∀ l ys H', Same H H' → H' l = some (.lst ys) → Reps H ys ns → Q (.ref l) H') : ZE vs H Q
noncomputable def spNodes : Sp := fun vs H Q _ => ZE vs H Q
theorem pA (T : Txt P w K mg a) : FnOk P w K mg base CX0 2 a.sO a.vS ["_law_thing"] spNodes := by
 have S := mE
 have big : (3000000 : Nat) < sizeLine := by decide
 have gW := wU (P := P) (w := w) (base := base) T
 have mJ := iW (P := P) (w := w) (base := base) T
 refine T.eS.okJ mE (fun vs H Q E h => ?_) (fun cdv A outer s H vs Q E hr h => ?_)
 ·obtain ⟨v, t, rfl, _⟩ := h; rfl
 obtain ⟨v, t, rfl, hv, hn, q1, q2⟩ := h
 refine ⟨_, (wQ (kX (i := 1) S.nd rfl (Or.inl rfl) (cZ (qQ (jv 0) jQ))) (wQ (kX (i := 2) S.nd rfl (Or.inl rfl) (cZ jQ)) (wQ (iM PassesOwn.never (sQ (kA hr.units0) (jv 1) (cZ jQ) (oQ _)) (wQ (kX (i := 3) S.nd rfl (Or.inl rfl) (eF PySem.F.plainAttrs_list PySem.F.slot_list_pop PySem.F.type_list_pop nR (jv 1))) (wQ (zK (uG PySem.F.plainAttrs_list PySem.F.slot_list_append PySem.F.type_list_append aV (jv 2) (qQ (jv 3) jQ))) (wQ (zX (iX (zZ (xX (jX (gQ eQ rfl T.rQ rfl (qQ (jv 3) (qQ (wX rfl T.tX (v := .ty "tuple") rfl rfl) jQ))))) (zZ (sQ bL (gQ qX rfl T.aX rfl (qQ (jv 3) jQ)) xQ (oQ _)) (qZ (xX (jX (gQ eQ rfl T.rQ rfl (qQ (cQ lQ (jv 3) xQ (fun _ _ => rfl)) (qQ (wX rfl T.jT (v := .ty "str") rfl rfl) jQ))))))))) (uQ (pQ aZ)) tQ) (wQ (kX (i := 4) S.nd rfl (Or.inl rfl) (Zh (iG hr) (JR (zU aQ xQ (zU aQ xQ (zU aQ xQ (zU aQ xQ V1))))) (cQ lQ (jv 3) xQ (fun _ _ => rfl)) xQ)) (wQ (zX (sQ lD (gQ qX rfl T.aX rfl (qQ (jv 3) jQ)) (jv 4) (oQ _)) (uQ (pQ aZ)) tQ) (uQ (zX (sQ eG (jv 4) xQ (oQ _)) (uQ (zK (uG PySem.F.plainAttrs_list PySem.F.slot_list_extend PySem.F.type_list_extend mt_extT (jv 1) (qQ (yZ uR (jv 3) (qJ xQ) zJ) jQ)))) (uQ (zX (sQ wZ (cQ lQ (jv 3) xQ (fun _ _ => rfl)) aQ (oQ _)) (uQ (zX (xX (jX (mQ gW hr rfl T.aB T.k_l_is_number T.b_l_is_number .nil iQ (qQ (cQ lQ (jv 3) xQ (fun _ _ => rfl)) jQ)))) (uQ (pQ aZ)) tQ)) (uQ (zX (iX (zZ (sQ jC (cQ lQ (jv 3) xQ (fun _ _ => rfl)) (yX (qQ aQ (qQ aQ (qQ aQ (qQ aQ jQ))))) rfl) (qZ (xX (jX (mQ mJ hr rfl T.lV T.k_l_is_name T.b_l_is_name .nil iQ (qQ (cQ lQ (jv 3) xQ (fun _ _ => rfl)) jQ))))))) (uQ (pQ aZ)) tQ)))))))))))) (uQ (pQ (jv 2)))))), ?_⟩
 refine ⟨_, rfl, sZ1, fun lt hlt => ⟨sZ0, fun lf hlf => ?_⟩⟩
 have k1 := kQ hlt (.lst [v])
 have k2 := kQ hlf (.lst [])
 have hlf0 : H lf = none := Same.free k1 hlf
 have nlf : lt ≠ lf := fun e => by
  rw [← e, zQ] at hlf
  cases hlf
 refine ⟨fun m σ' H' => ∃ (st fs : List V) (ts fts : List Tr) (r' : Option (List Tr)) (x3 x4 : Option V), σ' = [some v, some (.ref lt), some (.ref lf), x3, x4] ∧ Same H H' ∧ H' lt = some (.lst st) ∧ H' lf = some (.lst fs) ∧ Reps H st ts ∧ Reps H fs fts ∧ m = wL ts ∧ wL ts + fts.length ≤ 1000000 ∧ Run ts r' ∧ r'.map (fts ++ ·) = run t,
  ⟨_, [v], [], [t], [], run t, none, none, rfl, k1.trans k2, k2 lt _ zQ, zQ, .cons hv .nil, .nil, rfl, by rw [yQ, wL]; show t.w + 0 + 0 ≤ _; omega, rH t, by cases run t <;> rfl⟩, ?_⟩
 rintro m σ' H' ⟨st, fs, ts, fts, r', x3, x4, rfl, s1, hst, hfs, hT, hF, rfl, hm, hrun, hok⟩
 refine ⟨_, rfl, sZ0, fun pe he => ?_⟩
 have k3 := kQ he (.lst [])
 refine ⟨lt, pe, st, rfl, rfl, SqL.of (k3 lt _ hst), SqL.of zQ, _, rfl, ?_⟩
 rcases List.eq_nil_or_concat st with rfl | ⟨L, b, rfl⟩
 ·refine bQ ?_
  cases hT
  have e := hrun.at_nil rfl
  subst e
  exact ⟨_, rfl, q2 fts (by rw [← hok]; show some (fts ++ []) = _; rw [List.append_nil]) lf fs _ (s1.trans k3) (k3 lf _ hfs) hF⟩
 ·rw [List.concat_eq_append] at hst hT ⊢
  have ne : (!(L ++ [b]).isEmpty) = true := by cases L <;> rfl
  rw [ne]
  refine nQ ⟨_, fun _ _ h => h, ?_⟩
  obtain ⟨us, u, rfl, t1, t2⟩ := hT.snoc rfl
  have hll := t1.len
  have hfl := hF.len
  have hwu := kJ us
  have p2 := u.pos
  rw [nX, yQ, wL] at hm ⊢
  have hlast : (L ++ [b])[(L ++ [b]).length - 1]? = some b := by simp
  have hdl : (L ++ [b]).dropLast = L := List.dropLast_concat
  have bad : inn u = none → run t = none := fun h => by
   rcases hrun.at_snoc rfl with ⟨_, e⟩ | ⟨xs, r2, h1, _⟩
   ·rw [e] at hok; exact hok.symm
   ·rw [h] at h1; cases h1
  have good : ∀ xs, inn u = some xs → ∃ r2, Run (us ++ xs) r2 ∧ r2.map ((fts ++ [u]) ++ ·) = run t := fun xs h => by
   rcases hrun.at_snoc rfl with ⟨h1, _⟩ | ⟨xs', r2, h1, hrun2, e⟩
   ·rw [h] at h1; cases h1
   ·rw [h] at h1
    cases h1
    refine ⟨r2, hrun2, ?_⟩
    rw [← hok, e]
    cases r2 with
    | none => rfl
    | some k => show some ((fts ++ [u]) ++ k) = some (fts ++ (u :: k)); rw [List.append_assoc]; rfl
  refine ⟨_, rfl, .inl ⟨rfl, _, SqL.of (k3 lt _ hst)⟩, lt, _, _, rfl, rfl, k3 lt _ hst, hlast, ?_⟩
  rw [hdl]
  have s2 : Same H (upd (upd H' pe (.lst [])) lt (.lst L)) := mX (s1.trans k3) hlt
  have f2 : (upd (upd H' pe (.lst [])) lt (.lst L)) lf = some (.lst fs) := by rw [uX (Ne.symm nlf)]; exact k3 lf _ hfs
  refine ⟨_, rfl, .inl ⟨rfl, _, SqL.of f2⟩, _, rfl, lf, fs, b, rfl, rfl, f2, by omega, ?_⟩
  have s3 : Same H (upd (upd (upd H' pe (.lst [])) lt (.lst L)) lf (.lst (fs ++ [b]))) := mX s2 hlf0
  have l3 : (upd (upd (upd H' pe (.lst [])) lt (.lst L)) lf (.lst (fs ++ [b]))) lt = some (.lst L) := by rw [uX nlf]; exact zQ
  have f3 : (upd (upd (upd H' pe (.lst [])) lt (.lst L)) lf (.lst (fs ++ [b]))) lf = some (.lst (fs ++ [b])) := zQ
  generalize (upd (upd (upd H' pe (.lst [])) lt (.lst L)) lf (.lst (fs ++ [b]))) = H3 at s3 l3 f3 ⊢
  have F3 : Reps H (fs ++ [b]) (fts ++ [u]) := hF.append (.cons t2 .nil)
  have lenf : (fts ++ [u]).length = fts.length + 1 := by rw [List.length_append]; rfl
  obtain ⟨c, hc, htc, _, _⟩ := t2.ty
  have hc3 := jG s3 hc
  cases hTu : u.isTup with
  | false =>
   rw [hTu] at htc
   refine ⟨_, rfl, b, .tup, c, rfl, hc3, _, rfl, ?_⟩
   rw [htc]
   exact nQ (q1 (bad (by cases u <;> first | rfl | cases hTu)) _ s3)
  | true =>
   obtain ⟨p, xs, us', rfl, rfl, hp, hx⟩ := nK t2 hTu
   have hp3 := s3 p _ hp
   rw [eX] at hm ⊢
   refine ⟨_, rfl, _, .tup, .tup, rfl, zW hp3 rfl, _, rfl, bQ ⟨_, rfl, _, _, rfl, .inr ⟨_, SqT.of hp3, rfl⟩, _, _, rfl, rfl, _, rfl, ?_⟩⟩
   cases hx with
   | nil => exact nQ (q1 (bad rfl) _ s3)
   | @cons y0 ty0 r1 rs1 hy0 hx1 =>
   cases hx1 with
   | nil =>
    refine nQ (q1 (bad ?_) _ s3)
    show bO [ty0] = none
    cases hS : ty0.isStr with
    | false => exact dC hS
    | true =>
     cases ty0 with
     | str z =>
      cases hi : bO [.str z] with
      | none => rfl
      | some xs => obtain ⟨y, r, e⟩ := fI hi; cases e
     | _ => cases hS
   | @cons y1 ty1 r3 rs3 hy1 hx2 =>
    have hl3 := hx2.len
    have e2 : ¬ (((y0 :: y1 :: r3).length : Nat) : Int) < 2 := by
     rw [List.length_cons, List.length_cons]; omega
    rw [decide_eq_false e2]
    rw [yQ, yQ] at hm ⊢
    obtain ⟨c0, hc0, _, hs0, _⟩ := hy0.ty
    obtain ⟨c1, hc1, _⟩ := hy1.ty
    refine bQ ⟨_, rfl, p, _, _, _, rfl, rfl, SqT.of hp3, at0 _ _, _, .str, c0, rfl, jG s3 hc0, _, rfl, ?_⟩
    rw [hs0]
    cases hS : ty0.isStr with
    | false => exact nQ (q1 (bad (dC hS)) _ s3)
    | true =>
     obtain ⟨z, rfl, rfl⟩ : ∃ z, y0 = .str z ∧ ty0 = .str z := by cases hy0 <;> first | exact ⟨_, rfl, rfl⟩ | cases hS
     refine bQ ?_
     refine fun pd hpd => ⟨zQ, Xs, rfl, by decide, pd, rfl, .inl ⟨_, .inl zQ⟩, ?_⟩
     have k4 := kQ hpd (.dK [])
     have s4 : Same H (upd (upd H3 pd (.dK [])) pd (.dK (fW [] Xs))) := mX (s3.trans k4) (Same.free s3 hpd)
     have hp4 := s4 p _ hp
     have l4 : (upd (upd H3 pd (.dK [])) pd (.dK (fW [] Xs))) lt = some (.lst L) := by rw [sV]; exact (kQ hpd _) lt _ l3
     have f4 : (upd (upd H3 pd (.dK [])) pd (.dK (fW [] Xs))) lf = some (.lst (fs ++ [.ref p])) := by rw [sV]; exact (kQ hpd _) lf _ f3
     refine ⟨_, rfl, p, _, _, _, rfl, rfl, SqT.of hp4, at0 _ _, _, DGet.k (k := Sum.inr z) zQ, ?_⟩
     rw [Kx]
     generalize (upd (upd H3 pd (.dK [])) pd (.dK (fW [] Xs))) = H4 at s4 hp4 l4 f4 ⊢
     refine ⟨_, rfl, _, _, rfl, .inr ⟨_, SqT.of hp4, rfl⟩, _, rfl, rfl, _, rfl, ?_⟩
     have ie : inn (.tup (.str z :: ty1 :: rs3)) = _ := kF z (ty1 :: rs3)
     cases hj : qF z with
     | some k =>
      rw [hj] at ie
      have ie : inn (.tup (.str z :: ty1 :: rs3)) = if ((ty1 :: rs3).length : Int) = k then some (ty1 :: rs3) else none := ie
      have mk : pH z = k + 1 := by unfold pH; rw [hj]
      have k23 := mT hj
      by_cases hl : ((ty1 :: rs3).length : Int) = k
      ·rw [if_pos hl] at ie
       have el : V.int (((V.str z :: y1 :: r3).length : Nat) : Int) = V.int (pH z) := by
        congr 1
        rw [mk, ← hl, List.length_cons, List.length_cons, List.length_cons, hl3]
        omega
       refine V6 el ?_
       refine ⟨_, rfl, _, _, rfl, rfl, _, rfl, ?_⟩
       rw [decide_eq_true (show (2 : Int) < pH z by rw [mk]; omega)]
       refine nQ ?_
       refine ⟨_, rfl, .inl ⟨rfl, _, SqL.of l4⟩, _, rfl, _, rfl, p, _, rfl, SqT.of hp4, QO _ _, fun pt hpt => ?_⟩
       rw [cut1]
       have k5 := kQ hpt (.tup (y1 :: r3))
       obtain ⟨r2, g2, g3⟩ := good _ ie
       have hw3 := kJ rs3
       refine ⟨lt, pt, L, y1 :: r3, rfl, rfl, k5 lt _ l4, zQ, by rw [List.length_cons]; omega, ?_⟩
       refine ⟨wL (us ++ ty1 :: rs3), by rw [nX, yQ]; omega, L ++ y1 :: r3, fs ++ [.ref p], us ++ ty1 :: rs3, fts ++ [.tup (.str z :: ty1 :: rs3)], r2, _, _, rfl, mX (s4.trans k5) hlt, zQ, by rw [uX (Ne.symm nlf)]; exact k5 lf _ f4, t1.append (.cons hy1 hx2), F3, rfl, by rw [nX, yQ, lenf]; omega, g2, g3⟩
      ·rw [if_neg hl] at ie
       refine V5 (fun el => hl ?_) (q1 (bad ie) _ s4)
       injection el with el
       rw [mk, List.length_cons, List.length_cons] at el
       rw [List.length_cons]
       omega
     | none =>
      rw [hj] at ie
      have ie : inn (.tup (.str z :: ty1 :: rs3)) = if rV z (ty1 :: rs3) = true then some [] else none := ie
      have mk : pH z = 2 := by unfold pH; rw [hj]
      by_cases hr3 : rs3 = []
      ·subst hr3
       cases hx2
       have el : V.int (((V.str z :: [y1]).length : Nat) : Int) = V.int (pH z) := by rw [mk]; rfl
       refine V6 el ?_
       refine ⟨_, rfl, _, _, rfl, rfl, _, rfl, ?_⟩
       rw [decide_eq_false (show ¬ (2 : Int) < pH z by rw [mk]; omega)]
       refine bQ ?_
       have fin : rV z [ty1] = true → ∀ (H5 : Hp) (x4 : Option V), Same H H5 → H5 lt = some (.lst L) → H5 lf = some (.lst (fs ++ [.ref p])) → ∃ m', m' < wL us + (((Tr.str z).w + (ty1.w + wL []) + 10) + 0) ∧ ∃ (st fs' : List V) (ts fts' : List Tr) (r' : Option (List Tr)) (x3' x4' : Option V), [some v, some (.ref lt), some (.ref lf), some (.ref p), x4] = [some v, some (.ref lt), some (.ref lf), x3', x4'] ∧ Same H H5 ∧ H5 lt = some (.lst st) ∧ H5 lf = some (.lst fs') ∧ Reps H st ts ∧ Reps H fs' fts' ∧ m' = wL ts ∧ wL ts + fts'.length ≤ 1000000 ∧ Run ts r' ∧ r'.map (fts' ++ ·) = run t := fun ha H5 x4 s5 l5 f5 => by
        have ie2 : inn (.tup (.str z :: [ty1])) = some [] := by rw [ie]; exact if_pos ha
        obtain ⟨r2, g2, g3⟩ := good _ ie2
        rw [List.append_nil] at g2
        exact ⟨wL us, by omega, L, fs ++ [.ref p], us, _, r2, _, _, rfl, s5, l5, f5, t1, F3, rfl, by rw [lenf]; omega, g2, g3⟩
       have ibad : rV z [ty1] = false → inn (.tup (.str z :: [ty1])) = none := fun ha => by
        rw [ie]
        exact if_neg (by rw [ha]; exact Bool.false_ne_true)
       refine ⟨_, rfl, p, _, _, _, rfl, rfl, SqT.of hp4, rfl, rfl, _, rfl, ?_⟩
       by_cases hz : z = "num"
       ·rw [dT hz]
        have ea : rV z [ty1] = aL y1 := by rw [hy1.num]; exact if_pos hz
        refine nQ ⟨_, rfl, p, _, _, _, rfl, rfl, SqT.of hp4, rfl, y1, c1, rfl, jG s4 hc1, _, rfl, ?_⟩
        cases hn1 : aL y1 with
        | true => exact bQ (fin (by rw [ea, hn1]) _ _ s4 l4 f4)
        | false => exact nQ (q1 (bad (ibad (by rw [ea, hn1]))) _ s4)
       ·rw [dF hz]
        have ea : rV z [ty1] = (Z3 z && aG y1) := by rw [hy1.nam]; exact if_neg hz
        refine bQ ⟨_, rfl, p, _, _, _, rfl, rfl, SqT.of hp4, rfl, sZ4, fun pq hpq => ?_⟩
        have k5 := kQ hpq (.tup [.str "take", .str "box", .str "down", .str "turn"])
        refine ⟨pq, _, rfl, .inr (SqT.of zQ), rfl, rfl, _, rfl, ?_⟩
        show if (!Z3 z) = true then _ else _
        have s5 := s4.trans k5
        cases hb : Z3 z with
        | false => exact nQ (q1 (bad (ibad (by rw [ea, hb]; rfl))) _ s5)
        | true =>
         refine bQ ⟨_, rfl, p, _, _, _, rfl, rfl, SqT.of (s5 p _ hp), rfl, y1, c1, rfl, jG s5 hc1, fun z' e => ?_, fun H6 s6 => ⟨_, rfl, ?_⟩⟩
         ·have := hy1.strLen e
          omega
         cases hn1 : aG y1 with
         | true => exact bQ (fin (by rw [ea, hb, hn1]; rfl) _ _ (s5.trans s6) (s6 lt _ (k5 lt _ l4)) (s6 lf _ (k5 lf _ f4)))
         | false => exact nQ (q1 (bad (ibad (by rw [ea, hb, hn1]; rfl))) _ (s5.trans s6))
      ·have ia : rV z (ty1 :: rs3) = false := by
        cases rs3 with
        | nil => exact absurd rfl hr3
        | cons _ _ => rfl
       rw [ia, if_neg Bool.false_ne_true] at ie
       refine V5 (fun el => hr3 ?_) (q1 (bad ie) _ s4)
       injection el with el
       rw [mk, List.length_cons, List.length_cons] at el
       have : rs3.length = 0 := by omega
       exact List.eq_nil_of_length_eq_zero this
end
end K06
namespace K06
open PySem L2
noncomputable def NL (H : Hp) (b : Addr) (l : List Str) : Prop := H b = some (.lst (l.map V.str))
theorem NL.same {H H' : Hp} {b : Addr} {l : List Str} (h : NL H b l) (s : Same H H') : NL H' b l := s _ _ h
inductive Isp3L (f : List Str → List Str → Tr → Bool) (vs : List V) (H : Hp) (Q : VK) : Prop
 | mk (v : V) (t : Tr) (b u : Addr) (bx tu : List Str) (z0 : vs = [v, .ref b, .ref u]) (z1 : Rep H v t) (z2 : t.w ≤ 90000) (z3 : NL H b bx) (z4 : NL H u tu) (z5 : ∀ H', Same H H' → Q (.bl (f bx tu t)) H') : Isp3L f vs H Q
noncomputable def Vj (f : List Str → List Str → Tr → Bool) : Sp := fun vs H Q _ => Isp3L f vs H Q
theorem Run.mem {st : List Tr} {r : Option (List Tr)} (h : Run st r) : ∀ ns, r = some ns → ∀ n ∈ ns, ∃ xs, inn n = some xs := by
 induction h with
 | nil => intro ns e n hn; cases e; cases hn
 | bad _ => intro ns e; cases e
 | @step st b xs r h1 h2 ih =>
  intro ns e n hn
  cases r with
  | none => cases e
  | some k =>
   cases e
   rcases List.mem_cons.mp hn with rfl | hn
   ·exact ⟨_, h1⟩
   ·exact ih _ rfl n hn
section
variable {P : Program} {w : World} {K : W.Frag} {mg : Str → Option Value} {base : Heap} {a : Adr}
theorem X1 (T : Txt P w K mg a) : FnOk P w K mg base CX0 3 a.uC a.xN ["_law_thing"] (sp1 isR) := by
 have S := kT
 have lS := pA (P := P) (w := w) (base := base) T
 refine T.mN.okJ kT (fun vs H Q E h => ?_) (fun cdv A outer s H vs Q E hr h => ?_)
 ·obtain ⟨v, t, rfl, _⟩ := h; rfl
 obtain ⟨v, t, rfl, hv, hn, q⟩ := h
 refine ⟨_, (wQ (kX (i := 1) S.nd rfl (Or.inl rfl) (mQ lS hr rfl T.QR T.k_l_nodes T.b_l_nodes .nil iQ (qQ (jv 0) jQ))) (uQ (pQ (lY (hV JC (jv 1) aZ (oQ _)) (bU (hV rD (gQ qX rfl T.aX rfl (qQ (jv 1) jQ)) xQ (oQ _))))))), ?_⟩
 refine ⟨_, rfl, v, t, rfl, hv, hn, fun e H' s' => ?_, fun ns e l ys H' s' hl hys => ?_⟩
 ·have q' := q H' s'
  have e2 : isR t = false := by unfold isR; rw [e]; rfl
  rw [e2] at q'
  exact ⟨_, rfl, rfl, _, rfl, bQ q'⟩
 ·have q' := q H' s'
  have hyl := hys.len
  have e2 : isR t = decide (((ys.length : Nat) : Int) ≤ 20) := by
   unfold isR
   rw [e, hyl]
   show decide ((0 : Int) + (ns.length : Nat) ≤ 20) = _
   congr 1
   exact propext ⟨fun h => by omega, fun h => by omega⟩
  rw [e2] at q'
  exact ⟨_, rfl, rfl, _, rfl, nQ ⟨_, rfl, _, _, rfl, .inl ⟨_, SqL.of hl, rfl⟩, _, _, rfl, rfl, q'⟩⟩
theorem V7 {t : Tr} (h : isR t = true) : ∃ ns, run t = some ns ∧ ns.length ≤ 20 := by
 unfold isR at h
 cases hr : run t with
 | none => rw [hr] at h; cases h
 | some ns =>
  rw [hr] at h
  have h : decide ((0 : Int) + (ns.length : Nat) ≤ 20) = true := h
  have := of_decide_eq_true h
  exact ⟨ns, rfl, by omega⟩
theorem Wh {bx tu : List Str} {t : Tr} (h : isR t = false) : rX bx tu t = false := by
 unfold rX
 unfold isR at h
 cases hr : run t with
 | none => rfl
 | some ns =>
  rw [hr] at h
  have h : decide ((0 : Int) + (ns.length : Nat) ≤ 20) = false := h
  have := of_decide_eq_false h
  show (decide (ns.length ≤ 20) && _) = false
  rw [decide_eq_false (by omega), Bool.false_and]
theorem KS {bx tu : List Str} {t : Tr} {ns : List Tr} (h : run t = some ns) (hl : ns.length ≤ 20) : rX bx tu t = ns.all (qK bx tu) := by
 unfold rX
 rw [h]
 show (decide (ns.length ≤ 20) && _) = _
 rw [decide_eq_true hl, Bool.true_and]
theorem lB (T : Txt P w K mg a) : FnOk P w K mg base CX0 4 a.rF a.qD ["_law_thing", "_law_boxes", "_law_turns"] (Vj rX) := by
 have S := bH
 have Jj := X1 (P := P) (w := w) (base := base) T
 have lS := (pA (P := P) (w := w) (base := base) T).mono (show 2 ≤ 3 by decide)
 refine T.kD.okJ bH (fun vs H Q E h => ?_) (fun cdv A outer s H vs Q E hr h => ?_)
 ·obtain ⟨v, t, b, u, bx, tu, rfl, _⟩ := h; rfl
 obtain ⟨v, t, b, u, bx, tu, rfl, hv, hn, hb, hu, q⟩ := h
 refine ⟨_, (wQ (zX (xX (jX (mQ Jj hr rfl T.Z6 T.k_l_is_sum T.b_l_is_sum .nil iQ (qQ (jv 0) jQ)))) (uQ (pQ fX)) tQ) (wQ (xY PassesOwn.never rfl (eO (mQ lS hr rfl T.QR T.k_l_nodes T.b_l_nodes .nil iQ (qQ (jv 0) jQ))) (pK (i := 3) S.nd rfl (Or.inl rfl)) (uQ (zX (iX (zZ (iX (jY (sQ wZ (cQ lQ (jv 3) xQ (fun _ _ => rfl)) aQ (oQ _)) (uV (sQ (cV (iG hr)) (cQ lQ (jv 3) xQ (fun _ _ => rfl)) (jv 1) rfl)))) (qZ (iX (jY (sQ wZ (cQ lQ (jv 3) xQ (fun _ _ => rfl)) aQ (oQ _)) (uV (sQ (cV (iG hr)) (cQ lQ (jv 3) xQ (fun _ _ => rfl)) (jv 2) rfl))))))) (uQ (pQ fX)) tQ))) (uQ (pQ fX)))), ?_⟩
 refine ⟨_, rfl, v, t, rfl, hv, by omega, fun H1 s1 => ⟨_, rfl, ?_⟩⟩
 cases hR : isR t with
 | false =>
  have q' := q H1 s1
  rw [Wh hR] at q'
  exact nQ q'
 | true =>
  obtain ⟨ns, hns, hle⟩ := V7 hR
  rw [KS hns hle] at q
  refine bQ ⟨_, rfl, v, t, rfl, hv.same s1, by omega, fun e => ?_, fun ns' e l ys H2 s2 hl hys => ?_⟩
  ·rw [hns] at e; cases e
  rw [hns] at e
  cases e
  have s12 := s1.trans s2
  have hyl := hys.len
  have hys := hys.same s2
  refine ⟨l, rfl, ⟨ys, SqL.of hl⟩, ?_⟩
  refine Wf (xs := ys) (fun i σ' H' => ∃ x3 : Option V, σ' = [some v, some (.ref b), some (.ref u), x3] ∧ H' = H2 ∧ (ns.take i).all (qK bx tu) = true) ⟨none, rfl, rfl, rfl⟩ ?_ ?_ ?_
  ·rintro i σ' H' _ ⟨x3, rfl, rfl, _⟩
   exact SqL.of hl
  ·rintro i x σ' H' hxi ⟨x3, rfl, rfl, hall⟩
   obtain ⟨tx, htx, hrx⟩ := hys.get hxi
   obtain ⟨xs, hin⟩ := (rH t).mem ns hns tx (List.mem_of_getElem? htx)
   obtain ⟨p, z, y, r, ty, rs, rfl, hp, rfl, hy⟩ := QW hrx hin
   obtain ⟨c, hc, _⟩ := hy.ty
   have hno : qK bx tu (.tup (.str z :: ty :: rs)) = ((!decide (z = "box") || iB bx ty) && (!decide (z = "turn") || iB tu ty)) := rfl
   have fin : (qK bx tu (.tup (.str z :: ty :: rs)) = false) → Q (.bl false) H' := fun hf => by
    have q' := q H' s12
    have e : ns.all (qK bx tu) = false := by
     rw [Bool.eq_false_iff]
     intro h
     have := List.all_eq_true.mp h _ (List.mem_of_getElem? htx)
     rw [hf] at this
     cases this
    rw [e] at q'
    exact q'
   have more : qK bx tu (.tup (.str z :: ty :: rs)) = true → (ns.take (i + 1)).all (qK bx tu) = true := fun h => by
    rw [List.take_succ, htx, List.all_append, hall, Bool.true_and]
    show (qK bx tu _ && true) = true
    rw [h]
    rfl
   refine ⟨_, rfl, p, _, _, _, rfl, rfl, SqT.of hp, at0 _ _, rfl, _, rfl, ?_⟩
   by_cases hz : z = "box"
   ·rw [dT hz]
    refine nQ ⟨_, rfl, p, _, _, _, rfl, rfl, SqT.of hp, at1 _ _ _, _, rfl, b, bx, c, rfl, .inl (SqL.of (hb.same s12)), hc, _, rfl, ?_⟩
    show if (!inS bx y) = true then _ else _
    rw [dB hy]
    have hz2 : ¬ z = "turn" := by rw [hz]; decide
    cases hi : iB bx ty with
    | false => exact nQ (fin (by rw [hno, decide_eq_true hz, hi]; rfl))
    | true =>
     refine bQ ⟨_, rfl, p, _, _, _, rfl, rfl, SqT.of hp, at0 _ _, rfl, _, rfl, ?_⟩
     rw [dF hz2]
     exact bQ ⟨_, rfl, rfl, more (by rw [hno, decide_eq_false hz2, hi, Bool.or_true]; rfl)⟩
   rw [dF hz]
   refine bQ ⟨_, rfl, p, _, _, _, rfl, rfl, SqT.of hp, at0 _ _, rfl, _, rfl, ?_⟩
   by_cases hz2 : z = "turn"
   ·rw [dT hz2]
    refine nQ ⟨_, rfl, p, _, _, _, rfl, rfl, SqT.of hp, at1 _ _ _, _, rfl, u, tu, c, rfl, .inl (SqL.of (hu.same s12)), hc, _, rfl, ?_⟩
    show if (!inS tu y) = true then _ else _
    rw [dB hy]
    cases hi : iB tu ty with
    | false => exact nQ (fin (by rw [hno, decide_eq_false hz, decide_eq_true hz2, hi]; rfl))
    | true => exact bQ ⟨_, rfl, rfl, more (by rw [hno, decide_eq_false hz, hi, Bool.or_true]; rfl)⟩
   ·rw [dF hz2]
    exact bQ ⟨_, rfl, rfl, more (by rw [hno, decide_eq_false hz, decide_eq_false hz2]; rfl)⟩
  ·rintro σ' H' ⟨x3, rfl, rfl, hall⟩
   rw [hyl, List.take_length] at hall
   have q' := q H' s12
   rw [hall] at q'
   exact q'
end
end K06
namespace K06
open PySem L2
theorem Qb {k : Nat} : ∀ (xs : List Tr) (seen : List Str), seen.Nodup → bnR k seen xs = (xs.all (kW k) && decide ((seen ++ xs.map nm).Nodup))
 | [], seen, h => by
  rw [List.map_nil, List.append_nil, decide_eq_true h]
  rfl
 | x :: r, seen, h => by
  rw [bnR, List.all_cons, List.map_cons]
  cases hb : kW k x with
  | false => rfl
  | true =>
   rw [Bool.true_and, Bool.true_and]
   cases hc : seen.contains (nm x) with
   | true =>
    have hm : nm x ∈ seen := by simpa using hc
    have hn : ¬ (seen ++ nm x :: r.map nm).Nodup := fun h => by
     rw [List.nodup_append] at h
     exact h.2.2 _ hm _ List.mem_cons_self rfl
    rw [decide_eq_false hn, Bool.and_false]
    rfl
   | false =>
    have hm : ¬ nm x ∈ seen := by simpa using hc
    have h2 : (seen ++ [nm x]).Nodup := by
     rw [List.nodup_append]
     refine ⟨h, by simp, fun a ha b hb e => ?_⟩
     subst e
     have hb : a = nm x := by simpa using hb
     rw [hb] at ha
     exact hm ha
    rw [Bool.not_false, Bool.true_and, Qb r _ h2, List.append_assoc]
    rfl
noncomputable def cB (bx tu : List Str) (x : Tr) : Bool := kW 2 x && rX bx tu (vH x)
noncomputable def iL (bx tu : List Str) (x : Tr) : Bool := kW 4 x && nY bx tu x
theorem qE (f g : Tr → Bool) : ∀ ts : List Tr, (ts.all f && ts.all g) = ts.all fun x => f x && g x
 | [] => rfl
 | x :: r => by
  rw [List.all_cons, List.all_cons, List.all_cons, ← qE f g r]
  cases f x <;> cases g x <;> cases r.all f <;> cases r.all g <;> rfl
theorem dR (bx tu : List Str) (ts : List Tr) : pZ bx tu (.tup ts) = (ts.all (cB bx tu) && decide ((ts.map nm).Nodup)) := by
 show (bnR 2 [] ts && ts.all fun x => rX bx tu (vH x)) = _
 rw [Qb ts [] List.nodup_nil, List.nil_append, Bool.and_assoc, Bool.and_comm (decide _), ← Bool.and_assoc, qE]
 rfl
theorem QY (bx tu : List Str) (ts : List Tr) : pG bx tu (.tup ts) = (ts.all (iL bx tu) && decide ((ts.map nm).Nodup)) := by
 show (bnR 4 [] ts && ts.all (nY bx tu)) = _
 rw [Qb ts [] List.nodup_nil, List.nil_append, Bool.and_assoc, Bool.and_comm (decide _), ← Bool.and_assoc, qE]
 rfl
theorem Wc {f : Tr → Bool} {k : Nat} (h : ∀ x, f x = true → k ≤ x.w) : ∀ ts : List Tr, ts.all f = true → k * ts.length ≤ wL ts
 | [], _ => by rw [wL]; exact Nat.le_refl _
 | x :: r, ha => by
  rw [List.all_cons, Bool.and_eq_true] at ha
  have h1 := h x ha.1
  have h2 := Wc h r ha.2
  rw [List.length_cons, yQ, Nat.mul_succ]
  omega
theorem fits_w {bx tu : List Str} {s : Tr} (h : rX bx tu s = true) : 12 ≤ s.w := by
 cases hi : inn s with
 | none =>
  exfalso
  unfold rX at h
  have hr : run s = none := by
   rcases (rH s).at_snoc (L := []) (b := s) rfl with ⟨_, e⟩ | ⟨xs, r', h1, _⟩
   ·exact e
   ·rw [hi] at h1; cases h1
  rw [hr] at h
  cases h
 | some xs =>
  cases s with
  | tup ys =>
   have hi : bO ys = some xs := hi
   cases ys with
   | nil => cases hi
   | cons y r =>
    cases hS : y.isStr with
    | false => rw [dC hS] at hi; cases hi
    | true =>
     cases y with
     | str z =>
      obtain ⟨y', r', rfl⟩ := fI hi
      rw [eX, yQ, yQ, bY]
      have := y'.pos
      omega
     | _ => cases hS
  | _ => cases hi
theorem pair_w {bx tu : List Str} (x : Tr) (h : cB bx tu x = true) : 24 ≤ x.w := by
 unfold cB at h
 rw [Bool.and_eq_true] at h
 have hf := fits_w h.2
 cases x with
 | tup xs =>
  cases xs with
  | nil => cases h.1
  | cons n r =>
   have h1 : (decide (r.length + 1 = 2) && xZ n) = true := h.1
   rw [Bool.and_eq_true] at h1
   have hl := of_decide_eq_true h1.1
   obtain ⟨z, rfl⟩ := aW h1.2
   match r, hl with
   | [s], _ =>
    have hf : 12 ≤ s.w := hf
    rw [eX, yQ, yQ, bY, wL]
    have hz : aG (.str z) = true := h1.2
    rw [jU, Bool.and_eq_true, Bool.and_eq_true] at hz
    have := of_decide_eq_true hz.1.1
    omega
 | _ => cases h.1
theorem hand_w {bx tu : List Str} (x : Tr) (h : iL bx tu x = true) : 24 ≤ x.w := by
 unfold iL at h
 rw [Bool.and_eq_true] at h
 cases x with
 | tup xs =>
  cases xs with
  | nil => cases h.1
  | cons n r =>
   have h1 : (decide (r.length + 1 = 4) && xZ n) = true := h.1
   rw [Bool.and_eq_true] at h1
   have hl := of_decide_eq_true h1.1
   obtain ⟨z, rfl⟩ := aW h1.2
   match r, hl, h.2 with
   | [a, b, c], _, h2 =>
    cases c with
    | tup cs =>
     rw [eX, yQ, yQ, yQ, yQ, bY, eX, wL]
     have hz : aG (.str z) = true := h1.2
     rw [jU, Bool.and_eq_true, Bool.and_eq_true] at hz
     have := of_decide_eq_true hz.1.1
     have := a.pos
     have := b.pos
     omega
    | _ => cases h2
 | _ => cases h.1
theorem rO {f : Tr → Bool} {ts : List Tr} {i : Nat} {t : Tr} (h : ts[i]? = some t) (e : f t = false) : ts.all f = false := by
 rw [Bool.eq_false_iff]
 intro h2
 have := List.all_eq_true.mp h2 t (List.mem_of_getElem? h)
 rw [e] at this
 cases this
theorem jR {f : Tr → Bool} {ts : List Tr} {i : Nat} {t : Tr} (h : ts[i]? = some t) (h1 : (ts.take i).all f = true) (e : f t = true) : (ts.take (i + 1)).all f = true := by
 rw [List.take_succ, h, List.all_append, h1, Bool.true_and]
 show (f t && true) = true
 rw [e]
 rfl
section
variable {P : Program} {w : World} {K : W.Frag} {mg : Str → Option Value} {base : Heap} {a : Adr}
theorem mL (T : Txt P w K mg a) : FnOk P w K mg base CX0 5 a.yB a.zM ["_law_thing", "_law_boxes", "_law_turns"] (Vj pZ) := by
 have S := zL
 have big : (1000000 : Nat) < sizeLine := by decide
 have mJ := (iW (P := P) (w := w) (base := base) T).mono (show 1 ≤ 4 by decide)
 have cK := lB (P := P) (w := w) (base := base) T
 refine T.mM.okJ zL (fun vs H Q E h => ?_) (fun cdv A outer s H vs Q E hr h => ?_)
 ·obtain ⟨v, t, b, u, bx, tu, rfl, _⟩ := h; rfl
 obtain ⟨v, t, b, u, bx, tu, rfl, hv, hn, hb, hu, q⟩ := h
 refine ⟨_, (wQ (zX (xX (jX (gQ eQ rfl T.rQ rfl (qQ (jv 0) (qQ (wX rfl T.tX (v := .ty "tuple") rfl rfl) jQ))))) (uQ (pQ fX)) tQ) (wQ (xY PassesOwn.never rfl (dJ (jv 0)) (pK (i := 3) S.nd rfl (Or.inl rfl)) (wQ (zX (iX (zZ (xX (jX (gQ eQ rfl T.rQ rfl (qQ (jv 3) (qQ (wX rfl T.tX (v := .ty "tuple") rfl rfl) jQ))))) (zZ (sQ lD (gQ qX rfl T.aX rfl (qQ (jv 3) jQ)) xQ (oQ _)) (qZ (xX (jX (mQ mJ hr rfl T.lV T.k_l_is_name T.b_l_is_name .nil iQ (qQ (cQ lQ (jv 3) xQ (fun _ _ => rfl)) jQ)))))))) (uQ (pQ fX)) tQ) (uQ (zX (xX (jX (mQ cK hr rfl T.iV T.k_l_sum_fits T.b_l_sum_fits .nil iQ (qQ (cQ lQ (jv 3) xQ (fun _ _ => rfl)) (qQ (jv 1) (qQ (jv 2) jQ)))))) (uQ (pQ fX)) tQ)))) (uQ (VZ 3 (pQ (hV wZ (gQ fS rfl T.aX rfl (qQ (mZ (mS rfl) rfl T.K6 rfl (qQ (JQ 3 (vY rfl (show (["_law_one", "_law_thing", "_law_boxes", "_law_turns", "?"] : List Str).Nodup by decide +kernel) (gV (N := ["_law_thing", "_law_boxes", "_law_turns", "?"]) rfl (by with_unfolding_all rfl) (by decide +kernel)) (dJ (jv 0)) (fun _ _ _ _ => xK) (fun _ _ _ _ => (cQ (r := zC K) lQ (jv 0) xQ (fun _ _ => rfl))))) jQ)) jQ)) (gQ qX rfl T.aX rfl (qQ (jv 0) jQ)) (oQ _))))))), ?_⟩
 obtain ⟨ty, hty, htt, _, _⟩ := hv.ty
 refine ⟨_, rfl, v, .tup, ty, rfl, hty, _, rfl, ?_⟩
 rw [htt]
 cases hT : t.isTup with
 | false =>
  have q' := q H (Same.refl H)
  rw [show pZ bx tu t = false by cases t <;> first | rfl | cases hT] at q'
  exact nQ q'
 | true =>
 obtain ⟨p, xs, ts, rfl, rfl, hp, hx⟩ := nK hv hT
 rw [eX] at hn
 rw [dR] at q
 have hlx := hx.len
 have hwl := kJ ts
 refine bQ ⟨_, rfl, p, rfl, ⟨xs, SqT.of hp⟩, ?_⟩
 refine bW (xs := xs) (fun i σ' H' => ∃ x3 : Option V, σ' = [some (.ref p), some (.ref b), some (.ref u), x3] ∧ Same H H' ∧ (ts.take i).all (cB bx tu) = true) ⟨none, rfl, Same.refl H, rfl⟩ ?_ ?_ ?_
 ·rintro i σ' H' _ ⟨x3, rfl, s1, _⟩
  exact SqT.of (s1 p _ hp)
 ·rintro i x σ' H1 hxi ⟨x3, rfl, s1, hall⟩
  obtain ⟨tx, htx, hrx⟩ := hx.get hxi
  have wx := bV htx
  have no : ∀ H3, Same H H3 → cB bx tu tx = false → Q (.bl false) H3 := fun H3 s3 e => by
   have q' := q H3 s3
   rw [rO htx e, Bool.false_and] at q'
   exact q'
  obtain ⟨c, hc, hct, _, _⟩ := (hrx.same s1).ty
  refine ⟨_, rfl, x, .tup, c, rfl, hc, _, rfl, ?_⟩
  rw [hct]
  cases hT2 : tx.isTup with
  | false => exact nQ (no _ s1 (by cases tx <;> first | rfl | cases hT2))
  | true =>
  obtain ⟨p2, vs2, ts2, rfl, rfl, hp2, hx2⟩ := nK hrx hT2
  rw [eX] at wx
  refine bQ ⟨_, rfl, _, _, rfl, .inr ⟨_, SqT.of (s1 p2 _ hp2), rfl⟩, rfl, _, rfl, ?_⟩
  have l2 := hx2.len
  by_cases hl : ts2.length = 2
  ·obtain ⟨y, z', ty1, tz, rfl, rfl, hy, hz⟩ := hx2.two hl
   rw [yQ, yQ] at wx
   obtain ⟨c2, hc2, _⟩ := (hy.same s1).ty
   have eb : cB bx tu (.tup [ty1, tz]) = (xZ ty1 && rX bx tu tz) := rfl
   refine bQ ⟨_, rfl, p2, _, _, _, rfl, rfl, SqT.of (s1 p2 _ hp2), at0 _ _, y, c2, rfl, hc2, fun z' e => ?_, fun H3 s3 => ⟨_, rfl, ?_⟩⟩
   ·have := hy.strLen e
    omega
   rw [hy.nam]
   have s13 := s1.trans s3
   cases hN : xZ ty1 with
   | false => exact nQ (no _ s13 (by rw [eb, hN, Bool.false_and]))
   | true =>
   refine bQ ⟨_, rfl, p2, _, _, _, rfl, rfl, SqT.of (s13 p2 _ hp2), at1 _ _ _, _, rfl, _, rfl, z', tz, b, u, bx, tu, rfl, hz.same s13, by omega, hb.same s13, hu.same s13, fun H4 s4 => ⟨_, rfl, ?_⟩⟩
   cases hF : rX bx tu tz with
   | false => exact nQ (no _ (s13.trans s4) (by rw [eb, hF, Bool.and_false]))
   | true => exact bQ ⟨_, rfl, s13.trans s4, jR htx hall (by rw [eb, hN, hF]; rfl)⟩
  ·rw [decide_eq_false (fun e => hl (by injection e with e; omega))]
   refine nQ (no _ s1 ?_)
   have e : kW 2 (.tup ts2) = false := by
    cases ts2 with
    | nil => rfl
    | cons y r =>
     show (decide (r.length + 1 = 2) && xZ y) = false
     rw [decide_eq_false (by rw [List.length_cons] at hl; omega), Bool.false_and]
   unfold cB
   rw [e, Bool.false_and]
 ·rintro σ' HE ⟨x3, rfl, sE, hall⟩
  rw [hlx, List.take_length] at hall
  have hcount := Wc (k := 24) pair_w ts hall
  refine ⟨fun v e => (nomatch e), _, rfl, p, rfl, ⟨xs, SqT.of (sE p _ hp)⟩, fun D hD => ?_⟩
  refine ⟨fun i m ys H' => m = xs.length - i ∧ i ≤ xs.length ∧ H' = upd HE D (.lst ys) ∧ ys = (ts.take i).map (fun x => V.str (nm x)), ⟨xs.length, by simp, Nat.zero_le _, rfl, rfl⟩, ?_⟩
  rintro i m ys H' ⟨rfl, hi, rfl, rfl⟩
  have sD := kQ hD (.lst ((ts.take i).map (fun x => V.str (nm x))))
  by_cases hlt : i < xs.length
  ·refine .inr ⟨⟨xs, xs[i], SqT.of (sD p _ (sE p _ hp)), List.getElem?_eq_getElem hlt⟩, ?_⟩
   rintro x' H'' ⟨rfl, hxi⟩
   have hxi := hxi xs (SqT.of (sD p _ (sE p _ hp)))
   obtain ⟨tx, htx, hrx⟩ := hx.get hxi
   have hbt : kW 2 tx = true := by
    have := List.all_eq_true.mp hall tx (List.mem_of_getElem? htx)
    unfold cB at this
    rw [Bool.and_eq_true] at this
    exact this.1
   obtain ⟨p2, z, r, rs, rfl, hp2, rfl, _, _⟩ := cJ hrx hbt
   refine ⟨_, rfl, p2, _, _, _, rfl, rfl, SqT.of (sD p2 _ (sE p2 _ hp2)), at0 _ _, ?_⟩
   exact ⟨zQ, by rw [List.length_map, List.length_take]; omega, xs.length - (i + 1), by omega, rfl, hlt, sV, (map_take (f := fun x => V.str (nm x)) htx).symm⟩
  ·have ei : i = xs.length := by omega
   subst ei
   rw [hlx, List.take_length] at sD ⊢
   refine .inl ⟨⟨xs, SqT.of (sD p _ (sE p _ hp)), by omega⟩, D, ts.map nm, rfl, SqL.of (by rw [zQ, List.map_map]; rfl), by rw [List.length_map]; omega, fun d hd => ?_⟩
   have sd := kQ hd (.ext (tL d (yH (ts.map nm))))
   have sF := (sE.trans sD).trans sd
   refine ⟨d, _, rfl, zQ, _, rfl, _, _, rfl, .inr ⟨_, SqT.of (sF p _ hp), rfl⟩, rfl, ?_⟩
   have q' := q _ sF
   rw [hall, Bool.true_and] at q'
   have e : decide (V.int ((yH (ts.map nm) : Nat) : Int) = V.int ((xs.length : Nat) : Int)) = decide ((ts.map nm).Nodup) := by
    congr 1
    rw [← Xx, List.length_map, hlx]
    exact propext ⟨fun h => by injection h with h; exact Int.ofNat.inj h, fun h => by rw [h]⟩
   rw [e]
   exact q'
theorem rR (T : Txt P w K mg a) : FnOk P w K mg base CX0 5 a.iY a.cG ["_law_thing", "_law_boxes", "_law_turns"] (Vj rK) := by
 have S := tM
 have cK := lB (P := P) (w := w) (base := base) T
 refine T.tG.okJ tM (fun vs H Q E h => ?_) (fun cdv A outer s H vs Q E hr h => ?_)
 ·obtain ⟨v, t, b, u, bx, tu, rfl, _⟩ := h; rfl
 obtain ⟨v, t, b, u, bx, tu, rfl, hv, hn, hb, hu, q⟩ := h
 refine ⟨_, (wQ (zX (iX (zZ (xX (jX (gQ eQ rfl T.rQ rfl (qQ (jv 0) (qQ (wX rfl T.tX (v := .ty "tuple") rfl rfl) jQ))))) (zZ (sQ lD (gQ qX rfl T.aX rfl (qQ (jv 0) jQ)) xQ (oQ _)) (qZ (sQ (cV (iG hr)) (cQ lQ (jv 0) xQ (fun _ _ => rfl)) (jv 1) rfl))))) (uQ (pQ fX)) tQ) (uQ (pQ (lY (hV (xC (iG hr)) (cQ lQ (jv 0) xQ (fun _ _ => rfl)) (yX (qQ aQ (qQ aQ (qQ aQ jQ)))) rfl) (bU (mQ cK hr rfl T.iV T.k_l_sum_fits T.b_l_sum_fits .nil iQ (qQ (cQ lQ (jv 0) xQ (fun _ _ => rfl)) (qQ (jv 1) (qQ (jv 2) jQ))))))))), ?_⟩
 have q0 := q H (Same.refl H)
 obtain ⟨ty, hty, htt, _, _⟩ := hv.ty
 refine ⟨_, rfl, v, .tup, ty, rfl, hty, _, rfl, ?_⟩
 rw [htt]
 cases hT : t.isTup with
 | false =>
  rw [show rK bx tu t = false by cases t <;> first | rfl | cases hT] at q0
  exact nQ q0
 | true =>
 obtain ⟨p, xs, ts, rfl, rfl, hp, hx⟩ := nK hv hT
 rw [eX] at hn
 refine bQ ⟨_, rfl, _, _, rfl, .inr ⟨_, SqT.of hp, rfl⟩, rfl, _, rfl, ?_⟩
 have hlen := hx.len
 by_cases hl : ts.length = 3
 ·obtain ⟨x, y, z, tx, ty', tz, rfl, rfl, hx1, hy1, hz1⟩ := hx.three hl
  obtain ⟨c1, hc1, _⟩ := hx1.ty
  obtain ⟨c2, hc2, _⟩ := hy1.ty
  rw [yQ, yQ, yQ] at hn
  have e0 : rK bx tu (.tup [tx, ty', tz]) = (iB bx tx && (iB XB ty' && rX bx tu tz)) := rfl
  refine bQ ⟨_, rfl, p, _, _, _, rfl, rfl, SqT.of hp, at0 _ _, _, rfl, b, bx, c1, rfl, .inl (SqL.of hb), hc1, _, rfl, ?_⟩
  show if (!inS bx x) = true then _ else _
  rw [dB hx1]
  cases h1 : iB bx tx with
  | false =>
   rw [e0, h1, Bool.false_and] at q0
   exact nQ q0
  | true =>
   refine bQ ⟨_, rfl, p, _, _, _, rfl, rfl, SqT.of hp, at1 _ _ _, sZ3, fun pc hpc => ?_⟩
   have sc := kQ hpc (.tup [.str "set", .str "add", .str "times"])
   refine ⟨pc, XB, c2, rfl, .inr (SqT.of zQ), jG sc hc2, _, rfl, ?_⟩
   show if inS XB y = true then _ else _
   rw [dB hy1]
   cases h2 : iB XB ty' with
   | false =>
    have q' := q _ sc
    rw [e0, h1, h2, Bool.false_and, Bool.true_and] at q'
    exact bQ q'
   | true =>
    rw [e0, h1, h2, Bool.true_and, Bool.true_and] at q
    exact nQ ⟨_, rfl, p, _, _, _, rfl, rfl, SqT.of (sc p _ hp), at2 _ _ _ _, _, rfl, _, rfl, z, tz, b, u, bx, tu, rfl, hz1.same sc, by omega, hb.same sc, hu.same sc, fun H3 s3 => q _ (sc.trans s3)⟩
 ·have e : rK bx tu (.tup ts) = false := by
   match ts, hl with
   | [], _ => rfl
   | [_], _ => rfl
   | [_, _], _ => rfl
   | [_, _, _], h => exact absurd rfl h
   | _ :: _ :: _ :: _ :: _, _ => rfl
  rw [e] at q0
  rw [decide_eq_false (fun e => hl (by injection e with e; omega))]
  exact nQ q0
end
end K06
namespace K06
open PySem L2
noncomputable def iC (x : Tr) : Bool := kW 2 x && nM (vH x)
theorem dS (ts : List Tr) : pW (.tup ts) = (decide (ts.length ≤ 4) && (ts.all iC && decide ((ts.map nm).Nodup))) := by
 show (bnR 2 [] ts && (decide (ts.length ≤ 4) && ts.all fun x => nM (vH x))) = _
 rw [Qb ts [] List.nodup_nil, List.nil_append]
 have e : ts.all iC = (ts.all (kW 2) && ts.all fun x => nM (vH x)) := by rw [qE]; rfl
 rw [e]
 cases ts.all (kW 2) <;> cases decide ((ts.map nm).Nodup) <;> cases decide (ts.length ≤ 4) <;> cases (ts.all fun x => nM (vH x)) <;> rfl
end K06
namespace K06
open PySem L2
noncomputable def uU (l : Tr) (g : Str) : Prop := ∃ k x, l = .tup [.str "part", k, .str g, x]
inductive jB : Tr → Str → Prop
 | here {ls l g} : l ∈ ls → uU l g → jB (.tup ls) g
 | within {ls l x g} : l ∈ ls → x ∈ yW l → jB x g → jB (.tup ls) g
noncomputable def LG (l : Tr) (g : Str) : Prop := uU l g ∨ ∃ x, x ∈ yW l ∧ jB x g
theorem wY {ls : List Tr} {g : Str} : jB (.tup ls) g ↔ ∃ l, l ∈ ls ∧ LG l g := by
 constructor
 ·intro h
  cases h with
  | here h1 h2 => exact ⟨_, h1, .inl h2⟩
  | within h1 h2 h3 => exact ⟨_, h1, .inr ⟨_, h2, h3⟩⟩
 ·rintro ⟨l, h1, h2 | ⟨x, h2, h3⟩⟩
  ·exact .here h1 h2
  ·exact .within h1 h2 h3
inductive Q3 (bx : List Str) : Tr → Prop
 | mk {ls : List Tr} (tu : List Str) : (∀ l ∈ ls, yV bx tu l = true) → (∀ l ∈ ls, ∀ x ∈ yW l, Q3 bx x) → Q3 bx (.tup ls)
theorem Walk.rows {bx : List Str} {st : List Pl} {r : Option Nat} (h : Walk bx st r) : r ≠ none → ∀ p ∈ st, Q3 bx p.1 := by
 induction h with
 | nil => intro _ p hp; cases hp
 | bad _ => intro h; exact absurd rfl h
 | @step st p r h1 h2 ih =>
  intro hr q hq
  have hr' : r ≠ none := fun e => hr (by rw [e]; rfl)
  have ih := ih hr'
  rcases List.mem_append.mp hq with hq | hq
  ·exact ih q (List.mem_append_left _ hq)
  ·have e : q = p := by simpa using hq
   subst e
   obtain ⟨row, d, tu⟩ := q
   cases row with
   | tup ls =>
    have h1 : ((ls.isEmpty || decide (d < 6)) && ls.all (yV bx tu)) = true := h1
    rw [Bool.and_eq_true] at h1
    refine .mk tu (fun l hl => List.all_eq_true.mp h1.2 l hl) fun l hl x hx => ?_
    exact ih (x, d + 1, tuL tu l) (List.mem_append_right _ (List.mem_flatMap.mpr ⟨l, hl, List.mem_map.mpr ⟨x, hx, rfl⟩⟩))
   | _ => cases h1
theorem Jx {bx : List Str} {t : Tr} (h : sK bx t = true) : Q3 bx t := by
 have hw := pO bx t
 refine hw.rows (fun e => ?_) (t, 0, []) List.mem_cons_self
 unfold sK at h
 rw [e] at h
 cases h
open Classical in
noncomputable def qG (ns : List Str) (t : Tr) : Bool := decide (∀ g, jB t g → g ∈ ns)
theorem bG {ns : List Str} {t : Tr} : qG ns t = true ↔ ∀ g, jB t g → g ∈ ns := by
 classical
 unfold qG
 exact decide_eq_true_iff
theorem Jd {ns : List Str} {t : Tr} (h : ¬ ∀ g, jB t g → g ∈ ns) : qG ns t = false := by
 rw [Bool.eq_false_iff]
 exact fun e => h (bG.mp e)
noncomputable def GInv (t : Tr) (ps : List Pl) (gY : List Tr) (gs : List Str) : Prop := ∀ x, (x ∈ gs ∨ (∃ p, p ∈ ps ∧ jB p.1 x) ∨ ∃ l, l ∈ gY ∧ LG l x) ↔ jB t x
section
variable {t l : Tr} {ps us : List Pl} {gY ts : List Tr} {gs : List Str} {d : Nat} {tu : List Str}
theorem GInv.start : GInv t [(t, 0, [])] [] [] := fun x => by
 constructor
 ·rintro (h | ⟨p, hp, h⟩ | ⟨l, hl, _⟩)
  ·cases h
  ·have e : p = (t, 0, []) := by simpa using hp
   subst e
   exact h
  ·cases hl
 ·exact fun h => .inr (.inl ⟨_, List.mem_cons_self, h⟩)
theorem GInv.done (h : GInv t [] [] gs) : ∀ x, x ∈ gs ↔ jB t x := fun x => by
 rw [← h x]
 constructor
 ·exact .inl
 ·rintro (h | ⟨p, hp, _⟩ | ⟨l, hl, _⟩)
  ·exact h
  ·cases hp
  ·cases hl
theorem GInv.pop (h : GInv t (us ++ [(.tup ts, d, tu)]) [] gs) : GInv t us ts gs := fun x => by
 rw [← h x]
 constructor
 ·rintro (h | ⟨p, hp, h⟩ | h)
  ·exact .inl h
  ·exact .inr (.inl ⟨p, List.mem_append_left _ hp, h⟩)
  ·exact .inr (.inl ⟨_, List.mem_append_right _ List.mem_cons_self, wY.mpr h⟩)
 ·rintro (h | ⟨p, hp, h⟩ | ⟨l, hl, _⟩)
  ·exact .inl h
  ·rcases List.mem_append.mp hp with hp | hp
   ·exact .inr (.inl ⟨p, hp, h⟩)
   ·have e : p = (.tup ts, d, tu) := by simpa using hp
    subst e
    exact .inr (.inr (wY.mp h))
  ·cases hl
theorem GInv.part {k x : Tr} {g : Str} (e : l = .tup [.str "part", k, .str g, x]) (h : GInv t ps (l :: gY) gs) : GInv t ps gY (gs ++ [g]) := fun y => by
 have e0 : yW l = [] := by
  rw [e]
  show (if ("part" : Str) = "when" then [Tr.str g, x] else if ("part" : Str) = "each" then [x] else []) = []
  rw [if_neg (by decide), if_neg (by decide)]
 have eL : LG l y ↔ y = g := by
  constructor
  ·rintro (⟨k', x', e'⟩ | ⟨z, hz, _⟩)
   ·rw [e] at e'
    injection e' with e'
    injection e' with _ e'
    injection e' with _ e'
    injection e' with e' _
    injection e' with e'
    exact e'.symm
   ·rw [e0] at hz; cases hz
  ·rintro rfl
   exact .inl ⟨k, x, e⟩
 rw [← h y, List.mem_append, List.mem_singleton]
 constructor
 ·rintro ((h | h) | h | ⟨l', hl, h⟩)
  ·exact .inl h
  ·exact .inr (.inr ⟨l, List.mem_cons_self, eL.mpr h⟩)
  ·exact .inr (.inl h)
  ·exact .inr (.inr ⟨l', List.mem_cons_of_mem _ hl, h⟩)
 ·rintro (h | h | ⟨l', hl, h⟩)
  ·exact .inl (.inl h)
  ·exact .inr (.inl h)
  ·rcases List.mem_cons.mp hl with e' | hl
   ·rw [e'] at h
    exact .inl (.inr (eL.mp h))
   ·exact .inr (.inr ⟨l', hl, h⟩)
theorem GInv.line (no : ∀ g, ¬ uU l g) (h : GInv t ps (l :: gY) gs) : GInv t (ps ++ dX d tu l) gY gs := fun y => by
 rw [← h y]
 constructor
 ·rintro (h | ⟨p, hp, h⟩ | ⟨l', hl, h⟩)
  ·exact .inl h
  ·rcases List.mem_append.mp hp with hp | hp
   ·exact .inr (.inl ⟨p, hp, h⟩)
   ·obtain ⟨x, hx, rfl⟩ := List.mem_map.mp hp
    exact .inr (.inr ⟨l, List.mem_cons_self, .inr ⟨x, hx, h⟩⟩)
  ·exact .inr (.inr ⟨l', List.mem_cons_of_mem _ hl, h⟩)
 ·rintro (h | ⟨p, hp, h⟩ | ⟨l', hl, h⟩)
  ·exact .inl h
  ·exact .inr (.inl ⟨p, List.mem_append_left _ hp, h⟩)
  ·rcases List.mem_cons.mp hl with e' | hl
   ·rw [e'] at h
    rcases h with h | ⟨x, hx, h⟩
    ·exact absurd h (no _)
    ·exact .inr (.inl ⟨_, List.mem_append_right _ (List.mem_map.mpr ⟨x, hx, rfl⟩), h⟩)
   ·exact .inr (.inr ⟨l', hl, h⟩)
end
theorem yG {z : Str} {rs : List Tr} (h : ¬ z = "part") : ∀ g, ¬ uU (.tup (.str z :: rs)) g := fun g ⟨k, x, e⟩ => by
 injection e with e
 injection e with e _
 injection e with e
 exact h e
noncomputable def qU : Tr → Tr
 | .tup [_, _, _, l] => l
 | _ => .non
noncomputable def gk (ts : List Tr) (k : Nat) : Bool := qG ((ts.map nm).drop (k + 1)) (qU (ts[k]?.getD .non))
noncomputable def rY : Tr → Bool
 | .tup ts => (decide (1 ≤ ts.length) && decide (ts.length ≤ 6)) && (ts.all jJ && (decide ((ts.map nm).Nodup) && (List.range ts.length).all (gk ts)))
 | _ => false
theorem vU {t : Tr} (h : jJ t = true) : kW 4 t = true := by
 cases t with
 | tup xs =>
  match xs, h with
  | [n, b, w, l], h =>
   have h : (xZ n && (pW b && ((pZ (uY b) [] w && decide (uO w ≤ 4)) && sK (uY b) l))) = true := h
   rw [Bool.and_eq_true] at h
   show (decide (3 + 1 = 4) && xZ n) = true
   rw [h.1]
   rfl
 | _ => cases h
theorem zA {n b w l : Tr} (h : jJ (.tup [n, b, w, l]) = true) : sK (uY b) l = true := by
 have h : (xZ n && (pW b && ((pZ (uY b) [] w && decide (uO w ≤ 4)) && sK (uY b) l))) = true := h
 rw [Bool.and_eq_true, Bool.and_eq_true, Bool.and_eq_true] at h
 exact h.2.2.2
theorem begs_eq {ts : List Tr} (h : ts.all jJ = true) : fY 4 (.tup ts) = decide ((ts.map nm).Nodup) := by
 show bnR 4 [] ts = _
 rw [Qb ts [] List.nodup_nil, List.nil_append, show ts.all (kW 4) = true from List.all_eq_true.mpr fun t ht => vU (List.all_eq_true.mp h t ht), Bool.true_and]
theorem cI {ns : List Str} {k : Nat} {z : Str} (h : ns.Nodup) (e : ns[k]? = some z) : ∀ m, m < k → ns[m]? ≠ some z := by
 intro m hm e2
 obtain ⟨h1, h2⟩ := List.getElem?_eq_some_iff.mp e
 obtain ⟨h3, h4⟩ := List.getElem?_eq_some_iff.mp e2
 have := List.pairwise_iff_getElem.mp h m k h3 h1 hm
 exact this (h4.trans h2.symm)
inductive OkPs (bx : List Str) : List Pl → Nat → Prop
 | nil : OkPs bx [] 0
 | cons {p ps a b} : yU bx p = true → OkPs bx (QX p) a → OkPs bx ps b → OkPs bx (p :: ps) (JK p + a + b)
section
variable {bx : List Str} {xs ys st : List Pl} {p : Pl} {a b n d : Nat} {tu : List Str}
theorem OkPs.cast (h : OkPs bx xs a) (e : a = b) : OkPs bx xs b := e ▸ h
theorem OkPs.append (h : OkPs bx xs a) (h2 : OkPs bx ys b) : OkPs bx (xs ++ ys) (a + b) := by
 induction xs generalizing a with
 | nil => cases h; exact h2.cast (by omega)
 | cons x r ih =>
  cases h with
  | cons h1 h3 h4 => exact (OkPs.cons h1 h3 (ih h4)).cast (by omega)
theorem OkPs.snoc (h : OkPs bx (st ++ [p]) n) : ∃ a b, yU bx p = true ∧ OkPs bx (QX p) a ∧ OkPs bx st b ∧ n = b + (JK p + a) := by
 induction st generalizing n with
 | nil =>
  cases h with
  | cons h1 h3 h4 => cases h4; exact ⟨_, 0, h1, h3, .nil, by omega⟩
 | cons x r ih =>
  cases h with
  | cons h1 h3 h4 =>
   obtain ⟨a', b', k1, k2, k3, k4⟩ := ih h4
   exact ⟨a', _, k1, k2, .cons h1 h3 k3, by omega⟩
theorem Walk.of_ok {r : Option Nat} (h : Walk bx st r) : ∀ n, OkPs bx st n → r = some n := by
 induction h with
 | nil => intro n h; cases h; rfl
 | bad h1 =>
  intro n h
  obtain ⟨_, _, k1, _⟩ := h.snoc
  rw [h1] at k1
  cases k1
 | step h1 h2 ih =>
  intro n h
  obtain ⟨a', b', k1, k2, k3, k4⟩ := h.snoc
  rw [ih _ (k3.append k2), k4]
  show some (b' + a' + _) = some _
  congr 1
  omega
theorem VW {t : Tr} (h : OkPs bx [(t, 0, [])] n) (hn : n ≤ 30) : sK bx t = true := by
 have e := (pO bx t).of_ok n h
 unfold sK
 rw [e]
 exact decide_eq_true (by show (0 : Int) + ((n : Nat) : Int) ≤ 30; omega)
noncomputable def XF (bx : List Str) (d : Nat) (tu : List Str) (l : Tr) (a : Nat) : Prop := yV bx tu l = true ∧ OkPs bx (dX d tu l) a
inductive LinesOk (bx : List Str) (d : Nat) (tu : List Str) : List Tr → Nat → Prop
 | nil : LinesOk bx d tu [] 0
 | cons {l ls a b} : XF bx d tu l a → LinesOk bx d tu ls b → LinesOk bx d tu (l :: ls) (1 + a + b)
theorem LinesOk.one {l : Tr} (h : XF bx d tu l a) : LinesOk bx d tu [l] (1 + a) := .cons h .nil
theorem LinesOk.append {ls ms : List Tr} (h : LinesOk bx d tu ls a) (h2 : LinesOk bx d tu ms b) : LinesOk bx d tu (ls ++ ms) (a + b) := by
 induction ls generalizing a with
 | nil =>
  cases h
  have e : b = 0 + b := by omega
  rw [← e]
  exact h2
 | cons x r ih =>
  cases h with
  | @cons _ _ a' b' h1 h3 =>
   have e : 1 + a' + b' + b = 1 + a' + (b' + b) := by omega
   rw [e]
   exact .cons h1 (ih h3)
theorem LinesOk.all {ls : List Tr} (h : LinesOk bx d tu ls n) : ls.all (yV bx tu) = true ∧ ∃ m, OkPs bx (ls.flatMap (dX d tu)) m ∧ n = ls.length + m := by
 induction h with
 | nil => exact ⟨rfl, 0, .nil, rfl⟩
 | cons h1 h2 ih =>
  obtain ⟨i1, m, i2, i3⟩ := ih
  refine ⟨by rw [List.all_cons, h1.1, i1]; rfl, _, (by rw [List.flatMap_cons]; exact h1.2.append i2), ?_⟩
  rw [List.length_cons]
  omega
theorem Xf {ls : List Tr} (h : LinesOk bx d tu ls n) (hd : d < 6 ∨ ls = []) : OkPs bx [(.tup ls, d, tu)] n := by
 obtain ⟨h1, m, h2, h3⟩ := h.all
 have e : yU bx (.tup ls, d, tu) = true := by
  show ((ls.isEmpty || decide (d < 6)) && ls.all (yV bx tu)) = true
  rw [h1, Bool.and_true]
  rcases hd with hd | rfl
  ·rw [decide_eq_true hd, Bool.or_true]
  ·rfl
 exact (OkPs.cons e h2 .nil).cast (by show ls.length + m + 0 = n; omega)
end
noncomputable def Good (bx G : List Str) (l : Tr) (h a : Nat) : Prop := (∀ d, d + h ≤ 6 → XF bx d [] l a) ∧ ∀ g, LG l g → g ∈ G
noncomputable def Goods (bx G : List Str) (ls : List Tr) (h n : Nat) : Prop := (∀ d, d + h ≤ 6 → LinesOk bx d [] ls n) ∧ (∀ l ∈ ls, ∀ g, LG l g → g ∈ G) ∧ (ls = [] ∨ 1 ≤ h)
section
variable {bx G : List Str} {l r k pl : Tr} {ls inner : List Tr} {h h' a n : Nat} {tu : List Str}
theorem Good.mono (g : Good bx G l h a) (e : h ≤ h') : Good bx G l h' a := ⟨fun d hd => g.1 d (by omega), g.2⟩
theorem Good.one (g : Good bx G l h a) (e : 1 ≤ h) : Goods bx G [l] h (1 + a) := ⟨fun d hd => .one (g.1 d hd), fun l' hl => by
 have e : l' = l := by simpa using hl
 subst e
 exact g.2, .inr e⟩
theorem Goods.none : Goods bx G [] 0 0 := ⟨fun d _ => .nil, (fun l hl => nomatch hl), .inl rfl⟩
theorem Goods.row (g : Goods bx G ls h n) {d : Nat} (hd : d + 1 + h ≤ 6) : OkPs bx [(.tup ls, d + 1, [])] n := Xf (g.1 (d + 1) hd) (g.2.2.elim .inr fun e => .inl (by omega))
theorem Goods.goal (g : Goods bx G ls h n) {x : Str} (q : jB (.tup ls) x) : x ∈ G := by
 obtain ⟨l, h1, h2⟩ := wY.mp q
 exact g.2.1 l h1 x h2
theorem ZU {tu : List Str} {w : Str} {xs : List Tr} (h : ¬ w = "each") : tuW tu w xs = tu := by
 unfold tuW
 split
 ·rw [if_neg h]
 ·rfl
theorem fR {z : Str} (hz : xZ (.str z) = true) (hf : rX bx tu r = true) : pZ bx tu (.tup [.tup [.str z, r]]) = true := by
 rw [dR]
 show ((cB bx tu (.tup [.str z, r]) && true) && decide (([z] : List Str).Nodup)) = true
 have e : cB bx tu (.tup [.str z, r]) = (xZ (.str z) && rX bx tu r) := rfl
 rw [e, hz, hf, decide_eq_true (by simp)]
 rfl
theorem ZZ : pZ bx tu (.tup []) = true := by
 rw [dR]
 show (true && decide (([] : List Str).Nodup)) = true
 rw [decide_eq_true List.nodup_nil]
 rfl
theorem Jc : pG bx tu (.tup []) = true := by
 rw [QY]
 show (true && decide (([] : List Str).Nodup)) = true
 rw [decide_eq_true List.nodup_nil]
 rfl
theorem na : xZ (.str "a") = true := by decide +kernel
theorem nx : xZ (.str "x") = true := by decide +kernel
theorem nw : xZ (.str "w") = true := by decide +kernel
theorem nt : xZ (.str "t") = true := by decide +kernel
noncomputable def jA (g : Str) (r : Tr) : Tr := .tup [.str "part", .non, .str g, .tup [.tup [.str "a", r]]]
noncomputable def jW (k q : Tr) (inner : List Tr) : Tr := .tup [.str "plain", k, .str "a", .tup [.tup [.str "x", q]], .tup [], .tup inner]
noncomputable def jE (r pl : Tr) (inner : List Tr) : Tr := .tup [.str "when", r, .tup [pl], .tup inner]
noncomputable def wD : Tr := .tup [.str "turn", .str "t"]
noncomputable def nI (k r : Tr) : Tr := .tup [.str "each", .str "t", r, .tup [jW k wD []]]
theorem KO {g : Str} (hg : g ∈ G) (hn : xZ (.str g) = true) (hr : ∀ tu, rX bx tu r = true) : Good bx G (jA g r) 1 0 := by
 have e0 : yW (jA g r) = [] := rfl
 refine ⟨fun d _ => ⟨?_, ?_⟩, fun x hx => ?_⟩
 ·show ((true && xZ (.str g)) && pZ bx [] (.tup [.tup [.str "a", r]])) = true
  rw [hn, fR na (hr _)]
  rfl
 ·unfold dX
  rw [e0]
  exact .nil
 ·rcases hx with ⟨k', x', e'⟩ | ⟨z, hz, _⟩
  ·unfold jA at e'
   injection e' with e'
   injection e' with _ e'
   injection e' with _ e'
   injection e' with e' _
   injection e' with e'
   rw [← e']
   exact hg
  ·rw [e0] at hz; cases hz
theorem iE {q : Tr} (hk : dY bx tu k = true) (hq : rX bx tu q = true) : yV bx tu (jW k q inner) = true := by
 show ((dY bx tu k && xZ (.str "a")) && (pG bx tu (.tup []) && pZ bx tu (.tup [.tup [.str "x", q]]))) = true
 rw [hk, na, Jc, fR nx hq]
 rfl
theorem pI (hk : dY bx [] k = true) (hr : rX bx [] r = true) (gi : Goods bx G inner h n) : Good bx G (jW k r inner) (h + 1) n := by
 refine ⟨fun d hd => ⟨iE hk hr, ?_⟩, fun x hx => ?_⟩
 ·have e : dX d [] (jW k r inner) = [(.tup inner, d + 1, [])] := by
   show [(Tr.tup inner, d + 1, tuW [] "plain" _)] = _
   rw [ZU (by decide)]
  rw [e]
  exact gi.row (by omega)
 ·rcases hx with h | ⟨z, hz, hg⟩
  ·exact absurd h (yG (by decide) _)
  ·have e : z = .tup inner := by
    have hz : z ∈ [Tr.tup inner] := hz
    simpa using hz
   subst e
   exact gi.goal hg
theorem KN (hr : rX bx [] r = true) (gp : Good bx G pl (h + 1) a) (gi : Goods bx G inner h n) : Good bx G (jE r pl inner) (h + 2) (1 + a + n) := by
 have e0 : yW (jE r pl inner) = [.tup [pl], .tup inner] := rfl
 have gp1 : Goods bx G [pl] (h + 1) (1 + a) := gp.one (by omega)
 refine ⟨fun d hd => ⟨?_, ?_⟩, fun x hx => ?_⟩
 ·show rX bx [] r = true
  exact hr
 ·have e : dX d [] (jE r pl inner) = [(.tup [pl], d + 1, [])] ++ [(.tup inner, d + 1, [])] := by
   unfold dX
   rw [e0]
   show [(Tr.tup [pl], d + 1, tuW [] "when" _), (Tr.tup inner, d + 1, tuW [] "when" _)] = _
   rw [ZU (by decide)]
   rfl
  rw [e]
  exact (gp1.row (by omega)).append (gi.row (by omega))
 ·rcases hx with h | ⟨z, hz, hg⟩
  ·exact absurd h (yG (by decide) _)
  ·rw [e0] at hz
   have hz : z = .tup [pl] ∨ z = .tup inner := by simpa using hz
   rcases hz with rfl | rfl
   ·exact gp1.goal hg
   ·exact gi.goal hg
theorem Kl {t : Tr} (h : inn t = some []) : run t = some [t] := by
 rcases (rH t).at_snoc (L := []) (b := t) rfl with ⟨e, _⟩ | ⟨xs, r', h1, h2, e⟩
 ·rw [h] at e; cases e
 ·rw [h] at h1
  cases h1
  have e2 := h2.at_nil rfl
  rw [e, e2]
  rfl
theorem run_two {t x y : Tr} (h : inn t = some [x, y]) (hx : inn x = some []) (hy : inn y = some []) : run t = some [t, y, x] := by
 rcases (rH t).at_snoc (L := []) (b := t) rfl with ⟨e, _⟩ | ⟨xs, r', h1, h2, e⟩
 ·rw [h] at e; cases e
 ·rw [h] at h1
  cases h1
  rcases h2.at_snoc (L := [x]) (b := y) rfl with ⟨e2, _⟩ | ⟨xs, r2, h3, h4, e2⟩
  ·rw [hy] at e2; cases e2
  ·rw [hy] at h3
   cases h3
   rcases h4.at_snoc (L := []) (b := x) rfl with ⟨e3, _⟩ | ⟨xs, r3, h5, h6, e3⟩
   ·rw [hx] at e3; cases e3
   ·rw [hx] at h5
    cases h5
    have e4 := h6.at_nil rfl
    rw [e, e2, e3, e4]
    rfl
theorem eP {z : Str} {y : Tr} {rs : List Tr} (h1 : ¬ z = "box") (h2 : ¬ z = "turn") : qK bx tu (.tup (.str z :: y :: rs)) = true := by
 show ((!decide (z = "box") || _) && (!decide (z = "turn") || _)) = true
 rw [decide_eq_false h1, decide_eq_false h2]
 rfl
theorem dI (hr : inn r = some []) (hn : qK bx tu r = true) : rX bx tu r = true := by
 unfold rX
 rw [Kl hr]
 show (decide (1 ≤ 20) && (qK bx tu r && true)) = true
 rw [hn]
 rfl
theorem xF {z : Str} {y : Tr} (hj : qF z = none) (ha : rV z [y] = true) : inn (.tup [.str z, y]) = some [] := by
 show bO [.str z, y] = some []
 rw [kF, hj]
 show (if rV z [y] = true then some [] else none) = some []
 rw [if_pos ha]
theorem KR : rX bx ["t"] wD = true := dI (xF (by decide +kernel) (by decide +kernel)) rfl
theorem KP (hk : ∀ tu, dY bx tu k = true) (hr : ∀ tu, rX bx tu r = true) : Good bx G (nI k r) 2 1 := by
 have e0 : yW (nI k r) = [.tup [jW k wD []]] := rfl
 refine ⟨fun d hd => ⟨?_, ?_⟩, fun x hx => ?_⟩
 ·show (xZ (.str "t") && (rX bx [] r && true)) = true
  rw [nt, hr]
  rfl
 ·have e : dX d [] (nI k r) = ([(Tr.tup [jW k wD []], d + 1, ["t"])] : List Pl) := by
   rfl
  rw [e]
  have hl : XF bx (d + 1) ["t"] (jW k wD []) 0 := by
   refine ⟨iE (hk _) KR, ?_⟩
   have e : dX (d + 1) ["t"] (jW k wD []) = ([(Tr.tup [], d + 1 + 1, ["t"])] : List Pl) := by
    show [(Tr.tup [], d + 1 + 1, tuW ["t"] "plain" _)] = _
    rw [ZU (by decide)]
   rw [e]
   exact Xf .nil (.inr rfl)
  exact Xf (.one hl) (.inl (by omega))
 ·rcases hx with h | ⟨z, hz, hg⟩
  ·exact absurd h (yG (by decide) _)
  ·rw [e0] at hz
   have e : z = .tup [jW k wD []] := by simpa using hz
   subst e
   obtain ⟨l, h1, h2⟩ := wY.mp hg
   have e : l = jW k wD [] := by simpa using h1
   subst e
   rcases h2 with h | ⟨z, hz, hg⟩
   ·exact absurd h (yG (by decide) _)
   ·have e : z = .tup [] := by
     have hz : z ∈ [Tr.tup []] := hz
     simpa using hz
    subst e
    obtain ⟨l, h1, _⟩ := wY.mp hg
    cases h1
end
end K06
namespace K06
open PySem L2
theorem by_tail {C F G : Prop} (h : (C → F) → G) (f : C → F) : G := h f
theorem eI (xs : List V) (k : Nat) : oX xs (some (k : Int)) none = xs.drop k := by
 unfold oX
 rw [HT.sIx_nat, HT.sIx_none, List.take_of_length_le (by rw [List.length_drop]; omega)]
 rcases Nat.le_total k xs.length with h | h
 ·rw [Nat.min_eq_left h]
 ·rw [Nat.min_eq_right h, List.drop_length, List.drop_of_length_le h]
theorem Wm (xs : List V) (k : Nat) : oX xs none (some (k : Int)) = xs.take k := by
 unfold oX
 rw [HT.sIx_nat, HT.sIx_none]
 show (xs.drop 0).take (min k xs.length - 0) = _
 rw [List.drop_zero, Nat.sub_zero]
 rcases Nat.le_total k xs.length with h | h
 ·rw [Nat.min_eq_left h]
 ·rw [Nat.min_eq_right h, List.take_length, List.take_of_length_le h]
noncomputable def okG (ns : List Str) (us : List Tr) : Prop := ∀ u, u ∈ us → ∀ g, jB u g → g ∈ ns
theorem JH {ns : List Str} {t : Tr} : okG ns [t] ↔ ∀ g, jB t g → g ∈ ns :=
 ⟨fun h => h t List.mem_cons_self, fun h u hu => by
  have e : u = t := by simpa using hu
  subst e
  exact h⟩
theorem okG_pop {ns : List Str} {us ts : List Tr} (own : ∀ l, l ∈ ts → ∀ g, uU l g → g ∈ ns) : okG ns (us ++ ts.flatMap yW) ↔ okG ns (us ++ [.tup ts]) := by
 constructor
 ·intro h u hu
  rcases List.mem_append.mp hu with hu | hu
  ·exact h u (List.mem_append_left _ hu)
  ·have e : u = .tup ts := by simpa using hu
   subst e
   intro g hg
   obtain ⟨l, h1, h2⟩ := wY.mp hg
   rcases h2 with h2 | ⟨x, hx, h2⟩
   ·exact own l h1 g h2
   ·exact h x (List.mem_append_right _ (List.mem_flatMap.mpr ⟨l, h1, hx⟩)) g h2
 ·intro h u hu
  rcases List.mem_append.mp hu with hu | hu
  ·exact h u (List.mem_append_left _ hu)
  ·obtain ⟨l, h1, h2⟩ := List.mem_flatMap.mp hu
   exact fun g hg => h (.tup ts) (List.mem_append_right _ List.mem_cons_self) g (wY.mpr ⟨l, h1, .inr ⟨u, h2, hg⟩⟩)
theorem Q6 : ∀ ts : List Tr, wL (ts.flatMap yW) ≤ wL ts
 | [] => Nat.le_refl _
 | t :: r => by
  rw [List.flatMap_cons, nX, yQ]
  have h1 := zN t
  have h2 := Q6 r
  omega
section
variable {P : Program} {w : World} {K : W.Frag} {mg : Str → Option Value} {base : Heap} {a : Adr}
inductive IspNO (vs : List V) (H : Hp) (Q : VK) : Prop
 | mk (p : Addr) (x1 x2 x3 x4 : V) (t : Tr) (b : Addr) (bx ns : List Str) (z0 : vs = [.ref p, .ref b]) (z1 : H p = some (.tup [x1, x2, x3, x4])) (z2 : Rep H x4 t) (z3 : t.w ≤ 1000000) (z4 : Q3 bx t) (z5 : NL H b ns) (z6 : ∀ H', Same H H' → Q (.bl (qG ns t)) H') : IspNO vs H Q
noncomputable def spNO : Sp := fun vs H Q _ => IspNO vs H Q
theorem Qp (T : Txt P w K mg a) : FnOk P w K mg base CX0 2 a.names_only a.iF ["part", "names"] spNO := by
 have S := gH
 have big : (3000000 : Nat) < sizeLine := by decide
 have gM := fL (P := P) (w := w) (base := base) T
 refine T.xD.okJ gH (fun vs H Q E h => ?_) (fun cdv A outer s H vs Q E hr h => ?_)
 ·obtain ⟨p, x1, x2, x3, x4, t, b, bx, ns, rfl, _⟩ := h; rfl
 obtain ⟨p, x1, x2, x3, x4, t, b, bx, ns, rfl, hp, hx, hn, hrow, hb, q⟩ := h
 refine ⟨_, (wQ (kX (i := 2) S.nd rfl (Or.inl rfl) (cZ (qQ (cQ lQ (jv 0) xQ (fun _ _ => rfl)) jQ))) (wQ (iM PassesOwn.never (bC (jv 2)) (wQ (kX (i := 3) S.nd rfl (Or.inl rfl) (eF PySem.F.plainAttrs_list PySem.F.slot_list_pop PySem.F.type_list_pop nR (jv 2))) (uQ (xY PassesOwn.never rfl (dJ (jv 3)) (pK (i := 4) S.nd rfl (Or.inl rfl)) (wQ (zX (iX (jY (sQ wZ (cQ lQ (jv 4) xQ (fun _ _ => rfl)) aQ (oQ _)) (uV (sQ (cV (iG hr)) (cQ lQ (jv 4) xQ (fun _ _ => rfl)) (jv 1) rfl)))) (uQ (pQ fX)) tQ) (uQ (zK (uG PySem.F.plainAttrs_list PySem.F.slot_list_extend PySem.F.type_list_extend aP (jv 2) (qQ (mQ gM hr rfl T.cH T.k_inner_lines T.b_inner_lines .nil iQ (qQ (jv 4) jQ)) jQ))))))))) (uQ (pQ fX)))), ?_⟩
 refine ⟨_, rfl, p, _, _, _, rfl, rfl, SqT.of hp, at3 _ _ _ _ _, sZ1, fun l hl => ?_⟩
 have s1 := kQ hl (.lst [x4])
 refine ⟨fun m σ' H' => ∃ (st : List V) (us : List Tr) (y3 y4 : Option V), σ' = [some (.ref p), some (.ref b), some (.ref l), y3, y4] ∧ Same H H' ∧ H' l = some (.lst st) ∧ Reps H st us ∧ m = wL us ∧ wL us ≤ 1000000 ∧ (∀ u, u ∈ us → Q3 bx u) ∧ (okG ns us ↔ okG ns [t]),
  ⟨_, [x4], [t], none, none, rfl, s1, zQ, .cons hx .nil, rfl, by rw [yQ, wL]; omega, (fun u hu => by
   have e : u = t := by simpa using hu
   subst e
   exact hrow), Iff.rfl⟩, ?_⟩
 rintro m σ' H' ⟨st, us, y3, y4, rfl, s3, hst, hT, rfl, hm, hrows, hok⟩
 refine ⟨_, rfl, _, .inl ⟨_, SqL.of hst, rfl⟩, ?_⟩
 rcases List.eq_nil_or_concat st with rfl | ⟨L, bb, rfl⟩
 ·refine bQ ?_
  cases hT
  have e : qG ns t = true := bG.mpr (JH.mp (hok.mp fun u hu => by cases hu))
  have q' := q H' s3
  rw [e] at q'
  exact q'
 ·rw [List.concat_eq_append] at hst hT ⊢
  have ne : (!(L ++ [bb]).isEmpty) = true := by cases L <;> rfl
  rw [ne]
  refine nQ ⟨_, fun _ _ h => h, ?_⟩
  obtain ⟨us, row, rfl, t1, t2⟩ := hT.snoc rfl
  have hlen := t1.len
  have hwl := kJ us
  rw [nX, yQ, wL] at hm ⊢
  have hlast : (L ++ [bb])[(L ++ [bb]).length - 1]? = some bb := by simp
  have hdl : (L ++ [bb]).dropLast = L := List.dropLast_concat
  refine ⟨_, rfl, .inl ⟨rfl, _, SqL.of hst⟩, l, _, _, rfl, rfl, hst, hlast, ?_⟩
  rw [hdl]
  have s4 : Same H (upd H' l (.lst L)) := mX s3 hl
  have hl4 : (upd H' l (.lst L)) l = some (.lst L) := zQ
  generalize (upd H' l (.lst L)) = H4 at s4 hl4 ⊢
  have hr0 := hrows row (List.mem_append_right _ List.mem_cons_self)
  cases hr0 with
  | @mk ts tu k1 k2 =>
  obtain ⟨pr, xs, ts', rfl, e, hpr, hx2⟩ := nK t2 rfl
  cases e
  have hlx := hx2.len
  have hwt := kJ ts
  rw [eX] at hm ⊢
  refine ⟨_, rfl, pr, rfl, ⟨xs, SqT.of (s4 pr _ hpr)⟩, ?_⟩
  refine bW (xs := xs) (fun i σ' H'' => ∃ (st2 : List V) (z4 : Option V), σ' = [some (.ref p), some (.ref b), some (.ref l), some (.ref pr), z4] ∧ Same H H'' ∧ H'' l = some (.lst (L ++ st2)) ∧ Reps H (L ++ st2) (us ++ (ts.take i).flatMap yW) ∧ (∀ l', l' ∈ ts.take i → ∀ g, uU l' g → g ∈ ns)) ?_ ?_ ?_ ?_
  ·exact ⟨[], y4, rfl, s4, by rw [List.append_nil]; exact hl4, by rw [List.append_nil]; simpa using t1, fun l' h => by simp at h⟩
  ·rintro i σ' H'' _ ⟨st2, z4, rfl, s5, _⟩
   exact SqT.of (s5 pr _ hpr)
  ·rintro i x σ' H5 hxi ⟨st2, z4, rfl, s5, hl5, t5, hown⟩
   obtain ⟨tx, htx, hrx⟩ := hx2.get hxi
   have wx := bV htx
   have hL := k1 tx (List.mem_of_getElem? htx)
   obtain ⟨p2, z, r, rs, rfl, hp2, rfl, hr2, hW, hsz⟩ := lF hrx hL
   apply by_tail (C := ∀ g, uU (.tup (.str z :: rs)) g → g ∈ ns)
   ·intro fin
    refine ⟨_, rfl, p2, _, _, _, rfl, rfl, SqT.of (s5 p2 _ hp2), at0 _ _, rfl, _, rfl, ?_⟩
    by_cases hz : ¬ z = "part"
    ·rw [dF hz]
     exact bQ (bQ (fin fun g hg => absurd hg (yG hz g)))
    ·have hz : z = "part" := Classical.not_not.mp hz
     rw [dT hz]
     have hn3 : rs.length = 3 := by
      rcases oV hsz with ⟨h, e⟩ | ⟨h, e⟩ | ⟨h, e⟩ | ⟨h, e⟩ | ⟨h, e⟩
      ·exact e
      ·exact e
      ·exact e
      ·exact absurd (hz.symm.trans h) (by decide)
      ·exact absurd (hz.symm.trans h) (by decide)
     obtain ⟨a1, a2, a3, b1, b2, b3, rfl, rfl, c1, c2, c3⟩ := hr2.three hn3
     have eW : wW bx tu z [b1, b2, b3] = ((dY bx tu b1 && xZ b2) && pZ bx tu b3) := by
      show (if z = "when" then _ else if z = "each" then _ else if z = "part" then _ else _) = _
      rw [if_neg (by rw [hz]; decide), if_neg (by rw [hz]; decide), if_pos hz]
     rw [eW, Bool.and_eq_true, Bool.and_eq_true] at hW
     obtain ⟨nn, rfl⟩ := aW hW.1.2
     cases c2
     refine nQ ⟨_, rfl, p2, _, _, _, rfl, rfl, SqT.of (s5 p2 _ hp2), at2 _ _ _ _, _, rfl, b, ns, .str, rfl, .inl (SqL.of (hb.same s5)), rfl, _, rfl, ?_⟩
     show if (!ns.contains nn) = true then _ else _
     cases hc : ns.contains nn with
     | false =>
      have e : qG ns t = false := Jd fun h => by
       have := hok.mpr (JH.mpr h) (.tup ts) (List.mem_append_right _ List.mem_cons_self) nn (wY.mpr ⟨_, List.mem_of_getElem? htx, .inl ⟨b1, b3, by rw [hz]⟩⟩)
       rw [← List.contains_iff_mem, hc] at this
       cases this
      have q' := q H5 s5
      rw [e] at q'
      exact nQ q'
     | true =>
      refine bQ (fin fun g hg => ?_)
      obtain ⟨k', x', e'⟩ := hg
      injection e' with e'
      injection e' with _ e'
      injection e' with _ e'
      injection e' with e' _
      injection e' with e'
      rw [← e']
      exact List.contains_iff_mem.mp hc
   ·intro own
    refine ⟨_, rfl, .inl ⟨rfl, _, SqL.of hl5⟩, _, rfl, .ref p2, .tup (.str z :: rs), H, bx, tu, rfl, s5, hrx, hL, fun lin ys H8 s8 hlin0 hlin hys => ⟨l, lin, L ++ st2, ys, rfl, rfl, s8 l _ hl5, hlin, ?_, ?_⟩⟩
    ·have h1 := t5.len
     have h2 := hys.len
     have h3 := kJ (us ++ (ts.take i).flatMap yW)
     have h4 := Q6 (ts.take i)
     have h5 := kJ (yW (.tup (.str z :: rs)))
     have h6 := zN (.tup (.str z :: rs))
     have h7 : wL (ts.take i) ≤ wL ts := by
      have := nX (ts.take i) (ts.drop i)
      rw [List.take_append_drop] at this
      omega
     rw [nX] at h3
     omega
    ·refine ⟨st2 ++ ys, some (.ref p2), rfl, mX (s5.trans s8) hl, ?_, ?_, fun l' hl' => ?_⟩
     ·rw [zQ, List.append_assoc]
     ·have e : us ++ (ts.take (i + 1)).flatMap yW = us ++ (ts.take i).flatMap yW ++ yW (.tup (.str z :: rs)) := by
       rw [List.take_succ, htx, List.flatMap_append, List.append_assoc]
       simp
      rw [e, ← List.append_assoc]
      exact t5.append hys
     ·rw [List.take_succ, htx] at hl'
      rcases List.mem_append.mp hl' with hl' | hl'
      ·exact hown l' hl'
      ·have e : l' = .tup (.str z :: rs) := by simpa using hl'
       subst e
       exact own
  ·rintro σ' H5 ⟨st2, z4, rfl, s5, hl5, t5, hown⟩
   rw [hlx, List.take_length] at t5 hown
   have hfl := Q6 ts
   refine ⟨wL (us ++ ts.flatMap yW), ?_, L ++ st2, us ++ ts.flatMap yW, _, _, rfl, s5, hl5, t5, rfl, ?_, fun u hu => ?_, (okG_pop hown).trans hok⟩
   ·rw [nX]
    omega
   ·rw [nX]
    omega
   ·rcases List.mem_append.mp hu with hu | hu
    ·exact hrows u (List.mem_append_left _ hu)
    ·obtain ⟨l', h1, h2⟩ := List.mem_flatMap.mp hu
     exact k2 l' h1 u h2
inductive Wz (vs : List V) (H : Hp) (Q : VK) : Prop
 | mk (p : Addr) (xs : List V) (ts : List Tr) (k : Nat) (z : Str) (z0 : vs = [.ref p, .str z]) (z1 : H p = some (.tup xs)) (z2 : Reps H xs ts) (z3 : (∀ t, t ∈ ts → kW 4 t = true)) (z4 : ts.length ≤ 100) (z5 : (ts.map nm)[k]? = some z) (z6 : (∀ m, m < k → (ts.map nm)[m]? ≠ some z)) (z7 : ∀ l H', Same H H' → H l = none → NL H' l ((ts.map nm).drop (k + 1)) → Q (.ref l) H') : Wz vs H Q
noncomputable def spBeh : Sp := fun vs H Q _ => Wz vs H Q
theorem QN (T : Txt P w K mg a) : FnOk P w K mg base CX0 1 a.behind a.tI ["house", "name"] spBeh := by
 have S := QK
 have big : (3000000 : Nat) < sizeLine := by decide
 refine T.Qk.okJ QK (fun vs H Q E h => ?_) (fun cdv A outer s H vs Q E hr h => ?_)
 ·obtain ⟨p, xs, ts, k, z, rfl, _⟩ := h; rfl
 obtain ⟨p, xs, ts, k, z, rfl, hp, hx, hbg, h100, hk, hno, q⟩ := h
 refine ⟨_, (wQ (mC (i := 2) (show (["house", "name", "names"] : List Str).Nodup by decide +kernel) rfl (Or.inl rfl) rfl (show (["part", "house", "name", "names"] : List Str).Nodup by decide +kernel) (gV (N := ["house", "name", "names"]) rfl (by with_unfolding_all rfl) (by decide +kernel)) (dJ (jv 0)) (fun _ _ _ _ => xK) (fun _ _ _ _ => (cQ (r := zC K) lQ (jv 0) xQ (fun _ _ => rfl)))) (uQ (pQ (yZ vV (jv 2) (qJ (bX fJ (uG PySem.F.plainAttrs_list PySem.F.slot_list_index PySem.F.type_list_index Kw (jv 2) (qQ (jv 1) jQ)) xQ)) zJ)))), ?_⟩
 have hlx := hx.len
 refine ⟨_, rfl, p, rfl, ⟨xs, SqT.of hp⟩, fun D hD => ?_⟩
 refine ⟨fun i m ys H' => m = xs.length - i ∧ i ≤ xs.length ∧ H' = upd H D (.lst ys) ∧ ys = (ts.take i).map (fun x => V.str (nm x)), ⟨xs.length, by simp, Nat.zero_le _, rfl, rfl⟩, ?_⟩
 rintro i m ys H' ⟨rfl, hi, rfl, rfl⟩
 have sD := kQ hD (.lst ((ts.take i).map (fun x => V.str (nm x))))
 by_cases hlt : i < xs.length
 ·refine .inr ⟨⟨xs, xs[i], SqT.of (sD p _ hp), List.getElem?_eq_getElem hlt⟩, ?_⟩
  rintro x' H'' ⟨rfl, hxi⟩
  have hxi := hxi xs (SqT.of (sD p _ hp))
  obtain ⟨tx, htx, hrx⟩ := hx.get hxi
  obtain ⟨p2, z2, r, rs, rfl, hp2, rfl, _, _⟩ := cJ hrx (hbg tx (List.mem_of_getElem? htx))
  refine ⟨_, rfl, p2, _, _, _, rfl, rfl, SqT.of (sD p2 _ hp2), at0 _ _, ?_⟩
  exact ⟨zQ, by rw [List.length_map, List.length_take]; omega, xs.length - (i + 1), by omega, rfl, hlt, sV, (map_take (f := fun x => V.str (nm x)) htx).symm⟩
 ·have ei : i = xs.length := by omega
  subst ei
  rw [hlx, List.take_length] at sD ⊢
  have hN : (upd H D (.lst (ts.map fun x => V.str (nm x)))) D = some (.lst ((ts.map nm).map V.str)) := by
   rw [zQ, List.map_map]
   rfl
  generalize (upd H D (.lst (ts.map fun x => V.str (nm x)))) = HF at sD hN ⊢
  refine .inl ⟨⟨xs, SqT.of (sD p _ hp), by omega⟩, ?_⟩
  refine ⟨_, rfl, _, rfl, .inl ⟨rfl, _, SqL.of hN⟩, _, rfl, D, ts.map nm, z, k, rfl, rfl, hN, hk, hno, _, _, rfl, rfl, _, rfl, D, _, rfl, SqL.of hN, fun l hl => ?_⟩
  have e : oX ((ts.map nm).map V.str) (some ((k : Int) + 1)) none = ((ts.map nm).drop (k + 1)).map V.str := by
   rw [show (k : Int) + 1 = ((k + 1 : Nat) : Int) by omega, eI, List.map_drop]
  rw [e]
  exact q l _ (sD.trans (kQ hl _)) (Same.free sD hl) zQ
inductive IspPo (vs : List V) (H : Hp) (Q : VK) : Prop
 | mk (p : Addr) (xs : List V) (ts : List Tr) (z : Str) (z0 : vs = [.ref p, .str z]) (z1 : H p = some (.tup xs)) (z2 : Reps H xs ts) (z3 : (∀ t, t ∈ ts → kW 4 t = true)) (z4 : (∀ (k : Nat) x, xs[k]? = some x → (ts.map nm)[k]? = some z → (∀ m, m < k → (ts.map nm)[m]? ≠ some z) → Q x H)) (z5 : ((∀ m : Nat, (ts.map nm)[m]? ≠ some z) → Q .non H)) : IspPo vs H Q
noncomputable def spPo : Sp := fun vs H Q _ => IspPo vs H Q
theorem Z1 (T : Txt P w K mg a) : FnOk P w K mg base CX0 1 a.part_of a.jS ["house", "name"] spPo := by
 have S := yE
 refine T.rS.okJ yE (fun vs H Q E h => ?_) (fun cdv A outer s H vs Q E hr h => ?_)
 ·obtain ⟨p, xs, ts, z, rfl, _⟩ := h; rfl
 obtain ⟨p, xs, ts, z, rfl, hp, hx, hbg, yes, no⟩ := h
 refine ⟨_, (wQ (xY PassesOwn.never rfl (dJ (jv 0)) (pK (i := 2) S.nd rfl (Or.inl rfl)) (uQ (zX (sQ wZ (cQ lQ (jv 2) xQ (fun _ _ => rfl)) (jv 1) (oQ _)) (uQ (pQ (jv 2))) tQ))) (uQ (pQ aZ))), ?_⟩
 have hlx := hx.len
 refine ⟨_, rfl, p, rfl, ⟨xs, SqT.of hp⟩, ?_⟩
 refine bW (xs := xs) (fun i σ' H' => ∃ y2 : Option V, σ' = [some (.ref p), some (.str z), y2] ∧ H' = H ∧ ∀ m, m < i → (ts.map nm)[m]? ≠ some z) ⟨none, rfl, rfl, fun m hm => absurd hm (Nat.not_lt_zero _)⟩ ?_ ?_ ?_
 ·rintro i σ' H' _ ⟨y2, rfl, rfl, _⟩
  exact SqT.of hp
 ·rintro i x σ' H1 hxi ⟨y2, rfl, rfl, hno⟩
  obtain ⟨tx, htx, hrx⟩ := hx.get hxi
  obtain ⟨p2, z2, r, rs, rfl, hp2, rfl, _, _⟩ := cJ hrx (hbg tx (List.mem_of_getElem? htx))
  have en : (ts.map nm)[i]? = some z2 := by rw [List.getElem?_map, htx]; rfl
  refine ⟨_, rfl, p2, _, _, _, rfl, rfl, SqT.of hp2, at0 _ _, _, rfl, rfl, _, rfl, ?_⟩
  by_cases hz : z2 = z
  ·rw [dT hz]
   exact nQ ⟨_, rfl, yes i _ hxi (by rw [en, hz]) hno⟩
  ·rw [dF hz]
   refine bQ ⟨_, rfl, rfl, fun m hm => ?_⟩
   by_cases hmi : m = i
   ·subst hmi
    rw [en]
    exact fun e => hz (Option.some.inj e)
   ·exact hno m (by omega)
 ·rintro σ' H1 ⟨y2, rfl, rfl, hno⟩
  refine no fun m e => ?_
  obtain ⟨hm, _⟩ := List.getElem?_eq_some_iff.mp e
  rw [List.length_map] at hm
  exact hno m (by omega) e
theorem X3 (T : Txt P w K mg a) : FnOk P w K mg base CX0 12 a.is_house a.yN ["thing"] (sp1 rY) := by
 have S := wT
 have big : (1000000 : Nat) < sizeLine := by decide
 have K5 := Z2 (P := P) (w := w) (base := base) T
 have bZ := (mK (P := P) (w := w) (base := base) T).mono (show 2 ≤ 11 by decide)
 have XG := (Qp (P := P) (w := w) (base := base) T).mono (show 2 ≤ 11 by decide)
 have kR := (QN (P := P) (w := w) (base := base) T).mono (show 1 ≤ 11 by decide)
 refine T.pN.okJ wT (fun vs H Q E h => ?_) (fun cdv A outer s H vs Q E hr h => ?_)
 ·obtain ⟨v, t, rfl, _⟩ := h; rfl
 obtain ⟨v, t, rfl, hv, hn, q⟩ := h
 refine ⟨_, (wQ (zX (iX (zZ (xX (jX (gQ eQ rfl T.rQ rfl (qQ (jv 0) (qQ (wX rfl T.tX (v := .ty "tuple") rfl rfl) jQ))))) (qZ (xX (yI rD rD xQ (gQ qX rfl T.aX rfl (qQ (jv 0) jQ)) (jK (v := .int 6) rfl T.Zm ⟨_, rfl⟩)))))) (uQ (pQ fX)) tQ) (wQ (zX (iX (zZ (xX (jX (gQ (nU rfl) rfl T.zE rfl (qQ (vY rfl (show (["part", "thing"] : List Str).Nodup by decide +kernel) (gV (N := ["thing"]) rfl (by with_unfolding_all rfl) (by decide +kernel)) (dJ (jv 0)) (fun _ _ _ _ => xK) (fun _ _ _ _ => (mQ K5 hr rfl T.KB T.k_is_part T.b_is_part .nil iQ (qQ (jv 0) jQ)))) jQ)))) (qZ (xX (jX (mQ bZ hr rfl T.lK T.k_begins_with_names T.b_begins_with_names .nil iQ (qQ (jv 0) (qQ xQ jQ)))))))) (uQ (pQ fX)) tQ) (uQ (pQ (gQ (nU rfl) rfl T.zE rfl (qQ (kY rfl (show (["part", "thing"] : List Str).Nodup by decide +kernel) (uW (N := ["thing"]) (sc := vQ qV) rfl rfl rfl (by decide +kernel)) (dJ (jv 0)) (fun _ _ _ _ _ => xK) (fun _ _ _ _ _ => (mQ XG hr rfl T.Xp T.k_names_only T.b_names_only .nil iQ (qQ (jv 0) (qQ (mQ kR hr rfl T.vI T.k_behind T.b_behind .nil iQ (qQ (jv 1) (qQ (cQ (r := zC K) lQ (jv 0) xQ (fun _ _ => rfl)) jQ))) jQ))))) jQ)))))), ?_⟩
 have no : rY t = false → ∀ H', Same H H' → Q (.bl false) H' := fun e H' s' => by
  have q' := q H' s'
  rw [e] at q'
  exact q'
 obtain ⟨ty, hty, htt, _, _⟩ := hv.ty
 refine ⟨_, rfl, v, .tup, ty, rfl, hty, _, rfl, ?_⟩
 rw [htt]
 cases hT : t.isTup with
 | false => exact nQ (no (by cases t <;> first | rfl | cases hT) H (Same.refl H))
 | true =>
 obtain ⟨p, xs, ts, rfl, rfl, hp, hx⟩ := nK hv hT
 rw [eX] at hn
 have hlen := hx.len
 have e : rY (.tup ts) = ((decide (1 ≤ ts.length) && decide (ts.length ≤ 6)) && (ts.all jJ && (decide ((ts.map nm).Nodup) && (List.range ts.length).all (gk ts)))) := rfl
 refine bQ ⟨_, rfl, _, _, rfl, .inr ⟨_, SqT.of hp, rfl⟩, _, _, rfl, rfl, _, rfl, ?_⟩
 refine wH (fun hd => ?_) (fun hd => ?_)
 rotate_left
 ·have hd' : ¬ (1 : Int) ≤ ((xs.length : Nat) : Int) := of_decide_eq_false (Bool.eq_false_iff.mpr hd)
  exact ⟨_, rfl, nQ (no (by rw [e, decide_eq_false (show ¬ 1 ≤ ts.length by omega)]; rfl) H (Same.refl H))⟩
 have hd' : (1 : Int) ≤ ((xs.length : Nat) : Int) := of_decide_eq_true hd
 refine ⟨_, _, rfl, rfl, _, rfl, ?_⟩
 cases h6 : decide (((xs.length : Nat) : Int) ≤ 6) with
 | false =>
  have h6 := of_decide_eq_false h6
  exact nQ (no (by rw [e, decide_eq_false (show ¬ ts.length ≤ 6 by omega), Bool.and_false]; rfl) H (Same.refl H))
 | true =>
 have h6 := of_decide_eq_true h6
 rw [decide_eq_true (show 1 ≤ ts.length by omega), decide_eq_true (show ts.length ≤ 6 by omega)] at e
 have e : rY (.tup ts) = (ts.all jJ && (decide ((ts.map nm).Nodup) && (List.range ts.length).all (gk ts))) := e
 refine bQ ⟨_, rfl, p, rfl, ⟨xs, SqT.of hp⟩, fun D hD => ?_⟩
 refine ⟨fun i m ys H' => m = xs.length - i ∧ i ≤ xs.length ∧ Same H H' ∧ H' D = some (.lst ys) ∧ ys = (ts.take i).map (fun x => V.bl (jJ x)), ⟨xs.length, by simp, Nat.zero_le _, kQ hD _, zQ, rfl⟩, ?_⟩
 rintro i m ys H' ⟨rfl, hi, s2, hD2, rfl⟩
 by_cases hlt : i < xs.length
 ·refine .inr ⟨⟨xs, xs[i], SqT.of (s2 p _ hp), List.getElem?_eq_getElem hlt⟩, ?_⟩
  rintro x' H'' ⟨rfl, hxi⟩
  have hxi := hxi xs (SqT.of (s2 p _ hp))
  obtain ⟨tx, htx, hrx⟩ := hx.get hxi
  have wx := bV htx
  refine ⟨_, rfl, x', tx, rfl, hrx.same s2, by omega, fun H3 s3 => ?_⟩
  exact ⟨s3 D _ hD2, by rw [List.length_map, List.length_take]; omega, xs.length - (i + 1), by omega, rfl, hlt, mX (s2.trans s3) hD, zQ, bP htx⟩
 have ei : i = xs.length := by omega
 subst ei
 refine .inl ⟨⟨xs, SqT.of (s2 p _ hp), Nat.le_refl _⟩, D, ts.map jJ, rfl, SqL.of ?_, _, rfl, ?_⟩
 ·rw [hD2, hlen, List.take_length, List.map_map]
  rfl
 rw [cS]
 cases hA : ts.all jJ with
 | false => exact nQ (no (by rw [e, hA]; rfl) _ s2)
 | true =>
 rw [hA, Bool.true_and] at e
 refine bQ ⟨_, rfl, .ref p, .tup ts, 4, rfl, hv.same s2, by rw [eX]; omega, by decide, fun H3 s3 => ⟨_, rfl, ?_⟩⟩
 have s23 := s2.trans s3
 rw [begs_eq hA]
 cases hND : decide ((ts.map nm).Nodup) with
 | false => exact nQ (no (by rw [e, hND]; rfl) _ s23)
 | true =>
 rw [hND, Bool.true_and] at e
 have hnd := of_decide_eq_true hND
 rw [e] at q
 have hbg : ∀ t, t ∈ ts → kW 4 t = true := fun t ht => vU (List.all_eq_true.mp hA t ht)
 refine bQ ⟨_, rfl, p, rfl, ⟨xs, SqT.of (s23 p _ hp)⟩, fun D2 hD3 => ?_⟩
 refine ⟨fun i m ys H' => m = xs.length - i ∧ i ≤ xs.length ∧ Same H3 H' ∧ H' D2 = some (.lst ys) ∧ ys = (List.range i).map (fun k => V.bl (gk ts k)), ⟨xs.length, by simp, Nat.zero_le _, kQ hD3 _, zQ, rfl⟩, ?_⟩
 rintro i m ys H4 ⟨rfl, hi, s4, hD4, rfl⟩
 have s24 := s23.trans s4
 by_cases hlt : i < xs.length
 ·refine .inr ⟨⟨xs, xs[i], SqT.of (s24 p _ hp), List.getElem?_eq_getElem hlt⟩, ?_⟩
  rintro x' H'' ⟨rfl, hxi⟩
  have hxi := hxi xs (SqT.of (s24 p _ hp))
  obtain ⟨tx, htx, hrx⟩ := hx.get hxi
  have wx := bV htx
  have hpt := List.all_eq_true.mp hA tx (List.mem_of_getElem? htx)
  obtain ⟨p2, z2, r, rs, rfl, hp2, rfl, hrr, hrl⟩ := cJ hrx (vU hpt)
  obtain ⟨y1, y2, y3, c1, c2, c3, rfl, rfl, k1, k2, k3⟩ := hrr.three (by omega)
  have en : (ts.map nm)[i]? = some z2 := by rw [List.getElem?_map, htx]; rfl
  have eg : gk ts i = qG ((ts.map nm).drop (i + 1)) c3 := by
   unfold gk
   rw [htx]
   rfl
  rw [eX, yQ, yQ, yQ, yQ] at wx
  refine ⟨_, rfl, _, rfl, _, rfl, p2, _, _, _, rfl, rfl, SqT.of (s24 p2 _ hp2), at0 _ _, p, xs, ts, i, z2, rfl, s24 p _ hp, hx.same s24, hbg, by omega, en, cI hnd en, fun l H5 s5 hl5 hN => ?_⟩
  have s25 := s24.trans s5
  refine ⟨p2, _, _, _, _, c3, l, uY c1, _, rfl, s25 p2 _ hp2, k3.same s25, by omega, Jx (zA hpt), hN, fun H6 s6 => ?_⟩
  rw [← eg]
  exact ⟨s6 D2 _ (s5 D2 _ hD4), by rw [List.length_map, List.length_range]; omega, xs.length - (i + 1), by omega, rfl, hlt, mX ((s4.trans s5).trans s6) hD3, zQ, by rw [List.range_succ, List.map_append]; rfl⟩
 have ei : i = xs.length := by omega
 subst ei
 refine .inl ⟨⟨xs, SqT.of (s24 p _ hp), Nat.le_refl _⟩, D2, (List.range ts.length).map (gk ts), rfl, SqL.of ?_, ?_⟩
 ·rw [hD4, hlen, List.map_map]
  rfl
 ·have q' := q H4 s24
  rw [List.all_map]
  exact q'
end
end K06
namespace K06
open PySem L2
theorem V9 (f : Tr → Bool) : ∀ ts : List Tr, inV (.bl false) (ts.map fun x => V.bl (f x)) = !ts.all f
 | [] => rfl
 | x :: r => by
  have ih := V9 f r
  rw [List.map_cons, List.all_cons]
  show (eqV (.bl (f x)) (.bl false) || inV (.bl false) (r.map fun x => V.bl (f x))) = _
  rw [ih]
  cases f x <;> rfl
theorem Zs (f : Tr → Bool) : ∀ ts : List Tr, (ts.map fun x => V.bl (f x)).all cC = true
 | [] => rfl
 | x :: r => by rw [List.map_cons, List.all_cons, Zs f r]; rfl
theorem in_123 (i : Int) : inV (.int i) [.int 1, .int 2, .int 3] = (decide (1 ≤ i) && decide (i ≤ 3)) := by
 show (((1 : Int) == i) || (((2 : Int) == i) || (((3 : Int) == i) || false))) = _
 by_cases h1 : i = 1
 ·subst h1; rfl
 by_cases h2 : i = 2
 ·subst h2; rfl
 by_cases h3 : i = 3
 ·subst h3; rfl
 have e1 : ((1 : Int) == i) = false := by simpa using fun h : (1 : Int) = i => h1 h.symm
 have e2 : ((2 : Int) == i) = false := by simpa using fun h : (2 : Int) = i => h2 h.symm
 have e3 : ((3 : Int) == i) = false := by simpa using fun h : (3 : Int) = i => h3 h.symm
 rw [e1, e2, e3]
 show false = _
 by_cases h : 1 ≤ i
 ·rw [decide_eq_false (show ¬ i ≤ 3 by omega), Bool.and_false]
 ·rw [decide_eq_false h, Bool.false_and]
section
variable {P : Program} {w : World} {K : W.Frag} {mg : Str → Option Value} {base : Heap} {a : Adr}
theorem aA (T : Txt P w K mg a) : FnOk P w K mg base CX0 6 a.fB a.vM ["_law_thing", "_law_boxes", "_law_turns"] (Vj pG) := by
 have S := vL
 have big : (1000000 : Nat) < sizeLine := by decide
 have mJ := (iW (P := P) (w := w) (base := base) T).mono (show 1 ≤ 5 by decide)
 have gW := (wU (P := P) (w := w) (base := base) T).mono (show 1 ≤ 5 by decide)
 have fO := rR (P := P) (w := w) (base := base) T
 refine T.cM.okJ vL (fun vs H Q E h => ?_) (fun cdv A outer s H vs Q E hr h => ?_)
 ·obtain ⟨v, t, b, u, bx, tu, rfl, _⟩ := h; rfl
 obtain ⟨v, t, b, u, bx, tu, rfl, hv, hn, hb, hu, q⟩ := h
 refine ⟨_, (wQ (zX (xX (jX (gQ eQ rfl T.rQ rfl (qQ (jv 0) (qQ (wX rfl T.tX (v := .ty "tuple") rfl rfl) jQ))))) (uQ (pQ fX)) tQ) (wQ (xY PassesOwn.never rfl (dJ (jv 0)) (pK (i := 3) S.nd rfl (Or.inl rfl)) (wQ (zX (iX (zZ (xX (jX (gQ eQ rfl T.rQ rfl (qQ (jv 3) (qQ (wX rfl T.tX (v := .ty "tuple") rfl rfl) jQ))))) (zZ (sQ lD (gQ qX rfl T.aX rfl (qQ (jv 3) jQ)) xQ (oQ _)) (qZ (xX (jX (mQ mJ hr rfl T.lV T.k_l_is_name T.b_l_is_name .nil iQ (qQ (cQ lQ (jv 3) xQ (fun _ _ => rfl)) jQ)))))))) (uQ (pQ fX)) tQ) (wQ (zX (iX (zZ (xX (jX (mQ gW hr rfl T.aB T.k_l_is_number T.b_l_is_number .nil iQ (qQ (cQ lQ (jv 3) xQ (fun _ _ => rfl)) jQ)))) (qZ (sQ jC (cQ lQ (jv 3) xQ (fun _ _ => rfl)) (yX (qQ xQ (qQ xQ (qQ xQ jQ)))) rfl)))) (uQ (pQ fX)) tQ) (wQ (zX (iX (zZ (xX (jX (gQ eQ rfl T.rQ rfl (qQ (cQ lQ (jv 3) xQ (fun _ _ => rfl)) (qQ (wX rfl T.wR (v := .ty "bool") rfl rfl) jQ))))) (qZ (xX (jX (gQ eQ rfl T.rQ rfl (qQ (cQ lQ (jv 3) xQ (fun _ _ => rfl)) (qQ (wX rfl T.tX (v := .ty "tuple") rfl rfl) jQ)))))))) (uQ (pQ fX)) tQ) (uQ (zX (sQ QM fX (kY rfl (show (["_law_change", "_law_thing", "_law_boxes", "_law_turns", "_law_one"] : List Str).Nodup by decide +kernel) (uW (N := ["_law_thing", "_law_boxes", "_law_turns", "_law_one"]) (sc := vQ vJ) rfl rfl rfl (by decide +kernel)) (dJ (cQ lQ (jv 3) xQ (fun _ _ => rfl))) (fun _ _ _ _ _ => xK) (fun _ _ _ _ _ => (mQ fO hr rfl T.yO T.k_l_change_fits T.b_l_change_fits .nil iQ (qQ (jv 0) (qQ (jv 2) (qQ (jv 3) jQ)))))) rfl) (uQ (pQ fX)) tQ)))))) (uQ (VZ 3 (pQ (hV wZ (gQ fS rfl T.aX rfl (qQ (mZ (mS rfl) rfl T.K6 rfl (qQ (JQ 3 (vY rfl (show (["_law_one", "_law_thing", "_law_boxes", "_law_turns", "?"] : List Str).Nodup by decide +kernel) (gV (N := ["_law_thing", "_law_boxes", "_law_turns", "?"]) rfl (by with_unfolding_all rfl) (by decide +kernel)) (dJ (jv 0)) (fun _ _ _ _ => xK) (fun _ _ _ _ => (cQ (r := zC K) lQ (jv 0) xQ (fun _ _ => rfl))))) jQ)) jQ)) (gQ qX rfl T.aX rfl (qQ (jv 0) jQ)) (oQ _))))))), ?_⟩
 obtain ⟨ty, hty, htt, _, _⟩ := hv.ty
 refine ⟨_, rfl, v, .tup, ty, rfl, hty, _, rfl, ?_⟩
 rw [htt]
 cases hT : t.isTup with
 | false =>
  have q' := q H (Same.refl H)
  rw [show pG bx tu t = false by cases t <;> first | rfl | cases hT] at q'
  exact nQ q'
 | true =>
 obtain ⟨p, xs, ts, rfl, rfl, hp, hx⟩ := nK hv hT
 rw [eX] at hn
 rw [QY] at q
 have hlx := hx.len
 have hwl := kJ ts
 refine bQ ⟨_, rfl, p, rfl, ⟨xs, SqT.of hp⟩, ?_⟩
 refine bW (xs := xs) (fun i σ' H' => ∃ x3 : Option V, σ' = [some (.ref p), some (.ref b), some (.ref u), x3] ∧ Same H H' ∧ (ts.take i).all (iL bx tu) = true) ⟨none, rfl, Same.refl H, rfl⟩ ?_ ?_ ?_
 ·rintro i σ' H' _ ⟨x3, rfl, s1, _⟩
  exact SqT.of (s1 p _ hp)
 ·rintro i x σ' H1 hxi ⟨x3, rfl, s1, hall⟩
  obtain ⟨tx, htx, hrx⟩ := hx.get hxi
  have wx := bV htx
  have no : ∀ H3, Same H H3 → iL bx tu tx = false → Q (.bl false) H3 := fun H3 s3 e => by
   have q' := q H3 s3
   rw [rO htx e, Bool.false_and] at q'
   exact q'
  obtain ⟨c, hc, hct, _, _⟩ := (hrx.same s1).ty
  refine ⟨_, rfl, x, .tup, c, rfl, hc, _, rfl, ?_⟩
  rw [hct]
  cases hT2 : tx.isTup with
  | false => exact nQ (no _ s1 (by cases tx <;> first | rfl | cases hT2))
  | true =>
  obtain ⟨p2, vs2, ts2, rfl, rfl, hp2, hx2⟩ := nK hrx hT2
  rw [eX] at wx
  refine bQ ⟨_, rfl, _, _, rfl, .inr ⟨_, SqT.of (s1 p2 _ hp2), rfl⟩, rfl, _, rfl, ?_⟩
  have l2 := hx2.len
  by_cases hl : ts2.length = 4
  ·obtain ⟨y0, y1, y2, y3, t0, t1, t2, t3, rfl, rfl, h0, h1, h2, h3⟩ := hx2.four hl
   rw [yQ, yQ, yQ, yQ] at wx
   obtain ⟨c0, hc0, _⟩ := (h0.same s1).ty
   have eb : iL bx tu (.tup [t0, t1, t2, t3]) = (xZ t0 && nY bx tu (.tup [t0, t1, t2, t3])) := rfl
   refine bQ ⟨_, rfl, p2, _, _, _, rfl, rfl, SqT.of (s1 p2 _ hp2), at0 _ _, y0, c0, rfl, hc0, fun z' e => ?_, fun H3 s3 => ⟨_, rfl, ?_⟩⟩
   ·have := h0.strLen e
    omega
   rw [h0.nam]
   have s13 := s1.trans s3
   cases hN : xZ t0 with
   | false => exact nQ (no _ s13 (by rw [eb, hN, Bool.false_and]))
   | true =>
   rw [eb, hN, Bool.true_and] at no
   obtain ⟨c1, hc1, _⟩ := (h1.same s13).ty
   refine bQ ⟨_, rfl, p2, _, _, _, rfl, rfl, SqT.of (s13 p2 _ hp2), at1 _ _ _, y1, c1, rfl, hc1, _, rfl, ?_⟩
   rw [h1.num]
   have no1 : ∀ H4, Same H H4 → cD t1 = false → Q (.bl false) H4 := fun H4 s4 e => no H4 s4 (by
    cases t3 <;> first | rfl | (show (cD t1 && t2.isBl && _) = false; rw [e]; rfl))
   cases hM : nM t1 with
   | false =>
    refine nQ (no1 _ s13 ?_)
    cases t1 with
    | int i =>
     have hM : (decide (-1000000000 ≤ i) && decide (i ≤ 1000000000)) = false := hM
     show (decide (1 ≤ i) && decide (i ≤ 3)) = false
     rw [Bool.and_eq_false_iff] at hM ⊢
     rcases hM with h | h
     ·have := of_decide_eq_false h
      exact .inl (decide_eq_false (by omega))
     ·have := of_decide_eq_false h
      exact .inr (decide_eq_false (by omega))
    | _ => rfl
   | true =>
   obtain ⟨i1, rfl⟩ := XS hM
   cases h1
   refine bQ ⟨_, rfl, p2, _, _, _, rfl, rfl, SqT.of (s13 p2 _ hp2), at1 _ _ _, sZ3, fun pc hpc => ?_⟩
   have sc := kQ hpc (.tup [.int 1, .int 2, .int 3])
   have s1c := s13.trans sc
   refine ⟨pc, _, rfl, .inr (SqT.of zQ), rfl, rfl, _, rfl, ?_⟩
   show if (!inV (.int i1) [.int 1, .int 2, .int 3]) = true then _ else _
   rw [in_123]
   have er : cD (.int i1) = (decide (1 ≤ i1) && decide (i1 ≤ 3)) := rfl
   rw [← er]
   cases hK : cD (.int i1) with
   | false => exact nQ (no1 _ s1c hK)
   | true =>
   obtain ⟨c2, hc2, _, _, hb2⟩ := (h2.same s1c).ty
   obtain ⟨c3, hc3, ht3, _, _⟩ := (h3.same s1c).ty
   refine bQ ⟨_, rfl, p2, _, _, _, rfl, rfl, SqT.of (s1c p2 _ hp2), at2 _ _ _ _, y2, .bl, c2, rfl, hc2, _, rfl, ?_⟩
   rw [hb2]
   cases hB : t2.isBl with
   | false =>
    refine nQ (no _ s1c ?_)
    cases t3 <;> first | rfl | (show (cD (.int i1) && t2.isBl && _) = false; rw [hB, Bool.and_false, Bool.false_and])
   | true =>
   refine bQ ⟨_, rfl, p2, _, _, _, rfl, rfl, SqT.of (s1c p2 _ hp2), at3 _ _ _ _ _, y3, .tup, c3, rfl, hc3, _, rfl, ?_⟩
   rw [ht3]
   cases hT3 : t3.isTup with
   | false => exact nQ (no _ s1c (by cases t3 <;> first | rfl | cases hT3))
   | true =>
   obtain ⟨p3, xs3, ts3, rfl, rfl, hp3, hx3⟩ := nK h3 hT3
   have e4 : nY bx tu (.tup [t0, .int i1, t2, .tup ts3]) = ts3.all (rK bx tu) := by
    show (cD (.int i1) && t2.isBl && _) = _
    rw [hK, hB]
    rfl
   rw [eX] at wx
   have hl3 := hx3.len
   have hw3 := kJ ts3
   refine bQ ⟨_, rfl, p2, _, _, _, rfl, rfl, SqT.of (s1c p2 _ hp2), at3 _ _ _ _ _, p3, rfl, ⟨xs3, SqT.of (s1c p3 _ hp3)⟩, fun D hD => ?_⟩
   refine ⟨fun j m ys H' => m = xs3.length - j ∧ j ≤ xs3.length ∧ Same (upd H3 pc (.tup [.int 1, .int 2, .int 3])) H' ∧ H' D = some (.lst ys) ∧ ys = (ts3.take j).map (fun x => V.bl (rK bx tu x)), ⟨xs3.length, by simp, Nat.zero_le _, kQ hD _, zQ, rfl⟩, ?_⟩
   rintro j m ys H5 ⟨rfl, hj, s5, hD5, rfl⟩
   have s15 := s1c.trans s5
   by_cases hlt : j < xs3.length
   ·refine .inr ⟨⟨xs3, xs3[j], SqT.of (s15 p3 _ hp3), List.getElem?_eq_getElem hlt⟩, ?_⟩
    rintro x' H'' ⟨rfl, hxj⟩
    have hxj := hxj xs3 (SqT.of (s15 p3 _ hp3))
    obtain ⟨tj, htj, hrj⟩ := hx3.get hxj
    have wj := bV htj
    refine ⟨_, rfl, _, rfl, _, rfl, x', tj, b, u, bx, tu, rfl, hrj.same s15, by omega, hb.same s15, hu.same s15, fun H6 s6 => ?_⟩
    exact ⟨s6 D _ hD5, by rw [List.length_map, List.length_take]; omega, xs3.length - (j + 1), by omega, rfl, hlt, mX (s5.trans s6) hD, zQ, bP htj⟩
   ·have ej : j = xs3.length := by omega
    subst ej
    rw [hl3, List.take_length] at hD5
    refine .inl ⟨⟨xs3, SqT.of (s15 p3 _ hp3), Nat.le_refl _⟩, D, _, rfl, .inl (SqL.of hD5), rfl, Zs _ _, _, rfl, ?_⟩
    show if inV (.bl false) (ts3.map fun x => V.bl (rK bx tu x)) = true then _ else _
    rw [V9]
    cases hA : ts3.all (rK bx tu) with
    | false => exact nQ (no _ s15 (by rw [e4, hA]))
    | true => exact bQ ⟨_, rfl, s15, jR htx hall (by rw [eb, hN, e4, hA]; rfl)⟩
  ·rw [decide_eq_false (fun e => hl (by injection e with e; omega))]
   refine nQ (no _ s1 ?_)
   have e : kW 4 (.tup ts2) = false := by
    cases ts2 with
    | nil => rfl
    | cons y r =>
     show (decide (r.length + 1 = 4) && xZ y) = false
     rw [decide_eq_false (by rw [List.length_cons] at hl; omega), Bool.false_and]
   unfold iL
   rw [e, Bool.false_and]
 ·rintro σ' HE ⟨x3, rfl, sE, hall⟩
  rw [hlx, List.take_length] at hall
  have hcount := Wc (k := 24) hand_w ts hall
  refine ⟨fun v e => (nomatch e), _, rfl, p, rfl, ⟨xs, SqT.of (sE p _ hp)⟩, fun D hD => ?_⟩
  refine ⟨fun i m ys H' => m = xs.length - i ∧ i ≤ xs.length ∧ H' = upd HE D (.lst ys) ∧ ys = (ts.take i).map (fun x => V.str (nm x)), ⟨xs.length, by simp, Nat.zero_le _, rfl, rfl⟩, ?_⟩
  rintro i m ys H' ⟨rfl, hi, rfl, rfl⟩
  have sD := kQ hD (.lst ((ts.take i).map (fun x => V.str (nm x))))
  by_cases hlt : i < xs.length
  ·refine .inr ⟨⟨xs, xs[i], SqT.of (sD p _ (sE p _ hp)), List.getElem?_eq_getElem hlt⟩, ?_⟩
   rintro x' H'' ⟨rfl, hxi⟩
   have hxi := hxi xs (SqT.of (sD p _ (sE p _ hp)))
   obtain ⟨tx, htx, hrx⟩ := hx.get hxi
   have hbt : kW 4 tx = true := by
    have := List.all_eq_true.mp hall tx (List.mem_of_getElem? htx)
    unfold iL at this
    rw [Bool.and_eq_true] at this
    exact this.1
   obtain ⟨p2, z, r, rs, rfl, hp2, rfl, _, _⟩ := cJ hrx hbt
   refine ⟨_, rfl, p2, _, _, _, rfl, rfl, SqT.of (sD p2 _ (sE p2 _ hp2)), at0 _ _, ?_⟩
   exact ⟨zQ, by rw [List.length_map, List.length_take]; omega, xs.length - (i + 1), by omega, rfl, hlt, sV, (map_take (f := fun x => V.str (nm x)) htx).symm⟩
  ·have ei : i = xs.length := by omega
   subst ei
   rw [hlx, List.take_length] at sD ⊢
   refine .inl ⟨⟨xs, SqT.of (sD p _ (sE p _ hp)), by omega⟩, D, ts.map nm, rfl, SqL.of (by rw [zQ, List.map_map]; rfl), by rw [List.length_map]; omega, fun d hd => ?_⟩
   have sd := kQ hd (.ext (tL d (yH (ts.map nm))))
   have sF := (sE.trans sD).trans sd
   refine ⟨d, _, rfl, zQ, _, rfl, _, _, rfl, .inr ⟨_, SqT.of (sF p _ hp), rfl⟩, rfl, ?_⟩
   have q' := q _ sF
   rw [hall, Bool.true_and] at q'
   have e : decide (V.int ((yH (ts.map nm) : Nat) : Int) = V.int ((xs.length : Nat) : Int)) = decide ((ts.map nm).Nodup) := by
    congr 1
    rw [← Xx, List.length_map, hlx]
    exact propext ⟨fun h => by injection h with h; exact Int.ofNat.inj h, fun h => by rw [h]⟩
   rw [e]
   exact q'
end
end K06
namespace K06
open PySem L2
noncomputable def KG : List (Key × V) := [(Sum.inr "plain", .int 6), (Sum.inr "part", .int 4), (Sum.inr "give", .int 5), (Sum.inr "when", .int 4), (Sum.inr "each", .int 4)]
theorem merge5 : fW [] KG = KG := by decide +kernel
theorem Kj (z : Str) : (nV (fW [] KG) (Sum.inr z)).getD (.int 0) = .int (szK z) := by
 rw [merge5]
 exact Jt z
theorem KF {bx tu : List Str} {z : Str} {xs : List Tr} (h : xs.length < 3) : wW bx tu z xs = false := by
 match xs, h with
 | [], _ => rfl
 | [_], _ => rfl
 | [_, _], _ => rfl
section
variable {P : Program} {w : World} {K : W.Frag} {mg : Str → Option Value} {base : Heap} {a : Adr}
theorem cA (T : Txt P w K mg a) : FnOk P w K mg base CX0 7 a.bB a.xM ["_law_line", "_law_boxes", "_law_turns"] (Vj yV) := by
 have S := xL
 have big : (1000000 : Nat) < sizeLine := by decide
 have mJ := (iW (P := P) (w := w) (base := base) T).mono (show 1 ≤ 6 by decide)
 have cK := (lB (P := P) (w := w) (base := base) T).mono (show 4 ≤ 6 by decide)
 have uM := (mL (P := P) (w := w) (base := base) T).mono (show 5 ≤ 6 by decide)
 have QB := aA (P := P) (w := w) (base := base) T
 refine T.pM.okJ xL (fun vs H Q E h => ?_) (fun cdv A outer s H vs Q E hr h => ?_)
 ·obtain ⟨v, t, b, u, bx, tu, rfl, _⟩ := h; rfl
 obtain ⟨v, t, b, u, bx, tu, rfl, hv, hn, hb, hu, q⟩ := h
 refine ⟨_, (wQ (zX (iX (zZ (xX (jX (gQ eQ rfl T.rQ rfl (qQ (jv 0) (qQ (wX rfl T.tX (v := .ty "tuple") rfl rfl) jQ))))) (zZ (sQ bL (gQ qX rfl T.aX rfl (qQ (jv 0) jQ)) xQ (oQ _)) (qZ (xX (jX (gQ eQ rfl T.rQ rfl (qQ (cQ lQ (jv 0) xQ (fun _ _ => rfl)) (qQ (wX rfl T.jT (v := .ty "str") rfl rfl) jQ))))))))) (uQ (pQ fX)) tQ) (wQ (zX (sQ lD (Zh (iG hr) (JR (zU aQ xQ (zU aQ xQ (zU aQ xQ (zU aQ xQ (zU aQ xQ V1)))))) (cQ lQ (jv 0) xQ (fun _ _ => rfl)) xQ) (gQ qX rfl T.aX rfl (qQ (jv 0) jQ)) (oQ _)) (uQ (pQ fX)) tQ) (wQ (zX (sQ wZ (cQ lQ (jv 0) xQ (fun _ _ => rfl)) aQ (oQ _)) (uQ (pQ (mQ cK hr rfl T.iV T.k_l_sum_fits T.b_l_sum_fits .nil iQ (qQ (cQ lQ (jv 0) xQ (fun _ _ => rfl)) (qQ (jv 1) (qQ (jv 2) jQ)))))) tQ) (wQ (zX (sQ wZ (cQ lQ (jv 0) xQ (fun _ _ => rfl)) aQ (oQ _)) (uQ (pQ (lY (mQ mJ hr rfl T.lV T.k_l_is_name T.b_l_is_name .nil iQ (qQ (cQ lQ (jv 0) xQ (fun _ _ => rfl)) jQ)) (lY (hV bL (gQ qX rfl T.aX rfl (qQ (jv 2) jQ)) xQ (oQ _)) (bU (mQ cK hr rfl T.iV T.k_l_sum_fits T.b_l_sum_fits .nil iQ (qQ (cQ lQ (jv 0) xQ (fun _ _ => rfl)) (qQ (jv 1) (qQ (jv 2) jQ))))))))) tQ) (wQ (zX (iX (zZ (iX (jY (sQ JC (cQ lQ (jv 0) xQ (fun _ _ => rfl)) aZ (oQ _)) (uV (xX (jX (mQ cK hr rfl T.iV T.k_l_sum_fits T.b_l_sum_fits .nil iQ (qQ (cQ lQ (jv 0) xQ (fun _ _ => rfl)) (qQ (jv 1) (qQ (jv 2) jQ))))))))) (qZ (xX (jX (mQ mJ hr rfl T.lV T.k_l_is_name T.b_l_is_name .nil iQ (qQ (cQ lQ (jv 0) xQ (fun _ _ => rfl)) jQ))))))) (uQ (pQ fX)) tQ) (wQ (zX (sQ wZ (cQ lQ (jv 0) xQ (fun _ _ => rfl)) aQ (oQ _)) (uQ (pQ (mQ cK hr rfl T.iV T.k_l_sum_fits T.b_l_sum_fits .nil iQ (qQ (cQ lQ (jv 0) xQ (fun _ _ => rfl)) (qQ (jv 1) (qQ (jv 2) jQ)))))) tQ) (wQ (zX (xX (jX (mQ uM hr rfl T.dH T.k_l_pairs_fit T.b_l_pairs_fit .nil iQ (qQ (cQ lQ (jv 0) xQ (fun _ _ => rfl)) (qQ (jv 1) (qQ (jv 2) jQ)))))) (uQ (pQ fX)) tQ) (uQ (pQ (je_or (hV wZ (cQ lQ (jv 0) xQ (fun _ _ => rfl)) aQ (oQ _)) (bU (mQ QB hr rfl T.Qt T.k_l_hands_fit T.b_l_hands_fit .nil iQ (qQ (cQ lQ (jv 0) xQ (fun _ _ => rfl)) (qQ (jv 1) (qQ (jv 2) jQ))))))))))))))), ?_⟩
 have no : yV bx tu t = false → ∀ H', Same H H' → Q (.bl false) H' := fun e H' s' => by
  have q' := q H' s'
  rw [e] at q'
  exact q'
 obtain ⟨ty, hty, htt, _, _⟩ := hv.ty
 refine ⟨_, rfl, v, .tup, ty, rfl, hty, _, rfl, ?_⟩
 rw [htt]
 cases hT : t.isTup with
 | false => exact nQ (no (by cases t <;> first | rfl | cases hT) H (Same.refl H))
 | true =>
 obtain ⟨p, xs, ts, rfl, rfl, hp, hx⟩ := nK hv hT
 rw [eX] at hn
 have hlen := hx.len
 refine bQ ⟨_, rfl, _, _, rfl, .inr ⟨_, SqT.of hp, rfl⟩, _, _, rfl, rfl, _, rfl, ?_⟩
 cases hq4 : decide (((xs.length : Nat) : Int) < 4) with
 | true =>
  have hq4 := of_decide_eq_true hq4
  refine nQ (no ?_ H (Same.refl H))
  cases ts with
  | nil => rfl
  | cons y r =>
   cases y with
   | str z => exact KF (by rw [List.length_cons] at hlen; omega)
   | _ => rfl
 | false =>
 have hq4 := of_decide_eq_false hq4
 cases hx with
 | nil => exact absurd (show ((0 : Nat) : Int) < 4 by decide) hq4
 | @cons y ty0 r rs hy hr2 =>
 rw [yQ] at hn
 obtain ⟨c0, hc0, _, hs0, _⟩ := hy.ty
 refine bQ ⟨_, rfl, p, _, _, _, rfl, rfl, SqT.of hp, at0 _ _, y, .str, c0, rfl, hc0, _, rfl, ?_⟩
 rw [hs0]
 cases hS : ty0.isStr with
 | false => exact nQ (no (by cases ty0 <;> first | rfl | cases hS) H (Same.refl H))
 | true =>
 obtain ⟨z, rfl, rfl⟩ : ∃ z, y = .str z ∧ ty0 = .str z := by cases hy <;> first | exact ⟨_, rfl, rfl⟩ | cases hS
 refine bQ ?_
 refine fun pd hpd => ⟨zQ, KG, rfl, by decide, pd, rfl, .inl ⟨_, .inl zQ⟩, ?_⟩
 have k4 := kQ hpd (.dK [])
 have s4 : Same H (upd (upd H pd (.dK [])) pd (.dK (fW [] KG))) := mX k4 hpd
 have hp4 := s4 p _ hp
 refine ⟨_, rfl, p, _, _, _, rfl, rfl, SqT.of hp4, at0 _ _, _, DGet.k (k := Sum.inr z) zQ, ?_⟩
 rw [Kj]
 generalize (upd (upd H pd (.dK [])) pd (.dK (fW [] KG))) = H4 at s4 hp4 ⊢
 refine ⟨_, rfl, _, _, rfl, .inr ⟨_, SqT.of hp4, rfl⟩, rfl, _, rfl, ?_⟩
 have l2 := hr2.len
 by_cases hl : ((rs.length + 1 : Nat) : Int) = szK z
 ·rw [decide_eq_true (show V.int (szK z) = V.int (((V.str z :: r).length : Nat) : Int) by rw [List.length_cons, l2, hl])]
  refine bQ ?_
  have eL : yV bx tu (.tup (.str z :: rs)) = wW bx tu z rs := rfl
  rw [eL] at q no
  rcases oV hl with ⟨hz, hn3⟩ | ⟨hz, hn3⟩ | ⟨hz, hn3⟩ | ⟨hz, hn3⟩ | ⟨hz, hn3⟩
  ·obtain ⟨x1, x2, x3, t1, t2, t3, rfl, rfl, h1, h2, h3⟩ := hr2.three hn3
   rw [yQ, yQ, yQ] at hn
   have e : wW bx tu z [t1, t2, t3] = rX bx tu t1 := if_pos hz
   rw [e] at q
   refine ⟨_, rfl, p, _, _, _, rfl, rfl, SqT.of hp4, at0 _ _, rfl, _, rfl, ?_⟩
   rw [dT hz]
   exact nQ ⟨_, rfl, p, _, _, _, rfl, rfl, SqT.of hp4, at1 _ _ _, _, rfl, _, rfl, x1, t1, b, u, bx, tu, rfl, h1.same s4, by omega, hb.same s4, hu.same s4, fun H5 s5 => q _ (s4.trans s5)⟩
  ·obtain ⟨x1, x2, x3, t1, t2, t3, rfl, rfl, h1, h2, h3⟩ := hr2.three hn3
   rw [yQ, yQ, yQ] at hn
   have nw : ¬ z = "when" := by rw [hz]; decide
   have e : wW bx tu z [t1, t2, t3] = (xZ t1 && (rX bx tu t2 && decide (tu.length < 2))) := by
    show (if z = "when" then _ else if z = "each" then _ else _) = _
    rw [if_neg nw, if_pos hz]
   refine ⟨_, rfl, p, _, _, _, rfl, rfl, SqT.of hp4, at0 _ _, rfl, _, rfl, ?_⟩
   rw [dF nw]
   refine bQ ⟨_, rfl, p, _, _, _, rfl, rfl, SqT.of hp4, at0 _ _, rfl, _, rfl, ?_⟩
   rw [dT hz]
   obtain ⟨c1, hc1, _⟩ := (h1.same s4).ty
   refine nQ ⟨_, rfl, p, _, _, _, rfl, rfl, SqT.of hp4, at1 _ _ _, x1, c1, rfl, hc1, fun z' e => ?_, fun H5 s5 => ⟨_, rfl, ?_⟩⟩
   ·have := h1.strLen e
    omega
   rw [h1.nam]
   have s45 := s4.trans s5
   cases hN : xZ t1 with
   | false => exact bQ (no (by rw [e, hN, Bool.false_and]) _ s45)
   | true =>
   refine nQ ⟨_, rfl, _, _, rfl, .inl ⟨_, SqL.of (s45 u _ hu), rfl⟩, _, _, rfl, rfl, _, rfl, ?_⟩
   have el : decide ((((tu.map V.str).length : Nat) : Int) < 2) = decide (tu.length < 2) := by
    rw [List.length_map]
    congr 1
    exact propext ⟨fun h => by omega, fun h => by omega⟩
   rw [el]
   cases h2' : decide (tu.length < 2) with
   | false => exact bQ (no (by rw [e, h2', Bool.and_false, Bool.and_false]) _ s45)
   | true =>
    rw [e, hN, h2', Bool.and_true, Bool.true_and] at q
    exact nQ ⟨_, rfl, p, _, _, _, rfl, rfl, SqT.of (s45 p _ hp), at2 _ _ _ _, _, rfl, _, rfl, x2, t2, b, u, bx, tu, rfl, h2.same s45, by omega, hb.same s45, hu.same s45, fun H6 s6 => q _ (s45.trans s6)⟩
  ·obtain ⟨x1, x2, x3, t1, t2, t3, rfl, rfl, h1, h2, h3⟩ := hr2.three hn3
   rw [yQ, yQ, yQ] at hn
   have nw : ¬ z = "when" := by rw [hz]; decide
   have ne : ¬ z = "each" := by rw [hz]; decide
   have e : wW bx tu z [t1, t2, t3] = ((dY bx tu t1 && xZ t2) && pZ bx tu t3) := by
    show (if z = "when" then _ else if z = "each" then _ else if z = "part" then _ else _) = _
    rw [if_neg nw, if_neg ne, if_pos hz]
   refine ⟨_, rfl, p, _, _, _, rfl, rfl, SqT.of hp4, at0 _ _, rfl, _, rfl, ?_⟩
   rw [dF nw]
   refine bQ ⟨_, rfl, p, _, _, _, rfl, rfl, SqT.of hp4, at0 _ _, rfl, _, rfl, ?_⟩
   rw [dF ne]
   refine bQ ⟨_, rfl, p, _, _, _, rfl, rfl, SqT.of hp4, at1 _ _ _, rfl, _, rfl, ?_⟩
   by_cases hN1 : x1 = .non
   ·rw [decide_eq_true hN1]
    subst hN1
    cases h1
    have hK : dY bx tu .non = true := rfl
    rw [hK, Bool.true_and] at e
    refine bQ ?_
    obtain ⟨c2, hc2, _⟩ := (h2.same s4).ty
    refine ⟨_, rfl, p, _, _, _, rfl, rfl, SqT.of (s4 p _ hp), at2 _ _ _ _, x2, c2, rfl, hc2, fun z' e => ?_, fun H6 s6 => ⟨_, rfl, ?_⟩⟩
    ·have := h2.strLen e
     omega
    rw [h2.nam]
    have s7 := s4.trans s6
    cases hN : xZ t2 with
    | false => exact nQ (no (by rw [e, hN, Bool.false_and]) _ s7)
    | true =>
    rw [e, hN, Bool.true_and] at q
    refine bQ ⟨_, rfl, p, _, _, _, rfl, rfl, SqT.of (s7 p _ hp), at0 _ _, rfl, _, rfl, ?_⟩
    rw [dF (show ¬ z = "give" by rw [hz]; decide)]
    refine bQ ⟨_, rfl, p, _, _, _, rfl, rfl, SqT.of (s7 p _ hp), at3 _ _ _ _ _, _, rfl, _, rfl, x3, t3, b, u, bx, tu, rfl, h3.same s7, by omega, hb.same s7, hu.same s7, fun H8 s8 => ⟨_, rfl, ?_⟩⟩
    have s9 := s7.trans s8
    have q' := q _ s9
    cases hP : pZ bx tu t3 with
    | false => rw [hP] at q'; exact nQ q'
    | true =>
     rw [hP] at q'
     refine bQ ⟨_, rfl, p, _, _, _, rfl, rfl, SqT.of (s9 p _ hp), at0 _ _, rfl, _, rfl, ?_⟩
     rw [dT hz]
     exact nQ q'
   ·rw [decide_eq_false hN1]
    have hK : dY bx tu t1 = rX bx tu t1 := by cases h1 <;> first | rfl | exact absurd rfl hN1
    rw [hK] at e
    refine nQ ⟨_, rfl, p, _, _, _, rfl, rfl, SqT.of hp4, at1 _ _ _, _, rfl, _, rfl, x1, t1, b, u, bx, tu, rfl, h1.same s4, by omega, hb.same s4, hu.same s4, fun H5 s5 => ⟨_, rfl, ?_⟩⟩
    cases hF : rX bx tu t1 with
    | false => exact nQ (no (by rw [e, hF, Bool.false_and, Bool.false_and]) _ (s4.trans s5))
    | true =>
    rw [hF, Bool.true_and] at e
    have s45 := s4.trans s5
    refine bQ ?_
    obtain ⟨c2, hc2, _⟩ := (h2.same s45).ty
    refine ⟨_, rfl, p, _, _, _, rfl, rfl, SqT.of (s45 p _ hp), at2 _ _ _ _, x2, c2, rfl, hc2, fun z' e => ?_, fun H6 s6 => ⟨_, rfl, ?_⟩⟩
    ·have := h2.strLen e
     omega
    rw [h2.nam]
    have s7 := s45.trans s6
    cases hN : xZ t2 with
    | false => exact nQ (no (by rw [e, hN, Bool.false_and]) _ s7)
    | true =>
    rw [e, hN, Bool.true_and] at q
    refine bQ ⟨_, rfl, p, _, _, _, rfl, rfl, SqT.of (s7 p _ hp), at0 _ _, rfl, _, rfl, ?_⟩
    rw [dF (show ¬ z = "give" by rw [hz]; decide)]
    refine bQ ⟨_, rfl, p, _, _, _, rfl, rfl, SqT.of (s7 p _ hp), at3 _ _ _ _ _, _, rfl, _, rfl, x3, t3, b, u, bx, tu, rfl, h3.same s7, by omega, hb.same s7, hu.same s7, fun H8 s8 => ⟨_, rfl, ?_⟩⟩
    have s9 := s7.trans s8
    have q' := q _ s9
    cases hP : pZ bx tu t3 with
    | false => rw [hP] at q'; exact nQ q'
    | true =>
     rw [hP] at q'
     refine bQ ⟨_, rfl, p, _, _, _, rfl, rfl, SqT.of (s9 p _ hp), at0 _ _, rfl, _, rfl, ?_⟩
     rw [dT hz]
     exact nQ q'
  ·obtain ⟨x1, x2, x3, x4, t1, t2, t3, t4, rfl, rfl, h1, h2, h3, h4⟩ := hr2.four hn3
   rw [yQ, yQ, yQ, yQ] at hn
   have nw : ¬ z = "when" := by rw [hz]; decide
   have ne : ¬ z = "each" := by rw [hz]; decide
   have e : wW bx tu z [t1, t2, t3, t4] = ((dY bx tu t1 && xZ t2) && rX bx tu t3) := if_pos hz
   refine ⟨_, rfl, p, _, _, _, rfl, rfl, SqT.of hp4, at0 _ _, rfl, _, rfl, ?_⟩
   rw [dF nw]
   refine bQ ⟨_, rfl, p, _, _, _, rfl, rfl, SqT.of hp4, at0 _ _, rfl, _, rfl, ?_⟩
   rw [dF ne]
   refine bQ ⟨_, rfl, p, _, _, _, rfl, rfl, SqT.of hp4, at1 _ _ _, rfl, _, rfl, ?_⟩
   by_cases hN1 : x1 = .non
   ·rw [decide_eq_true hN1]
    subst hN1
    cases h1
    have hK : dY bx tu .non = true := rfl
    rw [hK, Bool.true_and] at e
    refine bQ ?_
    obtain ⟨c2, hc2, _⟩ := (h2.same s4).ty
    refine ⟨_, rfl, p, _, _, _, rfl, rfl, SqT.of (s4 p _ hp), at2 _ _ _ _, x2, c2, rfl, hc2, fun z' e => ?_, fun H6 s6 => ⟨_, rfl, ?_⟩⟩
    ·have := h2.strLen e
     omega
    rw [h2.nam]
    have s7 := s4.trans s6
    cases hN : xZ t2 with
    | false => exact nQ (no (by rw [e, hN, Bool.false_and]) _ s7)
    | true =>
    rw [e, hN, Bool.true_and] at q
    refine bQ ⟨_, rfl, p, _, _, _, rfl, rfl, SqT.of (s7 p _ hp), at0 _ _, rfl, _, rfl, ?_⟩
    rw [dT hz]
    exact nQ ⟨_, rfl, p, _, _, _, rfl, rfl, SqT.of (s7 p _ hp), at3 _ _ _ _ _, _, rfl, _, rfl, x3, t3, b, u, bx, tu, rfl, h3.same s7, by omega, hb.same s7, hu.same s7, fun H8 s8 => q _ (s7.trans s8)⟩
   ·rw [decide_eq_false hN1]
    have hK : dY bx tu t1 = rX bx tu t1 := by cases h1 <;> first | rfl | exact absurd rfl hN1
    rw [hK] at e
    refine nQ ⟨_, rfl, p, _, _, _, rfl, rfl, SqT.of hp4, at1 _ _ _, _, rfl, _, rfl, x1, t1, b, u, bx, tu, rfl, h1.same s4, by omega, hb.same s4, hu.same s4, fun H5 s5 => ⟨_, rfl, ?_⟩⟩
    cases hF : rX bx tu t1 with
    | false => exact nQ (no (by rw [e, hF, Bool.false_and, Bool.false_and]) _ (s4.trans s5))
    | true =>
    rw [hF, Bool.true_and] at e
    have s45 := s4.trans s5
    refine bQ ?_
    obtain ⟨c2, hc2, _⟩ := (h2.same s45).ty
    refine ⟨_, rfl, p, _, _, _, rfl, rfl, SqT.of (s45 p _ hp), at2 _ _ _ _, x2, c2, rfl, hc2, fun z' e => ?_, fun H6 s6 => ⟨_, rfl, ?_⟩⟩
    ·have := h2.strLen e
     omega
    rw [h2.nam]
    have s7 := s45.trans s6
    cases hN : xZ t2 with
    | false => exact nQ (no (by rw [e, hN, Bool.false_and]) _ s7)
    | true =>
    rw [e, hN, Bool.true_and] at q
    refine bQ ⟨_, rfl, p, _, _, _, rfl, rfl, SqT.of (s7 p _ hp), at0 _ _, rfl, _, rfl, ?_⟩
    rw [dT hz]
    exact nQ ⟨_, rfl, p, _, _, _, rfl, rfl, SqT.of (s7 p _ hp), at3 _ _ _ _ _, _, rfl, _, rfl, x3, t3, b, u, bx, tu, rfl, h3.same s7, by omega, hb.same s7, hu.same s7, fun H8 s8 => q _ (s7.trans s8)⟩
  ·obtain ⟨x1, x2, x3, x4, x5, t1, t2, t3, t4, t5, rfl, rfl, h1, h2, h3, h4, h5⟩ := hr2.five hn3
   rw [yQ, yQ, yQ, yQ, yQ] at hn
   have nw : ¬ z = "when" := by rw [hz]; decide
   have ne : ¬ z = "each" := by rw [hz]; decide
   have e : wW bx tu z [t1, t2, t3, t4, t5] = ((dY bx tu t1 && xZ t2) && (pG bx tu t4 && pZ bx tu t3)) := if_pos hz
   refine ⟨_, rfl, p, _, _, _, rfl, rfl, SqT.of hp4, at0 _ _, rfl, _, rfl, ?_⟩
   rw [dF nw]
   refine bQ ⟨_, rfl, p, _, _, _, rfl, rfl, SqT.of hp4, at0 _ _, rfl, _, rfl, ?_⟩
   rw [dF ne]
   refine bQ ⟨_, rfl, p, _, _, _, rfl, rfl, SqT.of hp4, at1 _ _ _, rfl, _, rfl, ?_⟩
   by_cases hN1 : x1 = .non
   ·rw [decide_eq_true hN1]
    subst hN1
    cases h1
    have hK : dY bx tu .non = true := rfl
    rw [hK, Bool.true_and] at e
    refine bQ ?_
    obtain ⟨c2, hc2, _⟩ := (h2.same s4).ty
    refine ⟨_, rfl, p, _, _, _, rfl, rfl, SqT.of (s4 p _ hp), at2 _ _ _ _, x2, c2, rfl, hc2, fun z' e => ?_, fun H6 s6 => ⟨_, rfl, ?_⟩⟩
    ·have := h2.strLen e
     omega
    rw [h2.nam]
    have s7 := s4.trans s6
    cases hN : xZ t2 with
    | false => exact nQ (no (by rw [e, hN, Bool.false_and]) _ s7)
    | true =>
    rw [e, hN, Bool.true_and] at q
    refine bQ ⟨_, rfl, p, _, _, _, rfl, rfl, SqT.of (s7 p _ hp), at0 _ _, rfl, _, rfl, ?_⟩
    rw [dF (show ¬ z = "give" by rw [hz]; decide)]
    refine bQ ⟨_, rfl, p, _, _, _, rfl, rfl, SqT.of (s7 p _ hp), at3 _ _ _ _ _, _, rfl, _, rfl, x3, t3, b, u, bx, tu, rfl, h3.same s7, by omega, hb.same s7, hu.same s7, fun H8 s8 => ⟨_, rfl, ?_⟩⟩
    have s9 := s7.trans s8
    cases hP : pZ bx tu t3 with
    | false =>
     have q' := q _ s9
     rw [hP, Bool.and_false] at q'
     exact nQ q'
    | true =>
     rw [hP, Bool.and_true] at q
     refine bQ ⟨_, rfl, p, _, _, _, rfl, rfl, SqT.of (s9 p _ hp), at0 _ _, rfl, _, rfl, ?_⟩
     rw [dF (show ¬ z = "part" by rw [hz]; decide)]
     exact bQ ⟨_, rfl, p, _, _, _, rfl, rfl, SqT.of (s9 p _ hp), at4 _ _ _ _ _ _, _, rfl, _, rfl, x4, t4, b, u, bx, tu, rfl, h4.same s9, by omega, hb.same s9, hu.same s9, fun H10 s10 => q _ (s9.trans s10)⟩
   ·rw [decide_eq_false hN1]
    have hK : dY bx tu t1 = rX bx tu t1 := by cases h1 <;> first | rfl | exact absurd rfl hN1
    rw [hK] at e
    refine nQ ⟨_, rfl, p, _, _, _, rfl, rfl, SqT.of hp4, at1 _ _ _, _, rfl, _, rfl, x1, t1, b, u, bx, tu, rfl, h1.same s4, by omega, hb.same s4, hu.same s4, fun H5 s5 => ⟨_, rfl, ?_⟩⟩
    cases hF : rX bx tu t1 with
    | false => exact nQ (no (by rw [e, hF, Bool.false_and, Bool.false_and]) _ (s4.trans s5))
    | true =>
    rw [hF, Bool.true_and] at e
    have s45 := s4.trans s5
    refine bQ ?_
    obtain ⟨c2, hc2, _⟩ := (h2.same s45).ty
    refine ⟨_, rfl, p, _, _, _, rfl, rfl, SqT.of (s45 p _ hp), at2 _ _ _ _, x2, c2, rfl, hc2, fun z' e => ?_, fun H6 s6 => ⟨_, rfl, ?_⟩⟩
    ·have := h2.strLen e
     omega
    rw [h2.nam]
    have s7 := s45.trans s6
    cases hN : xZ t2 with
    | false => exact nQ (no (by rw [e, hN, Bool.false_and]) _ s7)
    | true =>
    rw [e, hN, Bool.true_and] at q
    refine bQ ⟨_, rfl, p, _, _, _, rfl, rfl, SqT.of (s7 p _ hp), at0 _ _, rfl, _, rfl, ?_⟩
    rw [dF (show ¬ z = "give" by rw [hz]; decide)]
    refine bQ ⟨_, rfl, p, _, _, _, rfl, rfl, SqT.of (s7 p _ hp), at3 _ _ _ _ _, _, rfl, _, rfl, x3, t3, b, u, bx, tu, rfl, h3.same s7, by omega, hb.same s7, hu.same s7, fun H8 s8 => ⟨_, rfl, ?_⟩⟩
    have s9 := s7.trans s8
    cases hP : pZ bx tu t3 with
    | false =>
     have q' := q _ s9
     rw [hP, Bool.and_false] at q'
     exact nQ q'
    | true =>
     rw [hP, Bool.and_true] at q
     refine bQ ⟨_, rfl, p, _, _, _, rfl, rfl, SqT.of (s9 p _ hp), at0 _ _, rfl, _, rfl, ?_⟩
     rw [dF (show ¬ z = "part" by rw [hz]; decide)]
     exact bQ ⟨_, rfl, p, _, _, _, rfl, rfl, SqT.of (s9 p _ hp), at4 _ _ _ _ _ _, _, rfl, _, rfl, x4, t4, b, u, bx, tu, rfl, h4.same s9, by omega, hb.same s9, hu.same s9, fun H10 s10 => q _ (s9.trans s10)⟩
 ·rw [decide_eq_false (fun e => hl (by injection e with e; rw [e, List.length_cons, l2]))]
  exact nQ (no (sR hl) _ s4)
end
end K06
namespace K06
open PySem L2
noncomputable def PlRepL (l g : Addr) (H0 H : Hp) (x : V) (p : Pl) : Prop := ∃ q u v, x = .ref q ∧ H q = some (.tup [v, .ref u, .int ((p.2.1 : Int) + 1)]) ∧ NL H u p.2.2 ∧ u ≠ l ∧ u ≠ g ∧ Rep H0 v p.1
inductive PlRepsL (l g : Addr) (H0 H : Hp) : List V → List Pl → Prop
 | nil : PlRepsL l g H0 H [] []
 | cons {x p xs ps} : PlRepL l g H0 H x p → PlRepsL l g H0 H xs ps → PlRepsL l g H0 H (x :: xs) (p :: ps)
section
variable {l g : Addr} {H0 H H' : Hp} {xs ys : List V} {ps rs : List Pl} {x : V} {p : Pl}
theorem PlRepL.ext (e : ∀ b o, b ≠ l → b ≠ g → H b = some o → H' b = some o) (hl : ∀ zs, H l ≠ some (.tup zs)) (hg : ∀ zs, H g ≠ some (.tup zs)) : PlRepL l g H0 H x p → PlRepL l g H0 H' x p := fun ⟨q, u, v, e1, h1, h2, n1, n2, h3⟩ =>
 ⟨q, u, v, e1, e _ _ (fun z => hl _ (by rw [← z]; exact h1)) (fun z => hg _ (by rw [← z]; exact h1)) h1, e _ _ n1 n2 h2, n1, n2, h3⟩
theorem PlRepsL.ext (e : ∀ b o, b ≠ l → b ≠ g → H b = some o → H' b = some o) (hl : ∀ zs, H l ≠ some (.tup zs)) (hg : ∀ zs, H g ≠ some (.tup zs)) (h : PlRepsL l g H0 H xs ps) : PlRepsL l g H0 H' xs ps := by
 induction h with
 | nil => exact .nil
 | cons a b ih => exact .cons (a.ext e hl hg) ih
theorem PlRepsL.append (h : PlRepsL l g H0 H xs ps) (h2 : PlRepsL l g H0 H ys rs) : PlRepsL l g H0 H (xs ++ ys) (ps ++ rs) := by
 induction h with
 | nil => exact h2
 | cons a b ih => exact .cons a ih
theorem PlRepsL.len (h : PlRepsL l g H0 H xs ps) : xs.length = ps.length := by
 induction h with
 | nil => rfl
 | cons a b ih => rw [List.length_cons, List.length_cons, ih]
theorem PlRepsL.snoc (h : PlRepsL l g H0 H xs ps) {L : List V} {b : V} (e : xs = L ++ [b]) : ∃ us u, ps = us ++ [u] ∧ PlRepsL l g H0 H L us ∧ PlRepL l g H0 H b u := by
 subst e
 induction L generalizing ps with
 | nil => cases h with | cons a b => cases b; exact ⟨[], _, rfl, .nil, a⟩
 | cons v r ih =>
  cases h with
  | cons a b =>
   obtain ⟨us, u, rfl, h1, h2⟩ := ih b
   exact ⟨_ :: us, u, rfl, .cons a h1, h2⟩
end
structure Wk (R : List Str → Prop) (l g : Addr) (n : Nat) (H0 H : Hp) (st : List V) (ps : List Pl) : Prop where
 sm : Same H0 H
 l0 : H0 l = none
 g0 : H0 g = none
 ne : l ≠ g
 hl : H l = some (.lst st)
 hg : ∃ gs : List Str, H g = some (.lst (gs.map V.str)) ∧ gs.length ≤ n ∧ R gs
 rp : PlRepsL l g H0 H st ps
section
variable {R R' : List Str → Prop} {l g : Addr} {n n' : Nat} {H0 H H' : Hp} {st zs : List V} {ps qs : List Pl}
theorem Wk.same (w : Wk R l g n H0 H st ps) (s : Same H H') : Wk R l g n H0 H' st ps := by
 obtain ⟨gs, hg, hn⟩ := w.hg
 refine ⟨w.sm.trans s, w.l0, w.g0, w.ne, s _ _ w.hl, ⟨gs, s _ _ hg, hn⟩, w.rp.ext (fun b o _ _ e => s b o e) (fun zs e => by rw [w.hl] at e; cases e) (fun zs e => by rw [hg] at e; cases e)⟩
theorem Wk.setL (w : Wk R l g n H0 H st ps) (h : PlRepsL l g H0 H zs qs) : Wk R l g n H0 (upd H l (.lst zs)) zs qs := by
 obtain ⟨gs, hg, hn⟩ := w.hg
 refine ⟨mX w.sm w.l0, w.l0, w.g0, w.ne, zQ, ⟨gs, by rw [uX (Ne.symm w.ne)]; exact hg, hn⟩, h.ext (fun b o n1 _ e => by rw [uX n1]; exact e) (fun zs e => by rw [w.hl] at e; cases e) (fun zs e => by rw [hg] at e; cases e)⟩
theorem Wk.setG (w : Wk R l g n H0 H st ps) {gs : List Str} (hn : gs.length ≤ n') (hr : R' gs) : Wk R' l g n' H0 (upd H g (.lst (gs.map V.str))) st ps := by
 obtain ⟨gs', hg, _⟩ := w.hg
 refine ⟨mX w.sm w.g0, w.l0, w.g0, w.ne, by rw [uX w.ne]; exact w.hl, ⟨gs, zQ, hn, hr⟩, w.rp.ext (fun b o _ n2 e => by rw [uX n2]; exact e) (fun zs e => by rw [w.hl] at e; cases e) (fun zs e => by rw [hg] at e; cases e)⟩
end
theorem Wk.mono {R R' : List Str → Prop} {l g : Addr} {n n' : Nat} {H0 H : Hp} {st : List V} {ps : List Pl} (w : Wk R l g n H0 H st ps) (h : n ≤ n') (k : ∀ gs, R gs → R' gs) : Wk R' l g n' H0 H st ps :=
 ⟨w.sm, w.l0, w.g0, w.ne, w.hl, let ⟨gs, a, b, c⟩ := w.hg; ⟨gs, a, Nat.le_trans b h, k gs c⟩, w.rp⟩
theorem xE (d : Nat) (tu : List Str) : ∀ ls : List Tr, wP (ls.flatMap (dX d tu)) + ls.length ≤ wL ls
 | [] => by rw [wL]; exact Nat.le_refl _
 | l :: r => by
  have h1 := QE d tu l
  have h2 := xE d tu r
  rw [List.flatMap_cons, tZ, yQ, List.length_cons]
  omega
theorem cut2 (x y : V) (r : List V) : oX (x :: y :: r) (some 2) none = r := by
 unfold oX
 have e1 : HT.sIx (x :: y :: r).length 0 (some 2) = 2 := by
  have := HT.sIx_nat (x :: y :: r).length 0 2
  have h : min 2 (x :: y :: r).length = 2 := by rw [List.length_cons, List.length_cons]; omega
  rw [h] at this
  exact this
 rw [e1, HT.sIx_none]
 show (List.drop 2 (x :: y :: r)).take ((x :: y :: r).length - 2) = r
 rw [List.length_cons, List.length_cons]
 exact List.take_of_length_le (by show r.length ≤ _; omega)
theorem iO (xs : List V) (y : V) : oX (xs ++ [y]) (some (-1)) none = [y] := by
 unfold oX
 have e1 : HT.sIx (xs ++ [y]).length 0 (some (-1)) = xs.length := by
  show (if (-1 : Int) < 0 then ((-1 : Int) + ((xs ++ [y]).length : Int)).toNat else min (-1 : Int).toNat (xs ++ [y]).length) = _
  rw [if_pos (by decide), List.length_append]
  show ((-1 : Int) + ((xs.length + 1 : Nat) : Int)).toNat = _
  omega
 rw [e1, HT.sIx_none, List.length_append]
 show ((xs ++ [y]).drop xs.length).take (xs.length + 1 - xs.length) = [y]
 rw [List.drop_left]
 have : xs.length + 1 - xs.length = 1 := by omega
 rw [this]
 rfl
theorem KL {H : Hp} {z : Str} {r : List V} {rs : List Tr} (hr : Reps H r rs) (hsz : ((rs.length + 1 : Nat) : Int) = szK z) (hp : ¬ z = "part") :
  (z = "when" → Reps H (oX (.str z :: r) (some 2) none) (qS z rs)) ∧ (¬ z = "when" → Reps H (oX (.str z :: r) (some (-1)) none) (qS z rs)) := by
 rcases oV hsz with ⟨hz, hn3⟩ | ⟨hz, hn3⟩ | ⟨hz, hn3⟩ | ⟨hz, hn3⟩ | ⟨hz, hn3⟩
 ·obtain ⟨x1, x2, x3, t1, t2, t3, rfl, rfl, h1, h2, h3⟩ := hr.three hn3
  refine ⟨fun _ => ?_, fun h => absurd hz h⟩
  rw [cut2, show qS z [t1, t2, t3] = [t2, t3] from if_pos hz]
  exact .cons h2 (.cons h3 .nil)
 ·obtain ⟨x1, x2, x3, t1, t2, t3, rfl, rfl, h1, h2, h3⟩ := hr.three hn3
  refine ⟨fun h => absurd (h.symm.trans hz) (by decide), fun h => ?_⟩
  have e : qS z [t1, t2, t3] = [t3] := by
   show (if z = "when" then _ else if z = "each" then _ else _) = _
   rw [if_neg h, if_pos hz]
  rw [e, show oX [.str z, x1, x2, x3] (some (-1)) none = [x3] from iO [.str z, x1, x2] x3]
  exact .cons h3 .nil
 ·exact absurd hz hp
 ·obtain ⟨x1, x2, x3, x4, t1, t2, t3, t4, rfl, rfl, h1, h2, h3, h4⟩ := hr.four hn3
  refine ⟨fun h => absurd (h.symm.trans hz) (by decide), fun h => ?_⟩
  rw [show oX [.str z, x1, x2, x3, x4] (some (-1)) none = [x4] from iO [.str z, x1, x2, x3] x4]
  exact .cons h4 .nil
 ·obtain ⟨x1, x2, x3, x4, x5, t1, t2, t3, t4, t5, rfl, rfl, h1, h2, h3, h4, h5⟩ := hr.five hn3
  refine ⟨fun h => absurd (h.symm.trans hz) (by decide), fun h => ?_⟩
  rw [show oX [.str z, x1, x2, x3, x4, x5] (some (-1)) none = [x5] from iO [.str z, x1, x2, x3, x4] x5]
  exact .cons h5 .nil
theorem pL {xs : List V} {lo : Int} (h : HT.sIx xs.length 0 (some lo) ≠ 0) : ¬ (HT.sIx xs.length 0 (some lo) = 0 ∧ HT.sIx xs.length xs.length none = xs.length) := fun e => h e.1
theorem six2 {xs : List V} (h : 2 ≤ xs.length) : HT.sIx xs.length 0 (some 2) ≠ 0 := by
 have := HT.sIx_nat xs.length 0 2
 rw [show HT.sIx xs.length 0 (some 2) = min 2 xs.length from this]
 omega
theorem sixm {xs : List V} (h : 2 ≤ xs.length) : HT.sIx xs.length 0 (some (-1)) ≠ 0 := by
 show (if (-1 : Int) < 0 then ((-1 : Int) + (xs.length : Int)).toNat else min (-1 : Int).toNat xs.length) ≠ 0
 rw [if_pos (by decide)]
 omega
section
variable {P : Program} {w : World} {K : W.Frag} {mg : Str → Option Value} {base : Heap} {a : Adr}
inductive Ww (vs : List V) (H : Hp) (Q : VK) : Prop
 | mk (v : V) (t : Tr) (b : Addr) (bx : List Str) (z0 : vs = [v, .ref b]) (z1 : Rep H v t) (z2 : t.w ≤ 90000) (z3 : NL H b bx) (z4 : (sK bx t = false → ∀ H', Same H H' → Q .non H')) (z5 : (sK bx t = true → ∀ g H', Same H H' → H g = none → ∀ gs : List Str, H' g = some (.lst (gs.map V.str)) → (∀ x, x ∈ gs ↔ jB t x) → gs.length ≤ 90000 → Q (.ref g) H')) : Ww vs H Q
noncomputable def spLLF : Sp := fun vs H Q _ => Ww vs H Q
theorem dA (T : Txt P w K mg a) : FnOk P w K mg base CX0 8 a.uB a.jM ["_law_lines", "_law_boxes"] spLLF := by
 have S := jL
 have big : (3000000 : Nat) < sizeLine := by decide
 have QA := cA (P := P) (w := w) (base := base) T
 refine T.fM.okJ jL (fun vs H Q E h => ?_) (fun cdv A outer s H vs Q E hr h => ?_)
 ·obtain ⟨v, t, b, bx, rfl, _⟩ := h; rfl
 obtain ⟨v, t, b, bx, rfl, hv, hn, hb, qN, qY⟩ := h
 refine ⟨_, (wQ (kX (i := 2) S.nd rfl (Or.inl rfl) (cZ (qQ (yX (qQ (jv 0) (qQ (cZ jQ) (qQ xQ jQ)))) jQ))) (wQ (kX (i := 3) S.nd rfl (Or.inl rfl) xQ) (wQ (kX (i := 4) S.nd rfl (Or.inl rfl) (cZ jQ)) (wQ (iM PassesOwn.never (sQ (kA hr.units0) (jv 2) (cZ jQ) (oQ _)) (wQ (nL (eF PySem.F.plainAttrs_list PySem.F.slot_list_pop PySem.F.type_list_pop nR (jv 2)) (jg_tup rfl (uI (pK (i := 5) S.nd rfl (Or.inl rfl)) (uI (pK (i := 6) S.nd rfl (Or.inl rfl)) (uI (pK (i := 7) S.nd rfl (Or.inl rfl)) jgs_nil))))) (wQ (zX (iX (zZ (xX (jX (gQ eQ rfl T.rQ rfl (qQ (jv 5) (qQ (wX rfl T.tX (v := .ty "tuple") rfl rfl) jQ))))) (qZ (iX (jY (sQ eG (jv 7) xQ (oQ _)) (uV (sQ eG (gQ qX rfl T.aX rfl (qQ (jv 5) jQ)) xQ (oQ _)))))))) (uQ (pQ aZ)) tQ) (wQ (kX (i := 3) S.nd rfl (Or.inl rfl) (bX fJ (jv 3) (gQ qX rfl T.aX rfl (qQ (jv 5) jQ)))) (uQ (xY PassesOwn.never rfl (dJ (jv 5)) (pK (i := 8) S.nd rfl (Or.inl rfl)) (wQ (zX (xX (jX (mQ QA hr rfl T.Qs T.k_l_line_fits T.b_l_line_fits .nil iQ (qQ (jv 8) (qQ (jv 1) (qQ (jv 6) jQ)))))) (uQ (pQ aZ)) tQ) (uQ (zX (sQ wZ (cQ lQ (jv 8) xQ (fun _ _ => rfl)) aQ (oQ _)) (uQ (zK (uG PySem.F.plainAttrs_list PySem.F.slot_list_append PySem.F.type_list_append aV (jv 4) (qQ (cQ lQ (jv 8) xQ (fun _ _ => rfl)) jQ)))) (wQ (kX (i := 9) S.nd rfl (Or.inl rfl) (gI (sQ wZ (cQ lQ (jv 8) xQ (fun _ _ => rfl)) aQ (oQ _)) (bX tH (jv 6) (cZ (qQ (cQ lQ (jv 8) xQ (fun _ _ => rfl)) jQ))) (jv 6))) (uQ (xY PassesOwn.never rfl (dJ (gI (sQ wZ (cQ lQ (jv 8) xQ (fun _ _ => rfl)) aQ (oQ _)) (yZ uR (jv 8) (qJ xQ) zJ) (yZ uR (jv 8) (qJ (cT aD xQ)) zJ))) (pK (i := 10) S.nd rfl (Or.inl rfl)) (uQ (zK (uG PySem.F.plainAttrs_list PySem.F.slot_list_append PySem.F.type_list_append aV (jv 2) (qQ (yX (qQ (jv 10) (qQ (jv 9) (qQ (bX fJ (jv 7) xQ) jQ)))) jQ)))))))))))))))) (uQ (pQ (gI (sQ rD (jv 3) xQ (oQ _)) (jv 4) aZ))))))), ?_⟩
 refine ⟨_, rfl, sZ0, fun u0 h0 => ⟨sZ3, fun q0 h1 => ⟨sZ1, fun l hl => ⟨sZ0, fun g hg => ?_⟩⟩⟩⟩
 have s0 := kQ h0 (.lst [])
 have s1 := kQ h1 (.tup [v, .ref u0, .int 1])
 have s2 := kQ hl (.lst [.ref q0])
 have s3 := kQ hg (.lst [])
 have hl0 : H l = none := Same.free (s0.trans s1) hl
 have hg0 : H g = none := Same.free ((s0.trans s1).trans s2) hg
 have nlg : l ≠ g := fun e => by rw [← e, zQ] at hg; cases hg
 have nul : u0 ≠ l := uZ (s1 u0 _ zQ) hl
 have nug : u0 ≠ g := uZ (s2 u0 _ (s1 u0 _ zQ)) hg
 have w0 : Wk (GInv t [(t, 0, [])] []) l g 0 H (upd (upd (upd (upd H u0 (.lst [])) q0 (.tup [v, .ref u0, .int 1])) l (.lst [.ref q0])) g (.lst [])) [.ref q0] [(t, 0, [])] :=
  ⟨((s0.trans s1).trans s2).trans s3, hl0, hg0, nlg, s3 l _ zQ, ⟨[], zQ, Nat.le_refl _, GInv.start⟩, .cons ⟨q0, u0, v, rfl, s3 q0 _ (s2 q0 _ zQ), s3 u0 _ (s2 u0 _ (s1 u0 _ zQ)), nul, nug, hv⟩ .nil⟩
 refine ⟨fun m σ' H' => ∃ (st : List V) (ps : List Pl) (c : Int) (n : Nat) (r' : Option Nat) (x5 x6 x7 x8 x9 x10 : Option V), σ' = [some v, some (.ref b), some (.ref l), some (.int c), some (.ref g), x5, x6, x7, x8, x9, x10] ∧ Wk (GInv t ps []) l g n H H' st ps ∧ m = wP ps ∧ n + wP ps ≤ 90000 ∧ Walk bx ps r' ∧ okL c r' = sK bx t,
  ⟨_, [.ref q0], [(t, 0, [])], 0, 0, Jo bx t, none, none, none, none, none, none, rfl, w0, rfl, by show 0 + (t.w + 0) ≤ _; omega, pO bx t, rfl⟩, ?_⟩
 rintro m σ' H' ⟨st, ps, c, n, r', x5, x6, x7, x8, x9, x10, rfl, wk, rfl, hm, hrun, hok⟩
 refine ⟨_, rfl, sZ0, fun pe he => ?_⟩
 have w1 := wk.same (kQ he (.lst []))
 refine ⟨l, pe, st, rfl, rfl, SqL.of w1.hl, SqL.of zQ, _, rfl, ?_⟩
 generalize upd H' pe (.lst []) = H1 at w1 ⊢
 rcases List.eq_nil_or_concat st with rfl | ⟨L, bb, rfl⟩
 ·refine bQ ⟨_, rfl, _, _, rfl, rfl, _, rfl, ?_⟩
  have hT := w1.rp
  cases hT
  have e := hrun.at_nil rfl
  subst e
  have e2 : sK bx t = decide (c ≤ 30) := by
   rw [← hok]
   show decide (c + ((0 : Nat) : Int) ≤ 30) = _
   congr 1
   exact propext ⟨fun h => by omega, fun h => by omega⟩
  cases h30 : decide (c ≤ 30) with
  | true =>
   obtain ⟨gs, hgs, hgn, hgi⟩ := w1.hg
   have hm0 : n + 0 ≤ 90000 := hm
   exact nQ ⟨_, rfl, qY (by rw [e2, h30]) g _ w1.sm w1.g0 gs hgs hgi.done (by omega)⟩
  | false => exact bQ (qN (by rw [e2, h30]) _ w1.sm)
 ·rw [List.concat_eq_append] at w1 ⊢
  have ne : (!(L ++ [bb]).isEmpty) = true := by cases L <;> rfl
  rw [ne]
  refine nQ ⟨_, fun _ _ h => h, ?_⟩
  obtain ⟨us, pp, rfl, t1, t2⟩ := w1.rp.snoc rfl
  have hlen := t1.len
  have hwl := yR us
  have hw1 : wP [pp] = pp.1.w := by show pp.1.w + 0 = _; omega
  rw [tZ, hw1] at hm ⊢
  have hlast : (L ++ [bb])[(L ++ [bb]).length - 1]? = some bb := by simp
  have hdl : (L ++ [bb]).dropLast = L := List.dropLast_concat
  refine ⟨_, rfl, .inl ⟨rfl, _, SqL.of w1.hl⟩, l, _, _, rfl, rfl, w1.hl, hlast, ?_⟩
  rw [hdl]
  have w2 := w1.setL t1
  have t2 : PlRepL l g H (upd H1 l (.lst L)) bb pp := by
   obtain ⟨gs, hgs, _⟩ := w1.hg
   exact t2.ext (fun b o n1 _ e => by rw [uX n1]; exact e) (fun zs e => by rw [w1.hl] at e; cases e) (fun zs e => by rw [hgs] at e; cases e)
  generalize (upd H1 l (.lst L)) = H4 at w2 t2 ⊢
  obtain ⟨row, d, tu⟩ := pp
  obtain ⟨qq, u, vr, rfl, hq, hu, nul, nug, hrow⟩ := t2
  have hq : H4 qq = some (.tup [vr, .ref u, .int ((d : Int) + 1)]) := hq
  have hu : NL H4 u tu := hu
  have hrow : Rep H vr row := hrow
  refine ⟨qq, _, rfl, SqT.of hq, rfl, _, _, rfl, _, _, rfl, _, _, rfl, rfl, ?_⟩
  have bad : ∀ {H5 : Hp}, yU bx (row, d, tu) = false → Same H H5 → Q .non H5 := fun {H5} e s5 => by
   refine qN ?_ _ s5
   rcases hrun.at_snoc rfl with ⟨_, e2⟩ | ⟨r2, h2, _⟩
   ·rw [← hok, e2]
    rfl
   ·rw [e] at h2; cases h2
  obtain ⟨cr, hcr, htr, _, _⟩ := (hrow.same w2.sm).ty
  refine ⟨_, rfl, vr, .tup, cr, rfl, hcr, _, rfl, ?_⟩
  rw [htr]
  cases hTu : row.isTup with
  | false => exact nQ (bad (by cases row <;> first | rfl | cases hTu) w2.sm)
  | true =>
  obtain ⟨pr, xs, ts, rfl, rfl, hpr, hx⟩ := nK hrow hTu
  have hlx := hx.len
  have hwt := kJ ts
  have hm : n + (wP us + (Tr.tup ts).w) ≤ 90000 := hm
  rw [eX] at hm
  have w2 := w2.mono lR fun gs h => GInv.pop h
  have eR : yU bx (.tup ts, d, tu) = ((ts.isEmpty || decide (d < 6)) && ts.all (yV bx tu)) := rfl
  refine bQ ⟨_, rfl, _, _, rfl, rfl, _, rfl, ?_⟩
  by_cases h6 : (6 : Int) < (d : Int) + 1
  ·rw [decide_eq_true h6]
   refine nQ ⟨_, rfl, _, _, rfl, .inr ⟨_, SqT.of (w2.sm pr _ hpr), rfl⟩, _, _, rfl, rfl, _, rfl, ?_⟩
   cases hts : ts.isEmpty with
   | false =>
    rw [decide_eq_true (show (0 : Int) < ((xs.length : Nat) : Int) by cases ts with | nil => cases hts | cons _ _ => rw [List.length_cons] at hlx; omega)]
    exact nQ (bad (by rw [eR, hts, decide_eq_false (show ¬ d < 6 by omega)]; rfl) w2.sm)
   | true =>
    have okD : (ts.isEmpty || decide (d < 6)) = true := by rw [hts]; rfl
    rw [decide_eq_false (show ¬ (0 : Int) < ((xs.length : Nat) : Int) by cases ts with | nil => rw [hlx]; decide | cons _ _ => cases hts)]
    refine bQ ?_
    refine ⟨_, rfl, _, rfl, _, _, rfl, .inr ⟨_, SqT.of (w2.sm pr _ hpr), rfl⟩, _, _, rfl, rfl, ?_⟩
    refine ⟨_, rfl, pr, rfl, ⟨xs, SqT.of (w2.sm pr _ hpr)⟩, ?_⟩
    refine bW (xs := xs) (fun i σ' H'' => ∃ (st2 : List V) (y8 y9 y10 : Option V), σ' = [some v, some (.ref b), some (.ref l), some (.int (c + (xs.length : Nat))), some (.ref g), some (.ref pr), some (.ref u), some (.int ((d : Int) + 1)), y8, y9, y10] ∧ Wk (GInv t (us ++ (ts.take i).flatMap (dX d tu)) (ts.drop i)) l g (n + i) H H'' (L ++ st2) (us ++ (ts.take i).flatMap (dX d tu)) ∧ NL H'' u tu ∧ (ts.take i).all (yV bx tu) = true) ?_ ?_ ?_ ?_
    ·exact ⟨[], x8, x9, x10, rfl, by rw [List.append_nil]; simpa using w2, hu, rfl⟩
    ·rintro i σ' H'' _ ⟨st2, y8, y9, y10, rfl, w5, _⟩
     exact SqT.of (w5.sm pr _ hpr)
    ·rintro i x σ' H5 hxi _
     have e0 : xs = [] := by
      cases ts with
      | nil => exact List.eq_nil_of_length_eq_zero hlx
      | cons _ _ => cases hts
     rw [e0] at hxi
     simp at hxi
    ·rintro σ' H5 ⟨st2, y8, y9, y10, rfl, w5, hu5, hall⟩
     rw [hlx, List.take_length] at hall w5
     rw [List.drop_length] at w5
     have good : yU bx (.tup ts, d, tu) = true := by rw [eR, hall, Bool.and_true]; exact okD
     rcases hrun.at_snoc rfl with ⟨e2, _⟩ | ⟨r2, _, hw2, e2⟩
     ·rw [good] at e2; cases e2
     have hfl := xE d tu ts
     refine ⟨wP (us ++ ts.flatMap (dX d tu)), ?_, L ++ st2, us ++ ts.flatMap (dX d tu), c + (xs.length : Nat), n + ts.length, r2, _, _, _, _, _, _, rfl, w5, rfl, ?_, hw2, ?_⟩
     ·rw [tZ]
      show _ < wP us + (Tr.tup ts).w
      rw [eX]
      omega
     ·rw [tZ]
      omega
     ·rw [← hok, e2, hlx]
      cases r2 with
      | none => rfl
      | some k =>
       show decide (c + (ts.length : Int) + (k : Int) ≤ 30) = decide (c + ((k + ts.length : Nat) : Int) ≤ 30)
       congr 1
       exact propext ⟨fun h => by omega, fun h => by omega⟩
  ·rw [decide_eq_false h6]
   have okD : (ts.isEmpty || decide (d < 6)) = true := by rw [decide_eq_true (show d < 6 by omega), Bool.or_true]
   refine bQ ?_
   refine ⟨_, rfl, _, rfl, _, _, rfl, .inr ⟨_, SqT.of (w2.sm pr _ hpr), rfl⟩, _, _, rfl, rfl, ?_⟩
   refine ⟨_, rfl, pr, rfl, ⟨xs, SqT.of (w2.sm pr _ hpr)⟩, ?_⟩
   refine bW (xs := xs) (fun i σ' H'' => ∃ (st2 : List V) (y8 y9 y10 : Option V), σ' = [some v, some (.ref b), some (.ref l), some (.int (c + (xs.length : Nat))), some (.ref g), some (.ref pr), some (.ref u), some (.int ((d : Int) + 1)), y8, y9, y10] ∧ Wk (GInv t (us ++ (ts.take i).flatMap (dX d tu)) (ts.drop i)) l g (n + i) H H'' (L ++ st2) (us ++ (ts.take i).flatMap (dX d tu)) ∧ NL H'' u tu ∧ (ts.take i).all (yV bx tu) = true) ?_ ?_ ?_ ?_
   ·exact ⟨[], x8, x9, x10, rfl, by rw [List.append_nil]; simpa using w2, hu, rfl⟩
   ·rintro i σ' H'' _ ⟨st2, y8, y9, y10, rfl, w5, _⟩
    exact SqT.of (w5.sm pr _ hpr)
   ·rintro i x σ' H5 hxi ⟨st2, y8, y9, y10, rfl, w5, hu5, hall⟩
    obtain ⟨tx, htx, hrx⟩ := hx.get hxi
    have wx := bV htx
    have hwtk : wL (ts.take i) ≤ wL ts := by
     have := nX (ts.take i) (ts.drop i)
     rw [List.take_append_drop] at this
     omega
    refine ⟨_, rfl, _, rfl, _, rfl, x, tx, b, u, bx, tu, rfl, hrx.same w5.sm, by omega, hb.same w5.sm, hu5, fun H6 s6 => ⟨_, rfl, ?_⟩⟩
    have w6 := w5.same s6
    have hu6 := hu5.same s6
    cases hL : yV bx tu tx with
    | false => exact nQ (bad (by rw [eR, rO htx hL, Bool.and_false]) w6.sm)
    | true =>
    obtain ⟨p, z, r, rs, rfl, hp, rfl, hr2, hW, hsz⟩ := lF hrx hL
    have hp6 := w6.sm p _ hp
    refine bQ ⟨_, rfl, p, _, _, _, rfl, rfl, SqT.of hp6, at0 _ _, rfl, _, rfl, ?_⟩
    have hall' := jR htx hall hL
    have etake : us ++ (ts.take (i + 1)).flatMap (dX d tu) = us ++ (ts.take i).flatMap (dX d tu) ++ dX d tu (.tup (.str z :: rs)) := by
     rw [List.take_succ, htx, List.flatMap_append, List.append_assoc]
     simp
    have hl2 : 2 ≤ (V.str z :: r).length := by
     have := hr2.len
     rw [List.length_cons]
     rcases oV hsz with ⟨_, e⟩ | ⟨_, e⟩ | ⟨_, e⟩ | ⟨_, e⟩ | ⟨_, e⟩ <;> omega
    by_cases hz : z = "part"
    ·rw [dT hz]
     have hn3 : rs.length = 3 := by
      rcases oV hsz with ⟨h, e⟩ | ⟨h, e⟩ | ⟨h, e⟩ | ⟨h, e⟩ | ⟨h, e⟩
      ·exact e
      ·exact e
      ·exact e
      ·exact absurd (hz.symm.trans h) (by decide)
      ·exact absurd (hz.symm.trans h) (by decide)
     obtain ⟨x1, x2, x3, t1, t2, t3, rfl, rfl, h1, h2, h3⟩ := hr2.three hn3
     obtain ⟨gs, hgs, hgn, hgi⟩ := w6.hg
     have eW : wW bx tu z [t1, t2, t3] = ((dY bx tu t1 && xZ t2) && pZ bx tu t3) := by
      show (if z = "when" then _ else if z = "each" then _ else if z = "part" then _ else _) = _
      rw [if_neg (by rw [hz]; decide), if_neg (by rw [hz]; decide), if_pos hz]
     rw [eW, Bool.and_eq_true, Bool.and_eq_true] at hW
     obtain ⟨nn, rfl⟩ := aW hW.1.2
     cases h2
     have il : i < xs.length := (List.getElem?_eq_some_iff.mp hxi).1
     refine nQ ⟨_, rfl, .inl ⟨rfl, _, SqL.of hgs⟩, _, rfl, p, _, _, _, rfl, rfl, SqT.of hp6, at2 _ _ _ _, g, gs.map V.str, _, rfl, rfl, hgs, by rw [List.length_map]; omega, ?_⟩
     have e0 : dX d tu (.tup [.str z, t1, .str nn, t3]) = [] := by
      show (qS z [t1, .str nn, t3]).map _ = []
      have e : qS z [t1, .str nn, t3] = [] := by
       show (if z = "when" then _ else if z = "each" then _ else _) = _
       rw [if_neg (by rw [hz]; decide), if_neg (by rw [hz]; decide)]
      rw [e]
      rfl
     refine ⟨st2, some (.ref p), y9, y10, rfl, ?_, ?_, hall'⟩
     ·rw [etake, e0, List.append_nil]
      rw [show gs.map V.str ++ [V.str nn] = (gs ++ [nn]).map V.str by rw [List.map_append]; rfl]
      exact w6.setG (gs := gs ++ [nn]) (n' := n + (i + 1)) (by rw [List.length_append]; show gs.length + 1 ≤ _; omega) (GInv.part (l := .tup [.str z, t1, .str nn, t3]) (k := t1) (x := t3) (by rw [hz]) (by rw [← eC htx]; exact hgi))
     ·show upd _ g _ u = _
      rw [uX nug]
      exact hu6
    rw [dF hz]
    have icut := KL hr2 hsz hz
    refine bQ ⟨_, rfl, p, _, _, _, rfl, rfl, SqT.of hp6, at0 _ _, rfl, _, rfl, ?_⟩
    by_cases hz2 : z = "each"
    ·rw [dT hz2]
     have hn3 : rs.length = 3 := by
      rcases oV hsz with ⟨h, e⟩ | ⟨h, e⟩ | ⟨h, e⟩ | ⟨h, e⟩ | ⟨h, e⟩
      ·exact e
      ·exact e
      ·exact e
      ·exact absurd (hz2.symm.trans h) (by decide)
      ·exact absurd (hz2.symm.trans h) (by decide)
     have nw : ¬ z = "when" := by rw [hz2]; decide
     obtain ⟨x1, x2, x3, t1, t2, t3, rfl, rfl, h1, h2, h3⟩ := hr2.three hn3
     have e : wW bx tu z [t1, t2, t3] = (xZ t1 && (rX bx tu t2 && decide (tu.length < 2))) := by
      show (if z = "when" then _ else if z = "each" then _ else _) = _
      rw [if_neg nw, if_pos hz2]
     rw [e, Bool.and_eq_true, Bool.and_eq_true] at hW
     obtain ⟨nn, rfl⟩ := aW hW.1
     have hlt2 := of_decide_eq_true hW.2.2
     cases h1
     have et : tuL tu (.tup [.str z, .str nn, t2, t3]) = tu ++ [nn] := if_pos hz2
     refine nQ ⟨_, rfl, _, rfl, p, _, _, _, rfl, rfl, SqT.of hp6, at1 _ _ _, sZ1, fun p2 h2' => ?_⟩
     have sa := kQ h2' (.lst [.str nn])
     refine ⟨u, p2, _, _, rfl, rfl, sa _ _ hu6, zQ, (by rw [List.length_map]; show tu.length + 1 ≤ _; omega), fun p3 h3' => ?_⟩
     have sb := kQ h3' (.lst (tu.map V.str ++ [.str nn]))
     have w8 := (w6.same sa).same sb
     have hu8 := (hu6.same sa).same sb
     have n2l : p3 ≠ l := Ne.symm (uZ (w6.same sa).hl h3')
     have n2g : p3 ≠ g := by
      obtain ⟨gs, hgs, _⟩ := (w6.same sa).hg
      exact Ne.symm (uZ hgs h3')
     have hu28 : NL (upd (upd H6 p2 (.lst [.str nn])) p3 (.lst (tu.map V.str ++ [.str nn]))) p3 (tuL tu (.tup [.str z, .str nn, t2, t3])) := by
      rw [et]
      show upd _ p3 _ p3 = some (.lst ((tu ++ [nn]).map V.str))
      rw [zQ, List.map_append]
      rfl
     generalize (upd (upd H6 p2 (.lst [.str nn])) p3 (.lst (tu.map V.str ++ [.str nn]))) = H8 at w8 hu8 hu28 ⊢
     have hp8 := w8.sm p _ hp
     refine ⟨_, rfl, p, _, _, _, rfl, rfl, SqT.of hp8, at0 _ _, rfl, _, rfl, ?_⟩
     rw [dF nw]
     refine bQ ⟨_, rfl, _, rfl, _, rfl, p, _, rfl, SqT.of hp8, pL (sixm hl2), fun pt hpt0 => ?_⟩
     have sc := kQ hpt0 (.tup (oX [.str z, .str nn, x2, x3] (some (-1)) none))
     have w9 := w8.same sc
     have hu9 := hu8.same sc
     have hu29 := hu28.same sc
     have hys : Reps H (oX [.str z, .str nn, x2, x3] (some (-1)) none) (yW (.tup [.str z, .str nn, t2, t3])) := icut.2 nw
     have hpt : (upd H8 pt (.tup (oX [.str z, .str nn, x2, x3] (some (-1)) none))) pt = some (.tup (oX [.str z, .str nn, x2, x3] (some (-1)) none)) := zQ
     generalize (upd H8 pt (.tup (oX [.str z, .str nn, x2, x3] (some (-1)) none))) = H9 at w9 hu9 hu29 hpt ⊢
     refine ⟨pt, rfl, ⟨_, SqT.of hpt⟩, ?_⟩
     have hly := hys.len
     have hwi := zN (.tup [.str z, .str nn, t2, t3])
     have hwy := kJ (yW (.tup [.str z, .str nn, t2, t3]))
     refine bW (xs := oX [.str z, .str nn, x2, x3] (some (-1)) none) (fun j σ'' H10 => ∃ (zs : List V) (z10 : Option V), σ'' = [some v, some (.ref b), some (.ref l), some (.int (c + (xs.length : Nat))), some (.ref g), some (.ref pr), some (.ref u), some (.int ((d : Int) + 1)), some (.ref p), some (.ref p3), z10] ∧ Wk (GInv t (us ++ (ts.take i).flatMap (dX d tu)) (ts.drop i)) l g (n + i) H H10 (L ++ st2 ++ zs) (us ++ (ts.take i).flatMap (dX d tu) ++ ((yW (.tup [.str z, .str nn, t2, t3])).take j).map fun x => (x, d + 1, tuL tu (.tup [.str z, .str nn, t2, t3]))) ∧ NL H10 u tu ∧ NL H10 p3 (tuL tu (.tup [.str z, .str nn, t2, t3])) ∧ H10 pt = some (.tup (oX [.str z, .str nn, x2, x3] (some (-1)) none))) ?_ ?_ ?_ ?_
     ·exact ⟨[], _, rfl, by rw [List.append_nil, List.take_zero, List.map_nil, List.append_nil]; exact w9, hu9, hu29, hpt⟩
     ·rintro j σ'' H10 _ ⟨zs, z10, rfl, w10, _, _, hpt10⟩
      exact SqT.of hpt10
     ·rintro j xj σ'' H10 hxj ⟨zs, z10, rfl, w10, hu10, hu210, hpt10⟩
      obtain ⟨tj, htj, hrj⟩ := hys.get hxj
      have hL1 := w10.rp.len
      have hL2 := yR (us ++ (ts.take i).flatMap (dX d tu))
      have hL3 := wF d tu (ts.take i)
      rw [tZ] at hL2
      rw [List.length_append (as := us ++ (ts.take i).flatMap (dX d tu)), List.length_map, List.length_take] at hL1
      refine ⟨_, rfl, .inl ⟨rfl, _, SqL.of w10.hl⟩, _, rfl, _, rfl, _, rfl, _, _, rfl, rfl, sZ3, fun pz hpz => ?_⟩
      have sz := kQ hpz (.tup [xj, .ref p3, .int ((d : Int) + 1 + 1)])
      have w11 := w10.same sz
      refine ⟨l, _, _, rfl, rfl, w11.hl, by omega, ?_⟩
      refine ⟨zs ++ [.ref pz], some xj, rfl, ?_, ?_, ?_, ?_⟩
      ·rw [List.take_succ, htj, List.map_append, ← List.append_assoc, ← List.append_assoc]
       exact w11.setL (w11.rp.append (.cons ⟨pz, p3, xj, rfl, zQ, sz _ _ hu210, n2l, n2g, hrj⟩ .nil))
      ·show upd _ l _ u = _
       rw [uX nul]
       exact sz _ _ hu10
      ·show upd _ l _ p3 = _
       rw [uX n2l]
       exact sz _ _ hu210
      ·rw [uX (yT (sz _ _ hpt10) w11.hl (by intro z; cases z))]
       exact sz _ _ hpt10
     ·rintro σ'' H10 ⟨zs, z10, rfl, w10, hu10, hu210, hpt10⟩
      rw [hly, List.take_length] at w10
      refine ⟨st2 ++ zs, some (.ref p), some (.ref p3), z10, rfl, ?_, hu10, hall'⟩
      rw [etake, ← List.append_assoc]
      exact w10.mono (by omega) fun gs h => GInv.line (yG hz) (by rw [← eC htx]; exact h)
    rw [dF hz2]
    have et : tuL tu (.tup (.str z :: rs)) = tu := by
     show tuW tu z rs = tu
     unfold tuW
     split
     ·rw [if_neg hz2]
     ·rfl
    refine bQ ⟨_, rfl, _, rfl, p, _, _, _, rfl, rfl, SqT.of hp6, at0 _ _, rfl, _, rfl, ?_⟩
    by_cases hw : z = "when"
    ·rw [dT hw]
     refine nQ ⟨_, rfl, _, rfl, p, _, rfl, SqT.of hp6, pL (six2 hl2), fun pt hpt0 => ?_⟩
     have sc := kQ hpt0 (.tup (oX (.str z :: r) (some 2) none))
     have w9 := w6.same sc
     have hu9 := hu6.same sc
     have hu29 : NL (upd H6 pt (.tup (oX (.str z :: r) (some 2) none))) u (tuL tu (.tup (.str z :: rs))) := by rw [et]; exact hu9
     have hys : Reps H (oX (.str z :: r) (some 2) none) (yW (.tup (.str z :: rs))) := icut.1 hw
     have hpt : (upd H6 pt (.tup (oX (.str z :: r) (some 2) none))) pt = some (.tup (oX (.str z :: r) (some 2) none)) := zQ
     generalize (upd H6 pt (.tup (oX (.str z :: r) (some 2) none))) = H9 at w9 hu9 hu29 hpt ⊢
     refine ⟨pt, rfl, ⟨_, SqT.of hpt⟩, ?_⟩
     have hly := hys.len
     have hwi := zN (.tup (.str z :: rs))
     have hwy := kJ (yW (.tup (.str z :: rs)))
     refine bW (xs := oX (.str z :: r) (some 2) none) (fun j σ'' H10 => ∃ (zs : List V) (z10 : Option V), σ'' = [some v, some (.ref b), some (.ref l), some (.int (c + (xs.length : Nat))), some (.ref g), some (.ref pr), some (.ref u), some (.int ((d : Int) + 1)), some (.ref p), some (.ref u), z10] ∧ Wk (GInv t (us ++ (ts.take i).flatMap (dX d tu)) (ts.drop i)) l g (n + i) H H10 (L ++ st2 ++ zs) (us ++ (ts.take i).flatMap (dX d tu) ++ ((yW (.tup (.str z :: rs))).take j).map fun x => (x, d + 1, tuL tu (.tup (.str z :: rs)))) ∧ NL H10 u tu ∧ NL H10 u (tuL tu (.tup (.str z :: rs))) ∧ H10 pt = some (.tup (oX (.str z :: r) (some 2) none))) ?_ ?_ ?_ ?_
     ·exact ⟨[], _, rfl, by rw [List.append_nil, List.take_zero, List.map_nil, List.append_nil]; exact w9, hu9, hu29, hpt⟩
     ·rintro j σ'' H10 _ ⟨zs, z10, rfl, w10, _, _, hpt10⟩
      exact SqT.of hpt10
     ·rintro j xj σ'' H10 hxj ⟨zs, z10, rfl, w10, hu10, hu210, hpt10⟩
      obtain ⟨tj, htj, hrj⟩ := hys.get hxj
      have hL1 := w10.rp.len
      have hL2 := yR (us ++ (ts.take i).flatMap (dX d tu))
      have hL3 := wF d tu (ts.take i)
      rw [tZ] at hL2
      rw [List.length_append (as := us ++ (ts.take i).flatMap (dX d tu)), List.length_map, List.length_take] at hL1
      refine ⟨_, rfl, .inl ⟨rfl, _, SqL.of w10.hl⟩, _, rfl, _, rfl, _, rfl, _, _, rfl, rfl, sZ3, fun pz hpz => ?_⟩
      have sz := kQ hpz (.tup [xj, .ref u, .int ((d : Int) + 1 + 1)])
      have w11 := w10.same sz
      refine ⟨l, _, _, rfl, rfl, w11.hl, by omega, ?_⟩
      refine ⟨zs ++ [.ref pz], some xj, rfl, ?_, ?_, ?_, ?_⟩
      ·rw [List.take_succ, htj, List.map_append, ← List.append_assoc, ← List.append_assoc]
       exact w11.setL (w11.rp.append (.cons ⟨pz, u, xj, rfl, zQ, sz _ _ hu210, nul, nug, hrj⟩ .nil))
      ·show upd _ l _ u = _
       rw [uX nul]
       exact sz _ _ hu10
      ·show upd _ l _ u = _
       rw [uX nul]
       exact sz _ _ hu210
      ·rw [uX (yT (sz _ _ hpt10) w11.hl (by intro z; cases z))]
       exact sz _ _ hpt10
     ·rintro σ'' H10 ⟨zs, z10, rfl, w10, hu10, hu210, hpt10⟩
      rw [hly, List.take_length] at w10
      refine ⟨st2 ++ zs, some (.ref p), some (.ref u), z10, rfl, ?_, hu10, hall'⟩
      rw [etake, ← List.append_assoc]
      exact w10.mono (by omega) fun gs h => GInv.line (yG hz) (by rw [← eC htx]; exact h)
    ·rw [dF hw]
     refine bQ ⟨_, rfl, _, rfl, _, rfl, p, _, rfl, SqT.of hp6, pL (sixm hl2), fun pt hpt0 => ?_⟩
     have sc := kQ hpt0 (.tup (oX (.str z :: r) (some (-1)) none))
     have w9 := w6.same sc
     have hu9 := hu6.same sc
     have hu29 : NL (upd H6 pt (.tup (oX (.str z :: r) (some (-1)) none))) u (tuL tu (.tup (.str z :: rs))) := by rw [et]; exact hu9
     have hys : Reps H (oX (.str z :: r) (some (-1)) none) (yW (.tup (.str z :: rs))) := icut.2 hw
     have hpt : (upd H6 pt (.tup (oX (.str z :: r) (some (-1)) none))) pt = some (.tup (oX (.str z :: r) (some (-1)) none)) := zQ
     generalize (upd H6 pt (.tup (oX (.str z :: r) (some (-1)) none))) = H9 at w9 hu9 hu29 hpt ⊢
     refine ⟨pt, rfl, ⟨_, SqT.of hpt⟩, ?_⟩
     have hly := hys.len
     have hwi := zN (.tup (.str z :: rs))
     have hwy := kJ (yW (.tup (.str z :: rs)))
     refine bW (xs := oX (.str z :: r) (some (-1)) none) (fun j σ'' H10 => ∃ (zs : List V) (z10 : Option V), σ'' = [some v, some (.ref b), some (.ref l), some (.int (c + (xs.length : Nat))), some (.ref g), some (.ref pr), some (.ref u), some (.int ((d : Int) + 1)), some (.ref p), some (.ref u), z10] ∧ Wk (GInv t (us ++ (ts.take i).flatMap (dX d tu)) (ts.drop i)) l g (n + i) H H10 (L ++ st2 ++ zs) (us ++ (ts.take i).flatMap (dX d tu) ++ ((yW (.tup (.str z :: rs))).take j).map fun x => (x, d + 1, tuL tu (.tup (.str z :: rs)))) ∧ NL H10 u tu ∧ NL H10 u (tuL tu (.tup (.str z :: rs))) ∧ H10 pt = some (.tup (oX (.str z :: r) (some (-1)) none))) ?_ ?_ ?_ ?_
     ·exact ⟨[], _, rfl, by rw [List.append_nil, List.take_zero, List.map_nil, List.append_nil]; exact w9, hu9, hu29, hpt⟩
     ·rintro j σ'' H10 _ ⟨zs, z10, rfl, w10, _, _, hpt10⟩
      exact SqT.of hpt10
     ·rintro j xj σ'' H10 hxj ⟨zs, z10, rfl, w10, hu10, hu210, hpt10⟩
      obtain ⟨tj, htj, hrj⟩ := hys.get hxj
      have hL1 := w10.rp.len
      have hL2 := yR (us ++ (ts.take i).flatMap (dX d tu))
      have hL3 := wF d tu (ts.take i)
      rw [tZ] at hL2
      rw [List.length_append (as := us ++ (ts.take i).flatMap (dX d tu)), List.length_map, List.length_take] at hL1
      refine ⟨_, rfl, .inl ⟨rfl, _, SqL.of w10.hl⟩, _, rfl, _, rfl, _, rfl, _, _, rfl, rfl, sZ3, fun pz hpz => ?_⟩
      have sz := kQ hpz (.tup [xj, .ref u, .int ((d : Int) + 1 + 1)])
      have w11 := w10.same sz
      refine ⟨l, _, _, rfl, rfl, w11.hl, by omega, ?_⟩
      refine ⟨zs ++ [.ref pz], some xj, rfl, ?_, ?_, ?_, ?_⟩
      ·rw [List.take_succ, htj, List.map_append, ← List.append_assoc, ← List.append_assoc]
       exact w11.setL (w11.rp.append (.cons ⟨pz, u, xj, rfl, zQ, sz _ _ hu210, nul, nug, hrj⟩ .nil))
      ·show upd _ l _ u = _
       rw [uX nul]
       exact sz _ _ hu10
      ·show upd _ l _ u = _
       rw [uX nul]
       exact sz _ _ hu210
      ·rw [uX (yT (sz _ _ hpt10) w11.hl (by intro z; cases z))]
       exact sz _ _ hpt10
     ·rintro σ'' H10 ⟨zs, z10, rfl, w10, hu10, hu210, hpt10⟩
      rw [hly, List.take_length] at w10
      refine ⟨st2 ++ zs, some (.ref p), some (.ref u), z10, rfl, ?_, hu10, hall'⟩
      rw [etake, ← List.append_assoc]
      exact w10.mono (by omega) fun gs h => GInv.line (yG hz) (by rw [← eC htx]; exact h)
   ·rintro σ' H5 ⟨st2, y8, y9, y10, rfl, w5, hu5, hall⟩
    rw [hlx, List.take_length] at hall w5
    rw [List.drop_length] at w5
    have good : yU bx (.tup ts, d, tu) = true := by rw [eR, hall, Bool.and_true]; exact okD
    rcases hrun.at_snoc rfl with ⟨e2, _⟩ | ⟨r2, _, hw2, e2⟩
    ·rw [good] at e2; cases e2
    have hfl := xE d tu ts
    refine ⟨wP (us ++ ts.flatMap (dX d tu)), ?_, L ++ st2, us ++ ts.flatMap (dX d tu), c + (xs.length : Nat), n + ts.length, r2, _, _, _, _, _, _, rfl, w5, rfl, ?_, hw2, ?_⟩
    ·rw [tZ]
     show _ < wP us + (Tr.tup ts).w
     rw [eX]
     omega
    ·rw [tZ]
     omega
    ·rw [← hok, e2, hlx]
     cases r2 with
     | none => rfl
     | some k =>
      show decide (c + (ts.length : Int) + (k : Int) ≤ 30) = decide (c + ((k + ts.length : Nat) : Int) ≤ 30)
      congr 1
      exact propext ⟨fun h => by omega, fun h => by omega⟩
end
end K06
namespace K06
open PySem L2
section
variable {P : Program} {w : World} {K : W.Frag} {mg : Str → Option Value} {base : Heap} {a : Adr}
inductive IspPF (vs : List V) (H : Hp) (Q : VK) : Prop
 | mk (v : V) (t : Tr) (z0 : vs = [v]) (z1 : Rep H v t) (z2 : t.w ≤ 90000) (z3 : (jJ t = false → ∀ H', Same H H' → Q .non H')) (z4 : (jJ t = true → ∀ g H', Same H H' → H g = none → ∀ gs : List Str, H' g = some (.lst (gs.map V.str)) → (∀ x, x ∈ gs ↔ jB (qU t) x) → gs.length ≤ 90000 → Q (.ref g) H')) : IspPF vs H Q
noncomputable def spPF : Sp := fun vs H Q _ => IspPF vs H Q
theorem bA (T : Txt P w K mg a) : FnOk P w K mg base CX0 9 a.wB a.qM ["_law_thing"] spPF := by
 have S := qL
 have big : (1000000 : Nat) < sizeLine := by decide
 have mJ := (iW (P := P) (w := w) (base := base) T).mono (show 1 ≤ 8 by decide)
 have gW := (wU (P := P) (w := w) (base := base) T).mono (show 1 ≤ 8 by decide)
 have uM := (mL (P := P) (w := w) (base := base) T).mono (show 5 ≤ 8 by decide)
 have Qz := dA (P := P) (w := w) (base := base) T
 refine T.bM.okJ qL (fun vs H Q E h => ?_) (fun cdv A outer s H vs Q E hr h => ?_)
 ·obtain ⟨v, t, rfl, _⟩ := h; rfl
 obtain ⟨v, t, rfl, hv, hn, no, yes⟩ := h
 refine ⟨_, (wQ (zX (iX (zZ (xX (jX (gQ eQ rfl T.rQ rfl (qQ (jv 0) (qQ (wX rfl T.tX (v := .ty "tuple") rfl rfl) jQ))))) (zZ (sQ lD (gQ qX rfl T.aX rfl (qQ (jv 0) jQ)) xQ (oQ _)) (qZ (xX (jX (mQ mJ hr rfl T.lV T.k_l_is_name T.b_l_is_name .nil iQ (qQ (cQ lQ (jv 0) xQ (fun _ _ => rfl)) jQ)))))))) (uQ (pQ aZ)) tQ) (wQ (zX (iX (zZ (xX (jX (gQ eQ rfl T.rQ rfl (qQ (cQ lQ (jv 0) xQ (fun _ _ => rfl)) (qQ (wX rfl T.tX (v := .ty "tuple") rfl rfl) jQ))))) (qZ (sQ eG (gQ qX rfl T.aX rfl (qQ (cQ lQ (jv 0) xQ (fun _ _ => rfl)) jQ)) xQ (oQ _))))) (uQ (pQ aZ)) tQ) (wQ (xY PassesOwn.never rfl (dJ (cQ lQ (jv 0) xQ (fun _ _ => rfl))) (pK (i := 1) S.nd rfl (Or.inl rfl)) (wQ (zX (iX (zZ (xX (jX (gQ eQ rfl T.rQ rfl (qQ (jv 1) (qQ (wX rfl T.tX (v := .ty "tuple") rfl rfl) jQ))))) (qZ (sQ lD (gQ qX rfl T.aX rfl (qQ (jv 1) jQ)) xQ (oQ _))))) (uQ (pQ aZ)) tQ) (uQ (zX (iX (zZ (xX (jX (mQ mJ hr rfl T.lV T.k_l_is_name T.b_l_is_name .nil iQ (qQ (cQ lQ (jv 1) xQ (fun _ _ => rfl)) jQ)))) (qZ (xX (jX (mQ gW hr rfl T.aB T.k_l_is_number T.b_l_is_number .nil iQ (qQ (cQ lQ (jv 1) xQ (fun _ _ => rfl)) jQ))))))) (uQ (pQ aZ)) tQ)))) (wQ (VZ 1 (js_drop 1 (mC (i := 2) (show (["_law_thing", "?", "_law_boxes"] : List Str).Nodup by decide +kernel) rfl (Or.inl rfl) rfl (show (["_law_box", "_law_thing", "?", "_law_boxes"] : List Str).Nodup by decide +kernel) (gV (N := ["_law_thing", "?", "_law_boxes"]) rfl (by with_unfolding_all rfl) (by decide +kernel)) (dJ (cQ lQ (jv 0) xQ (fun _ _ => rfl))) (fun _ _ _ _ => xK) (fun _ _ _ _ => (cQ (r := zC K) lQ (jv 0) xQ (fun _ _ => rfl)))))) (wQ (zX (sQ bL (gQ fS rfl T.aX rfl (qQ (mZ (mS rfl) rfl T.K6 rfl (qQ (jv 2) jQ)) jQ)) (gQ qX rfl T.aX rfl (qQ (jv 2) jQ)) (oQ _)) (uQ (pQ aZ)) tQ) (wQ (zX (iX (zZ (xX (jX (mQ uM hr rfl T.dH T.k_l_pairs_fit T.b_l_pairs_fit .nil iQ (qQ (cQ lQ (jv 0) xQ (fun _ _ => rfl)) (qQ (jv 2) (qQ (cZ jQ) jQ)))))) (qZ (sQ eG (gQ qX rfl T.aX rfl (qQ (cQ lQ (jv 0) xQ (fun _ _ => rfl)) jQ)) xQ (oQ _))))) (uQ (pQ aZ)) tQ) (uQ (pQ (mQ Qz hr rfl T.Qr T.k_l_lines_fit T.b_l_lines_fit .nil iQ (qQ (cQ lQ (jv 0) xQ (fun _ _ => rfl)) (qQ (jv 2) jQ))))))))))), ?_⟩
 obtain ⟨ty, hty, htt, _, _⟩ := hv.ty
 refine ⟨_, rfl, v, .tup, ty, rfl, hty, _, rfl, ?_⟩
 rw [htt]
 cases hT : t.isTup with
 | false => exact nQ (no (by cases t <;> first | rfl | cases hT) H (Same.refl H))
 | true =>
 obtain ⟨p, xs, ts, rfl, rfl, hp, hx⟩ := nK hv hT
 rw [eX] at hn
 refine bQ ⟨_, rfl, _, _, rfl, .inr ⟨_, SqT.of hp, rfl⟩, rfl, _, rfl, ?_⟩
 have hlen := hx.len
 by_cases hl : ts.length = 4
 ·obtain ⟨x1, x2, x3, x4, t1, t2, t3, t4, rfl, rfl, h1, h2, h3, h4⟩ := hx.four hl
  rw [yQ, yQ, yQ, yQ] at hn
  have e : jJ (.tup [t1, t2, t3, t4]) = (xZ t1 && (pW t2 && ((pZ (uY t2) [] t3 && decide (uO t3 ≤ 4)) && sK (uY t2) t4))) := rfl
  obtain ⟨c1, hc1, _⟩ := h1.ty
  refine bQ ⟨_, rfl, p, _, _, _, rfl, rfl, SqT.of hp, at0 _ _, x1, c1, rfl, hc1, fun z' e => ?_, fun H1 s1 => ⟨_, rfl, ?_⟩⟩
  ·have := h1.strLen e
   omega
  rw [h1.nam]
  cases hN : xZ t1 with
  | false => exact nQ (no (by rw [e, hN, Bool.false_and]) _ s1)
  | true =>
  rw [hN, Bool.true_and] at e
  have noB : pW t2 = false → ∀ H', Same H H' → Q .non H' := fun h => no (by rw [e, h, Bool.false_and])
  obtain ⟨c2, hc2, ht2, _, _⟩ := (h2.same s1).ty
  refine bQ ⟨_, rfl, p, _, _, _, rfl, rfl, SqT.of (s1 p _ hp), at1 _ _ _, x2, .tup, c2, rfl, hc2, _, rfl, ?_⟩
  rw [ht2]
  cases hT2 : t2.isTup with
  | false => exact nQ (noB (by cases t2 <;> first | rfl | cases hT2) _ s1)
  | true =>
  obtain ⟨pb, xb, tb, rfl, rfl, hpb, hxb⟩ := nK h2 hT2
  have hlb := hxb.len
  rw [dS] at noB
  refine bQ ⟨_, rfl, p, _, _, _, rfl, rfl, SqT.of (s1 p _ hp), at1 _ _ _, _, _, rfl, .inr ⟨_, SqT.of (s1 pb _ hpb), rfl⟩, _, _, rfl, rfl, _, rfl, ?_⟩
  cases hq4 : decide ((4 : Int) < ((xb.length : Nat) : Int)) with
  | true =>
   have hq4 := of_decide_eq_true hq4
   exact nQ (noB (by rw [decide_eq_false (show ¬ tb.length ≤ 4 by omega), Bool.false_and]) _ s1)
  | false =>
  have hq4 := of_decide_eq_false hq4
  rw [decide_eq_true (show tb.length ≤ 4 by omega), Bool.true_and] at noB
  refine bQ ⟨_, rfl, p, _, _, _, rfl, rfl, SqT.of (s1 p _ hp), at1 _ _ _, pb, rfl, ⟨xb, SqT.of (s1 pb _ hpb)⟩, ?_⟩
  refine bW (xs := xb) (fun i σ' H' => ∃ x1' : Option V, σ' = [some (.ref p), x1', none] ∧ Same H H' ∧ (tb.take i).all iC = true) ⟨none, rfl, s1, rfl⟩ ?_ ?_ ?_
  ·rintro i σ' H' _ ⟨x1', rfl, s2, _⟩
   exact SqT.of (s2 pb _ hpb)
  ·rintro i x σ' H2 hxi ⟨x1', rfl, s2, hall⟩
   obtain ⟨tx, htx, hrx⟩ := hxb.get hxi
   have wx := bV htx
   rw [eX] at hn
   have nob : ∀ H3, Same H H3 → iC tx = false → Q .non H3 := fun H3 s3 e => noB (by rw [rO htx e, Bool.false_and]) H3 s3
   obtain ⟨c, hc, hct, _, _⟩ := (hrx.same s2).ty
   refine ⟨_, rfl, x, .tup, c, rfl, hc, _, rfl, ?_⟩
   rw [hct]
   cases hT3 : tx.isTup with
   | false => exact nQ (nob _ s2 (by cases tx <;> first | rfl | cases hT3))
   | true =>
   obtain ⟨p2, vs2, ts2, rfl, rfl, hp2, hx2⟩ := nK hrx hT3
   rw [eX] at wx
   refine bQ ⟨_, rfl, _, _, rfl, .inr ⟨_, SqT.of (s2 p2 _ hp2), rfl⟩, rfl, _, rfl, ?_⟩
   have l2 := hx2.len
   by_cases hl2 : ts2.length = 2
   ·obtain ⟨y, z', ty1, tz, rfl, rfl, hy, hz⟩ := hx2.two hl2
    rw [yQ, yQ] at wx
    obtain ⟨c2', hc2', _⟩ := (hy.same s2).ty
    have eb : iC (.tup [ty1, tz]) = (xZ ty1 && nM tz) := rfl
    refine bQ ⟨_, rfl, p2, _, _, _, rfl, rfl, SqT.of (s2 p2 _ hp2), at0 _ _, y, c2', rfl, hc2', fun z' e => ?_, fun H3 s3 => ⟨_, rfl, ?_⟩⟩
    ·have := hy.strLen e
     omega
    rw [hy.nam]
    have s23 := s2.trans s3
    cases hN2 : xZ ty1 with
    | false => exact nQ (nob _ s23 (by rw [eb, hN2, Bool.false_and]))
    | true =>
    obtain ⟨c3, hc3, _⟩ := (hz.same s23).ty
    refine bQ ⟨_, rfl, p2, _, _, _, rfl, rfl, SqT.of (s23 p2 _ hp2), at1 _ _ _, z', c3, rfl, hc3, _, rfl, ?_⟩
    rw [hz.num]
    cases hM : nM tz with
    | false => exact nQ (nob _ s23 (by rw [eb, hM, Bool.and_false]))
    | true => exact bQ ⟨_, rfl, s23, jR htx hall (by rw [eb, hN2, hM]; rfl)⟩
   ·rw [decide_eq_false (fun e => hl2 (by injection e with e; omega))]
    refine nQ (nob _ s2 ?_)
    have e : kW 2 (.tup ts2) = false := by
     cases ts2 with
     | nil => rfl
     | cons y r =>
      show (decide (r.length + 1 = 2) && xZ y) = false
      rw [decide_eq_false (by rw [List.length_cons] at hl2; omega), Bool.false_and]
    unfold iC
    rw [e, Bool.false_and]
  ·rintro σ' HE ⟨x1', rfl, sE, hall⟩
   rw [hlb, List.take_length] at hall
   rw [hall, Bool.true_and] at noB
   refine ⟨fun v e => (nomatch e), _, rfl, p, _, _, _, rfl, rfl, SqT.of (sE p _ hp), at1 _ _ _, pb, rfl, ⟨xb, SqT.of (sE pb _ hpb)⟩, fun D hD => ?_⟩
   refine ⟨fun i m ys H' => m = xb.length - i ∧ i ≤ xb.length ∧ H' = upd HE D (.lst ys) ∧ ys = (tb.take i).map (fun x => V.str (nm x)), ⟨xb.length, by simp, Nat.zero_le _, rfl, rfl⟩, ?_⟩
   rintro i m ys H' ⟨rfl, hi, rfl, rfl⟩
   have sD := kQ hD (.lst ((tb.take i).map (fun x => V.str (nm x))))
   by_cases hlt : i < xb.length
   ·refine .inr ⟨⟨xb, xb[i], SqT.of (sD pb _ (sE pb _ hpb)), List.getElem?_eq_getElem hlt⟩, ?_⟩
    rintro x' H'' ⟨rfl, hxi⟩
    have hxi := hxi xb (SqT.of (sD pb _ (sE pb _ hpb)))
    obtain ⟨tx, htx, hrx⟩ := hxb.get hxi
    have hbt : kW 2 tx = true := by
     have := List.all_eq_true.mp hall tx (List.mem_of_getElem? htx)
     unfold iC at this
     rw [Bool.and_eq_true] at this
     exact this.1
    obtain ⟨p2, z, y, ty2, rfl, hp2, rfl, hy⟩ := Xi hrx hbt
    refine ⟨_, rfl, p2, _, _, _, rfl, rfl, SqT.of (sD p2 _ (sE p2 _ hp2)), at0 _ _, ?_⟩
    exact ⟨zQ, by rw [List.length_map, List.length_take]; omega, xb.length - (i + 1), by omega, rfl, hlt, sV, (map_take (f := fun x => V.str (nm x)) htx).symm⟩
   ·have ei : i = xb.length := by omega
    subst ei
    rw [hlb, List.take_length] at sD ⊢
    refine .inl ⟨⟨xb, SqT.of (sD pb _ (sE pb _ hpb)), by omega⟩, fun v e => (nomatch e), ?_⟩
    have hbD : NL (upd HE D (.lst (tb.map fun x => V.str (nm x)))) D (uY (.tup tb)) := by
     show upd _ D _ D = some (.lst ((tb.map nm).map V.str))
     rw [zQ, List.map_map]
     rfl
    have sF := sE.trans sD
    generalize (upd HE D (.lst (tb.map fun x => V.str (nm x)))) = HF at hbD sF ⊢
    have ebx : uY (.tup tb) = tb.map nm := rfl
    refine ⟨_, rfl, D, tb.map nm, rfl, SqL.of hbD, by rw [List.length_map]; omega, fun d hd => ?_⟩
    have sd := kQ hd (.ext (tL d (yH (tb.map nm))))
    have sG := sF.trans sd
    have hbG := hbD.same sd
    refine ⟨d, _, rfl, zQ, _, rfl, _, _, rfl, .inl ⟨_, SqL.of hbG, rfl⟩, _, _, rfl, rfl, _, rfl, ?_⟩
    generalize (upd HF d (.ext (tL d (yH (tb.map nm))))) = HG at sG hbG ⊢
    have hdl := J2 (tb.map nm)
    have hde := Xx (tb.map nm)
    have hll : ((uY (.tup tb)).map V.str).length = (tb.map nm).length := by rw [List.length_map]; rfl
    by_cases hnd : (tb.map nm).Nodup
    ·have hdq := hde.mpr hnd
     rw [decide_eq_false (show ¬ ((yH (tb.map nm) : Nat) : Int) < ((((uY (.tup tb)).map V.str).length : Nat) : Int) by rw [hll]; omega)]
     have eB : pW (.tup tb) = true := by rw [dS, hall, decide_eq_true hnd, decide_eq_true (show tb.length ≤ 4 by omega)]; rfl
     rw [eB, Bool.true_and] at e
     refine bQ ⟨_, rfl, p, _, _, _, rfl, rfl, SqT.of (sG p _ hp), at2 _ _ _ _, _, rfl, sZ0, fun u hu => ?_⟩
     have su := kQ hu (.lst [])
     have sH := sG.trans su
     have hu4 : NL (upd HG u (.lst [])) u [] := zQ
     have hbH := hbG.same su
     generalize upd HG u (.lst []) = HH at sH hu4 hbH ⊢
     refine ⟨x3, t3, D, u, uY (.tup tb), [], rfl, h3.same sH, by omega, hbH, hu4, fun H5 s5 => ⟨_, rfl, ?_⟩⟩
     have s45 := sH.trans s5
     cases hP : pZ (uY (.tup tb)) [] t3 with
     | false => exact nQ (no (by rw [e, hP, Bool.false_and, Bool.false_and]) _ s45)
     | true =>
     obtain ⟨p3, x3', t3', rfl, rfl, hp3, hx3⟩ : ∃ p xs ts, x3 = .ref p ∧ t3 = .tup ts ∧ H p = some (.tup xs) ∧ Reps H xs ts := by
      cases h3 <;> first | exact ⟨_, _, _, rfl, rfl, ‹_›, ‹_›⟩ | cases hP
     have hl3 := hx3.len
     refine bQ ⟨_, rfl, p, _, _, _, rfl, rfl, SqT.of (s45 p _ hp), at2 _ _ _ _, _, _, rfl, .inr ⟨_, SqT.of (s45 p3 _ hp3), rfl⟩, _, _, rfl, rfl, _, rfl, ?_⟩
     cases h5 : decide ((4 : Int) < ((x3'.length : Nat) : Int)) with
     | true =>
      have h5 := of_decide_eq_true h5
      exact nQ (no (by rw [e, hP, decide_eq_false (show ¬ uO (.tup t3') ≤ 4 by show ¬ t3'.length ≤ 4; omega), Bool.and_false, Bool.false_and]) _ s45)
     | false =>
      have h5 := of_decide_eq_false h5
      rw [hP, decide_eq_true (show uO (.tup t3') ≤ 4 by show t3'.length ≤ 4; omega), Bool.true_and, Bool.true_and] at e
      exact bQ ⟨_, rfl, p, _, _, _, rfl, rfl, SqT.of (s45 p _ hp), at3 _ _ _ _ _, _, rfl, x4, t4, D, uY (.tup tb), rfl, h4.same s45, by omega, hbH.same s5, fun hf H6 s6 => no (by rw [e, hf]) _ (s45.trans s6), fun hy g H6 s6 g0 gs k1 k2 k3 => yes (by rw [e, hy]) g _ (s45.trans s6) (Same.free s45 g0) gs k1 k2 k3⟩
    ·have hlt2 : yH (tb.map nm) < (tb.map nm).length := by
      have : yH (tb.map nm) ≠ (tb.map nm).length := fun h => hnd (hde.mp h)
      omega
     rw [decide_eq_true (show ((yH (tb.map nm) : Nat) : Int) < ((((uY (.tup tb)).map V.str).length : Nat) : Int) by rw [hll]; omega)]
     exact nQ (noB (decide_eq_false hnd) _ sG)
 ·have e : jJ (.tup ts) = false := by
   match ts, hl with
   | [], _ => rfl
   | [_], _ => rfl
   | [_, _], _ => rfl
   | [_, _, _], _ => rfl
   | [_, _, _, _], h => exact absurd rfl h
   | _ :: _ :: _ :: _ :: _ :: _, _ => rfl
  rw [decide_eq_false (fun e => hl (by injection e with e; omega))]
  exact nQ (no e H (Same.refl H))
end
end K06
namespace K06
open PySem L2
theorem VP {ns : List Str} (h : ∀ k z, ns[k]? = some z → ¬ z ∈ ns.take k) : ns.Nodup :=
 List.pairwise_iff_getElem.mpr fun i j hi hj hij e => h j ns[j] (List.getElem?_eq_getElem hj) (by
  rw [← e, List.mem_iff_getElem]
  exact ⟨i, by rw [List.length_take]; omega, by rw [List.getElem_take]⟩)
noncomputable def GR (D : Addr) (H : Hp) (ts : List Tr) (ys : List V) : Prop := ∀ (j : Nat) (y : V), ys[j]? = some y → ∃ t : Tr, ts[j]? = some t ∧ ((jJ t = false ∧ y = .non) ∨ (jJ t = true ∧ ∃ (g : Addr) (gs : List Str), y = .ref g ∧ g ≠ D ∧ H g = some (.lst (gs.map V.str)) ∧ gs.length ≤ 90000 ∧ ∀ x, x ∈ gs ↔ jB (qU t) x))
section
variable {D : Addr} {H H' : Hp} {ts : List Tr} {ys : List V}
theorem GR.ext (e : ∀ b o, b ≠ D → H b = some o → H' b = some o) (h : GR D H ts ys) : GR D H' ts ys := fun j y hy => by
 obtain ⟨t, h1, h2⟩ := h j y hy
 refine ⟨t, h1, h2.imp id fun ⟨k1, g, gs, k2, k3, k4, k5⟩ => ⟨k1, g, gs, k2, k3, e _ _ k3 k4, k5⟩⟩
theorem GR.same (s : Same H H') (h : GR D H ts ys) : GR D H' ts ys := h.ext fun b o _ q => s b o q
theorem GR.upd {o : HO} (h : GR D H ts ys) : GR D (upd H D o) ts ys := h.ext fun b o n q => by rw [uX n]; exact q
theorem GR.snoc {t : Tr} {y : V} (h : GR D H ts ys) (ht : ts[ys.length]? = some t) (hy : (jJ t = false ∧ y = .non) ∨ (jJ t = true ∧ ∃ (g : Addr) (gs : List Str), y = .ref g ∧ g ≠ D ∧ H g = some (.lst (gs.map V.str)) ∧ gs.length ≤ 90000 ∧ ∀ x, x ∈ gs ↔ jB (qU t) x)) : GR D H ts (ys ++ [y]) := fun j y' hj => by
 by_cases hlt : j < ys.length
 ·rw [List.getElem?_append_left hlt] at hj
  exact h j y' hj
 ·have hjl := (List.getElem?_eq_some_iff.mp hj).1
  rw [List.length_append] at hjl
  have hjl : j < ys.length + 1 := hjl
  have e : j = ys.length := by omega
  subst e
  rw [List.getElem?_append_right lR, Nat.sub_self] at hj
  have e : y = y' := by simpa using hj
  subst e
  exact ⟨t, ht, hy⟩
theorem GR.any (h : GR D H ts ys) (hl : ys.length = ts.length) : ys.any bI = !ts.all jJ := by
 cases hA : ts.all jJ with
 | true =>
  show ys.any bI = false
  rw [Bool.eq_false_iff]
  intro hy
  obtain ⟨y, hm, hn⟩ := List.any_eq_true.mp hy
  obtain ⟨j, hj⟩ := List.getElem?_of_mem hm
  obtain ⟨t, h1, h2⟩ := h j y hj
  have := List.all_eq_true.mp hA t (List.mem_of_getElem? h1)
  rcases h2 with ⟨k1, _⟩ | ⟨_, g, gs, rfl, _⟩
  ·rw [k1] at this; cases this
  ·cases hn
 | false =>
  show ys.any bI = true
  have hne : ¬ ∀ t ∈ ts, jJ t = true := fun hh => by
   rw [List.all_eq_true.mpr hh] at hA
   cases hA
  rw [List.any_eq_true]
  apply Classical.byContradiction
  intro hno
  refine hne fun t ht => ?_
  obtain ⟨j, hj⟩ := List.getElem?_of_mem ht
  have hjl := (List.getElem?_eq_some_iff.mp hj).1
  have hjy : j < ys.length := by omega
  obtain ⟨t', h1, h2⟩ := h j ys[j] (List.getElem?_eq_getElem hjy)
  rw [hj] at h1
  cases h1
  rcases h2 with ⟨_, k2⟩ | ⟨k1, _⟩
  ·exact absurd ⟨ys[j], List.getElem_mem hjy, by rw [k2]; rfl⟩ hno
  ·exact k1
end
theorem Wg (p : Str → Bool) (xs : List Str) (i : Nat) (c : Str) (h : xs[i]? = some c) : ((xs.take (i + 1)).filter p).map V.str = ((xs.take i).filter p).map V.str ++ (if p c then [V.str c] else []) := by
 rw [List.take_succ, h, List.filter_append, List.map_append]
 cases hc : p c <;> simp [hc]
section
variable {P : Program} {w : World} {K : W.Frag} {mg : Str → Option Value} {base : Heap} {a : Adr}
inductive Isp1L (f : Tr → Bool) (vs : List V) (H : Hp) (Q : VK) : Prop
 | mk (v : V) (t : Tr) (z0 : vs = [v]) (z1 : Rep H v t) (z2 : t.w ≤ 90000) (z3 : ∀ H', Same H H' → Q (.bl (f t)) H') : Isp1L f vs H Q
noncomputable def sp1L (f : Tr → Bool) : Sp := fun vs H Q _ => Isp1L f vs H Q
theorem fH (T : Txt P w K mg a) : FnOk P w K mg base CX0 10 a.tF a.zD ["_law_thing"] (sp1L rY) := by
 have S := mH
 have big : (1000000 : Nat) < sizeLine := by decide
 have Qy := bA (P := P) (w := w) (base := base) T
 refine T.vD.okJ mH (fun vs H Q E h => ?_) (fun cdv A outer s H vs Q E hr h => ?_)
 ·obtain ⟨v, t, rfl, _⟩ := h; rfl
 obtain ⟨v, t, rfl, hv, hn, q⟩ := h
 refine ⟨_, (wQ (zX (iX (zZ (xX (jX (gQ eQ rfl T.rQ rfl (qQ (jv 0) (qQ (wX rfl T.tX (v := .ty "tuple") rfl rfl) jQ))))) (zZ (sQ bL (gQ qX rfl T.aX rfl (qQ (jv 0) jQ)) xQ (oQ _)) (qZ (sQ eG (gQ qX rfl T.aX rfl (qQ (jv 0) jQ)) xQ (oQ _)))))) (uQ (pQ fX)) tQ) (wQ (mC (i := 1) (show (["_law_thing", "_law_goals", "_law_names_here", "_law_k", "_law_lost"] : List Str).Nodup by decide +kernel) rfl (Or.inl rfl) rfl (show (["_law_part", "_law_thing", "_law_goals", "_law_names_here", "_law_k", "_law_lost"] : List Str).Nodup by decide +kernel) (gV (N := ["_law_thing", "_law_goals", "_law_names_here", "_law_k", "_law_lost"]) rfl (by with_unfolding_all rfl) (by decide +kernel)) (dJ (jv 0)) (fun _ _ _ _ => xK) (fun _ _ _ _ => (mQ Qy hr rfl T.Qq T.k_l_part_fits T.b_l_part_fits .nil iQ (qQ (jv 0) jQ)))) (wQ (zX (sQ (Kt (iG hr)) aZ (jv 1) rfl) (uQ (pQ fX)) tQ) (wQ (kX (i := 2) S.nd rfl (Or.inr rfl) (vY rfl (show (["_law_part", "_law_thing", "_law_goals", "_law_names_here", "_law_k", "_law_lost"] : List Str).Nodup by decide +kernel) (gV (N := ["_law_thing", "_law_goals", "_law_names_here", "_law_k", "_law_lost"]) rfl (by with_unfolding_all rfl) (by decide +kernel)) (dJ (jv 0)) (fun _ _ _ _ => xK) (fun _ _ _ _ => (cQ (r := zC K) lQ (jv 0) xQ (fun _ _ => rfl))))) (wQ (xY PassesOwn.never rfl (cY rfl T.vF (qQ (gQ qX rfl T.aX rfl (qQ (jv 0) jQ)) jQ)) (pK (i := 3) S.nd rfl (Or.inr rfl)) (wQ (VY (i := 4) (show (["_law_thing", "_law_goals", "_law_names_here", "_law_k", "_law_lost"] : List Str).Nodup by decide +kernel) rfl (Or.inl rfl) rfl (show (["_law_goal", "_law_thing", "_law_goals", "_law_names_here", "_law_k", "_law_lost"] : List Str).Nodup by decide +kernel) (uW (N := ["_law_thing", "_law_goals", "_law_names_here", "_law_k", "_law_lost"]) (sc := vQ lJ) rfl rfl rfl (by decide +kernel)) (eO (cQ hX (jv 1) (jv 3) (fun _ _ => rfl))) (fun _ _ _ _ _ => (V3 (sQ (r := rInS K true) (cV (iG hr)) (jv 0) (yZ (r := rSlL K) vV (jv 3) (qJ (bX fJ (jv 4) xQ)) zJ) rfl))) (fun _ _ _ _ _ => (jv 0))) (uQ (zX (iX (zZ (sQ (xC (iG hr)) (cQ hX (jv 2) (jv 3) (fun _ _ => rfl)) (yZ vV (jv 2) zJ (qJ (jv 3))) rfl) (qZ (sQ (kA hr.units0) (jv 4) (cZ jQ) (oQ _))))) (uQ (pQ fX)) tQ)))) (uQ (pQ fX))))))), ?_⟩
 have no : rY t = false → ∀ H', Same H H' → Q (.bl false) H' := fun e H' s' => by
  have q' := q H' s'
  rw [e] at q'
  exact q'
 obtain ⟨ty, hty, htt, _, _⟩ := hv.ty
 refine ⟨_, rfl, v, .tup, ty, rfl, hty, _, rfl, ?_⟩
 rw [htt]
 cases hT : t.isTup with
 | false => exact nQ (no (by cases t <;> first | rfl | cases hT) H (Same.refl H))
 | true =>
 obtain ⟨p, xs, ts, rfl, rfl, hp, hx⟩ := nK hv hT
 rw [eX] at hn
 have hlen := hx.len
 have e : rY (.tup ts) = ((decide (1 ≤ ts.length) && decide (ts.length ≤ 6)) && (ts.all jJ && (decide ((ts.map nm).Nodup) && (List.range ts.length).all (gk ts)))) := rfl
 refine bQ ⟨_, rfl, _, _, rfl, .inr ⟨_, SqT.of hp, rfl⟩, _, _, rfl, rfl, _, rfl, ?_⟩
 cases h1 : decide (((xs.length : Nat) : Int) < 1) with
 | true =>
  have h1 := of_decide_eq_true h1
  exact nQ (no (by rw [e, decide_eq_false (show ¬ 1 ≤ ts.length by omega)]; rfl) H (Same.refl H))
 | false =>
 have h1 := of_decide_eq_false h1
 refine bQ ⟨_, rfl, _, _, rfl, .inr ⟨_, SqT.of hp, rfl⟩, _, _, rfl, rfl, _, rfl, ?_⟩
 cases h6 : decide ((6 : Int) < ((xs.length : Nat) : Int)) with
 | true =>
  have h6 := of_decide_eq_true h6
  exact nQ (no (by rw [e, decide_eq_false (show ¬ ts.length ≤ 6 by omega), Bool.and_false]; rfl) H (Same.refl H))
 | false =>
 have h6 := of_decide_eq_false h6
 rw [decide_eq_true (show 1 ≤ ts.length by omega), decide_eq_true (show ts.length ≤ 6 by omega)] at e
 have e : rY (.tup ts) = (ts.all jJ && (decide ((ts.map nm).Nodup) && (List.range ts.length).all (gk ts))) := e
 refine bQ ⟨_, rfl, p, rfl, ⟨xs, SqT.of hp⟩, fun D hD => ?_⟩
 refine ⟨fun i m ys H' => m = xs.length - i ∧ i ≤ xs.length ∧ Same H H' ∧ H' D = some (.lst ys) ∧ ys.length = i ∧ GR D H' ts ys, ⟨xs.length, by simp, Nat.zero_le _, kQ hD _, zQ, rfl, fun j y hj => by simp at hj⟩, ?_⟩
 rintro i m ys H2 ⟨rfl, hi, s2, hD2, hyl, hG⟩
 by_cases hlt : i < xs.length
 ·refine .inr ⟨⟨xs, xs[i], SqT.of (s2 p _ hp), List.getElem?_eq_getElem hlt⟩, ?_⟩
  rintro x' H'' ⟨rfl, hxi⟩
  have hxi := hxi xs (SqT.of (s2 p _ hp))
  obtain ⟨tx, htx, hrx⟩ := hx.get hxi
  have wx := bV htx
  subst hyl
  refine ⟨_, rfl, x', tx, rfl, hrx.same s2, by omega, fun e0 H3 s3 => ?_, fun e0 g H3 s3 g0 gs k1 k2 k3 => ?_⟩
  ·exact ⟨s3 D _ hD2, by omega, xs.length - (ys.length + 1), by omega, rfl, hlt, mX (s2.trans s3) hD, zQ, by rw [List.length_append]; rfl, ((hG.same s3).snoc htx (.inl ⟨e0, rfl⟩)).upd⟩
  ·exact ⟨s3 D _ hD2, by omega, xs.length - (ys.length + 1), by omega, rfl, hlt, mX (s2.trans s3) hD, zQ, by rw [List.length_append]; rfl, ((hG.same s3).snoc htx (.inr ⟨e0, g, gs, rfl, Ne.symm (uZ hD2 g0), k1, k3, k2⟩)).upd⟩
 have ei : i = xs.length := by omega
 subst ei
 refine .inl ⟨⟨xs, SqT.of (s2 p _ hp), Nat.le_refl _⟩, _, rfl, D, ys, rfl, rfl, SqL.of hD2, fun y hy => ?_, _, rfl, ?_⟩
 ·obtain ⟨j, hj⟩ := List.getElem?_of_mem hy
  obtain ⟨t, _, h2⟩ := hG j y hj
  rcases h2 with ⟨_, k2⟩ | ⟨_, g, gs, k2, _, k4, _⟩
  ·exact .inl k2
  ·exact .inr ⟨g, _, k2, SqL.of k4⟩
 rw [hG.any (by omega)]
 cases hA : ts.all jJ with
 | false => exact nQ (no (by rw [e, hA]; rfl) _ s2)
 | true =>
 rw [hA, Bool.true_and] at e
 have hbg : ∀ t, t ∈ ts → kW 4 t = true := fun t ht => vU (List.all_eq_true.mp hA t ht)
 refine bQ ⟨_, rfl, p, rfl, ⟨xs, SqT.of (s2 p _ hp)⟩, fun D2 hD3 => ?_⟩
 refine ⟨fun i m zs H' => m = xs.length - i ∧ i ≤ xs.length ∧ H' = upd H2 D2 (.lst zs) ∧ zs = (ts.take i).map (fun x => V.str (nm x)), ⟨xs.length, by simp, Nat.zero_le _, rfl, rfl⟩, ?_⟩
 rintro i m zs H' ⟨rfl, hi', rfl, rfl⟩
 have sD := kQ hD3 (.lst ((ts.take i).map (fun x => V.str (nm x))))
 have s3 := s2.trans sD
 by_cases hlt : i < xs.length
 ·refine .inr ⟨⟨xs, xs[i], SqT.of (s3 p _ hp), List.getElem?_eq_getElem hlt⟩, ?_⟩
  rintro x' H'' ⟨rfl, hxi⟩
  have hxi := hxi xs (SqT.of (s3 p _ hp))
  obtain ⟨tx, htx, hrx⟩ := hx.get hxi
  obtain ⟨p2, z2, r, rs, rfl, hp2, rfl, _, _⟩ := cJ hrx (hbg tx (List.mem_of_getElem? htx))
  refine ⟨_, rfl, p2, _, _, _, rfl, rfl, SqT.of (s3 p2 _ hp2), at0 _ _, ?_⟩
  exact ⟨zQ, by rw [List.length_map, List.length_take]; omega, xs.length - (i + 1), by omega, rfl, hlt, sV, (map_take (f := fun x => V.str (nm x)) htx).symm⟩
 have ei : i = xs.length := by omega
 subst ei
 rw [hlen, List.take_length] at sD s3 ⊢
 have hN : (upd H2 D2 (.lst (ts.map fun x => V.str (nm x)))) D2 = some (.lst ((ts.map nm).map V.str)) := by
  rw [zQ, List.map_map]
  rfl
 have hG := hG.same sD
 have hD4 := sD D _ hD2
 generalize (upd H2 D2 (.lst (ts.map fun x => V.str (nm x)))) = H5 at sD s3 hN hG hD4 ⊢
 refine .inl ⟨⟨xs, SqT.of (s3 p _ hp), by omega⟩, ?_⟩
 refine ⟨_, rfl, _, _, rfl, .inr ⟨_, SqT.of (s3 p _ hp), rfl⟩, _, rfl, by omega, by omega, ?_⟩
 refine jH (fun i σ' H' => ∃ x3 x4 : Option V, σ' = [some (.ref p), some (.ref D), some (.ref D2), x3, x4] ∧ Same H5 H' ∧ ∀ m, m < i → gk ts m = true ∧ ∀ z, (ts.map nm)[m]? = some z → ¬ z ∈ (ts.map nm).take m) ⟨none, none, rfl, Same.refl H5, fun m hm => absurd hm (Nat.not_lt_zero _)⟩ ?_ ?_
 ·rintro i σ' H6 hi6 ⟨x3, x4, rfl, s6, hall⟩
  have hit : i < ts.length := by omega
  have s36 := s3.trans s6
  obtain ⟨t', h1', h2'⟩ := hG i ys[i] (List.getElem?_eq_getElem (by omega))
  have htt' := List.all_eq_true.mp hA t' (List.mem_of_getElem? h1')
  rcases h2' with ⟨k1, _⟩ | ⟨_, g, gs, k2, _, k4, k5, k6⟩
  ·rw [k1] at htt'; cases htt'
  have aty : atI ys (0 + (i : Int)) = some (.ref g) := by
   rw [show (0 : Int) + (i : Int) = ((i : Nat) : Int) by omega]
   exact jV (by rw [List.getElem?_eq_getElem (by omega), k2])
  have eg : gk ts i = qG ((ts.map nm).drop (i + 1)) (qU t') := by
   unfold gk
   rw [h1']
   rfl
  have hno6 : gk ts i = false → ∀ H', Same H6 H' → Q (.bl false) H' := fun h0 H' s' => by
   have ha : (List.range ts.length).all (gk ts) = false := by
    rw [Bool.eq_false_iff]
    intro hh
    have := List.all_eq_true.mp hh i (List.mem_range.mpr hit)
    rw [h0] at this
    cases this
   exact no (by rw [e, ha, Bool.and_false]) _ (s36.trans s')
  have g6 := s6 g _ k4
  refine ⟨_, rfl, _, rfl, D, _, _, _, rfl, rfl, SqL.of (s6 D _ hD4), aty, g, rfl, ⟨_, SqL.of g6⟩, fun DL hDL => ?_⟩
  refine ⟨fun j m us H' => m = gs.length - j ∧ j ≤ gs.length ∧ Same H6 H' ∧ H' DL = some (.lst us) ∧ us = ((gs.take j).filter fun x => !((ts.map nm).drop (i + 1)).contains x).map V.str, ⟨gs.length, by simp, Nat.zero_le _, kQ hDL _, zQ, rfl⟩, ?_⟩
  rintro j m us H7 ⟨rfl, hj, s7, hDL7, rfl⟩
  have s67 := s6.trans s7
  have gsl : (gs.map V.str).length = gs.length := List.length_map ..
  have cutE : oX ((ts.map nm).map V.str) (some (0 + (i : Int) + 1)) none = ((ts.map nm).drop (i + 1)).map V.str := by
   rw [show (0 : Int) + (i : Int) + 1 = ((i + 1 : Nat) : Int) by omega, eI, List.map_drop]
  by_cases hlj : j < gs.length
  ·refine .inr ⟨⟨gs.map V.str, V.str gs[j], SqL.of (s7 g _ g6), by rw [List.getElem?_map, List.getElem?_eq_getElem hlj]; rfl⟩, ?_⟩
   rintro x' H'' ⟨rfl, hxj⟩
   have hxj := hxj (gs.map V.str) (SqL.of (s7 g _ g6))
   rw [List.getElem?_map, List.getElem?_eq_getElem hlj] at hxj
   have hxj : some (V.str gs[j]) = some x' := hxj
   cases hxj
   refine ⟨_, rfl, _, rfl, _, rfl, _, _, rfl, rfl, _, rfl, D2, _, rfl, SqL.of (s67 D2 _ hN), fun pS hS => ?_⟩
   have sS := kQ hS (.lst (oX ((ts.map nm).map V.str) (some (0 + (i : Int) + 1)) none))
   have hpS : (upd H'' pS (.lst (oX ((ts.map nm).map V.str) (some (0 + (i : Int) + 1)) none))) pS = some (.lst (((ts.map nm).drop (i + 1)).map V.str)) := by rw [zQ, cutE]
   generalize (upd H'' pS (.lst (oX ((ts.map nm).map V.str) (some (0 + (i : Int) + 1)) none))) = H8 at sS hpS ⊢
   refine ⟨pS, (ts.map nm).drop (i + 1), .str, rfl, .inl (SqL.of hpS), rfl, _, rfl, ?_⟩
   show if (!((ts.map nm).drop (i + 1)).contains gs[j]) = true then _ else _
   have more := Wg (fun x => !((ts.map nm).drop (i + 1)).contains x) gs j gs[j] (List.getElem?_eq_getElem hlj)
   cases hc : (!((ts.map nm).drop (i + 1)).contains gs[j]) with
   | true =>
    rw [hc, if_pos rfl] at more
    refine nQ ⟨_, rfl, sS DL _ hDL7, ?_, gs.length - (j + 1), by omega, rfl, hlj, mX (s7.trans sS) hDL, zQ, more.symm⟩
    have l1 := List.length_filter_le (fun x => !((ts.map nm).drop (i + 1)).contains x) (gs.take j)
    have l2 := List.length_take_le j gs
    rw [List.length_map]
    omega
   | false =>
    rw [hc, if_neg Bool.false_ne_true, List.append_nil] at more
    exact bQ ⟨gs.length - (j + 1), by omega, rfl, hlj, s7.trans sS, sS DL _ hDL7, more.symm⟩
  ·have ej : j = gs.length := by omega
   subst ej
   rw [List.take_length] at hDL7
   have zi : (ts.map nm)[i]? = some ((ts.map nm)[i]'(by rw [List.length_map]; exact hit)) := List.getElem?_eq_getElem _
   generalize ((ts.map nm)[i]'(by rw [List.length_map]; exact hit)) = z at zi
   have atz : atI ((ts.map nm).map V.str) (0 + (i : Int)) = some (.str z) := by
    rw [show (0 : Int) + (i : Int) = ((i : Nat) : Int) by omega]
    exact jV (by rw [List.getElem?_map, zi]; rfl)
   refine .inl ⟨⟨gs.map V.str, SqL.of (s7 g _ g6), by omega⟩, ?_⟩
   refine ⟨_, rfl, _, rfl, D2, _, _, _, rfl, rfl, SqL.of (s67 D2 _ hN), atz, _, rfl, _, rfl, _, rfl, D2, _, rfl, SqL.of (s67 D2 _ hN), fun pT hT' => ?_⟩
   have sT := kQ hT' (.lst (oX ((ts.map nm).map V.str) none (some (0 + (i : Int)))))
   have hpT : (upd H7 pT (.lst (oX ((ts.map nm).map V.str) none (some (0 + (i : Int)))))) pT = some (.lst (((ts.map nm).take i).map V.str)) := by
    rw [zQ, show (0 : Int) + (i : Int) = ((i : Nat) : Int) by omega, Wm, List.map_take]
   generalize (upd H7 pT (.lst (oX ((ts.map nm).map V.str) none (some (0 + (i : Int)))))) = H8 at sT hpT ⊢
   refine ⟨pT, (ts.map nm).take i, .str, rfl, .inl (SqL.of hpT), rfl, _, rfl, ?_⟩
   show if ((ts.map nm).take i).contains z = true then _ else _
   cases hc : ((ts.map nm).take i).contains z with
   | true =>
    refine nQ (no ?_ _ ((s36.trans s7).trans sT))
    have hnn : ¬ (ts.map nm).Nodup := fun hnd => by
     have hm := List.contains_iff_mem.mp hc
     obtain ⟨m, hm1⟩ := List.getElem?_of_mem hm
     have hml := (List.getElem?_eq_some_iff.mp hm1).1
     rw [List.length_take] at hml
     rw [List.getElem?_take, if_pos (by omega)] at hm1
     exact cI hnd zi m (by omega) hm1
    rw [e, decide_eq_false hnn, Bool.false_and]
   | false =>
   refine bQ ⟨_, rfl, sZ0, fun pe he => ?_⟩
   have se := kQ he (.lst [])
   have s7e := (s7.trans sT).trans se
   refine ⟨DL, pe, _, rfl, rfl, SqL.of (se DL _ (sT DL _ hDL7)), SqL.of zQ, _, rfl, ?_⟩
   cases hg : gk ts i with
   | false =>
    have hne : (!((gs.filter fun x => !((ts.map nm).drop (i + 1)).contains x).map V.str).isEmpty) = true := by
     rw [eg] at hg
     apply Classical.byContradiction
     intro hh
     have hemp : (gs.filter fun x => !((ts.map nm).drop (i + 1)).contains x) = [] := by
      cases hf : (gs.filter fun x => !((ts.map nm).drop (i + 1)).contains x) with
      | nil => rfl
      | cons y r => rw [hf] at hh; exact absurd rfl hh
     have : qG ((ts.map nm).drop (i + 1)) (qU t') = true := bG.mpr fun x hx => by
      have hxg := (k6 x).mpr hx
      have := List.filter_eq_nil_iff.mp hemp x hxg
      have : ((ts.map nm).drop (i + 1)).contains x = true := by simpa using this
      exact List.contains_iff_mem.mp this
     rw [hg] at this
     cases this
    rw [hne]
    exact nQ (hno6 hg _ s7e)
   | true =>
    have hemp : (gs.filter fun x => !((ts.map nm).drop (i + 1)).contains x) = [] := by
     rw [List.filter_eq_nil_iff]
     intro x hx
     rw [eg] at hg
     have := bG.mp hg x ((k6 x).mp hx)
     rw [List.contains_iff_mem.mpr this]
     exact Bool.false_ne_true
    rw [hemp]
    refine bQ ⟨_, _, rfl, s6.trans s7e, fun m hm => ?_⟩
    by_cases hmi : m = i
    ·subst hmi
     refine ⟨hg, fun z' hz' hmem => ?_⟩
     rw [zi] at hz'
     cases hz'
     rw [List.contains_iff_mem.mpr hmem] at hc
     cases hc
    ·exact hall m (by omega)
 ·rintro σ' H6 ⟨x3, x4, rfl, s6, hall⟩
  have q' := q H6 (s3.trans s6)
  have hnd : (ts.map nm).Nodup := VP fun k z hk => by
   have hkl := (List.getElem?_eq_some_iff.mp hk).1
   rw [List.length_map] at hkl
   exact (hall k (by omega)).2 z hk
  have hga : (List.range ts.length).all (gk ts) = true := List.all_eq_true.mpr fun k hk => (hall k (by have := List.mem_range.mp hk; omega)).1
  rw [e, decide_eq_true hnd, hga] at q'
  exact q'
inductive ZC (vs : List V) (H : Hp) (Q : VK) : Prop
 | mk (v : V) (u : Addr → Prop) (n d : Nat) (z0 : vs = [v]) (z1 : Ths u H [v] n d) (z2 : n ≤ 90000) (z3 : ∀ H', Same H H' → Q (.bl true) H') : ZC vs H Q
noncomputable def spRight : Sp := fun vs H Q _ => ZC vs H Q
theorem VJ (T : Txt P w K mg a) : FnOk P w K mg base CX0 13 a.nO a.xS ["_law_thing"] spRight := by
 have S := uE
 have Jl := X3 (P := P) (w := w) (base := base) T
 have jD := (fH (P := P) (w := w) (base := base) T).mono (show 10 ≤ 12 by decide)
 refine T.nS.okJ uE (fun vs H Q E h => ?_) (fun cdv A outer s H vs Q E hr h => ?_)
 ·obtain ⟨v, u, n, d, rfl, _⟩ := h; rfl
 obtain ⟨v, u, n, d, rfl, hth, hn0, q⟩ := h
 obtain ⟨t, hv, hn⟩ := hth.rep
 have hn : t.w ≤ 90000 := Nat.le_trans hn hn0
 refine ⟨_, (wQ (kX (i := 1) S.nd rfl (Or.inl rfl) (mQ Jl hr rfl T.Z8 T.k_is_house T.b_is_house .nil iQ (qQ (jv 0) jQ))) (uQ (pQ (lY (gQ eQ rfl T.rQ rfl (qQ (jv 1) (qQ (wX rfl T.wR (v := .ty "bool") rfl rfl) jQ))) (bU (hV wZ (jv 1) (mQ jD hr rfl T.wC T.k_l_is_house T.b_l_is_house .nil iQ (qQ (jv 0) jQ)) (oQ _))))))), ?_⟩
 refine ⟨_, rfl, v, t, rfl, hv, by omega, fun H1 s1 => ?_⟩
 refine ⟨_, rfl, _, .bl, _, rfl, rfl, _, rfl, nQ ⟨_, rfl, _, rfl, v, t, rfl, hv.same s1, hn, fun H2 s2 => ⟨rfl, ?_⟩⟩⟩
 rw [decide_eq_true rfl]
 exact q _ (s1.trans s2)
end
end K06
namespace K06
open PySem L2
structure Gd (K : W.Frag) (A : Addr → Prop) (H : Hp) (t sc : Addr) (ns : List Int) : Prop where
 st : St1 K H t sc ns
 has : A t
 tr : ∀ x, A x → H x ≠ none
section
variable {K : W.Frag} {A : Addr → Prop} {H H' : Hp} {t sc p : Addr} {ns : List Int} {xs : List V} {n d : Nat}
theorem Gd.after (g : Gd K A H t sc ns) (e : Ext t H H') (st' : St1 K H' t sc ns) : Gd K A H' t sc ns := by
 refine ⟨st', g.has, fun x hx => ?_⟩
 by_cases h : x = t
 ·subst h
  obtain ⟨_, _, _, q, _⟩ := st'.tp
  rw [q]
  exact fun z => nomatch z
 ·cases ho : H x with
  | none => exact absurd ho (g.tr x hx)
  | some o =>
   rw [e x o h ho]
   exact fun z => nomatch z
theorem Gd.same (g : Gd K A H t sc ns) (s : Same H H') : Gd K A H' t sc ns := g.after (Ext.same s) (g.st.same s)
theorem Gd.new (g : Gd K A H t sc ns) (hp : H p = none) (o : HO) : Gd K A (upd H p o) t sc ns := g.same (kQ hp o)
theorem Gd.fresh (g : Gd K A H t sc ns) (hp : H p = none) : ¬ A p := fun h => g.tr p h hp
theorem Gd.keep (g : Gd K A H t sc ns) (e : Ext t H H') (h : Ths A H xs n d) : Ths A H' xs n d := h.ext fun b o nb q => e b o (fun z => nb (by rw [z]; exact g.has)) q
theorem Gd.more {d : Addr} (g : Gd K A H t sc ns) (hd : H d ≠ none) : Gd K (fun x => A x ∨ x = d) H t sc ns := ⟨g.st, .inl g.has, fun x hx => hx.elim (g.tr x) fun e => by rw [e]; exact hd⟩
end
theorem gN {xs : List V} {k : Int} (h0 : 0 ≤ k) (h : k < (xs.length : Int)) : ∃ (v : V) (i : Nat), k = (i : Int) ∧ atI xs k = some v ∧ xs[i]? = some v ∧ i < xs.length := by
 have hk : k.toNat < xs.length := by omega
 have ek : k = ((k.toNat : Nat) : Int) := by omega
 have q : atI xs ((k.toNat : Nat) : Int) = some xs[k.toNat] := jV (List.getElem?_eq_getElem hk)
 rw [← ek] at q
 exact ⟨_, k.toNat, ek, q, List.getElem?_eq_getElem hk, hk⟩
section
variable {K : W.Frag} {A : Addr → Prop} {H H' : Hp} {t sc p : Addr} {ns : List Int} {xs L : List V} {n k d e : Nat} {o : HO}
theorem put (g : Gd K A H t sc ns) (hp : H p = none) (ho : kids o = some xs) (hL : Ths A H L n d) (hx : Ths A H xs k e) (hd : e + 1 ≤ d) : Ths A (upd H p o) (L ++ [.ref p]) (n + (k + 10)) d :=
 (hL.same (kQ hp o)).append (.ob (m := 0) (g.fresh hp) zQ ho (hx.same (kQ hp o)) hd .nil (by omega))
end
section
variable {P : Program} {w : World} {K : W.Frag} {mg : Str → Option Value} {base : Heap} {a : Adr}
inductive Ws (K : W.Frag) (vs : List V) (H : Hp) (Q : VK) : Prop
 | mk (t sc : Addr) (ns : List Int) (A : Addr → Prop) (z0 : vs = [.ref t]) (z1 : Gd K A H t sc ns) (z2 : ∀ (v : V) (H' : Hp), Ths A H' [v] 2500 3 → St1 K H' t sc ns → Ext t H H' → Q v H') : Ws K vs H Q
noncomputable def spOdd (K : W.Frag) : Sp := fun vs H Q _ => Ws K vs H Q
theorem sc11 {A : Addr → Prop} {H : Hp} {x y : Int} (hx : x.natAbs ≤ 1000000012) (hy : y.natAbs ≤ 1000000012) : Ths A H [.non, .bl true, .bl false, .int 0, .int 1, .int x, .int y, .str "", .str "a", .str "abcdefghi", .str "A"] 132 3 := by
 have o : ∀ {v : V}, ScalOk v 12 → Ths A H [v] 12 3 := fun h => Ths.one h lR
 refine Ths.cons (m := 120) (o (by show 1 ≤ 12; decide)) ?_ (by decide)
 refine Ths.cons (m := 108) (o (by show 1 ≤ 12; decide)) ?_ (by decide)
 refine Ths.cons (m := 96) (o (by show 1 ≤ 12; decide)) ?_ (by decide)
 refine Ths.cons (m := 84) (o ⟨by decide, by decide⟩) ?_ (by decide)
 refine Ths.cons (m := 72) (o ⟨by decide, by decide⟩) ?_ (by decide)
 refine Ths.cons (m := 60) (o ⟨by decide, hx⟩) ?_ (by decide)
 refine Ths.cons (m := 48) (o ⟨by decide, hy⟩) ?_ (by decide)
 refine Ths.cons (m := 36) (o (by show _ + 1 ≤ 12; decide)) ?_ (by decide)
 refine Ths.cons (m := 24) (o (by show _ + 1 ≤ 12; decide)) ?_ (by decide)
 refine Ths.cons (m := 12) (o (by show _ + 1 ≤ 12; decide)) ?_ (by decide)
 exact o (by show _ + 1 ≤ 12; decide)
theorem ok_odd (T : Txt P w K mg a) : FnOk P w K mg base CX0 2 a.Zf a.Xz ["_law_tape_here"] (spOdd K) := by
 have S := XX
 have lX := mF (P := P) (w := w) (base := base) T
 refine T.XH.okJ XX (fun vs H Q E h => ?_) (fun cdv A0 outer s H vs Q E hr h => ?_)
 ·obtain ⟨t, sc, ns, A, rfl, _⟩ := h; rfl
 obtain ⟨t, sc, ns, A, rfl, g, q⟩ := h
 have R1 : ∃ t', JB (bS CX0 P w K mg base ["_law_tape_here", "_law_some"] "_law_odd" (vQ eY) a.Zf cdv A0 outer s H E).nox ((fQ eY).drop 1) t' ∧ ∀ (H1 : Hp) (l1 p1 p2 p3 : Addr) (x y : Int), x.natAbs ≤ 1000000012 → y.natAbs ≤ 1000000012 → H1 l1 = some (.lst [.non, .bl true, .bl false, .int 0, .int 1, .int x, .int y, .str "", .str "a", .str "abcdefghi", .str "A", .ref p1, .ref p2, .ref p3]) → Ths A H1 [.ref p1, .ref p2, .ref p3] 30 3 → Gd K A H1 t sc ns → Same H H1 → t' { nx := fun _ H' => Q .non H', rt := Q } [some (.ref t), some (.ref l1)] H1 := by
  refine ⟨_, (wQ (kX (i := 1) S.nd rfl (Or.inl rfl) (bX tH (jv 1) (cZ (qQ (yX (qQ aQ (qQ xQ jQ))) (qQ (yX (qQ aQ (qQ fX jQ))) (qQ (yX (qQ aQ (qQ aQ jQ))) (qQ (yX (qQ aQ (qQ aQ jQ))) (qQ (cZ (qQ aQ (qQ xQ jQ))) (qQ (yX (qQ aQ (qQ (yX (qQ aQ (qQ xQ jQ))) jQ))) jQ))))))))) (uQ (pQ (cQ hX (jv 1) (mQ lX hr rfl T.kZ T.k_l_draw T.b_l_draw .nil iQ (qQ (jv 0) (qQ xQ jQ))) (fun _ _ => rfl))))), ?_⟩
  intro H1 l1 p1 p2 p3 x y hx hy hl1 T0 g0 s0
  refine ⟨_, rfl, sZ2, fun q1 h1 => ?_⟩
  have T1 := put g0 h1 (o := .tup [.str "num", .int 0]) rfl T0 (Ths.two (d := 0) (i := 9) (j := 9) (by show _ + 1 ≤ 9; decide) ⟨by decide, by decide⟩) (by decide)
  have g1 := g0.new h1 (.tup [.str "num", .int 0])
  have s1 := kQ h1 (.tup [.str "num", .int 0])
  have m1 := s0.trans s1
  have hl1 := s1 l1 _ hl1
  generalize upd H1 q1 (.tup [.str "num", .int 0]) = H2 at T1 g1 m1 hl1 ⊢
  refine ⟨sZ2, fun q2 h2 => ?_⟩
  have T2 := put g1 h2 (o := .tup [.str "num", .bl true]) rfl T1 (Ths.two (d := 0) (i := 9) (j := 9) (by show _ + 1 ≤ 9; decide) (by show 1 ≤ 9; decide)) (by decide)
  have g2 := g1.new h2 (.tup [.str "num", .bl true])
  have s2 := kQ h2 (.tup [.str "num", .bl true])
  have m2 := m1.trans s2
  have hl1 := s2 l1 _ hl1
  generalize upd H2 q2 (.tup [.str "num", .bl true]) = H3 at T2 g2 m2 hl1 ⊢
  refine ⟨sZ2, fun q3 h3 => ?_⟩
  have T3 := put g2 h3 (o := .tup [.str "turn", .str "a"]) rfl T2 (Ths.two (d := 0) (i := 9) (j := 9) (by show _ + 1 ≤ 9; decide) (by show _ + 1 ≤ 9; decide)) (by decide)
  have g3 := g2.new h3 (.tup [.str "turn", .str "a"])
  have s3 := kQ h3 (.tup [.str "turn", .str "a"])
  have m3 := m2.trans s3
  have hl1 := s3 l1 _ hl1
  generalize upd H3 q3 (.tup [.str "turn", .str "a"]) = H4 at T3 g3 m3 hl1 ⊢
  refine ⟨sZ2, fun q4 h4 => ?_⟩
  have T4 := put g3 h4 (o := .tup [.str "box", .str "zz"]) rfl T3 (Ths.two (d := 0) (i := 9) (j := 9) (by show _ + 1 ≤ 9; decide) (by show _ + 1 ≤ 9; decide)) (by decide)
  have g4 := g3.new h4 (.tup [.str "box", .str "zz"])
  have s4 := kQ h4 (.tup [.str "box", .str "zz"])
  have m4 := m3.trans s4
  have hl1 := s4 l1 _ hl1
  generalize upd H4 q4 (.tup [.str "box", .str "zz"]) = H5 at T4 g4 m4 hl1 ⊢
  refine ⟨sZ2, fun q5 h5 => ?_⟩
  have T5 := put g4 h5 (o := .lst [.str "num", .int 0]) rfl T4 (Ths.two (d := 0) (i := 9) (j := 9) (by show _ + 1 ≤ 9; decide) ⟨by decide, by decide⟩) (by decide)
  have g5 := g4.new h5 (.lst [.str "num", .int 0])
  have s5 := kQ h5 (.lst [.str "num", .int 0])
  have m5 := m4.trans s5
  have hl1 := s5 l1 _ hl1
  generalize upd H5 q5 (.lst [.str "num", .int 0]) = H6 at T5 g5 m5 hl1 ⊢
  refine ⟨sZ2, fun q6 h6 => ?_⟩
  have X6 := put g5 h6 (o := .tup [.str "num", .int 1]) rfl (.nil (n := 0) (d := 1)) (Ths.two (d := 0) (i := 9) (j := 9) (by show _ + 1 ≤ 9; decide) ⟨by decide, by decide⟩) (by decide)
  have T6 := T5.same (kQ h6 (.tup [.str "num", .int 1]))
  have g6 := g5.new h6 (.tup [.str "num", .int 1])
  have s6 := kQ h6 (.tup [.str "num", .int 1])
  have m6 := m5.trans s6
  have hl1 := s6 l1 _ hl1
  generalize upd H6 q6 (.tup [.str "num", .int 1]) = H7 at X6 T6 g6 m6 hl1 ⊢
  refine ⟨sZ2, fun q7 h7 => ?_⟩
  have T7 := put g6 h7 (o := .tup [.str "add", .ref q6]) rfl T6 (Ths.cons (k := 9) (Ths.one (by show _ + 1 ≤ 9; decide) lR) X6 lR) (by decide)
  have g7 := g6.new h7 (.tup [.str "add", .ref q6])
  have s7 := kQ h7 (.tup [.str "add", .ref q6])
  have m7 := m6.trans s7
  have hl1 := s7 l1 _ hl1
  generalize upd H7 q7 (.tup [.str "add", .ref q6]) = H8 at T7 g7 m7 hl1 ⊢
  refine ⟨(by show 6 ≤ sizeLine; decide), fun l2 h8 => ?_⟩
  have s8 := kQ h8 (.lst [.ref q1, .ref q2, .ref q3, .ref q4, .ref q5, .ref q7])
  refine ⟨l1, l2, _, _, rfl, rfl, s8 l1 _ hl1, zQ, (by show 20 ≤ sizeLine; decide), fun l3 h9 => ?_⟩
  have s9 := kQ h9 (.lst ([.non, .bl true, .bl false, .int 0, .int 1, .int x, .int y, .str "", .str "a", .str "abcdefghi", .str "A", .ref p1, .ref p2, .ref p3] ++ [.ref q1, .ref q2, .ref q3, .ref q4, .ref q5, .ref q7]))
  have e9 := m7.trans (s8.trans s9)
  have g9 := (g7.same s8).same s9
  refine ⟨_, rfl, _, rfl, t, 20, sc, ns, rfl, g9.st, by decide, by decide, fun k H9 k0 k1 st9 e10 => ?_⟩
  obtain ⟨v, i, _, hat, hi, _⟩ := gN (xs := [.non, .bl true, .bl false, .int 0, .int 1, .int x, .int y, .str "", .str "a", .str "abcdefghi", .str "A", .ref p1, .ref p2, .ref p3] ++ [.ref q1, .ref q2, .ref q3, .ref q4, .ref q5, .ref q7]) (k := k) k0 (by show k < 20; exact k1)
  have TT := (sc11 (A := A) (H := H8) hx hy).append T7
  have TF : Ths A H9 ([.non, .bl true, .bl false, .int 0, .int 1, .int x, .int y, .str "", .str "a", .str "abcdefghi", .str "A", .ref p1, .ref p2, .ref p3] ++ [.ref q1, .ref q2, .ref q3, .ref q4, .ref q5, .ref q7]) 2500 3 := g9.keep e10 (((TT.same s8).same s9).mono (by decide) (by decide))
  exact ⟨l3, _, _, _, rfl, rfl, SqL.of (e10 l3 _ ((g7.same s8).st.ne h9) zQ), hat, q _ _ (TF.get hi) st9 ((Ext.same e9).trans e10)⟩
 obtain ⟨tR, pR, hR⟩ := R1
 refine ⟨_, (wQ (kX (i := 1) S.nd rfl (Or.inl rfl) (cZ (qQ aZ (qQ fX (qQ fX (qQ xQ (qQ xQ (qQ (bX fJ (bX xA xQ xQ) xQ) (qQ (bX oH (cT aD (bX xA xQ xQ)) xQ) (qQ aQ (qQ aQ (qQ aQ (qQ aQ (qQ (yX jQ) (qQ (cZ jQ) (qQ Zg jQ))))))))))))))))
  pR), ?_⟩
 refine ⟨_, _, rfl, rfl, ⟨by decide, by decide, by decide⟩, _, _, rfl, rfl, _, _, rfl, rfl, ⟨by decide, by decide, by decide⟩, _, rfl, _, _, rfl, rfl, sZ0, fun p1 h1 => ⟨sZ0, fun p2 h2 p3 h3 => ⟨(by show 14 ≤ sizeLine; decide), fun l1 hl1 => ?_⟩⟩⟩
 have g1 := g.new h1 (.tup [])
 have g2 := g1.new h2 (.lst [])
 have g3 := g2.new h3 (.dK [])
 have T3 := put (d := 3) g2 h3 (o := .dK []) rfl (put g1 h2 (o := .lst []) rfl (put g h1 (o := .tup []) rfl (.nil (n := 0)) (.nil (n := 0) (d := 0)) (by decide)) (.nil (n := 0) (d := 0)) (by decide)) (.nil (n := 0) (d := 0)) (by decide)
 have S3 := ((kQ h1 (.tup [])).trans (kQ h2 (.lst []))).trans (kQ h3 (.dK []))
 refine hR _ l1 p1 p2 p3 _ _ (by decide) (by decide) zQ ((T3.mono (by decide) (by decide)).same (kQ hl1 _)) (g3.new hl1 _) (S3.trans (kQ hl1 _))
end
end K06
namespace K06
open PySem L2
theorem len_app (x y : Str) : (x ++ y).length = x.length + y.length := Array.size_append
theorem KE {i : Int} (h : i.natAbs ≤ 1000000000 + 200000) : i.natAbs.log2 < 1920 := by
 have h1 : i.natAbs < 2 ^ 31 := by omega
 by_cases h0 : i.natAbs = 0
 ·rw [h0]; decide
 ·have := (Nat.log2_lt h0).mpr h1
  omega
section
variable {P : Program} {w : World} {K : W.Frag} {mg : Str → Option Value} {base : Heap} {a : Adr}
inductive ZD (K : W.Frag) (vs : List V) (H : Hp) (Q : VK) : Prop
 | mk (t sc : Addr) (ns : List Int) (A : Addr → Prop) (v : V) (n d : Nat) (z0 : vs = [.ref t, v]) (z1 : Gd K A H t sc ns) (z2 : Ths A H [v] n d) (z3 : n ≤ 200000) (z4 : ∀ (v' : V) (H' : Hp), Ths A H' [v'] (3 * n + 2500) (d + 3) → St1 K H' t sc ns → Ext t H H' → Q v' H') : ZD K vs H Q
noncomputable def Jv (K : W.Frag) : Sp := fun vs H Q _ => ZD K vs H Q
theorem VL (T : Txt P w K mg a) : FnOk P w K mg base CX0 3 a.qH a.kS ["_law_tape_here", "_law_thing"] (Jv K) := by
 have S := bE
 have big : (1000000 : Nat) < sizeLine := by decide
 have lX := (mF (P := P) (w := w) (base := base) T).mono (show 1 ≤ 2 by decide)
 have Kd := ok_odd (P := P) (w := w) (base := base) T
 refine T.tS.okJ bE (fun vs H Q E h => ?_) (fun cdv A0 outer s H vs Q E hr h => ?_)
 ·obtain ⟨t, sc, ns, A, v, n, d, rfl, _⟩ := h; rfl
 obtain ⟨t, sc, ns, A, v, n, d, rfl, g, hv, hn, q⟩ := h
 have R5 : ∃ t', JB (bS CX0 P w K mg base ["_law_tape_here", "_law_thing", "_law_way", "_law_some", "_law_at"] "_law_other" (vQ kK) a.qH cdv A0 outer s H E).nox ((fQ kK).drop 5) t' ∧ ∀ (H1 : Hp) (way : Int) (v : V), Gd K A H1 t sc ns → Ext t H H1 → t' { nx := fun _ H' => Q .non H', rt := Q } [some (.ref t), some v, some (.int way), none, none] H1 := by
  refine ⟨_, (uQ (pQ (mQ Kd hr rfl T.JJ T.k_l_odd T.b_l_odd .nil iQ (qQ (jv 0) jQ)))), ?_⟩
  intro H1 way v g1 e1
  exact ⟨_, rfl, t, sc, ns, A, rfl, g1, fun v' H' h1 h2 h3 => q _ _ (h1.mono (by omega) (by omega)) h2 (e1.trans h3)⟩
 obtain ⟨t5, p5, h5⟩ := R5
 have R1 : ∃ t', JB (bS CX0 P w K mg base ["_law_tape_here", "_law_thing", "_law_way", "_law_some", "_law_at"] "_law_other" (vQ kK) a.qH cdv A0 outer s H E).nox ((fQ kK).drop 1) t' ∧
   (∀ (H1 : Hp) (p : Addr) (xs : List V) (o : HO) (c : Ty) (way : Int), Gd K A H1 t sc ns → Ths A H1 [.ref p] n d → Ext t H H1 → H1 p = some o → tyH o = some c → (H1 p = some (.lst xs) ∨ H1 p = some (.tup xs)) → (c = .tup ∨ c = .lst) → Ths A H1 xs (n - 10) (d + 2) → 10 ≤ n → 1 ≤ d → 0 ≤ way → way < 8 →
    t' { nx := fun _ H' => Q .non H', rt := Q } [some (.ref t), some (.ref p), some (.int way), none, none] H1) ∧
   (∀ (H1 : Hp) (v : V) (way : Int), Gd K A H1 t sc ns → Ths A H1 [v] n d → Ext t H H1 → (¬ ∃ p xs, v = .ref p ∧ (H1 p = some (.tup xs) ∨ H1 p = some (.lst xs))) → 0 ≤ way → way < 8 →
    t' { nx := fun _ H' => Q .non H', rt := Q } [some (.ref t), some v, some (.int way), none, none] H1) := by
  refine ⟨_, (wQ (zX (iX (jY (jX (gQ aC rfl T.rQ rfl (qQ (jv 1) (qQ (yX (qQ (wX rfl T.tX (v := .ty "tuple") rfl rfl) (qQ (wX rfl T.eD (v := .ty "list") rfl rfl) jQ))) jQ)))) (uV (sQ bL (jv 2) xQ (oQ _))))) (wQ (kX (i := 3) S.nd rfl (Or.inl rfl) (mZ yY rfl T.eD rfl (qQ (jv 1) jQ))) (wQ (kX (i := 4) S.nd rfl (Or.inl rfl) (mQ lX hr rfl T.kZ T.k_l_draw T.b_l_draw .nil iQ (qQ (jv 0) (qQ (bX fJ (gQ qX rfl T.aX rfl (qQ (jv 3) jQ)) xQ) jQ)))) (wQ (zX (iX (jY (sQ wZ (jv 2) xQ (oQ _)) (uV (jX (gQ eQ rfl T.rQ rfl (qQ (jv 1) (qQ (wX rfl T.tX (v := .ty "tuple") rfl rfl) jQ))))))) (uQ (pQ (jv 3))) tQ) (wQ (zX (sQ wZ (jv 2) xQ (oQ _)) (uQ (zK (uG PySem.F.plainAttrs_list PySem.F.slot_list_insert PySem.F.type_list_insert QP (jv 3) (qQ (jv 4) (qQ (mQ Kd hr rfl T.JJ T.k_l_odd T.b_l_odd .nil iQ (qQ (jv 0) jQ)) jQ))))) tQ) (wQ (zX (sQ wZ (jv 2) xQ (oQ _)) (uQ (kX (i := 3) S.nd rfl (Or.inl rfl) (bX tH (yZ vV (jv 3) zJ (qJ (jv 4))) (yZ vV (jv 3) (qJ (bX fJ (jv 4) xQ)) zJ)))) tQ) (wQ (zX (sQ wZ (jv 2) xQ (oQ _)) (uQ (kX (i := 3) S.nd rfl (Or.inl rfl) (bX tH (yZ vV (jv 3) zJ (qJ (jv 4))) (yZ vV (jv 3) (qJ (gQ (KW rfl) rfl T.z_max rfl (qQ xQ (qQ (bX oH (jv 4) xQ) jQ)))) zJ)))) tQ) (wQ (zX (sQ wZ (jv 2) xQ (oQ _)) (uQ (zK (eF PySem.F.plainAttrs_list PySem.F.slot_list_reverse PySem.F.type_list_reverse qI (jv 3)))) tQ) (wQ (zX (sQ wZ (jv 2) xQ (oQ _)) (uQ (kX (i := 3) S.nd rfl (Or.inl rfl) (bX tH (yZ vV (jv 3) (qJ (jv 4)) zJ) (yZ vV (jv 3) zJ (qJ (jv 4)))))) tQ) (uQ (pQ (mZ aJ rfl T.tX rfl (qQ (jv 3) jQ)))))))))))) tQ) (wQ (zX (jX (gQ eQ rfl T.rQ rfl (qQ (jv 1) (qQ (wX rfl T.wR (v := .ty "bool") rfl rfl) jQ)))) (uQ (pQ (cQ hX (cZ (qQ (mZ KY rfl T.Jm rfl (qQ (jv 1) jQ)) (qQ (V4 (jv 1)) jQ))) (bX yF (jv 2) xQ) (fun _ _ => rfl)))) tQ) (wQ (zX (iX (jY (jX (gQ eQ rfl T.rQ rfl (qQ (jv 1) (qQ (wX rfl T.Jm (v := .ty "int") rfl rfl) jQ)))) (uV (sQ bL (jv 2) xQ (oQ _))))) (uQ (pQ (cQ hX (cZ (qQ (bX fJ (jv 1) xQ) (qQ (hV wZ (jv 1) xQ (oQ _)) (qQ (mZ XC rfl T.jT rfl (qQ (jv 1) jQ)) (qQ (cT aD (jv 1)) (qQ (bX oH (jv 1) xQ) jQ)))))) (jv 2) (fun _ _ => rfl)))) tQ) (wQ (zX (iX (jY (jX (gQ eQ rfl T.rQ rfl (qQ (jv 1) (qQ (wX rfl T.jT (v := .ty "str") rfl rfl) jQ)))) (uV (sQ bL (jv 2) xQ (oQ _))))) (uQ (pQ (cQ hX (cZ (qQ (bX wA (jv 1) aQ) (qQ (yZ sl_str (jv 1) zJ (qJ (cT aD xQ))) (qQ (eF PySem.F.plainAttrs_str PySem.F.slot_str_upper PySem.F.type_str_upper VR (jv 1)) (qQ aQ (qQ aQ jQ)))))) (jv 2) (fun _ _ => rfl)))) tQ)
  p5)))), ?_, ?_⟩
  ·intro H1 p xs o c way g1 hv1 e1 ho hty hsq hc hx hn1 hd1 w0 w1
   have np : p ≠ t := fun e => hv1.ne (by rw [e]; exact g1.has)
   refine ⟨_, rfl, sZ2, fun pt hpt => ?_⟩
   have s2 := kQ hpt (.tup [.ty "tuple", .ty "list"])
   have g2 := g1.same s2
   have hx2 := hx.same s2
   have e2 := e1.trans (Ext.same s2)
   have ho2 := s2 p _ ho
   have hsq2 : SqL K _ p xs ∨ SqT K _ p xs := hsq.imp (fun h => SqL.of (s2 _ _ h)) (fun h => SqT.of (s2 _ _ h))
   have hpt2 : (upd H1 pt (.tup [.ty "tuple", .ty "list"])) pt = some (.tup [.ty "tuple", .ty "list"]) := zQ
   generalize upd H1 pt (.tup [.ty "tuple", .ty "list"]) = H2 at g2 hx2 e2 ho2 hsq2 hpt2 ⊢
   have htn : tyN H2 (.ref p) = some c := zW ho2 hty
   refine ⟨_, pt, [.tup, .lst], c, rfl, hpt2, htn, _, rfl, ?_⟩
   have ec : [Ty.tup, .lst].any (zF c) = true := by rcases hc with rfl | rfl <;> rfl
   rw [ec]
   refine nQ ⟨_, rfl, _, _, rfl, rfl, _, rfl, wH (fun hd => ?_) (fun _ => ?_)⟩
   ·have hw : way < 6 := of_decide_eq_true hd
    refine ⟨_, rfl, p, xs, rfl, hsq2, fun l hl => ?_⟩
    have lt : l ≠ t := g2.st.ne hl
    have lA : ¬ A l := g2.fresh hl
    have s3 := kQ hl (.lst xs)
    have g3 := (g2.same s3).more (d := l) (by rw [zQ]; exact fun z => nomatch z)
    have hx3 := (hx2.avoid hl).same s3
    have xl := hx3.len
    refine ⟨_, rfl, _, rfl, _, _, rfl, .inl ⟨_, SqL.of zQ, rfl⟩, _, _, rfl, rfl, t, _, sc, ns, rfl, g3.st, (by omega), (by omega), fun at' H4 a0 a1 st4 e4 => ?_⟩
    have hl4 : H4 l = some (.lst xs) := e4 l _ lt zQ
    have g4 := g3.after e4 st4
    have hx4 := g3.keep e4 hx3
    have e24 : Ext t H2 H4 := (Ext.same s3).trans e4
    have ho4 := e24 p _ np ho2
    have fin : ∀ (H5 : Hp) (ys : List V) (m : Nat) (p5 : Addr), Ths (fun x => A x ∨ x = l) H5 ys m (d + 2) → m + 10 ≤ 3 * n + 2500 → Gd K (fun x => A x ∨ x = l) H5 t sc ns → Ext t H2 H5 → H5 p5 = none → Q (.ref p5) (upd H5 p5 (.tup ys)) := fun H5 ys m p5 th le g5 e5 hp5 =>
     q _ _ (Ths.tup (fun z => g5.fresh hp5 (.inl z)) zQ ((th.weak fun b hb => .inl hb).same (kQ hp5 _)) le (by omega)) (g5.st.new hp5 _) ((e2.trans e5).trans (Ext.same (kQ hp5 _)))
    have catF : ∀ (ys zs : List V) (p1 p2 p3 p5 : Addr), H4 p1 = none → (upd H4 p1 (.lst ys)) p2 = none → (upd (upd H4 p1 (.lst ys)) p2 (.lst zs)) p3 = none → (upd (upd (upd H4 p1 (.lst ys)) p2 (.lst zs)) p3 (.lst (ys ++ zs))) p5 = none → Ths (fun x => A x ∨ x = l) H4 ys (n - 10) (d + 2) → Ths (fun x => A x ∨ x = l) H4 zs (n - 10) (d + 2) →
      Q (.ref p5) (upd (upd (upd (upd H4 p1 (.lst ys)) p2 (.lst zs)) p3 (.lst (ys ++ zs))) p5 (.tup (ys ++ zs))) := fun ys zs p1 p2 p3 p5 h1 h2 h3 h5 t1 t2 => by
     have s5 := (kQ h1 (.lst ys)).trans ((kQ h2 (.lst zs)).trans (kQ h3 (.lst (ys ++ zs))))
     exact fin _ _ (n - 10 + (n - 10)) p5 ((t1.append t2).same s5) (by omega) (g4.same s5) (e24.trans (Ext.same s5)) h5
    have gm : ∀ (H5 : Hp) (o : HO), Gd K (fun x => A x ∨ x = l) H5 t sc ns → Ext t H2 H5 → Gd K (fun x => A x ∨ x = l) (upd H5 l o) t sc ns ∧ Ext t H2 (upd H5 l o) := fun H5 o g5 e5 => by
     have e6 : Ext t H2 (upd H5 l o) := fun b u nb hb => by
      rw [uX (uZ hb hl)]
      exact e5 b u nb hb
     obtain ⟨_, _, _, q6, r6⟩ := g5.st.tp
     refine ⟨⟨g2.st.ext e6 (by rw [uX (Ne.symm lt)]; exact q6) r6, .inl g2.has, fun x hx => ?_⟩, e6⟩
     by_cases hxl : x = l
     ·subst hxl
      rw [zQ]
      exact fun z => nomatch z
     ·rw [uX hxl]
      exact g5.tr x hx
    have ca : way = 0 ∨ way = 1 ∨ way = 2 ∨ way = 3 ∨ way = 4 ∨ way = 5 := by omega
    rcases ca with rfl | rfl | rfl | rfl | rfl | rfl
    ·refine ⟨_, rfl, rfl, _, rfl, nQ ⟨_, rfl, _, .tup, c, rfl, zW ho4 hty, _, rfl, ?_⟩⟩
     rcases hc with rfl | rfl
     ·refine nQ ⟨_, rfl, ?_⟩
      exact q _ _ (Ths.lst (k := n - 10) lA hl4 (hx4.weak fun b hb => .inl hb) (by omega) (by omega)) st4 (e2.trans e24)
     ·refine bQ ⟨_, rfl, rfl, _, rfl, bQ ⟨_, rfl, rfl, _, rfl, bQ ⟨_, rfl, rfl, _, rfl, bQ ⟨_, rfl, rfl, _, rfl, bQ ⟨_, rfl, rfl, _, rfl, bQ ⟨_, rfl, l, xs, rfl, .inl ⟨SqL.of hl4, fun p5 hp5 => fin _ _ _ p5 hx4 (by omega) g4 e24 hp5⟩⟩⟩⟩⟩⟩⟩
    ·refine ⟨_, rfl, rfl, _, rfl, bQ ⟨_, rfl, rfl, _, rfl, nQ ?_⟩⟩
     refine ⟨_, rfl, .inl ⟨rfl, _, SqL.of hl4⟩, _, rfl, _, rfl, t, sc, ns, _, rfl, g4, fun v5 H5 th5 st5 e5 => ?_⟩
     have hl5 := e5 l _ lt hl4
     have hx5 := g4.keep e5 hx4
     obtain ⟨g6, e6⟩ := gm H5 (.lst (xs.take at'.toNat ++ v5 :: xs.drop at'.toNat)) (g4.after e5 st5) (e24.trans e5)
     refine ⟨l, xs, at', v5, rfl, rfl, hl5, a0, by omega, by omega, ?_⟩
     refine ⟨_, rfl, rfl, _, rfl, bQ ⟨_, rfl, rfl, _, rfl, bQ ⟨_, rfl, rfl, _, rfl, bQ ⟨_, rfl, rfl, _, rfl, bQ ⟨_, rfl, l, _, rfl, .inl ⟨SqL.of zQ, fun p5 hp5 => fin _ _ (n - 10 + (2500 + (n - 10))) p5 ?_ (by omega) g6 e6 hp5⟩⟩⟩⟩⟩⟩
     exact (Ths.upd (.inr rfl) (hx5.take _)).append (Ths.cons (Ths.upd (.inr rfl) (th5.mono lR (by omega))) (Ths.upd (.inr rfl) (hx5.drop _)) lR)
    ·refine ⟨_, rfl, rfl, _, rfl, bQ ⟨_, rfl, rfl, _, rfl, bQ ⟨_, rfl, rfl, _, rfl, nQ ?_⟩⟩⟩
     refine ⟨_, rfl, _, rfl, _, rfl, l, xs, rfl, SqL.of hl4, fun p1 h1 => ⟨_, rfl, _, rfl, _, _, rfl, rfl, _, rfl, l, xs, rfl, SqL.of (kQ h1 _ l _ hl4), fun p2 h2 => ⟨p1, p2, _, _, rfl, rfl, kQ h2 _ p1 _ zQ, zQ, ?_, fun p3 h3 => ?_⟩⟩⟩
     ·have l1 := iK xs none (some at')
      have l2 := iK xs (some (at' + 1)) none
      omega
     refine ⟨_, rfl, rfl, _, rfl, bQ ⟨_, rfl, rfl, _, rfl, bQ ⟨_, rfl, rfl, _, rfl, bQ ⟨_, rfl, p3, _, rfl, .inl ⟨SqL.of zQ, fun p5 hp5 => catF _ _ _ _ _ _ h1 h2 h3 hp5 hx4.cut hx4.cut⟩⟩⟩⟩⟩
    ·refine ⟨_, rfl, rfl, _, rfl, bQ ⟨_, rfl, rfl, _, rfl, bQ ⟨_, rfl, rfl, _, rfl, bQ ⟨_, rfl, rfl, _, rfl, nQ ?_⟩⟩⟩⟩
     refine ⟨_, rfl, _, rfl, _, rfl, l, xs, rfl, SqL.of hl4, fun p1 h1 => ⟨_, rfl, _, rfl, _, _, rfl, rfl, _, _, rfl, _, rfl, l, xs, rfl, SqL.of (kQ h1 _ l _ hl4), fun p2 h2 => ⟨p1, p2, _, _, rfl, rfl, kQ h2 _ p1 _ zQ, zQ, ?_, fun p3 h3 => ?_⟩⟩⟩
     ·have l1 := iK xs none (some at')
      have l2 := iK xs (some (if at' - 1 > 0 then at' - 1 else 0)) none
      omega
     refine ⟨_, rfl, rfl, _, rfl, bQ ⟨_, rfl, rfl, _, rfl, bQ ⟨_, rfl, p3, _, rfl, .inl ⟨SqL.of zQ, fun p5 hp5 => catF _ _ _ _ _ _ h1 h2 h3 hp5 hx4.cut hx4.cut⟩⟩⟩⟩
    ·refine ⟨_, rfl, rfl, _, rfl, bQ ⟨_, rfl, rfl, _, rfl, bQ ⟨_, rfl, rfl, _, rfl, bQ ⟨_, rfl, rfl, _, rfl, bQ ⟨_, rfl, rfl, _, rfl, nQ ?_⟩⟩⟩⟩⟩
     obtain ⟨g6, e6⟩ := gm H4 (.lst xs.reverse) g4 e24
     refine ⟨_, rfl, .inl ⟨rfl, _, SqL.of hl4⟩, l, xs, rfl, rfl, hl4, ?_⟩
     refine ⟨_, rfl, rfl, _, rfl, bQ ⟨_, rfl, l, _, rfl, .inl ⟨SqL.of zQ, fun p5 hp5 => fin _ _ (n - 10) p5 (Ths.upd (.inr rfl) hx4.reverse) (by omega) g6 e6 hp5⟩⟩⟩
    ·refine ⟨_, rfl, rfl, _, rfl, bQ ⟨_, rfl, rfl, _, rfl, bQ ⟨_, rfl, rfl, _, rfl, bQ ⟨_, rfl, rfl, _, rfl, bQ ⟨_, rfl, rfl, _, rfl, bQ ⟨_, rfl, rfl, _, rfl, nQ ?_⟩⟩⟩⟩⟩⟩
     refine ⟨_, rfl, _, rfl, _, rfl, l, xs, rfl, SqL.of hl4, fun p1 h1 => ⟨_, rfl, _, rfl, _, rfl, l, xs, rfl, SqL.of (kQ h1 _ l _ hl4), fun p2 h2 => ⟨p1, p2, _, _, rfl, rfl, kQ h2 _ p1 _ zQ, zQ, ?_, fun p3 h3 => ?_⟩⟩⟩
     ·have l1 := iK xs (some at') none
      have l2 := iK xs none (some at')
      omega
     refine ⟨_, rfl, p3, _, rfl, .inl ⟨SqL.of zQ, fun p5 hp5 => catF _ _ _ _ _ _ h1 h2 h3 hp5 hx4.cut hx4.cut⟩⟩
   ·have eb : zF c .bl = false ∧ zF c .int = false ∧ zF c .str = false := by rcases hc with rfl | rfl <;> exact ⟨rfl, rfl, rfl⟩
    refine ⟨_, rfl, _, .bl, c, rfl, htn, _, rfl, ?_⟩
    rw [eb.1]
    refine bQ ⟨_, rfl, _, .int, c, rfl, htn, _, rfl, ?_⟩
    rw [eb.2.1]
    refine bQ ⟨_, rfl, _, .str, c, rfl, htn, _, rfl, ?_⟩
    rw [eb.2.2]
    exact bQ (h5 _ _ _ g2 e2)
  ·intro H1 v way g1 hv1 e1 nseq w0 w1
   have cl := hv1.cls
   refine ⟨_, rfl, sZ2, fun pt hpt => ?_⟩
   have s2 := kQ hpt (.tup [.ty "tuple", .ty "list"])
   have g2 := g1.same s2
   have hv2 := hv1.same s2
   have e2 := e1.trans (Ext.same s2)
   have hpt2 : (upd H1 pt (.tup [.ty "tuple", .ty "list"])) pt = some (.tup [.ty "tuple", .ty "list"]) := zQ
   generalize upd H1 pt (.tup [.ty "tuple", .ty "list"]) = H2 at s2 g2 hv2 e2 hpt2 ⊢
   rcases cl with rfl | ⟨b, rfl⟩ | ⟨i, rfl, hi⟩ | ⟨z, rfl, hz⟩ | ⟨p, xs, ee, rfl, hp, hx, hde, hn1⟩ | ⟨p, xs, ee, rfl, hp, hx, hde, hn1⟩ | ⟨p, rfl, hp, _, _⟩
   ·refine ⟨_, pt, [.tup, .lst], .non, rfl, hpt2, rfl, _, rfl, bQ ?_⟩
    refine ⟨_, rfl, _, .bl, _, rfl, rfl, _, rfl, bQ ⟨_, rfl, _, .int, _, rfl, rfl, _, rfl, bQ ⟨_, rfl, _, .str, _, rfl, rfl, _, rfl, bQ ?_⟩⟩⟩
    exact h5 _ _ _ g2 e2
   ·refine ⟨_, pt, [.tup, .lst], .bl, rfl, hpt2, rfl, _, rfl, bQ ?_⟩
    refine ⟨_, rfl, _, .bl, _, rfl, rfl, _, rfl, nQ ?_⟩
    refine ⟨_, rfl, .inr ⟨_, rfl, _, rfl, _, rfl, sZ2, fun p hp => ⟨_, rfl, _, _, rfl, rfl, (by show (0 : Int) < 2; decide), ?_⟩⟩⟩
    obtain ⟨v', i, _, hat, hi, _⟩ := gN (xs := [V.int (if b = true then 1 else 0), V.bl !b]) (k := way % 2) (by omega) (by show way % 2 < 2; omega)
    refine ⟨p, _, _, _, rfl, rfl, SqL.of zQ, hat, q _ _ (Ths.get (n := 3 * n + 2500) ?_ hi) (g2.st.new hp _) (e2.trans (Ext.same (kQ hp _)))⟩
    refine Ths.mono (Ths.two (i := 1) (j := 1) ⟨by decide, ?_⟩ (by show 1 ≤ 1; decide)) (by omega) lR
    cases b <;> decide
   ·have n1 := hv2.pos
    refine ⟨_, pt, [.tup, .lst], .int, rfl, hpt2, rfl, _, rfl, bQ ?_⟩
    refine ⟨_, rfl, _, .bl, _, rfl, rfl, _, rfl, bQ ⟨_, rfl, _, .int, _, rfl, rfl, _, rfl, nQ ⟨_, rfl, _, _, rfl, rfl, _, rfl, wH (fun hd => ?_) (fun _ => ⟨_, rfl, _, .str, _, rfl, rfl, _, rfl, bQ (h5 _ _ _ g2 e2)⟩)⟩⟩⟩
    have hw : way < 5 := of_decide_eq_true hd
    have hlog := KE (i := i) (by omega)
    have hl := PyProof.Rows.int_text_len_1921 (i := i) hlog
    refine ⟨_, rfl, _, _, rfl, rfl, _, rfl, rfl, _, rfl, _, rfl, hlog, _, rfl, _, rfl, _, rfl, _, _, rfl, rfl, (by show 5 ≤ sizeLine; decide), fun p hp => ⟨_, rfl, ?_⟩⟩
    obtain ⟨v', j, _, hat, hj, _⟩ := gN (xs := [V.int (i + 1), .bl (decide (V.int i = V.int 1)), .str (Str.ofString (toString i)), .int (-i), .int (i - 1)]) (k := way) w0 (by show way < 5; exact hw)
    refine ⟨p, _, _, _, rfl, rfl, SqL.of zQ, hat, q _ _ (Ths.get (n := 3 * n + 2500) ?_ hj) (g2.st.new hp _) (e2.trans (Ext.same (kQ hp _)))⟩
    refine Ths.mono (Ths.five (k1 := n + 1) (k2 := 1) (k3 := 1922) (k4 := n) (k5 := n + 1) ⟨by omega, by omega⟩ (by show 1 ≤ 1; decide) (by show _ + 1 ≤ 1922; omega) ⟨by omega, by omega⟩ ⟨by omega, by omega⟩) (by omega) lR
   ·refine ⟨_, pt, [.tup, .lst], .str, rfl, hpt2, rfl, _, rfl, bQ ?_⟩
    refine ⟨_, rfl, _, .bl, _, rfl, rfl, _, rfl, bQ ⟨_, rfl, _, .int, _, rfl, rfl, _, rfl, bQ ⟨_, rfl, _, .str, _, rfl, rfl, _, rfl, nQ ⟨_, rfl, _, _, rfl, rfl, _, rfl, wH (fun hd => ?_) (fun _ => h5 _ _ _ g2 e2)⟩⟩⟩⟩
    have hw : way < 5 := of_decide_eq_true hd
    refine ⟨_, rfl, z, _, rfl, rfl, (by show z.length + 1 ≤ sizeLine; omega), _, rfl, _, rfl, _, rfl, z, rfl, by omega, _, rfl, rfl, z, rfl, rfl, by omega, fun y hy => ⟨(by show 5 ≤ sizeLine; decide), fun p hp => ⟨_, rfl, ?_⟩⟩⟩
    have sl := Txt.slice_le z none (some (-1))
    have c : way = 0 ∨ way = 1 ∨ way = 2 ∨ way = 3 ∨ way = 4 := by omega
    have fin : ∀ {y : Str} {o : HO}, y.length + 1 ≤ 3 * n + 2500 → Q (.str y) (upd H2 p o) := fun h => q _ _ (Ths.one (k := 3 * n + 2500) h lR) (g2.st.new hp _) (e2.trans (Ext.same (kQ hp _)))
    rcases c with rfl | rfl | rfl | rfl | rfl
    ·exact ⟨p, _, _, _, rfl, rfl, SqL.of zQ, rfl, fin (by rw [len_app]; show z.length + 1 + 1 ≤ _; omega)⟩
    ·exact ⟨p, _, _, _, rfl, rfl, SqL.of zQ, rfl, fin (by omega)⟩
    ·exact ⟨p, _, _, _, rfl, rfl, SqL.of zQ, rfl, fin (by omega)⟩
    ·exact ⟨p, _, _, _, rfl, rfl, SqL.of zQ, rfl, fin (by show 4 + 1 ≤ _; omega)⟩
    ·exact ⟨p, _, _, _, rfl, rfl, SqL.of zQ, rfl, fin (by show 1 + 1 ≤ _; omega)⟩
   ·exact absurd ⟨p, xs, rfl, .inl hp⟩ nseq
   ·exact absurd ⟨p, xs, rfl, .inr hp⟩ nseq
   ·refine ⟨_, pt, [.tup, .lst], .dct, rfl, hpt2, zW (s2 p _ hp) rfl, _, rfl, bQ ?_⟩
    refine ⟨_, rfl, _, .bl, _, rfl, zW (s2 p _ hp) rfl, _, rfl, bQ ⟨_, rfl, _, .int, _, rfl, zW (s2 p _ hp) rfl, _, rfl, bQ ⟨_, rfl, _, .str, _, rfl, zW (s2 p _ hp) rfl, _, rfl, bQ ?_⟩⟩⟩
    exact h5 _ _ _ g2 e2
 obtain ⟨t1, p1, hs1, hs2⟩ := R1
 refine ⟨_, (wQ (kX (i := 2) S.nd rfl (Or.inl rfl) (mQ lX hr rfl T.kZ T.k_l_draw T.b_l_draw .nil iQ (qQ (jv 0) (qQ xQ jQ))))
  p1), ?_⟩
 refine ⟨_, rfl, t, 8, sc, ns, rfl, g.st, by decide, by decide, fun way H1 w0 w1 st1 e1 => ?_⟩
 have g1 := g.after e1 st1
 have hv1 := g.keep e1 hv
 by_cases hq : ∃ p xs, v = .ref p ∧ (H1 p = some (.tup xs) ∨ H1 p = some (.lst xs))
 ·obtain ⟨p, xs, rfl, hp⟩ := hq
  rcases hv1.cls with z | ⟨b, z⟩ | ⟨i, z, hi⟩ | ⟨z', z, hz⟩ | ⟨p', xs', ee, z, hp', hx, hde, hn1⟩ | ⟨p', xs', ee, z, hp', hx, hde, hn1⟩ | ⟨p', z, hp', _, _⟩
  ·cases z
  ·cases z
  ·cases z
  ·cases z
  ·cases z
   rcases hp with hp | hp <;> rw [hp'] at hp <;> cases hp
   exact hs1 H1 p _ _ .tup way g1 hv1 e1 hp' rfl (.inr hp') (.inl rfl) (hx.mono lR (by omega)) hn1 (by omega) w0 w1
  ·cases z
   rcases hp with hp | hp <;> rw [hp'] at hp <;> cases hp
   exact hs1 H1 p _ _ .lst way g1 hv1 e1 hp' rfl (.inl hp') (.inr rfl) (hx.mono lR (by omega)) hn1 (by omega) w0 w1
  ·cases z
   rcases hp with hp | hp <;> rw [hp'] at hp <;> cases hp
 ·exact hs2 H1 v way g1 hv1 e1 hq w0 w1
end
end K06
namespace K06
open PySem L2
theorem Z9 {n i : Nat} (h : i < n) : ixN n (i : Int) = some i := by
 unfold ixN
 rw [if_pos (by omega), if_pos (by omega)]
 rfl
theorem ZX {xs : List V} {i : Nat} {y : V} (h : i < xs.length) : xs.set i y = xs.take i ++ y :: xs.drop (i + 1) := by
 rw [List.set_eq_take_append_cons_drop, if_pos h]
section
variable {P : Program} {w : World} {K : W.Frag} {mg : Str → Option Value} {base : Heap} {a : Adr}
noncomputable def ZW (K : W.Frag) : Nat → Sp
 | 0 => fun _ _ _ _ => False
 | k + 1 => fun vs H Q _ => ∃ (t sc : Addr) (ns : List Int) (A : Addr → Prop) (v : V) (n d : Nat), vs = [.ref t, v] ∧ Gd K A H t sc ns ∧ Ths A H [v] n d ∧ n ≤ 200000 ∧ d ≤ k ∧ ∀ (v' : V) (H' : Hp), Ths A H' [v'] (3 * n + 2500) (d + 3) → St1 K H' t sc ns → Ext t H H' → Q v' H'
theorem KZ (T : Txt P w K mg a) (k : Nat) (Qg : FnOk P w K mg base CX0 (k + 3) a.iR a.kP ["_law_tape_here", "_law_thing"] (ZW K k)) :
  FnOk P w K mg base CX0 (k + 3 + 1) a.iR a.kP ["_law_tape_here", "_law_thing"] (ZW K (k + 1)) := by
 have S := gR
 have big : (1000000 : Nat) < sizeLine := by decide
 have lX := (mF (P := P) (w := w) (base := base) T).mono (show 1 ≤ k + 3 by omega)
 have K2 := (VL (P := P) (w := w) (base := base) T).mono (show 3 ≤ k + 3 by omega)
 refine T.vR.okJ gR (fun vs H Q E h => ?_) (fun cdv A0 outer s H vs Q E hr h => ?_)
 ·obtain ⟨t, sc, ns, A, v, n, d, rfl, _⟩ := h; rfl
 obtain ⟨t, sc, ns, A, v, n, d, rfl, g, hv, hn, hk, q⟩ := h
 have oth : ∀ (H1 : Hp), Gd K A H1 t sc ns → Ext t H H1 → tRet (Js (Jv K) [] E0 (XT (Vf 0) (XT (Vf 1) tNil))) { nx := fun _ H' => Q .non H', rt := Q } [some (.ref t), some v, none, none] H1 :=
  fun H1 g1 e1 => ⟨_, rfl, _, rfl, t, sc, ns, A, v, n, d, rfl, g1, g.keep e1 hv, hn, fun v' H' h1 h2 h3 => q _ _ h1 h2 (e1.trans h3)⟩
 refine ⟨_, (wQ (zX (iX (zZ (xX (jX (gQ aC rfl T.rQ rfl (qQ (jv 1) (qQ (yX (qQ (wX rfl T.tX (v := .ty "tuple") rfl rfl) (qQ (wX rfl T.eD (v := .ty "list") rfl rfl) jQ))) jQ))))) (zZ (sQ wZ (gQ qX rfl T.aX rfl (qQ (jv 1) jQ)) xQ (oQ _)) (qZ (sQ wZ (mQ lX hr rfl T.kZ T.k_l_draw T.b_l_draw .nil iQ (qQ (jv 0) (qQ xQ jQ))) xQ (oQ _)))))) (uQ (pQ (mQ K2 hr rfl T.Ky T.k_l_other T.b_l_other .nil iQ (qQ (jv 0) (qQ (jv 1) jQ))))) tQ) (wQ (kX (i := 2) S.nd rfl (Or.inl rfl) (mZ yY rfl T.eD rfl (qQ (jv 1) jQ))) (wQ (kX (i := 3) S.nd rfl (Or.inl rfl) (mQ lX hr rfl T.kZ T.k_l_draw T.b_l_draw .nil iQ (qQ (jv 0) (qQ (gQ qX rfl T.aX rfl (qQ (jv 2) jQ)) jQ)))) (wQ (nL (mQ Qg hr rfl T.Zb T.k_l_bent T.b_l_bent .nil iQ (qQ (jv 0) (qQ (cQ hX (jv 2) (jv 3) (fun _ _ => rfl)) jQ))) (iH (jv 2) (jv 3) kU)) (uQ (pQ (gI (jX (gQ eQ rfl T.rQ rfl (qQ (jv 1) (qQ (wX rfl T.tX (v := .ty "tuple") rfl rfl) jQ)))) (mZ aJ rfl T.tX rfl (qQ (jv 2) jQ)) (jv 2)))))))), ?_⟩
 refine ⟨_, rfl, sZ2, fun pt hpt => ?_⟩
 have s2 := kQ hpt (.tup [.ty "tuple", .ty "list"])
 have g2 := g.same s2
 have hv2 := hv.same s2
 have e2 : Ext t H _ := Ext.same s2
 have hpt2 : (upd H pt (.tup [.ty "tuple", .ty "list"])) pt = some (.tup [.ty "tuple", .ty "list"]) := zQ
 generalize upd H pt (.tup [.ty "tuple", .ty "list"]) = H2 at s2 g2 hv2 e2 hpt2 ⊢
 have cl : (∃ c, tyN H2 v = some c ∧ [Ty.tup, .lst].any (zF c) = false) ∨ ∃ (p : Addr) (xs : List V) (o : HO) (c : Ty), v = .ref p ∧ H2 p = some o ∧ tyH o = some c ∧ (H2 p = some (.lst xs) ∨ H2 p = some (.tup xs)) ∧ (c = .tup ∨ c = .lst) ∧ Ths A H2 xs (n - 10) (d - 1) ∧ 10 ≤ n ∧ 1 ≤ d := by
  rcases hv2.cls with rfl | ⟨b, rfl⟩ | ⟨i, rfl, hi⟩ | ⟨z, rfl, hz⟩ | ⟨p, xs, ee, rfl, hp, hx, hde, hn1⟩ | ⟨p, xs, ee, rfl, hp, hx, hde, hn1⟩ | ⟨p, rfl, hp, _, _⟩
  ·exact .inl ⟨_, rfl, rfl⟩
  ·exact .inl ⟨_, rfl, rfl⟩
  ·exact .inl ⟨_, rfl, rfl⟩
  ·exact .inl ⟨_, rfl, rfl⟩
  ·exact .inr ⟨p, xs, _, .tup, rfl, hp, rfl, .inr hp, .inl rfl, hx.mono lR (by omega), hn1, by omega⟩
  ·exact .inr ⟨p, xs, _, .lst, rfl, hp, rfl, .inl hp, .inr rfl, hx.mono lR (by omega), hn1, by omega⟩
  ·exact .inl ⟨.dct, zW hp rfl, rfl⟩
 rcases cl with ⟨c, hc, ec⟩ | ⟨p, xs, o, c, rfl, ho2, hty, hsq, hc, hx2, hn1, hd1⟩
 ·refine ⟨_, pt, [.tup, .lst], c, rfl, hpt2, hc, _, rfl, ?_⟩
  rw [ec]
  exact nQ (oth _ g2 e2)
 ·have np : p ≠ t := fun e => hv2.ne (by rw [e]; exact g2.has)
  have ec : [Ty.tup, .lst].any (zF c) = true := by rcases hc with rfl | rfl <;> rfl
  refine ⟨_, pt, [.tup, .lst], c, rfl, hpt2, zW ho2 hty, _, rfl, ?_⟩
  rw [ec]
  have hlen : LenV K (.ref p) H2 xs.length := hsq.elim (fun h => .inl ⟨xs, SqL.of h, rfl⟩) (fun h => .inr ⟨xs, SqT.of h, rfl⟩)
  refine bQ ⟨_, rfl, _, _, rfl, hlen, rfl, _, rfl, ?_⟩
  by_cases h0 : xs = []
  ·subst h0
   exact nQ (oth _ g2 e2)
  ·have l0 : 0 < xs.length := List.length_pos_iff.mpr h0
   have e0 : ¬ V.int ((xs.length : Nat) : Int) = V.int 0 := fun e => by injection e with e; omega
   rw [decide_eq_false e0]
   refine bQ ⟨_, rfl, t, 4, sc, ns, rfl, g2.st, by decide, by decide, fun dd H3 d0 d1 st3 e3 => ⟨rfl, _, rfl, wH (fun _ => oth _ (g2.after e3 st3) (e2.trans e3)) (fun _ => ?_)⟩⟩
   have g3 := g2.after e3 st3
   have hx3 := g2.keep e3 hx2
   have ho3 := e3 p _ np ho2
   have hsq3 : SqL K H3 p xs ∨ SqT K H3 p xs := hsq.imp (fun h => SqL.of (e3 p _ np h)) (fun h => SqT.of (e3 p _ np h))
   refine ⟨_, rfl, p, xs, rfl, hsq3, fun l hl => ?_⟩
   have lt : l ≠ t := g3.st.ne hl
   have lA : ¬ A l := g3.fresh hl
   have s4 := kQ hl (.lst xs)
   have g4 := (g3.same s4).more (d := l) (by rw [zQ]; exact fun z => nomatch z)
   have hx4 := (hx3.avoid hl).same s4
   have xl := hx4.len
   refine ⟨_, rfl, _, rfl, _, _, rfl, .inl ⟨_, SqL.of zQ, rfl⟩, t, _, sc, ns, rfl, g4.st, (by omega), (by omega), fun at' H5 a0 a1 st5 e5 => ?_⟩
   have hl5 : H5 l = some (.lst xs) := e5 l _ lt zQ
   have g5 := g4.after e5 st5
   have hx5 := g4.keep e5 hx4
   obtain ⟨v', i, ei, hat, hi, hil⟩ := gN (xs := xs) (k := at') a0 a1
   obtain ⟨c', ra, rb, hc', hra, hrb, hle⟩ := hx5.parts hi
   cases k with
   | zero => omega
   | succ k =>
    refine ⟨_, rfl, _, rfl, _, rfl, l, _, _, _, rfl, rfl, SqL.of hl5, hat, t, sc, ns, _, v', c', d - 1, rfl, g5, hc', by omega, by omega, fun v6 H6 th6 st6 e6 => ?_⟩
    have hl6 := e6 l _ lt hl5
    refine ⟨_, rfl, _, rfl, l, xs, at', i, rfl, rfl, hl6, by rw [ei]; exact Z9 hil, ?_⟩
    have e36 : Ext t H3 H6 := (Ext.same s4).trans (e5.trans e6)
    have e7 : Ext t H3 (upd H6 l (.lst (xs.set i v6))) := fun b u nb hb => by
     rw [uX (uZ hb hl)]
     exact e36 b u nb hb
    have st7 : St1 K (upd H6 l (.lst (xs.set i v6))) t sc ns := by
     obtain ⟨_, _, _, q6, r6⟩ := st6.tp
     exact g3.st.ext e7 (by rw [uX (Ne.symm lt)]; exact q6) r6
    have eH : Ext t H (upd H6 l (.lst (xs.set i v6))) := (e2.trans e3).trans e7
    have g7 := g.after eH st7
    have th7 : Ths (fun x => A x ∨ x = l) (upd H6 l (.lst (xs.set i v6))) (xs.set i v6) (ra + (3 * c' + 2500 + rb)) (d + 2) := by
     have b1 := g5.keep e6 hra
     have b2 := g5.keep e6 hrb
     have q1 : Ths (fun x => A x ∨ x = l) H6 (xs.take i ++ v6 :: xs.drop (i + 1)) (ra + (3 * c' + 2500 + rb)) (d + 2) := (b1.mono lR (by omega)).append (Ths.cons (th6.mono lR (by omega)) (b2.mono lR (by omega)) lR)
     rw [← ZX hil] at q1
     exact Ths.upd (.inr rfl) q1
    have th8 := th7.weak (u := A) fun b hb => .inl hb
    refine ⟨_, rfl, _, .tup, c, rfl, zW (e7 p _ np ho3) hty, _, rfl, ?_⟩
    rcases hc with rfl | rfl
    ·refine nQ ⟨_, rfl, l, _, rfl, .inl ⟨SqL.of zQ, fun p5 hp5 => ?_⟩⟩
     exact q _ _ (Ths.tup (g7.fresh hp5) zQ (th8.same (kQ hp5 _)) (by omega) (by omega)) (st7.new hp5 _) (eH.trans (Ext.same (kQ hp5 _)))
    ·refine bQ ⟨_, rfl, ?_⟩
     exact q _ _ (Ths.lst lA zQ th8 (by omega) (by omega)) st7 eH
theorem JD (T : Txt P w K mg a) : ∀ k : Nat, FnOk P w K mg base CX0 (k + 3) a.iR a.kP ["_law_tape_here", "_law_thing"] (ZW K k)
 | 0 => T.vR.okJ gR (fun _ _ _ _ h => h.elim) (fun _ _ _ _ _ _ _ _ _ h => h.elim)
 | k + 1 => KZ T k (JD T k)
end
end K06
namespace K06
open PySem L2
mutual
inductive Rpt (A : Addr → Prop) (H : Hp) : V → Tr → Prop
 | non : Rpt A H .non .non
 | bl (b : Bool) : Rpt A H (.bl b) (.bl b)
 | int (i : Int) : Rpt A H (.int i) (.int i)
 | str (z : Str) : Rpt A H (.str z) (.str z)
 | tup {p xs ts} : ¬ A p → H p = some (.tup xs) → Rpts A H xs ts → Rpt A H (.ref p) (.tup ts)
inductive Rpts (A : Addr → Prop) (H : Hp) : List V → List Tr → Prop
 | nil : Rpts A H [] []
 | cons {v t vs ts} : Rpt A H v t → Rpts A H vs ts → Rpts A H (v :: vs) (t :: ts)
end
section
variable {A B : Addr → Prop} {H H' : Hp}
mutual
theorem Rpt.ext (e : ∀ b o, ¬ A b → H b = some o → H' b = some o) {v : V} {t : Tr} : Rpt A H v t → Rpt A H' v t
 | .non => .non
 | .bl b => .bl b
 | .int i => .int i
 | .str z => .str z
 | .tup n h r => .tup n (e _ _ n h) (Rpts.ext e r)
theorem Rpts.ext (e : ∀ b o, ¬ A b → H b = some o → H' b = some o) {vs : List V} {ts : List Tr} : Rpts A H vs ts → Rpts A H' vs ts
 | .nil => .nil
 | .cons a b => .cons (Rpt.ext e a) (Rpts.ext e b)
end
mutual
theorem Rpt.weak (e : ∀ b o, H b = some o → B b → A b) {v : V} {t : Tr} : Rpt A H v t → Rpt B H v t
 | .non => .non
 | .bl b => .bl b
 | .int i => .int i
 | .str z => .str z
 | .tup n h r => .tup (fun z => n (e _ _ h z)) h (Rpts.weak e r)
theorem Rpts.weak (e : ∀ b o, H b = some o → B b → A b) {vs : List V} {ts : List Tr} : Rpts A H vs ts → Rpts B H vs ts
 | .nil => .nil
 | .cons a b => .cons (Rpt.weak e a) (Rpts.weak e b)
end
mutual
theorem Rpt.rep {v : V} {t : Tr} : Rpt A H v t → Rep H v t
 | .non => .non
 | .bl b => .bl b
 | .int i => .int i
 | .str z => .str z
 | .tup n h r => .tup h (Rpts.reps r)
theorem Rpts.reps {vs : List V} {ts : List Tr} : Rpts A H vs ts → Reps H vs ts
 | .nil => .nil
 | .cons a b => .cons (Rpt.rep a) (Rpts.reps b)
end
variable {v : V} {t : Tr} {vs xs ys : List V} {ts us : List Tr}
theorem Rpt.same (s : Same H H') (h : Rpt A H v t) : Rpt A H' v t := h.ext fun b o _ q => s b o q
theorem Rpts.same (s : Same H H') (h : Rpts A H vs ts) : Rpts A H' vs ts := h.ext fun b o _ q => s b o q
theorem Rpt.avoid {D : Addr} (hD : H D = none) (h : Rpt A H v t) : Rpt (fun x => A x ∨ x = D) H v t := h.weak fun b o q z => z.elim id fun e => by rw [e, hD] at q; cases q
theorem Rpts.avoid {D : Addr} (hD : H D = none) (h : Rpts A H vs ts) : Rpts (fun x => A x ∨ x = D) H vs ts := h.weak fun b o q z => z.elim id fun e => by rw [e, hD] at q; cases q
theorem Rpts.less (h : Rpts A H vs ts) (e : ∀ b, B b → A b) : Rpts B H vs ts := h.weak fun b _ _ z => e b z
theorem Rpts.append (h : Rpts A H xs ts) (h2 : Rpts A H ys us) : Rpts A H (xs ++ ys) (ts ++ us) := by
 induction xs generalizing ts with
 | nil => cases h; exact h2
 | cons v r ih => cases h with | cons a b => exact .cons a (ih b)
theorem Rpts.len (h : Rpts A H vs ts) : vs.length = ts.length := h.reps.len
theorem Rpts.snoc (h : Rpts A H vs ts) {L : List V} {b : V} (e : vs = L ++ [b]) : ∃ us u, ts = us ++ [u] ∧ Rpts A H L us ∧ Rpt A H b u := by
 subst e
 induction L generalizing ts with
 | nil => cases h with | cons a b => cases b; exact ⟨[], _, rfl, .nil, a⟩
 | cons v r ih =>
  cases h with
  | cons a b =>
   obtain ⟨us, u, rfl, h1, h2⟩ := ih b
   exact ⟨_ :: us, u, rfl, .cons a h1, h2⟩
theorem Rpts.get (h : Rpts A H vs ts) {i : Nat} (e : vs[i]? = some v) : ∃ t, ts[i]? = some t ∧ Rpt A H v t := by
 induction vs generalizing ts i with
 | nil => simp at e
 | cons x r ih =>
  cases h with
  | @cons _ t _ ts a b =>
   cases i with
   | zero =>
    have e : x = v := by simpa using e
    subst e
    exact ⟨t, rfl, a⟩
   | succ i => exact ih b (i := i) (by simpa using e)
theorem Rpts.rep1 (h : Rpt A H v t) : ∀ k : Nat, Rpts A H (List.replicate k v) (List.replicate k t)
 | 0 => .nil
 | k + 1 => .cons h (Rpts.rep1 h k)
theorem Gd.keepR {K : W.Frag} {a sc : Addr} {ns : List Int} (g : Gd K A H a sc ns) (e : Ext a H H') (h : Rpt A H v t) : Rpt A H' v t := h.ext fun b o nb q => e b o (fun z => nb (by rw [z]; exact g.has)) q
theorem Gd.keepRs {K : W.Frag} {a sc : Addr} {ns : List Int} (g : Gd K A H a sc ns) (e : Ext a H H') (h : Rpts A H vs ts) : Rpts A H' vs ts := h.ext fun b o nb q => e b o (fun z => nb (by rw [z]; exact g.has)) q
end
mutual
noncomputable def Tr.fit : Nat → Tr → Prop
 | d, .tup xs => 1 ≤ d ∧ zB (d - 1) xs
 | _, .int i => i.natAbs ≤ 1000000000
 | _, .oth => False
 | _, .non => True
 | _, .bl _ => True
 | _, .str _ => True
noncomputable def zB : Nat → List Tr → Prop
 | _, [] => True
 | d, x :: r => Tr.fit d x ∧ zB d r
end
theorem zV {d : Nat} {xs : List Tr} : Tr.fit d (.tup xs) ↔ 1 ≤ d ∧ zB (d - 1) xs := by rw [Tr.fit]
theorem zG {d : Nat} {z : Str} : Tr.fit d (.str z) := by rw [Tr.fit]; trivial
theorem JZ {d : Nat} : Tr.fit d .non := by rw [Tr.fit]; trivial
theorem xJ {d : Nat} : zB d [] := by rw [zB]; trivial
theorem pX {d : Nat} {x : Tr} {r : List Tr} : zB d (x :: r) ↔ Tr.fit d x ∧ zB d r := by rw [zB]
mutual
theorem Tr.fit_mono : ∀ {t : Tr} {d d' : Nat}, Tr.fit d t → d ≤ d' → Tr.fit d' t
 | .tup xs, d, d', h, e => by
  rw [zV] at h ⊢
  exact ⟨by omega, sY h.2 (by omega)⟩
 | .int i, d, d', h, e => by rw [Tr.fit] at h ⊢; exact h
 | .oth, d, d', h, e => by rw [Tr.fit] at h; exact h.elim
 | .non, d, d', h, e => by rw [Tr.fit]; trivial
 | .bl _, d, d', h, e => by rw [Tr.fit]; trivial
 | .str _, d, d', h, e => by rw [Tr.fit]; trivial
theorem sY : ∀ {ts : List Tr} {d d' : Nat}, zB d ts → d ≤ d' → zB d' ts
 | [], d, d', h, e => xJ
 | x :: r, d, d', h, e => by
  rw [pX] at h ⊢
  exact ⟨Tr.fit_mono h.1 e, sY h.2 e⟩
end
theorem oT {d : Nat} {xs ys : List Tr} (h : zB d xs) (h2 : zB d ys) : zB d (xs ++ ys) := by
 induction xs with
 | nil => exact h2
 | cons x r ih =>
  rw [pX] at h
  rw [List.cons_append, pX]
  exact ⟨h.1, ih h.2⟩
section
variable {A : Addr → Prop} {H : Hp}
mutual
theorem Rpt.ths1 {v : V} {t : Tr} : Rpt A H v t → ∀ {d : Nat}, Tr.fit d t → Ths A H [v] t.w d
 | .non, d, h => by rw [Tr.w]; exact .sc (k := 1) (m := 0) lR .nil (by omega)
 | .bl b, d, h => by rw [Tr.w]; exact .sc (k := 1) (m := 0) lR .nil (by omega)
 | .int i, d, h => by
  rw [Tr.w]
  rw [Tr.fit] at h
  exact .sc (k := 1) (m := 0) ⟨Nat.le_refl _, by omega⟩ .nil (by omega)
 | .str z, d, h => by rw [bY]; exact .sc (k := z.length + 1) (m := 0) lR .nil (by omega)
 | .tup n hp r, d, h => by
  rw [zV] at h
  rw [eX]
  exact .ob (m := 0) n hp rfl (Rpts.ths r h.2) (by omega) .nil (by omega)
theorem Rpts.ths {vs : List V} {ts : List Tr} : Rpts A H vs ts → ∀ {d : Nat}, zB d ts → Ths A H vs (wL ts) d
 | .nil, d, h => .nil
 | .cons a b, d, h => by
  rw [pX] at h
  rw [yQ]
  exact Ths.cons (Rpt.ths1 a h.1) (Rpts.ths b h.2) lR
end
end
noncomputable def cN : Nat → Nat
 | 0 => 0
 | i + 1 => 2 * cN i + 2
noncomputable def sN : Nat → Nat
 | 0 => 0
 | i + 1 => sN i + cN (i + 1)
noncomputable def wN : Nat → Nat
 | 0 => 0
 | i + 1 => 2 * wN i + 260
noncomputable def vN : Nat → Nat
 | 0 => 0
 | i + 1 => vN i + wN (i + 1)
noncomputable def gU {α : Type} (ls : List α) : List α := ls.drop (ls.length - 1)
theorem gT {α : Type} (ls : List α) (l : α) : gU (ls ++ [l]) = [l] := by
 unfold gU
 rw [List.length_append, show ls.length + [l].length - 1 = ls.length by simp, List.drop_append_of_le_length lR, List.drop_length]
 rfl
inductive LL (bx G : List Str) : Nat → List Tr → Prop
 | nil : LL bx G 0 []
 | snoc {i ls l a} : LL bx G i ls → Good bx G l (2 * (i + 1)) a → 1 + a ≤ cN (i + 1) → l.w ≤ wN (i + 1) → Tr.fit (3 + 4 * (i + 1)) l → LL bx G (i + 1) (ls ++ [l])
section
variable {bx G : List Str} {i : Nat} {ls : List Tr} {r k : Tr}
theorem LL.last (h : LL bx G i ls) : ∃ n, Goods bx G (gU ls) (2 * i) n ∧ n ≤ cN i ∧ wL (gU ls) ≤ wN i ∧ zB (3 + 4 * i) (gU ls) := by
 cases h with
 | nil => exact ⟨0, Goods.none, Nat.le_refl _, Nat.le_refl _, xJ⟩
 | @snoc i ls l a h1 h2 h3 h4 h5 =>
  rw [gT]
  refine ⟨1 + a, h2.one (by omega), h3, ?_, ?_⟩
  ·rw [yQ, wL]
   omega
  ·rw [pX]
   exact ⟨h5, xJ⟩
theorem LL.all (h : LL bx G i ls) : i ≤ 3 → ls.length = i ∧ (∃ n, LinesOk bx 0 [] ls n ∧ n ≤ sN i) ∧ (∀ l ∈ ls, ∀ g, LG l g → g ∈ G) ∧ wL ls ≤ vN i ∧ zB (3 + 4 * i) ls := by
 induction h with
 | nil => exact fun _ => ⟨rfl, ⟨0, .nil, Nat.le_refl _⟩, (fun l hl => by cases hl), Nat.le_refl _, xJ⟩
 | @snoc i ls l a h1 h2 h3 h4 h5 ih =>
  intro hi
  obtain ⟨i1, ⟨n, i2, i3⟩, i4, i5, i6⟩ := ih (by omega)
  refine ⟨by rw [List.length_append, i1]; rfl, ⟨_, i2.append (.one (h2.1 0 (by omega))), ?_⟩, fun l' hl => ?_, ?_, ?_⟩
  ·show n + (1 + a) ≤ sN i + cN (i + 1)
   omega
  ·rcases List.mem_append.mp hl with hl | hl
   ·exact i4 l' hl
   ·have e : l' = l := by simpa using hl
    subst e
    exact h2.2
  ·rw [nX, yQ, wL]
   show _ ≤ vN i + wN (i + 1)
   omega
  ·exact oT (sY i6 (by omega)) (by rw [pX]; exact ⟨h5, xJ⟩)
structure Rul (bx : List Str) (r : Tr) : Prop where
 ft : ∀ tu, rX bx tu r = true
 w : r.w ≤ 51
 d : Tr.fit 2 r
structure Key1 (bx : List Str) (k : Tr) : Prop where
 ft : ∀ tu, dY bx tu k = true
 w : k.w ≤ 51
 d : Tr.fit 2 k
theorem Key1.non : Key1 bx .non := ⟨fun _ => rfl, by rw [Tr.w]; omega, JZ⟩
theorem Rul.key (h : Rul bx r) : Key1 bx r := ⟨fun tu => by
 have := h.ft tu
 cases r <;> first | rfl | exact this, h.w, h.d⟩
theorem w5 : ("plain" : Str).length = 5 ∧ ("a" : Str).length = 1 ∧ ("x" : Str).length = 1 ∧ ("when" : Str).length = 4 ∧ ("each" : Str).length = 4 ∧ ("t" : Str).length = 1 ∧ ("turn" : Str).length = 4 ∧ ("part" : Str).length = 4 := by decide +kernel
theorem Xh {q : Tr} {inner : List Tr} (hk : k.w ≤ 51) (hq : q.w ≤ 51) : (jW k q inner).w ≤ 162 + wL inner := by
 obtain ⟨e1, e2, e3, _⟩ := w5
 unfold jW
 simp only [eX, yQ, bY, wL, e1, e2, e3]
 omega
theorem bR {q : Tr} {inner : List Tr} {d : Nat} (hd : 5 ≤ d) (hk : Tr.fit 2 k) (hq : Tr.fit 2 q) (hi : zB (d - 2) inner) : Tr.fit d (jW k q inner) := by
 unfold jW
 simp only [zV, pX, zG, xJ, true_and, and_true]
 refine ⟨by omega, (Tr.fit_mono hk (by omega)), ⟨by omega, by omega, (Tr.fit_mono hq (by omega))⟩, by omega, by omega, ?_⟩
 rw [show d - 1 - 1 = d - 2 by omega]
 exact hi
theorem LL.plain (h : LL bx G i ls) (hk : Key1 bx k) (hr : Rul bx r) : LL bx G (i + 1) (ls ++ [jW k r (gU ls)]) := by
 obtain ⟨n, h1, h2, h3, h4⟩ := h.last
 refine .snoc h ((pI (hk.ft _) (hr.ft _) h1).mono (by omega)) (by show _ ≤ 2 * cN i + 2; omega) ?_ (bR (by omega) hk.d hr.d (sY h4 (by omega)))
 have := Xh (inner := gU ls) hk.w hr.w
 show _ ≤ 2 * wN i + 260
 omega
theorem LL.when (h : LL bx G i ls) (hk : Key1 bx k) (hr : Rul bx r) : LL bx G (i + 1) (ls ++ [jE r (jW k r (gU ls)) (gU ls)]) := by
 obtain ⟨n, h1, h2, h3, h4⟩ := h.last
 refine .snoc h ((KN (hr.ft _) (pI (hk.ft _) (hr.ft _) h1) h1).mono (by omega)) (by show _ ≤ 2 * cN i + 2; omega) ?_ ?_
 ·have := Xh (inner := gU ls) hk.w hr.w
  have hw := hr.w
  obtain ⟨_, _, _, e4, _⟩ := w5
  show Tr.w (jE _ _ _) ≤ 2 * wN i + 260
  unfold jE
  simp only [eX, yQ, bY, wL, e4]
  omega
 ·have := bR (d := 3 + 4 * (i + 1) - 2) (by omega) hk.d hr.d (sY h4 (by omega))
  unfold jE
  simp only [zV, pX, zG, xJ, true_and, and_true]
  refine ⟨by omega, (Tr.fit_mono hr.d (by omega)), ⟨by omega, (Tr.fit_mono this (by omega))⟩, by omega, sY h4 (by omega)⟩
theorem LL.each (h : LL bx G i ls) (hk : Key1 bx k) (hr : Rul bx r) : LL bx G (i + 1) (ls ++ [nI k r]) := by
 refine .snoc h ((KP hk.ft hr.ft).mono (by omega)) (by show _ ≤ 2 * cN i + 2; omega) ?_ ?_
 ·have ht : wD.w ≤ 51 := by
   obtain ⟨_, _, _, _, _, e6, e7, _⟩ := w5
   unfold wD
   simp only [eX, yQ, bY, wL, e6, e7]
   omega
  have := Xh (inner := []) hk.w ht
  have hw := hr.w
  obtain ⟨_, _, _, _, e5, e6, _⟩ := w5
  rw [wL] at this
  show Tr.w (nI _ _) ≤ 2 * wN i + 260
  unfold nI
  simp only [eX, yQ, bY, wL, e5, e6]
  omega
 ·have ht : Tr.fit 2 wD := by
   unfold wD
   simp only [zV, pX, zG, xJ, true_and, and_true]
   omega
  have := bR (d := 5) (inner := []) (by omega) hk.d ht xJ
  unfold nI
  simp only [zV, pX, zG, xJ, true_and, and_true]
  exact ⟨by omega, (Tr.fit_mono hr.d (by omega)), by omega, (Tr.fit_mono this (by omega))⟩
theorem LL.part {g : Str} (h : LL bx G i ls) (hg : g ∈ G) (hn : xZ (.str g) = true) (hz : g.length ≤ 8) (hr : Rul bx r) : LL bx G (i + 1) (ls ++ [jA g r]) := by
 refine .snoc h ((KO hg hn hr.ft).mono (by omega)) (by show _ ≤ 2 * cN i + 2; omega) ?_ ?_
 ·have hw := hr.w
  obtain ⟨_, e2, _, _, _, _, _, e8⟩ := w5
  show Tr.w (jA _ _) ≤ 2 * wN i + 260
  unfold jA
  simp only [eX, yQ, bY, wL, e2, e8, Tr.w]
  omega
 ·unfold jA
  simp only [zV, pX, zG, JZ, xJ, true_and, and_true]
  exact ⟨by omega, by omega, by omega, (Tr.fit_mono hr.d (by omega))⟩
theorem XY {b : Tr} (h : b = .tup [.str "take", .str "a"] ∨ b = .tup [.str "down", .str "end"] ∨ ∃ i : Int, b = .tup [.str "num", .int i] ∧ 0 ≤ i ∧ i < 5) : inn b = some [] ∧ (∀ tu, qK bx tu b = true) ∧ b.w ≤ 19 ∧ Tr.fit 1 b := by
 rcases h with rfl | rfl | ⟨i, rfl, h0, h5⟩
 ·refine ⟨xF (by decide +kernel) (by decide +kernel), fun tu => eP (by decide) (by decide), ?_, ?_⟩
  ·have e : ("take" : Str).length = 4 ∧ ("a" : Str).length = 1 := by decide +kernel
   simp only [eX, yQ, bY, wL, e.1, e.2]
   omega
  ·simp only [zV, pX, zG, xJ, true_and, and_true]
   omega
 ·refine ⟨xF (by decide +kernel) (by decide +kernel), fun tu => eP (by decide) (by decide), ?_, ?_⟩
  ·have e : ("down" : Str).length = 4 ∧ ("end" : Str).length = 3 := by decide +kernel
   simp only [eX, yQ, bY, wL, e.1, e.2]
   omega
  ·simp only [zV, pX, zG, xJ, true_and, and_true]
   omega
 ·refine ⟨?_, fun tu => eP (by decide) (by decide), ?_, ?_⟩
  ·have c : i = 0 ∨ i = 1 ∨ i = 2 ∨ i = 3 ∨ i = 4 := by omega
   rcases c with rfl | rfl | rfl | rfl | rfl <;> exact xF (by decide +kernel) (by decide +kernel)
  ·have e : ("num" : Str).length = 3 := by decide +kernel
   simp only [eX, yQ, bY, wL, e, Tr.w]
   omega
  ·simp only [zV, pX, zG, xJ, true_and, and_true]
   rw [Tr.fit]
   omega
noncomputable def Wp (b : Tr) : Prop := b = .tup [.str "take", .str "a"] ∨ b = .tup [.str "down", .str "end"] ∨ ∃ i : Int, b = .tup [.str "num", .int i] ∧ 0 ≤ i ∧ i < 5
theorem rul_of {b : Tr} (h : Wp b) : Rul bx b := by
 obtain ⟨h1, h2, h3, h4⟩ := XY (bx := bx) h
 exact ⟨fun tu => dI h1 (h2 tu), by omega, (Tr.fit_mono h4 (by omega))⟩
theorem rul_add {b : Tr} {z : Str} (h : Wp b) (hz : bx.contains z = true) (hb : z = "a" ∨ z = "ab" ∨ z = "box") : Rul bx (.tup [.str "add", .tup [.str "box", .str z], b]) := by
 obtain ⟨h1, h2, h3, h4⟩ := XY (bx := bx) h
 have eb : inn (.tup [.str "box", .str z]) = some [] := by rcases hb with rfl | rfl | rfl <;> exact xF (by decide +kernel) (by decide +kernel)
 have ea : inn (.tup [.str "add", .tup [.str "box", .str z], b]) = some [.tup [.str "box", .str z], b] := rfl
 refine ⟨fun tu => ?_, ?_, ?_⟩
 ·unfold rX
  rw [run_two ea eb h1]
  show (decide (3 ≤ 20) && (qK bx tu _ && (qK bx tu b && (qK bx tu _ && true)))) = true
  rw [eP (by decide) (by decide), h2]
  have e : qK bx tu (.tup [.str "box", .str z]) = true := by
   show ((!decide (("box" : Str) = "box") || bx.contains z) && (!decide (("box" : Str) = "turn") || _)) = true
   rw [hz, decide_eq_false (show ¬ ("box" : Str) = "turn" by decide), Bool.or_true]
   rfl
  rw [e]
  rfl
 ·have e : ("add" : Str).length = 3 ∧ ("box" : Str).length = 3 := by decide +kernel
  have ez : z.length ≤ 3 := by rcases hb with rfl | rfl | rfl <;> decide +kernel
  simp only [eX, yQ, bY, wL, e.1, e.2]
  omega
 ·simp only [zV, pX, zG, xJ, true_and, and_true]
  exact ⟨by omega, by omega, h4⟩
theorem Wo {z : Str} {j : Int} {kb : Nat} (hk : kb ≤ 1) (hn : xZ (.str z) = true) (hj : nM (.int j) = true) : pW (.tup (List.replicate kb (.tup [.str z, .int j]))) = true := by
 have c : kb = 0 ∨ kb = 1 := by omega
 rw [dS]
 rcases c with rfl | rfl
 ·show (decide (0 ≤ 4) && (true && decide (([] : List Str).Nodup))) = true
  rw [decide_eq_true List.nodup_nil]
  rfl
 ·show (decide (1 ≤ 4) && ((iC (.tup [.str z, .int j]) && true) && decide (([z] : List Str).Nodup))) = true
  have e : iC (.tup [.str z, .int j]) = (xZ (.str z) && nM (.int j)) := rfl
  rw [e, hn, hj, decide_eq_true (by simp)]
  rfl
theorem K7 {kw : Nat} (hk : kw ≤ 1) (hr : Rul bx r) : pZ bx [] (.tup (List.replicate kw (.tup [.str "w", r]))) = true := by
 have c : kw = 0 ∨ kw = 1 := by omega
 rcases c with rfl | rfl
 ·exact ZZ
 ·exact fR nw (hr.ft _)
noncomputable def QL (nm z : Str) (j : Int) (kb kw : Nat) (r : Tr) (ls : List Tr) : Tr := .tup [.str nm, .tup (List.replicate kb (.tup [.str z, .int j])), .tup (List.replicate kw (.tup [.str "w", r])), .tup ls]
theorem bx_rep (z : Str) (j : Int) (kb : Nat) : uY (.tup (List.replicate kb (.tup [.str z, .int j]))) = List.replicate kb z := by
 show (List.replicate kb (Tr.tup [.str z, .int j])).map nm = _
 rw [List.map_replicate]
 rfl
theorem part_ok {nn z : Str} {j : Int} {kb kw : Nat} (hN : xZ (.str nn) = true) (hb : kb ≤ 1) (hn : xZ (.str z) = true) (hj : nM (.int j) = true) (hw : kw ≤ 1) (hr : Rul (List.replicate kb z) r) (h : LL (List.replicate kb z) G i ls) (hi : i ≤ 3) : jJ (QL nn z j kb kw r ls) = true ∧ ∀ g, jB (.tup ls) g → g ∈ G := by
 obtain ⟨h1, ⟨n, h2, h3⟩, h4, _⟩ := h.all hi
 have s3 : sN i ≤ 22 := by
  have c : i = 0 ∨ i = 1 ∨ i = 2 ∨ i = 3 := by omega
  rcases c with rfl | rfl | rfl | rfl <;> decide
 constructor
 ·have e : jJ (QL nn z j kb kw r ls) = (xZ (.str nn) && (pW (.tup (List.replicate kb (.tup [.str z, .int j]))) && ((pZ (uY (.tup (List.replicate kb (.tup [.str z, .int j])))) [] (.tup (List.replicate kw (.tup [.str "w", r]))) && decide (uO (.tup (List.replicate kw (.tup [.str "w", r]))) ≤ 4)) && sK (uY (.tup (List.replicate kb (.tup [.str z, .int j])))) (.tup ls)))) := rfl
  have el : uO (.tup (List.replicate kw (.tup [.str "w", r]))) ≤ 4 := by
   show (List.replicate kw _).length ≤ 4
   rw [List.length_replicate]
   omega
  rw [e, hN, Wo hb hn hj, bx_rep, K7 hw hr, decide_eq_true el, VW (Xf h2 (.inl (by omega))) (by omega)]
  rfl
 ·intro g hg
  obtain ⟨l, l1, l2⟩ := wY.mp hg
  exact h4 l l1 g l2
theorem part_w {nn z : Str} {j : Int} {kb kw : Nat} (hN : nn.length ≤ 8) (hb : kb ≤ 1) (hz : z.length ≤ 3) (hw : kw ≤ 1) (hr : r.w ≤ 51) (hl : wL ls ≤ 2860) : (QL nn z j kb kw r ls).w ≤ 3050 := by
 have c : kb = 0 ∨ kb = 1 := by omega
 have c' : kw = 0 ∨ kw = 1 := by omega
 have e : ("w" : Str).length = 1 := by decide +kernel
 unfold QL
 rcases c with rfl | rfl <;> rcases c' with rfl | rfl <;> simp only [List.replicate, eX, yQ, bY, wL, e, Tr.w] <;> omega
theorem VF {nn z : Str} {j : Int} {kb kw : Nat} (hj : j.natAbs ≤ 1000000000) (hb : kb ≤ 1) (hw : kw ≤ 1) (hr : Tr.fit 2 r) (hl : zB 15 ls) : Tr.fit 17 (QL nn z j kb kw r ls) := by
 have c : kb = 0 ∨ kb = 1 := by omega
 have c' : kw = 0 ∨ kw = 1 := by omega
 have ej : ∀ d, Tr.fit d (.int j) := fun d => by rw [Tr.fit]; exact hj
 unfold QL
 rcases c with rfl | rfl <;> rcases c' with rfl | rfl <;> simp only [List.replicate, zV, pX, zG, ej, xJ, true_and, and_true]
 ·exact ⟨by omega, by omega, by omega, by omega, hl⟩
 ·exact ⟨by omega, by omega, ⟨by omega, by omega, (Tr.fit_mono hr (by omega))⟩, by omega, hl⟩
 ·exact ⟨by omega, ⟨by omega, by omega⟩, by omega, by omega, hl⟩
 ·exact ⟨by omega, ⟨by omega, by omega⟩, ⟨by omega, by omega, (Tr.fit_mono hr (by omega))⟩, by omega, hl⟩
end
end K06
namespace K06
open PySem L2
theorem xU {K : W.Frag} {H1 Hn : Hp} {t sc D : Addr} {ns : List Int} {o : HO} (h : St1 K H1 t sc ns) (hD : H1 D = none) (e : Ext t H1 Hn) (st : St1 K Hn t sc ns) : St1 K (upd Hn D o) t sc ns ∧ Ext t H1 (upd Hn D o) := by
 have e' : Ext t H1 (upd Hn D o) := fun b u nb q => by
  rw [uX (uZ q hD)]
  exact e b u nb q
 obtain ⟨c, d, p, q, r⟩ := st.tp
 exact ⟨h.ext e' (by rw [uX (h.ne hD).symm]; exact q) r, e'⟩
theorem vN_le {i : Nat} (h : i ≤ 3) : vN i ≤ 2860 := by
 have c : i = 0 ∨ i = 1 ∨ i = 2 ∨ i = 3 := by omega
 rcases c with rfl | rfl | rfl | rfl <;> decide
section
variable {A : Addr → Prop} {H : Hp} {vs : List V} {ts : List Tr}
theorem Rpt.clear {p : Addr} {t : Tr} (h : Rpt A H (.ref p) t) : ¬ A p := by cases h; assumption
theorem Rpts.updD {D : Addr} {o : HO} (h : Rpts (fun x => A x ∨ x = D) H vs ts) : Rpts (fun x => A x ∨ x = D) (upd H D o) vs ts := h.ext fun b u nb q => by
 rw [uX fun e => nb (.inr e)]
 exact q
theorem Rpts.last (h : Rpts A H vs ts) : Rpts A H (oX vs (some (-1)) none) (gU ts) := by
 rcases List.eq_nil_or_concat vs with rfl | ⟨L, b, rfl⟩
 ·cases h
  exact .nil
 ·rw [List.concat_eq_append] at h ⊢
  obtain ⟨us, u, rfl, _, h2⟩ := h.snoc rfl
  rw [iO, gT]
  exact .cons h2 .nil
theorem Rpts.four (h : Rpts A H vs ts) (hl : vs.length ≤ 4) : Rpts A H (oX vs none (some 4)) ts := by
 rw [show oX vs none (some 4) = vs.take 4 from Wm vs 4, List.take_of_length_le hl]
 exact h
end
theorem at_drop {NS : List Str} {k : Nat} {kk : Int} (h0 : 0 ≤ kk) (h1 : kk < (NS.length : Int) - (k : Int) - 1) : ∃ z, atI (NS.map V.str) ((k : Int) + 1 + kk) = some (.str z) ∧ z ∈ NS.drop (k + 1) := by
 have hk : k + 1 + kk.toNat < NS.length := by omega
 refine ⟨NS[k + 1 + kk.toNat], ?_, ?_⟩
 ·rw [show (k : Int) + 1 + kk = ((k + 1 + kk.toNat : Nat) : Int) by omega]
  exact jV (by rw [List.getElem?_map, List.getElem?_eq_getElem hk]; rfl)
 ·rw [List.mem_iff_getElem]
  exact ⟨kk.toNat, by rw [List.length_drop]; omega, by rw [List.getElem_drop]⟩
section
variable {P : Program} {w : World} {K : W.Frag} {mg : Str → Option Value} {base : Heap} {a : Adr}
noncomputable def XE (NS : List Str) : Prop := ∀ z, z ∈ NS → xZ (.str z) = true ∧ z.length ≤ 8
inductive ZB (K : W.Frag) (vs : List V) (H : Hp) (Q : VK) : Prop
 | mk (t sc : Addr) (ns : List Int) (A : Addr → Prop) (ln : Addr) (k : Nat) (NS : List Str) (nn : Str) (z0 : vs = [.ref t, .ref ln, .int k]) (z1 : Gd K A H t sc ns) (z2 : H ln = some (.lst (NS.map V.str))) (z3 : ln ≠ t) (z4 : NS.length ≤ 6) (z5 : XE NS) (z6 : NS[k]? = some nn) (z7 : ∀ (p : Addr) (T : Tr) (H' : Hp), Rpt A H' (.ref p) T → nm T = nn → jJ T = true → (∀ g, jB (qU T) g → g ∈ NS.drop (k + 1)) → T.w ≤ 3050 → Tr.fit 17 T → St1 K H' t sc ns → Ext t H H' → Q (.ref p) H') : ZB K vs H Q
noncomputable def spSmall (K : W.Frag) : Sp := fun vs H Q _ => ZB K vs H Q
theorem Qo (T : Txt P w K mg a) : FnOk P w K mg base CX0 2 a.zY a.dU ["_law_tape_here", "_law_names_here", "_law_k"] (spSmall K) := by
 have S := bD
 have big : (1000000 : Nat) < sizeLine := by decide
 have lX := mF (P := P) (w := w) (base := base) T
 refine T.aU.okJ bD (fun vs H Q E h => ?_) (fun cdv A0 outer s H vs Q E hr h => ?_)
 ·obtain ⟨t, sc, ns, A, ln, k, NS, nn, rfl, _⟩ := h; rfl
 obtain ⟨t, sc, ns, A, ln, k, NS, nn, rfl, g, oln, nln, hN6, hNS, hnk, q⟩ := h
 have hkl : k < NS.length := (List.getElem?_eq_some_iff.mp hnk).1
 have R4 : ∃ t', JB (bS CX0 P w K mg base ["_law_tape_here", "_law_names_here", "_law_k", "_law_box", "_law_boxes", "_law_rule", "_law_lines", "_law_j", "_law_way", "_law_plain"] "_law_small_part" (vQ fZ) a.zY cdv A0 outer s H E).nox ((fQ fZ).drop 4) t' ∧ ∀ (H1 : Hp) (bx : Addr) (kb : Nat) (z : Str) (j : Int) (rv : V) (RT : Tr), H1 ln = some (.lst (NS.map V.str)) → kb ≤ 1 → Rpt A H1 (.ref bx) (.tup (List.replicate kb (.tup [.str z, .int j]))) → (z = "a" ∨ z = "ab" ∨ z = "box") → -3 ≤ j → j < 6 → Rpt A H1 rv RT → Rul (List.replicate kb z) RT → Gd K A H1 t sc ns → Ext t H H1 → t' { nx := fun _ H' => Q .non H', rt := Q } [some (.ref t), some (.ref ln), some (.int k), some (.str z), some (.ref bx), some rv, none, none, none, none] H1 := by
  refine ⟨_, (wQ (kX (i := 6) S.nd rfl (Or.inl rfl) (cZ jQ)) (wQ (xY PassesOwn.never rfl (cY rfl T.vF (qQ (mQ lX hr rfl T.kZ T.k_l_draw T.b_l_draw .nil iQ (qQ (jv 0) (qQ xQ jQ))) jQ)) (pK (i := 7) S.nd rfl (Or.inl rfl)) (wQ (kX (i := 8) S.nd rfl (Or.inl rfl) (mQ lX hr rfl T.kZ T.k_l_draw T.b_l_draw .nil iQ (qQ (jv 0) (qQ xQ jQ)))) (wQ (kX (i := 9) S.nd rfl (Or.inl rfl) (yX (qQ aQ (qQ (cQ hX (cZ (qQ aZ (qQ (jv 5) jQ))) (mQ lX hr rfl T.kZ T.k_l_draw T.b_l_draw .nil iQ (qQ (jv 0) (qQ xQ jQ))) (fun _ _ => rfl)) (qQ aQ (qQ (yX (qQ (yX (qQ aQ (qQ (jv 5) jQ))) jQ)) (qQ (yX jQ) (qQ (mZ aJ rfl T.tX rfl (qQ (yZ vV (jv 6) (qJ (cT aD xQ)) zJ) jQ)) jQ)))))))) (uQ (zX (iX (jY (sQ wZ (jv 8) xQ (oQ _)) (uV (sQ eG (gQ qX rfl T.aX rfl (qQ (jv 1) jQ)) (bX fJ (jv 2) xQ) (oQ _))))) (uQ (zK (uG PySem.F.plainAttrs_list PySem.F.slot_list_append PySem.F.type_list_append aV (jv 6) (qQ (yX (qQ aQ (qQ aZ (qQ (cQ hX (jv 1) (bX fJ (bX fJ (jv 2) xQ) (mQ lX hr rfl T.kZ T.k_l_draw T.b_l_draw .nil iQ (qQ (jv 0) (qQ (bX oH (bX oH (gQ qX rfl T.aX rfl (qQ (jv 1) jQ)) (jv 2)) xQ) jQ)))) (fun _ _ => rfl)) (qQ (yX (qQ (yX (qQ aQ (qQ (jv 5) jQ))) jQ)) jQ))))) jQ)))) (uQ (zX (sQ wZ (jv 8) xQ (oQ _)) (uQ (zK (uG PySem.F.plainAttrs_list PySem.F.slot_list_append PySem.F.type_list_append aV (jv 6) (qQ (yX (qQ aQ (qQ (jv 5) (qQ (yX (qQ (jv 9) jQ)) (qQ (mZ aJ rfl T.tX rfl (qQ (yZ vV (jv 6) (qJ (cT aD xQ)) zJ) jQ)) jQ))))) jQ)))) (uQ (zX (sQ wZ (jv 8) xQ (oQ _)) (uQ (zK (uG PySem.F.plainAttrs_list PySem.F.slot_list_append PySem.F.type_list_append aV (jv 6) (qQ (yX (qQ aQ (qQ aQ (qQ (jv 5) (qQ (yX (qQ (bX lO (yZ uR (jv 9) zJ (qJ xQ)) (yX (qQ (yX (qQ (yX (qQ aQ (qQ (yX (qQ aQ (qQ aQ jQ))) jQ))) jQ)) (qQ (yX jQ) (qQ (yX jQ) jQ))))) jQ)) jQ))))) jQ)))) (uQ (zK (uG PySem.F.plainAttrs_list PySem.F.slot_list_append PySem.F.type_list_append aV (jv 6) (qQ (jv 9) jQ))))))))))))) (uQ (pQ (yX (qQ (cQ hX (jv 1) (jv 2) (fun _ _ => rfl)) (qQ (jv 4) (qQ (bX Jz (yX (qQ (yX (qQ aQ (qQ (jv 5) jQ))) jQ)) (mQ lX hr rfl T.kZ T.k_l_draw T.b_l_draw .nil iQ (qQ (jv 0) (qQ xQ jQ)))) (qQ (mZ aJ rfl T.tX rfl (qQ (yZ vV (jv 6) zJ (qJ xQ)) jQ)) jQ))))))))), ?_⟩
  intro H1 bx kb z j rv RT oln lkb hbx hz hj3 hj6 hrv hR g eA
  have hjn : j.natAbs ≤ 1000000000 := by omega
  have hj : nM (.int j) = true := by
   show (decide (-1000000000 ≤ j) && decide (j ≤ 1000000000)) = true
   rw [decide_eq_true (by omega), decide_eq_true (by omega)]
   rfl
  have g00 := g
  have eA0 := eA
  refine ⟨sZ0, fun D hD => ?_⟩
  have sD := kQ hD (.lst [])
  have nD : D ≠ t := g.st.ne hD
  have oD0 : (upd H1 D (.lst [])) D = some (.lst []) := zQ
  have g := g.same sD
  have e0 : Ext t H1 _ := Ext.same sD
  generalize (upd H1 D (.lst [])) = HY at oD0 g e0 ⊢
  refine ⟨_, rfl, t, 4, sc, ns, rfl, g.st, by decide, by decide, fun kr H2 kr0 kr1 st2 e2 => ⟨_, rfl, by omega, by omega, ?_⟩⟩
  have oD0 := e2 _ _ nD oD0
  have e0 := e0.trans e2
  refine jH (fun i σ' H' => ∃ (ls : List V) (tl : List Tr) (x7 x8 x9 : Option V), σ' = [some (.ref t), some (.ref ln), some (.int k), some (.str z), some (.ref bx), some rv, some (.ref D), x7, x8, x9] ∧ H' D = some (.lst ls) ∧ LL (List.replicate kb z) (NS.drop (k + 1)) i tl ∧ Rpts (fun x => A x ∨ x = D) H' ls tl ∧ St1 K H' t sc ns ∧ Ext t H1 H') ⟨[], [], none, none, none, rfl, oD0, .nil, .nil, st2, e0⟩ ?_ ?_
  ·rintro i σ' H' hi ⟨ls, tl, x7, x8, x9, rfl, oD, hLL, hls, st, eB⟩
   have hi3 : i < 3 := by omega
   have hll := hls.len
   have htl := (hLL.all (by omega)).1
   have g := (g00.after eB st).more (d := D) (by rw [oD]; exact fun z => nomatch z)
   have hrv : Rpt (fun x => A x ∨ x = D) H' rv RT := (Rpt.avoid hD hrv).ext fun b o nb q => eB b o (fun z => nb (.inl (by rw [z]; exact g00.has))) q
   have oln := eB _ _ nln oln
   have eA : Ext t H' H' := Ext.refl
   refine ⟨_, rfl, t, 5, sc, ns, rfl, g.st, by decide, by decide, fun k1 H2 k1a k1b st3 e4 => ?_⟩
   have hrv := g.keepR e4 hrv
   have hls := g.keepRs e4 hls
   have oD := e4 _ _ nD oD
   have oln := e4 _ _ nln oln
   have g := g.after e4 st3
   have eA := eA.trans e4
   refine ⟨_, rfl, sZ2, fun p5 q6 => ?_⟩
   have s7 := kQ q6 (.lst [.non, rv])
   have np5 : p5 ≠ t := g.st.ne q6
   have op5 : (upd H2 p5 (.lst [.non, rv])) p5 = some (.lst [.non, rv]) := zQ
   have hrv := hrv.same s7
   have hls := hls.same s7
   have oD := s7 _ _ oD
   have oln := s7 _ _ oln
   have g := g.same s7
   have eA := eA.trans (Ext.same s7)
   generalize (upd H2 p5 (.lst [.non, rv])) = H8 at hrv hls oD oln g eA op5 ⊢
   refine ⟨_, rfl, t, 2, sc, ns, rfl, g.st, by decide, by decide, fun k9 H10 k9a k9b st11 e12 => ?_⟩
   have hrv := g.keepR e12 hrv
   have hls := g.keepRs e12 hls
   have oD := e12 _ _ nD oD
   have oln := e12 _ _ nln oln
   have op5 := e12 _ _ np5 op5
   have g := g.after e12 st11
   have eA := eA.trans e12
   obtain ⟨v13, Tv13, av13, hv13, bv13⟩ : ∃ x T, atI [V.non, rv] k9 = some x ∧ Rpt ((fun x => A x ∨ x = D)) H10 x T ∧ Key1 (List.replicate kb z) T := by
    have c : k9 = 0 ∨ k9 = 1 := by omega
    rcases c with rfl | rfl
    ·exact ⟨_, _, rfl, .non, Key1.non⟩
    ·exact ⟨_, _, rfl, hrv, hR.key⟩
   refine ⟨p5, _, _, _, rfl, rfl, SqL.of op5, av13, _, rfl, sZ2, fun p14 q15 => ?_⟩
   have s16 := kQ q15 (.tup [.str "x", rv])
   have hp14 := Rpt.tup (A := (fun x => A x ∨ x = D)) (g.fresh q15) (zQ (o := .tup [.str "x", rv])) (Rpts.same s16 (.cons (.str _) (.cons hrv .nil)))
   have hrv := hrv.same s16
   have hv13 := hv13.same s16
   have hls := hls.same s16
   have oD := s16 _ _ oD
   have oln := s16 _ _ oln
   have g := g.same s16
   have eA := eA.trans (Ext.same s16)
   generalize (upd H10 p14 (.tup [.str "x", rv])) = H17 at hrv hv13 hls oD oln g eA hp14 ⊢
   refine ⟨sZ1, fun p18 q19 => ?_⟩
   have s20 := kQ q19 (.tup [.ref p14])
   have hp18 := Rpt.tup (A := (fun x => A x ∨ x = D)) (g.fresh q19) (zQ (o := .tup [.ref p14])) (Rpts.same s20 (.cons hp14 .nil))
   have hrv := hrv.same s20
   have hv13 := hv13.same s20
   have hp14 := hp14.same s20
   have hls := hls.same s20
   have oD := s20 _ _ oD
   have oln := s20 _ _ oln
   have g := g.same s20
   have eA := eA.trans (Ext.same s20)
   generalize (upd H17 p18 (.tup [.ref p14])) = H21 at hrv hv13 hp14 hls oD oln g eA hp18 ⊢
   refine ⟨sZ0, fun p22 q23 => ?_⟩
   have s24 := kQ q23 (.tup [])
   have hp22 := Rpt.tup (A := (fun x => A x ∨ x = D)) (g.fresh q23) (zQ (o := .tup [])) (Rpts.same s24 .nil)
   have hrv := hrv.same s24
   have hv13 := hv13.same s24
   have hp14 := hp14.same s24
   have hp18 := hp18.same s24
   have hls := hls.same s24
   have oD := s24 _ _ oD
   have oln := s24 _ _ oln
   have g := g.same s24
   have eA := eA.trans (Ext.same s24)
   generalize (upd H21 p22 (.tup [])) = H25 at hrv hv13 hp14 hp18 hls oD oln g eA hp22 ⊢
   refine ⟨_, rfl, _, rfl, _, rfl, D, _, rfl, SqL.of oD, fun p26 q27 => ?_⟩
   have s28 := kQ q27 (.lst (oX ls (some (-1)) none))
   have op26 : (upd H25 p26 (.lst (oX ls (some (-1)) none))) p26 = some (.lst (oX ls (some (-1)) none)) := zQ
   have hrv := hrv.same s28
   have hv13 := hv13.same s28
   have hp14 := hp14.same s28
   have hp18 := hp18.same s28
   have hp22 := hp22.same s28
   have hls := hls.same s28
   have oD := s28 _ _ oD
   have oln := s28 _ _ oln
   have g := g.same s28
   have eA := eA.trans (Ext.same s28)
   generalize (upd H25 p26 (.lst (oX ls (some (-1)) none))) = H29 at hrv hv13 hp14 hp18 hp22 hls oD oln g eA op26 ⊢
   refine ⟨p26, _, rfl, .inl ⟨SqL.of op26, fun p30 q31 => ?_⟩⟩
   have s32 := kQ q31 (.tup (oX ls (some (-1)) none))
   have hp30 := Rpt.tup (A := (fun x => A x ∨ x = D)) (g.fresh q31) (zQ (o := .tup (oX ls (some (-1)) none))) (Rpts.same s32 (Rpts.last hls))
   have hrv := hrv.same s32
   have hv13 := hv13.same s32
   have hp14 := hp14.same s32
   have hp18 := hp18.same s32
   have hp22 := hp22.same s32
   have hls := hls.same s32
   have oD := s32 _ _ oD
   have oln := s32 _ _ oln
   have g := g.same s32
   have eA := eA.trans (Ext.same s32)
   generalize (upd H29 p30 (.tup (oX ls (some (-1)) none))) = H33 at hrv hv13 hp14 hp18 hp22 hls oD oln g eA hp30 ⊢
   refine ⟨(by show 6 ≤ sizeLine; decide), fun p34 q35 => ?_⟩
   have s36 := kQ q35 (.tup [.str "plain", v13, .str "a", .ref p18, .ref p22, .ref p30])
   have hp34 := Rpt.tup (A := (fun x => A x ∨ x = D)) (g.fresh q35) (zQ (o := .tup [.str "plain", v13, .str "a", .ref p18, .ref p22, .ref p30])) (Rpts.same s36 (.cons (.str _) (.cons hv13 (.cons (.str _) (.cons hp18 (.cons hp22 (.cons hp30 .nil)))))))
   have op34 : (upd H33 p34 (.tup [.str "plain", v13, .str "a", .ref p18, .ref p22, .ref p30])) p34 = some (.tup [.str "plain", v13, .str "a", .ref p18, .ref p22, .ref p30]) := zQ
   have hrv := hrv.same s36
   have hv13 := hv13.same s36
   have hp14 := hp14.same s36
   have hp18 := hp18.same s36
   have hp22 := hp22.same s36
   have hp30 := hp30.same s36
   have hls := hls.same s36
   have oD := s36 _ _ oD
   have oln := s36 _ _ oln
   have g := g.same s36
   have eA := eA.trans (Ext.same s36)
   generalize (upd H33 p34 (.tup [.str "plain", v13, .str "a", .ref p18, .ref p22, .ref p30])) = H37 at hrv hv13 hp14 hp18 hp22 hp30 hls oD oln g eA op34 hp34 ⊢
   have cw5 : k1 = 0 ∨ k1 = 1 ∨ k1 = 2 ∨ (k1 ≠ 0 ∧ k1 ≠ 1 ∧ k1 ≠ 2) := by omega
   rcases cw5 with rfl | rfl | rfl | ⟨w0, w1, w2⟩
   ·refine ⟨_, rfl, rfl, _, rfl, nQ ⟨_, rfl, _, _, rfl, .inl ⟨_, SqL.of oln, rfl⟩, _, rfl, _, _, rfl, rfl, _, _, rfl, rfl, _, rfl, wH (fun hd => ?_) (fun _ => ?_)⟩⟩
    ·have hd := of_decide_eq_true hd
     rw [List.length_map] at hd
     refine ⟨_, rfl, .inl ⟨rfl, ls, SqL.of oD⟩, _, rfl, _, rfl, _, _, rfl, rfl, _, rfl, _, rfl, _, _, rfl, .inl ⟨_, SqL.of oln, rfl⟩, _, rfl, _, _, rfl, rfl, _, _, rfl, rfl, t, _, sc, ns, rfl, g.st, (by rw [List.length_map]; omega), (by rw [List.length_map]; omega), fun k38 H39 k38a k38b st40 e41 => ?_⟩
     have hrv := g.keepR e41 hrv
     have hv13 := g.keepR e41 hv13
     have hp14 := g.keepR e41 hp14
     have hp18 := g.keepR e41 hp18
     have hp22 := g.keepR e41 hp22
     have hp30 := g.keepR e41 hp30
     have hp34 := g.keepR e41 hp34
     have hls := g.keepRs e41 hls
     have oD := e41 _ _ nD oD
     have oln := e41 _ _ nln oln
     have g := g.after e41 st40
     have eA := eA.trans e41
     rw [List.length_map] at k38b
     obtain ⟨gn, av7, hgn⟩ := at_drop (NS := NS) (k := k) k38a k38b
     refine ⟨_, _, rfl, rfl, ln, _, _, _, rfl, rfl, SqL.of oln, av7, _, rfl, sZ2, fun p42 q43 => ?_⟩
     have s44 := kQ q43 (.tup [.str "a", rv])
     have hp42 := Rpt.tup (A := (fun x => A x ∨ x = D)) (g.fresh q43) (zQ (o := .tup [.str "a", rv])) (Rpts.same s44 (.cons (.str _) (.cons hrv .nil)))
     have hls := hls.same s44
     have oD := s44 _ _ oD
     have g := g.same s44
     have eA := eA.trans (Ext.same s44)
     generalize (upd H39 p42 (.tup [.str "a", rv])) = H45 at hls oD g eA hp42 ⊢
     refine ⟨sZ1, fun p46 q47 => ?_⟩
     have s48 := kQ q47 (.tup [.ref p42])
     have hp46 := Rpt.tup (A := (fun x => A x ∨ x = D)) (g.fresh q47) (zQ (o := .tup [.ref p42])) (Rpts.same s48 (.cons hp42 .nil))
     have hls := hls.same s48
     have oD := s48 _ _ oD
     have g := g.same s48
     have eA := eA.trans (Ext.same s48)
     generalize (upd H45 p46 (.tup [.ref p42])) = H49 at hls oD g eA hp46 ⊢
     refine ⟨sZ4, fun p50 q51 => ?_⟩
     have s52 := kQ q51 (.tup [.str "part", .non, .str gn, .ref p46])
     have hp50 := Rpt.tup (A := (fun x => A x ∨ x = D)) (g.fresh q51) (zQ (o := .tup [.str "part", .non, .str gn, .ref p46])) (Rpts.same s52 (.cons (.str _) (.cons .non (.cons (.str gn) (.cons hp46 .nil)))))
     have hls := hls.same s52
     have oD := s52 _ _ oD
     have g := g.same s52
     have eA := eA.trans (Ext.same s52)
     generalize (upd H49 p50 (.tup [.str "part", .non, .str gn, .ref p46])) = H53 at hls oD g eA hp50 ⊢
     refine ⟨D, ls, _, rfl, rfl, oD, (by omega), ?_⟩
     have stE := xU (o := .lst (ls ++ [.ref p50])) g00.st hD (eB.trans eA) g.st
     exact ⟨ls ++ [.ref p50], tl ++ [_], _, _, _, rfl, zQ, hLL.part hgn (hNS gn (List.mem_of_mem_drop hgn)).1 (hNS gn (List.mem_of_mem_drop hgn)).2 hR, Rpts.updD (hls.append (.cons hp50 .nil)), stE.1, stE.2⟩
    ·refine ⟨_, rfl, rfl, _, rfl, bQ ⟨_, rfl, rfl, _, rfl, bQ ?_⟩⟩
     refine ⟨_, rfl, .inl ⟨rfl, ls, SqL.of oD⟩, _, rfl, D, ls, _, rfl, rfl, oD, (by omega), ?_⟩
     have stE := xU (o := .lst (ls ++ [.ref p34])) g00.st hD (eB.trans eA) g.st
     exact ⟨ls ++ [.ref p34], tl ++ [_], _, _, _, rfl, zQ, hLL.plain bv13 hR, Rpts.updD (hls.append (.cons hp34 .nil)), stE.1, stE.2⟩
   ·refine ⟨_, rfl, rfl, _, rfl, bQ (bQ ⟨_, rfl, rfl, _, rfl, nQ ?_⟩)⟩
    refine ⟨_, rfl, .inl ⟨rfl, ls, SqL.of oD⟩, _, rfl, _, rfl, sZ1, fun p38 q39 => ?_⟩
    have s40 := kQ q39 (.tup [.ref p34])
    have hp38 := Rpt.tup (A := (fun x => A x ∨ x = D)) (g.fresh q39) (zQ (o := .tup [.ref p34])) (Rpts.same s40 (.cons hp34 .nil))
    have hrv := hrv.same s40
    have hls := hls.same s40
    have oD := s40 _ _ oD
    have g := g.same s40
    have eA := eA.trans (Ext.same s40)
    generalize (upd H37 p38 (.tup [.ref p34])) = H41 at hrv hls oD g eA hp38 ⊢
    refine ⟨_, rfl, _, rfl, _, rfl, D, _, rfl, SqL.of oD, fun p42 q43 => ?_⟩
    have s44 := kQ q43 (.lst (oX ls (some (-1)) none))
    have op42 : (upd H41 p42 (.lst (oX ls (some (-1)) none))) p42 = some (.lst (oX ls (some (-1)) none)) := zQ
    have hrv := hrv.same s44
    have hp38 := hp38.same s44
    have hls := hls.same s44
    have oD := s44 _ _ oD
    have g := g.same s44
    have eA := eA.trans (Ext.same s44)
    generalize (upd H41 p42 (.lst (oX ls (some (-1)) none))) = H45 at hrv hp38 hls oD g eA op42 ⊢
    refine ⟨p42, _, rfl, .inl ⟨SqL.of op42, fun p46 q47 => ?_⟩⟩
    have s48 := kQ q47 (.tup (oX ls (some (-1)) none))
    have hp46 := Rpt.tup (A := (fun x => A x ∨ x = D)) (g.fresh q47) (zQ (o := .tup (oX ls (some (-1)) none))) (Rpts.same s48 (Rpts.last hls))
    have hrv := hrv.same s48
    have hp38 := hp38.same s48
    have hls := hls.same s48
    have oD := s48 _ _ oD
    have g := g.same s48
    have eA := eA.trans (Ext.same s48)
    generalize (upd H45 p46 (.tup (oX ls (some (-1)) none))) = H49 at hrv hp38 hls oD g eA hp46 ⊢
    refine ⟨sZ4, fun p50 q51 => ?_⟩
    have s52 := kQ q51 (.tup [.str "when", rv, .ref p38, .ref p46])
    have hp50 := Rpt.tup (A := (fun x => A x ∨ x = D)) (g.fresh q51) (zQ (o := .tup [.str "when", rv, .ref p38, .ref p46])) (Rpts.same s52 (.cons (.str _) (.cons hrv (.cons hp38 (.cons hp46 .nil)))))
    have hls := hls.same s52
    have oD := s52 _ _ oD
    have g := g.same s52
    have eA := eA.trans (Ext.same s52)
    generalize (upd H49 p50 (.tup [.str "when", rv, .ref p38, .ref p46])) = H53 at hls oD g eA hp50 ⊢
    refine ⟨D, ls, _, rfl, rfl, oD, (by omega), ?_⟩
    have stE := xU (o := .lst (ls ++ [.ref p50])) g00.st hD (eB.trans eA) g.st
    exact ⟨ls ++ [.ref p50], tl ++ [_], _, _, _, rfl, zQ, hLL.when bv13 hR, Rpts.updD (hls.append (.cons hp50 .nil)), stE.1, stE.2⟩
   ·refine ⟨_, rfl, rfl, _, rfl, bQ (bQ ⟨_, rfl, rfl, _, rfl, bQ ⟨_, rfl, rfl, _, rfl, nQ ?_⟩⟩)⟩
    refine ⟨_, rfl, .inl ⟨rfl, ls, SqL.of oD⟩, _, rfl, _, rfl, _, rfl, p34, _, rfl, SqT.of op34, (by show ¬ (HT.sIx 6 0 none = 0 ∧ HT.sIx 6 6 (some 3) = 6); decide), fun p3 q3 => ?_⟩
    have ap3 : ¬ (fun x => A x ∨ x = D) p3 := g.fresh q3
    have s38 := kQ q3 (.tup (oX [.str "plain", v13, .str "a", .ref p18, .ref p22, .ref p30] none (some 3)))
    have op3 : (upd H37 p3 (.tup (oX [.str "plain", v13, .str "a", .ref p18, .ref p22, .ref p30] none (some 3)))) p3 = some (.tup (oX [.str "plain", v13, .str "a", .ref p18, .ref p22, .ref p30] none (some 3))) := zQ
    have hrv := hrv.same s38
    have hv13 := hv13.same s38
    have hls := hls.same s38
    have oD := s38 _ _ oD
    have g := g.same s38
    have eA := eA.trans (Ext.same s38)
    generalize (upd H37 p3 (.tup (oX [.str "plain", v13, .str "a", .ref p18, .ref p22, .ref p30] none (some 3)))) = H39 at hrv hv13 hls oD g eA op3 ⊢
    have op3 : H39 p3 = some (.tup [.str "plain", v13, .str "a"]) := op3
    refine ⟨sZ2, fun p40 q41 => ?_⟩
    have s42 := kQ q41 (.tup [.str "turn", .str "t"])
    have hp40 := Rpt.tup (A := (fun x => A x ∨ x = D)) (g.fresh q41) (zQ (o := .tup [.str "turn", .str "t"])) (Rpts.same s42 (.cons (.str _) (.cons (.str _) .nil)))
    have hrv := hrv.same s42
    have hv13 := hv13.same s42
    have hls := hls.same s42
    have oD := s42 _ _ oD
    have op3 := s42 _ _ op3
    have g := g.same s42
    have eA := eA.trans (Ext.same s42)
    generalize (upd H39 p40 (.tup [.str "turn", .str "t"])) = H43 at hrv hv13 hls oD op3 g eA hp40 ⊢
    refine ⟨sZ2, fun p44 q45 => ?_⟩
    have s46 := kQ q45 (.tup [.str "x", .ref p40])
    have hp44 := Rpt.tup (A := (fun x => A x ∨ x = D)) (g.fresh q45) (zQ (o := .tup [.str "x", .ref p40])) (Rpts.same s46 (.cons (.str _) (.cons hp40 .nil)))
    have hrv := hrv.same s46
    have hv13 := hv13.same s46
    have hls := hls.same s46
    have oD := s46 _ _ oD
    have op3 := s46 _ _ op3
    have g := g.same s46
    have eA := eA.trans (Ext.same s46)
    generalize (upd H43 p44 (.tup [.str "x", .ref p40])) = H47 at hrv hv13 hls oD op3 g eA hp44 ⊢
    refine ⟨sZ1, fun p48 q49 => ?_⟩
    have s50 := kQ q49 (.tup [.ref p44])
    have hp48 := Rpt.tup (A := (fun x => A x ∨ x = D)) (g.fresh q49) (zQ (o := .tup [.ref p44])) (Rpts.same s50 (.cons hp44 .nil))
    have hrv := hrv.same s50
    have hv13 := hv13.same s50
    have hls := hls.same s50
    have oD := s50 _ _ oD
    have op3 := s50 _ _ op3
    have g := g.same s50
    have eA := eA.trans (Ext.same s50)
    generalize (upd H47 p48 (.tup [.ref p44])) = H51 at hrv hv13 hls oD op3 g eA hp48 ⊢
    refine ⟨sZ0, fun p52 q53 => ?_⟩
    have s54 := kQ q53 (.tup [])
    have hp52 := Rpt.tup (A := (fun x => A x ∨ x = D)) (g.fresh q53) (zQ (o := .tup [])) (Rpts.same s54 .nil)
    have hrv := hrv.same s54
    have hv13 := hv13.same s54
    have hp48 := hp48.same s54
    have hls := hls.same s54
    have oD := s54 _ _ oD
    have op3 := s54 _ _ op3
    have g := g.same s54
    have eA := eA.trans (Ext.same s54)
    generalize (upd H51 p52 (.tup [])) = H55 at hrv hv13 hp48 hls oD op3 g eA hp52 ⊢
    refine ⟨sZ0, fun p56 q57 => ?_⟩
    have s58 := kQ q57 (.tup [])
    have hp56 := Rpt.tup (A := (fun x => A x ∨ x = D)) (g.fresh q57) (zQ (o := .tup [])) (Rpts.same s58 .nil)
    have hrv := hrv.same s58
    have hv13 := hv13.same s58
    have hp48 := hp48.same s58
    have hp52 := hp52.same s58
    have hls := hls.same s58
    have oD := s58 _ _ oD
    have op3 := s58 _ _ op3
    have g := g.same s58
    have eA := eA.trans (Ext.same s58)
    generalize (upd H55 p56 (.tup [])) = H59 at hrv hv13 hp48 hp52 hls oD op3 g eA hp56 ⊢
    refine ⟨sZ3, fun p60 q61 => ?_⟩
    have s62 := kQ q61 (.tup [.ref p48, .ref p52, .ref p56])
    have hp60 := Rpt.tup (A := (fun x => A x ∨ x = D)) (g.fresh q61) (zQ (o := .tup [.ref p48, .ref p52, .ref p56])) (Rpts.same s62 (.cons hp48 (.cons hp52 (.cons hp56 .nil))))
    have op60 : (upd H59 p60 (.tup [.ref p48, .ref p52, .ref p56])) p60 = some (.tup [.ref p48, .ref p52, .ref p56]) := zQ
    have hrv := hrv.same s62
    have hv13 := hv13.same s62
    have hp48 := hp48.same s62
    have hp52 := hp52.same s62
    have hp56 := hp56.same s62
    have hls := hls.same s62
    have oD := s62 _ _ oD
    have op3 := s62 _ _ op3
    have g := g.same s62
    have eA := eA.trans (Ext.same s62)
    generalize (upd H59 p60 (.tup [.ref p48, .ref p52, .ref p56])) = H63 at hrv hv13 hp48 hp52 hp56 hls oD op3 g eA op60 hp60 ⊢
    refine ⟨p3, p60, _, _, rfl, rfl, op3, op60, (by show 3 + 3 ≤ sizeLine; decide), fun rc Hrc src orc frc => ?_⟩
    have arc : ¬ (fun x => A x ∨ x = D) rc := by
     rcases frc with h | rfl | rfl
     ·exact g.fresh h
     ·exact ap3
     ·exact hp60.clear
    have hrv := hrv.same src
    have hv13 := hv13.same src
    have hp48 := hp48.same src
    have hp52 := hp52.same src
    have hp56 := hp56.same src
    have hls := hls.same src
    have oD := src _ _ oD
    have g := g.same src
    have eA := eA.trans (Ext.same src)
    have hrc := Rpt.tup arc orc (.cons (.str _) (.cons hv13 (.cons (.str _) (.cons hp48 (.cons hp52 (.cons hp56 .nil))))))
    refine ⟨sZ1, fun p64 q65 => ?_⟩
    have s66 := kQ q65 (.tup [.ref rc])
    have hp64 := Rpt.tup (A := (fun x => A x ∨ x = D)) (g.fresh q65) (zQ (o := .tup [.ref rc])) (Rpts.same s66 (.cons hrc .nil))
    have hrv := hrv.same s66
    have hls := hls.same s66
    have oD := s66 _ _ oD
    have g := g.same s66
    have eA := eA.trans (Ext.same s66)
    generalize (upd Hrc p64 (.tup [.ref rc])) = H67 at hrv hls oD g eA hp64 ⊢
    refine ⟨sZ4, fun p68 q69 => ?_⟩
    have s70 := kQ q69 (.tup [.str "each", .str "t", rv, .ref p64])
    have hp68 := Rpt.tup (A := (fun x => A x ∨ x = D)) (g.fresh q69) (zQ (o := .tup [.str "each", .str "t", rv, .ref p64])) (Rpts.same s70 (.cons (.str _) (.cons (.str _) (.cons hrv (.cons hp64 .nil)))))
    have hls := hls.same s70
    have oD := s70 _ _ oD
    have g := g.same s70
    have eA := eA.trans (Ext.same s70)
    generalize (upd H67 p68 (.tup [.str "each", .str "t", rv, .ref p64])) = H71 at hls oD g eA hp68 ⊢
    refine ⟨D, ls, _, rfl, rfl, oD, (by omega), ?_⟩
    have stE := xU (o := .lst (ls ++ [.ref p68])) g00.st hD (eB.trans eA) g.st
    exact ⟨ls ++ [.ref p68], tl ++ [_], _, _, _, rfl, zQ, hLL.each bv13 hR, Rpts.updD (hls.append (.cons hp68 .nil)), stE.1, stE.2⟩
   ·have e0 : decide (V.int k1 = V.int 0) = false := decide_eq_false (fun z => w0 (by cases z; rfl))
    have e1' : decide (V.int k1 = V.int 1) = false := decide_eq_false (fun z => w1 (by cases z; rfl))
    have e2 : decide (V.int k1 = V.int 2) = false := decide_eq_false (fun z => w2 (by cases z; rfl))
    refine ⟨_, rfl, rfl, _, rfl, ?_⟩
    rw [e0]
    refine bQ (bQ ⟨_, rfl, rfl, _, rfl, ?_⟩)
    rw [e1']
    refine bQ ⟨_, rfl, rfl, _, rfl, ?_⟩
    rw [e2]
    refine bQ ?_
    refine ⟨_, rfl, .inl ⟨rfl, ls, SqL.of oD⟩, _, rfl, D, ls, _, rfl, rfl, oD, (by omega), ?_⟩
    have stE := xU (o := .lst (ls ++ [.ref p34])) g00.st hD (eB.trans eA) g.st
    exact ⟨ls ++ [.ref p34], tl ++ [_], _, _, _, rfl, zQ, hLL.plain bv13 hR, Rpts.updD (hls.append (.cons hp34 .nil)), stE.1, stE.2⟩
  ·rintro σ' H' ⟨ls, tl, x7, x8, x9, rfl, oD, hLL, hls, st, eB⟩
   have hn : kr.toNat ≤ 3 := by omega
   have hll := hls.len
   have htl := (hLL.all hn).1
   have g := g00.after eB st
   have hls : Rpts A H' ls tl := hls.less fun b hb => .inl hb
   have hrv := g00.keepR eB hrv
   have hbx := g00.keepR eB hbx
   have oln := eB _ _ nln oln
   have ank : atI (NS.map V.str) ((k : Nat) : Int) = some (.str nn) := jV (by rw [List.getElem?_map, hnk]; rfl)
   have eA : Ext t H' H' := Ext.refl
   refine ⟨_, rfl, _, rfl, ln, _, _, _, rfl, rfl, SqL.of oln, ank, _, rfl, _, rfl, sZ2, fun p1 q2 => ?_⟩
   have s3 := kQ q2 (.tup [.str "w", rv])
   have hp1 := Rpt.tup (A := A) (g.fresh q2) (zQ (o := .tup [.str "w", rv])) (Rpts.same s3 (.cons (.str _) (.cons hrv .nil)))
   have hrv := hrv.same s3
   have hbx := hbx.same s3
   have hls := hls.same s3
   have oD := s3 _ _ oD
   have g := g.same s3
   have eA := eA.trans (Ext.same s3)
   generalize (upd H' p1 (.tup [.str "w", rv])) = H4 at hrv hbx hls oD g eA hp1 ⊢
   refine ⟨sZ1, fun p5 q6 => ?_⟩
   have s7 := kQ q6 (.tup [.ref p1])
   have np5 : p5 ≠ t := g.st.ne q6
   have hp5 := Rpt.tup (A := A) (g.fresh q6) (zQ (o := .tup [.ref p1])) (Rpts.same s7 (.cons hp1 .nil))
   have op5 : (upd H4 p5 (.tup [.ref p1])) p5 = some (.tup [.ref p1]) := zQ
   have hrv := hrv.same s7
   have hbx := hbx.same s7
   have hp1 := hp1.same s7
   have hls := hls.same s7
   have oD := s7 _ _ oD
   have g := g.same s7
   have eA := eA.trans (Ext.same s7)
   generalize (upd H4 p5 (.tup [.ref p1])) = H8 at hrv hbx hp1 hls oD g eA op5 hp5 ⊢
   refine ⟨_, rfl, t, 2, sc, ns, rfl, g.st, by decide, by decide, fun k9 H10 k9a k9b st11 e12 => ?_⟩
   have hrv := g.keepR e12 hrv
   have hbx := g.keepR e12 hbx
   have hp1 := g.keepR e12 hp1
   have hp5 := g.keepR e12 hp5
   have hls := g.keepRs e12 hls
   have oD := e12 _ _ nD oD
   have op5 := e12 _ _ np5 op5
   have g := g.after e12 st11
   have eA := eA.trans e12
   refine ⟨p5, k9, .ref p1, rfl, rfl, op5, k9a, (by omega), fun r13 H14 s15 or13 f16 => ?_⟩
   have ar13 : ¬ A r13 := by
    rcases f16 with h | rfl
    ·exact g.fresh h
    ·exact hp5.clear
   have nr13 : r13 ≠ t := fun e => ar13 (by rw [e]; exact g.has)
   have hbx := hbx.same s15
   have hp1 := hp1.same s15
   have hls := hls.same s15
   have oD := s15 _ _ oD
   have g := g.same s15
   have eA := eA.trans (Ext.same s15)
   have hr13 := Rpt.tup ar13 or13 (Rpts.rep1 hp1 k9.toNat)
   refine ⟨_, rfl, _, rfl, D, _, rfl, SqL.of oD, fun p17 q18 => ?_⟩
   have s19 := kQ q18 (.lst (oX ls none (some 4)))
   have op17 : (upd H14 p17 (.lst (oX ls none (some 4)))) p17 = some (.lst (oX ls none (some 4))) := zQ
   have hbx := hbx.same s19
   have hr13 := hr13.same s19
   have hls := hls.same s19
   have g := g.same s19
   have eA := eA.trans (Ext.same s19)
   generalize (upd H14 p17 (.lst (oX ls none (some 4)))) = H20 at hbx hr13 hls g eA op17 ⊢
   refine ⟨p17, _, rfl, .inl ⟨SqL.of op17, fun p21 q22 => ?_⟩⟩
   have s23 := kQ q22 (.tup (oX ls none (some 4)))
   have hp21 := Rpt.tup (A := A) (g.fresh q22) (zQ (o := .tup (oX ls none (some 4)))) (Rpts.same s23 (Rpts.four hls (by omega)))
   have hbx := hbx.same s23
   have hr13 := hr13.same s23
   have g := g.same s23
   have eA := eA.trans (Ext.same s23)
   generalize (upd H20 p21 (.tup (oX ls none (some 4)))) = H24 at hbx hr13 g eA hp21 ⊢
   refine ⟨sZ4, fun p25 q26 => ?_⟩
   have s27 := kQ q26 (.tup [.str nn, .ref bx, .ref r13, .ref p21])
   have hp25 := Rpt.tup (A := A) (g.fresh q26) (zQ (o := .tup [.str nn, .ref bx, .ref r13, .ref p21])) (Rpts.same s27 (.cons (.str nn) (.cons hbx (.cons hr13 (.cons hp21 .nil)))))
   have g := g.same s27
   have eA := eA.trans (Ext.same s27)
   generalize (upd H24 p25 (.tup [.str nn, .ref bx, .ref r13, .ref p21])) = H28 at g eA hp25 ⊢
   have hpt := part_ok (nn := nn) (kw := k9.toNat) (hNS nn (List.mem_of_getElem? hnk)).1 lkb (by rcases hz with rfl | rfl | rfl <;> decide +kernel) hj (by omega) hR hLL hn
   exact q _ _ _ hp25 rfl hpt.1 hpt.2 (part_w (hNS nn (List.mem_of_getElem? hnk)).2 lkb (by rcases hz with rfl | rfl | rfl <;> decide +kernel) (by omega) hR.w (Nat.le_trans (hLL.all hn).2.2.2.1 (vN_le hn))) (VF hjn lkb (by omega) hR.d (sY (hLL.all hn).2.2.2.2 (by omega))) g.st (eA0.trans (eB.trans eA))
 obtain ⟨tR, pR, cR⟩ := R4
 refine ⟨_, (wQ (kX (i := 3) S.nd rfl (Or.inl rfl) (cQ hX (cZ (qQ aQ (qQ aQ (qQ aQ jQ)))) (mQ lX hr rfl T.kZ T.k_l_draw T.b_l_draw .nil iQ (qQ (jv 0) (qQ xQ jQ))) (fun _ _ => rfl))) (wQ (kX (i := 4) S.nd rfl (Or.inl rfl) (bX Jz (yX (qQ (yX (qQ (jv 3) (qQ (bX oH (mQ lX hr rfl T.kZ T.k_l_draw T.b_l_draw .nil iQ (qQ (jv 0) (qQ xQ jQ))) xQ) jQ))) jQ)) (mQ lX hr rfl T.kZ T.k_l_draw T.b_l_draw .nil iQ (qQ (jv 0) (qQ xQ jQ))))) (wQ (kX (i := 5) S.nd rfl (Or.inl rfl) (cQ hX (cZ (qQ (yX (qQ aQ (qQ (mQ lX hr rfl T.kZ T.k_l_draw T.b_l_draw .nil iQ (qQ (jv 0) (qQ xQ jQ))) jQ))) (qQ (yX (qQ aQ (qQ aQ jQ))) (qQ (yX (qQ aQ (qQ aQ jQ))) jQ)))) (mQ lX hr rfl T.kZ T.k_l_draw T.b_l_draw .nil iQ (qQ (jv 0) (qQ xQ jQ))) (fun _ _ => rfl))) (wQ (zX (sQ eG (gQ qX rfl T.aX rfl (qQ (jv 4) jQ)) xQ (oQ _)) (uQ (kX (i := 5) S.nd rfl (Or.inl rfl) (yX (qQ aQ (qQ (yX (qQ aQ (qQ (jv 3) jQ))) (qQ (jv 5) jQ)))))) tQ)
  pR)))), ?_⟩
 have eA : Ext t H H := Ext.refl
 refine ⟨sZ3, fun p1 q2 => ?_⟩
 have s3 := kQ q2 (.lst [.str "a", .str "ab", .str "box"])
 have np1 : p1 ≠ t := g.st.ne q2
 have op1 : (upd H p1 (.lst [.str "a", .str "ab", .str "box"])) p1 = some (.lst [.str "a", .str "ab", .str "box"]) := zQ
 have oln := s3 _ _ oln
 have g := g.same s3
 have eA := eA.trans (Ext.same s3)
 generalize (upd H p1 (.lst [.str "a", .str "ab", .str "box"])) = H4 at oln g eA op1 ⊢
 refine ⟨_, rfl, t, 3, sc, ns, rfl, g.st, by decide, by decide, fun k5 H6 k5a k5b st7 e8 => ?_⟩
 have oln := e8 _ _ nln oln
 have op1 := e8 _ _ np1 op1
 have g := g.after e8 st7
 have eA := eA.trans e8
 obtain ⟨nm, anm, lnm⟩ : ∃ z : Str, atI [V.str "a", .str "ab", .str "box"] k5 = some (.str z) ∧ (z = "a" ∨ z = "ab" ∨ z = "box") := by
  have c : k5 = 0 ∨ k5 = 1 ∨ k5 = 2 := by omega
  rcases c with rfl | rfl | rfl
  ·exact ⟨_, rfl, .inl rfl⟩
  ·exact ⟨_, rfl, .inr (.inl rfl)⟩
  ·exact ⟨_, rfl, .inr (.inr rfl)⟩
 refine ⟨p1, _, _, _, rfl, rfl, SqL.of op1, anm, _, rfl, _, rfl, t, 9, sc, ns, rfl, g.st, by decide, by decide, fun k9 H10 k9a k9b st11 e12 => ?_⟩
 have oln := e12 _ _ nln oln
 have g := g.after e12 st11
 have eA := eA.trans e12
 refine ⟨_, _, rfl, rfl, sZ2, fun p13 q14 => ?_⟩
 have s15 := kQ q14 (.tup [.str nm, .int (k9 - 3)])
 have hp13 := Rpt.tup (A := A) (g.fresh q14) (zQ (o := .tup [.str nm, .int (k9 - 3)])) (Rpts.same s15 (.cons (.str nm) (.cons (.int _) .nil)))
 have oln := s15 _ _ oln
 have g := g.same s15
 have eA := eA.trans (Ext.same s15)
 generalize (upd H10 p13 (.tup [.str nm, .int (k9 - 3)])) = H16 at oln g eA hp13 ⊢
 refine ⟨sZ1, fun p17 q18 => ?_⟩
 have s19 := kQ q18 (.tup [.ref p13])
 have np17 : p17 ≠ t := g.st.ne q18
 have hp17 := Rpt.tup (A := A) (g.fresh q18) (zQ (o := .tup [.ref p13])) (Rpts.same s19 (.cons hp13 .nil))
 have op17 : (upd H16 p17 (.tup [.ref p13])) p17 = some (.tup [.ref p13]) := zQ
 have hp13 := hp13.same s19
 have oln := s19 _ _ oln
 have g := g.same s19
 have eA := eA.trans (Ext.same s19)
 generalize (upd H16 p17 (.tup [.ref p13])) = H20 at hp13 oln g eA op17 hp17 ⊢
 refine ⟨_, rfl, t, 2, sc, ns, rfl, g.st, by decide, by decide, fun k21 H22 k21a k21b st23 e24 => ?_⟩
 have hp13 := g.keepR e24 hp13
 have hp17 := g.keepR e24 hp17
 have oln := e24 _ _ nln oln
 have op17 := e24 _ _ np17 op17
 have g := g.after e24 st23
 have eA := eA.trans e24
 refine ⟨p17, k21, .ref p13, rfl, rfl, op17, k21a, (by omega), fun r25 H26 s27 or25 f28 => ?_⟩
 have ar25 : ¬ A r25 := by
  rcases f28 with h | rfl
  ·exact g.fresh h
  ·exact hp17.clear
 have nr25 : r25 ≠ t := fun e => ar25 (by rw [e]; exact g.has)
 have hp13 := hp13.same s27
 have hp17 := hp17.same s27
 have oln := s27 _ _ oln
 have g := g.same s27
 have eA := eA.trans (Ext.same s27)
 have hr25 := Rpt.tup ar25 or25 (Rpts.rep1 hp13 k21.toNat)
 refine ⟨_, rfl, t, 5, sc, ns, rfl, g.st, by decide, by decide, fun k29 H30 k29a k29b st31 e32 => ?_⟩
 have hp13 := g.keepR e32 hp13
 have hp17 := g.keepR e32 hp17
 have hr25 := g.keepR e32 hr25
 have oln := e32 _ _ nln oln
 have or25 := e32 _ _ nr25 or25
 have g := g.after e32 st31
 have eA := eA.trans e32
 refine ⟨sZ2, fun p33 q34 => ?_⟩
 have s35 := kQ q34 (.tup [.str "num", .int k29])
 have hp33 := Rpt.tup (A := A) (g.fresh q34) (zQ (o := .tup [.str "num", .int k29])) (Rpts.same s35 (.cons (.str _) (.cons (.int _) .nil)))
 have hp13 := hp13.same s35
 have hp17 := hp17.same s35
 have hr25 := hr25.same s35
 have oln := s35 _ _ oln
 have or25 := s35 _ _ or25
 have g := g.same s35
 have eA := eA.trans (Ext.same s35)
 generalize (upd H30 p33 (.tup [.str "num", .int k29])) = H36 at hp13 hp17 hr25 oln or25 g eA hp33 ⊢
 refine ⟨sZ2, fun p37 q38 => ?_⟩
 have s39 := kQ q38 (.tup [.str "take", .str "a"])
 have hp37 := Rpt.tup (A := A) (g.fresh q38) (zQ (o := .tup [.str "take", .str "a"])) (Rpts.same s39 (.cons (.str _) (.cons (.str _) .nil)))
 have hp13 := hp13.same s39
 have hp17 := hp17.same s39
 have hr25 := hr25.same s39
 have hp33 := hp33.same s39
 have oln := s39 _ _ oln
 have or25 := s39 _ _ or25
 have g := g.same s39
 have eA := eA.trans (Ext.same s39)
 generalize (upd H36 p37 (.tup [.str "take", .str "a"])) = H40 at hp13 hp17 hr25 hp33 oln or25 g eA hp37 ⊢
 refine ⟨sZ2, fun p41 q42 => ?_⟩
 have s43 := kQ q42 (.tup [.str "down", .str "end"])
 have hp41 := Rpt.tup (A := A) (g.fresh q42) (zQ (o := .tup [.str "down", .str "end"])) (Rpts.same s43 (.cons (.str _) (.cons (.str _) .nil)))
 have hp13 := hp13.same s43
 have hp17 := hp17.same s43
 have hr25 := hr25.same s43
 have hp33 := hp33.same s43
 have hp37 := hp37.same s43
 have oln := s43 _ _ oln
 have or25 := s43 _ _ or25
 have g := g.same s43
 have eA := eA.trans (Ext.same s43)
 generalize (upd H40 p41 (.tup [.str "down", .str "end"])) = H44 at hp13 hp17 hr25 hp33 hp37 oln or25 g eA hp41 ⊢
 refine ⟨sZ3, fun p45 q46 => ?_⟩
 have s47 := kQ q46 (.lst [.ref p33, .ref p37, .ref p41])
 have np45 : p45 ≠ t := g.st.ne q46
 have op45 : (upd H44 p45 (.lst [.ref p33, .ref p37, .ref p41])) p45 = some (.lst [.ref p33, .ref p37, .ref p41]) := zQ
 have hp13 := hp13.same s47
 have hp17 := hp17.same s47
 have hr25 := hr25.same s47
 have hp33 := hp33.same s47
 have hp37 := hp37.same s47
 have hp41 := hp41.same s47
 have oln := s47 _ _ oln
 have or25 := s47 _ _ or25
 have g := g.same s47
 have eA := eA.trans (Ext.same s47)
 generalize (upd H44 p45 (.lst [.ref p33, .ref p37, .ref p41])) = H48 at hp13 hp17 hr25 hp33 hp37 hp41 oln or25 g eA op45 ⊢
 refine ⟨_, rfl, t, 3, sc, ns, rfl, g.st, by decide, by decide, fun k49 H50 k49a k49b st51 e52 => ?_⟩
 have hp13 := g.keepR e52 hp13
 have hp17 := g.keepR e52 hp17
 have hr25 := g.keepR e52 hr25
 have hp33 := g.keepR e52 hp33
 have hp37 := g.keepR e52 hp37
 have hp41 := g.keepR e52 hp41
 have oln := e52 _ _ nln oln
 have or25 := e52 _ _ nr25 or25
 have op45 := e52 _ _ np45 op45
 have g := g.after e52 st51
 have eA := eA.trans e52
 obtain ⟨v53, Tv53, av53, hv53, bv53⟩ : ∃ x T, atI [V.ref p33, .ref p37, .ref p41] k49 = some x ∧ Rpt (A) H50 x T ∧ Wp T := by
  have c : k49 = 0 ∨ k49 = 1 ∨ k49 = 2 := by omega
  rcases c with rfl | rfl | rfl
  ·exact ⟨_, _, rfl, hp33, .inr (.inr ⟨_, rfl, k29a, k29b⟩)⟩
  ·exact ⟨_, _, rfl, hp37, .inl rfl⟩
  ·exact ⟨_, _, rfl, hp41, .inr (.inl rfl)⟩
 refine ⟨p45, _, _, _, rfl, rfl, SqL.of op45, av53, _, rfl, _, _, rfl, (.inr ⟨_, SqT.of or25, rfl⟩), _, _, rfl, rfl, _, rfl, wH (fun hd => ?_) (fun _ => ?_)⟩
 ·have hk1 : k21.toNat = 1 := by
   have := of_decide_eq_true hd
   rw [List.length_replicate] at this
   omega
  refine ⟨_, rfl, sZ2, fun p54 q55 => ?_⟩
  have s56 := kQ q55 (.tup [.str "box", .str nm])
  have hp54 := Rpt.tup (A := A) (g.fresh q55) (zQ (o := .tup [.str "box", .str nm])) (Rpts.same s56 (.cons (.str _) (.cons (.str nm) .nil)))
  have hr25 := hr25.same s56
  have hv53 := hv53.same s56
  have oln := s56 _ _ oln
  have g := g.same s56
  have eA := eA.trans (Ext.same s56)
  generalize (upd H50 p54 (.tup [.str "box", .str nm])) = H57 at hr25 hv53 oln g eA hp54 ⊢
  refine ⟨_, rfl, sZ3, fun p58 q59 => ?_⟩
  have s60 := kQ q59 (.tup [.str "add", .ref p54, v53])
  have hp58 := Rpt.tup (A := A) (g.fresh q59) (zQ (o := .tup [.str "add", .ref p54, v53])) (Rpts.same s60 (.cons (.str _) (.cons hp54 (.cons hv53 .nil))))
  have hr25 := hr25.same s60
  have oln := s60 _ _ oln
  have g := g.same s60
  have eA := eA.trans (Ext.same s60)
  generalize (upd H57 p58 (.tup [.str "add", .ref p54, v53])) = H61 at hr25 oln g eA hp58 ⊢
  exact cR _ _ _ _ _ _ _ oln (by omega) hr25 lnm (by omega) (by omega) hp58 (rul_add bv53 (by rw [hk1]; simp) lnm) g eA
 ·exact cR _ _ _ _ _ _ _ oln (by omega) hr25 lnm (by omega) (by omega) hv53 (rul_of bv53) g eA
end
end K06
namespace K06
open PySem L2
noncomputable def hE : List Str := ["a", "ab", "abc", "b", "ba", "box", "end", "give", "part", "plain", "turn", "abcdefgh"]
noncomputable def rB (s st k : Nat) : Str := hE.getD ((s + st * k) % 12) ""
theorem names6 : ∀ s, s < 12 → ∀ st, st ∈ [1, 5, 7, 11] → ((List.range 6).map (rB s st)).Nodup ∧ ∀ z, z ∈ (List.range 6).map (rB s st) → (xZ (.str z) = true ∧ z.length ≤ 8) ∧ z ≠ "nobody" := by decide +kernel
theorem VQ {s st m : Nat} (hs : s < 12) (hst : st ∈ [1, 5, 7, 11]) (hm : m ≤ 6) : ((List.range m).map (rB s st)).Nodup ∧ XE ((List.range m).map (rB s st)) ∧ ¬ ("nobody" : Str) ∈ (List.range m).map (rB s st) := by
 have h := names6 s hs st hst
 have e : (List.range m).map (rB s st) = ((List.range 6).map (rB s st)).take m := by
  rw [← List.map_take, List.take_range, Nat.min_eq_left hm]
 rw [e]
 refine ⟨h.1.sublist (List.take_sublist _ _), fun z hz => (h.2 z (List.mem_of_mem_take hz)).1, fun hz => (h.2 _ (List.mem_of_mem_take hz)).2 rfl⟩
theorem at_pool {s st k : Nat} : atI (hE.map V.str) (((s : Int) + (st : Int) * (k : Int)) % 12) = some (.str (rB s st k)) := by
 rw [show ((s : Int) + (st : Int) * (k : Int)) % 12 = (((s + st * k) % 12 : Nat) : Int) by omega]
 refine jV ?_
 have h : (s + st * k) % 12 < hE.length := Nat.mod_lt _ (by decide)
 rw [List.getElem?_map, List.getElem?_eq_getElem h]
 unfold rB
 rw [List.getD_eq_getElem?_getD, List.getElem?_eq_getElem h]
 rfl
section
variable {P : Program} {w : World} {K : W.Frag} {mg : Str → Option Value} {base : Heap} {a : Adr}
inductive ZF (K : W.Frag) (vs : List V) (H : Hp) (Q : VK) : Prop
 | mk (t sc : Addr) (ns : List Int) (A : Addr → Prop) (m : Int) (z0 : vs = [.ref t, .int m]) (z1 : Gd K A H t sc ns) (z2 : 1 ≤ m) (z3 : m ≤ 6) (z4 : ∀ (l : Addr) (NS : List Str) (H' : Hp), H' l = some (.lst (NS.map V.str)) → l ≠ t → NS.length = m.toNat → XE NS → NS.Nodup → ¬ ("nobody" : Str) ∈ NS → St1 K H' t sc ns → Ext t H H' → Q (.ref l) H') : ZF K vs H Q
noncomputable def spNames (K : W.Frag) : Sp := fun vs H Q _ => ZF K vs H Q
theorem VN (T : Txt P w K mg a) : FnOk P w K mg base CX0 2 a.oO a.wS ["_law_tape_here", "_law_many"] (spNames K) := by
 have S := pE
 have big : (1000000 : Nat) < sizeLine := by decide
 have lX := mF (P := P) (w := w) (base := base) T
 refine T.aS.okJ pE (fun vs H Q E h => ?_) (fun cdv A0 outer s H vs Q E hr h => ?_)
 ·obtain ⟨t, sc, ns, A, m, rfl, _⟩ := h; rfl
 obtain ⟨t, sc, ns, A, m, rfl, g, hm1, hm6, q⟩ := h
 refine ⟨_, (wQ (kX (i := 2) S.nd rfl (Or.inr rfl) (cZ (qQ aQ (qQ aQ (qQ aQ (qQ aQ (qQ aQ (qQ aQ (qQ aQ (qQ aQ (qQ aQ (qQ aQ (qQ aQ (qQ aQ jQ)))))))))))))) (wQ (kX (i := 3) S.nd rfl (Or.inr rfl) (mQ lX hr rfl T.kZ T.k_l_draw T.b_l_draw .nil iQ (qQ (jv 0) (qQ xQ jQ)))) (wQ (kX (i := 4) S.nd rfl (Or.inr rfl) (cQ hX (cZ (qQ xQ (qQ xQ (qQ xQ (qQ xQ jQ))))) (mQ lX hr rfl T.kZ T.k_l_draw T.b_l_draw .nil iQ (qQ (jv 0) (qQ xQ jQ))) (fun _ _ => rfl))) (uQ (pQ (kY rfl (show (["_law_k", "_law_tape_here", "_law_many", "_law_pool", "_law_start", "_law_stride"] : List Str).Nodup by decide +kernel) (uW (N := ["_law_tape_here", "_law_many", "_law_pool", "_law_start", "_law_stride"]) (sc := vQ eV) rfl rfl rfl (by decide +kernel)) (cY rfl T.vF (qQ (jv 1) jQ)) (fun _ _ _ _ _ => xK) (fun _ _ _ _ _ => (cQ (r := rIxL K) hX (jv 3) (bX yF (bX fJ (jv 4) (bX vA (jv 5) (jv 0))) xQ) (fun _ _ => rfl))))))))), ?_⟩
 refine ⟨(by show 12 ≤ sizeLine; decide), fun lp hlp => ?_⟩
 have s1 := kQ hlp (.lst (hE.map V.str))
 have nlp : lp ≠ t := g.st.ne hlp
 have olp : (upd H lp (.lst (hE.map V.str))) lp = some (.lst (hE.map V.str)) := zQ
 have g := g.same s1
 have eA : Ext t H (upd H lp (.lst (hE.map V.str))) := Ext.same s1
 refine ⟨_, rfl, t, 12, sc, ns, rfl, g.st, by decide, by decide, fun k1 H2 k1a k1b st2 e2 => ?_⟩
 have olp := e2 _ _ nlp olp
 have g := g.after e2 st2
 have eA := eA.trans e2
 refine ⟨sZ4, fun l4 h4 => ?_⟩
 have s4 := kQ h4 (.lst [.int 1, .int 5, .int 7, .int 11])
 have nl4 : l4 ≠ t := g.st.ne h4
 have ol4 : (upd H2 l4 (.lst [.int 1, .int 5, .int 7, .int 11])) l4 = some (.lst [.int 1, .int 5, .int 7, .int 11]) := zQ
 have olp := s4 _ _ olp
 have g := g.same s4
 have eA := eA.trans (Ext.same s4)
 generalize (upd H2 l4 (.lst [.int 1, .int 5, .int 7, .int 11])) = H4 at ol4 olp g eA ⊢
 refine ⟨_, rfl, t, 4, sc, ns, rfl, g.st, by decide, by decide, fun k2 H5 k2a k2b st5 e5 => ?_⟩
 have olp := e5 _ _ nlp olp
 have ol4 := e5 _ _ nl4 ol4
 have g := g.after e5 st5
 have eA := eA.trans e5
 obtain ⟨stv, ast, hst⟩ : ∃ j : Nat, atI [V.int 1, .int 5, .int 7, .int 11] k2 = some (.int (j : Nat)) ∧ j ∈ [1, 5, 7, 11] := by
  have c : k2 = 0 ∨ k2 = 1 ∨ k2 = 2 ∨ k2 = 3 := by omega
  rcases c with rfl | rfl | rfl | rfl
  ·exact ⟨1, rfl, by decide⟩
  ·exact ⟨5, rfl, by decide⟩
  ·exact ⟨7, rfl, by decide⟩
  ·exact ⟨11, rfl, by decide⟩
 have hst12 : stv ≤ 11 := by
  have : stv = 1 ∨ stv = 5 ∨ stv = 7 ∨ stv = 11 := by simpa using hst
  omega
 refine ⟨l4, _, _, _, rfl, rfl, SqL.of ol4, ast, ?_⟩
 refine ⟨_, rfl, m, rfl, by omega, by omega, fun D hD => ?_⟩
 have nD : D ≠ t := g.st.ne hD
 refine ⟨fun i mm ys H' => mm = m.toNat - i ∧ i ≤ m.toNat ∧ Same H5 H' ∧ H' D = some (.lst ys) ∧ ys = (List.range i).map (fun k => V.str (rB k1.toNat stv k)), ⟨m.toNat, by simp, Nat.zero_le _, kQ hD _, zQ, rfl⟩, ?_⟩
 rintro i mm ys H6 ⟨rfl, hi, s6, hD6, rfl⟩
 by_cases hlt : i < m.toNat
 ·refine .inr ⟨hlt, ?_⟩
  rintro x' H'' ⟨rfl, rfl⟩
  have ap := at_pool (s := k1.toNat) (st := stv) (k := i)
  rw [show ((k1.toNat : Nat) : Int) = k1 by omega, show ((i : Nat) : Int) = 0 + (i : Int) by omega] at ap
  refine ⟨_, rfl, _, rfl, _, rfl, _, rfl, _, _, rfl, rfl, .inr ⟨by omega, by omega⟩, _, _, rfl, rfl, _, _, rfl, rfl, (by show (0 : Int) < _; decide), lp, _, _, _, rfl, rfl, SqL.of (s6 lp _ olp), ap, ?_⟩
  exact ⟨hD6, by rw [List.length_map, List.length_range]; omega, m.toNat - (i + 1), by omega, rfl, hlt, mX s6 hD, zQ, by rw [List.range_succ, List.map_append]; rfl⟩
 ·have ei : i = m.toNat := by omega
  subst ei
  obtain ⟨n1, n2, n3⟩ := VQ (s := k1.toNat) (st := stv) (m := m.toNat) (by omega) hst (by omega)
  refine .inl ⟨Nat.le_refl _, q D _ _ (by rw [hD6, List.map_map]; rfl) nD (by rw [List.length_map, List.length_range]) n2 n1 n3 (g.st.same s6) (eA.trans (Ext.same s6))⟩
theorem Wa {NS : List Str} {ts : List Tr} (h1 : 1 ≤ ts.length) (h6 : ts.length ≤ 6) (hp : ∀ t, t ∈ ts → jJ t = true) (hn : ts.map nm = NS) (hd : NS.Nodup) (hg : ∀ k t, ts[k]? = some t → ∀ g, jB (qU t) g → g ∈ NS.drop (k + 1)) : rY (.tup ts) = true := by
 show ((decide (1 ≤ ts.length) && decide (ts.length ≤ 6)) && (ts.all jJ && (decide ((ts.map nm).Nodup) && (List.range ts.length).all (gk ts)))) = true
 rw [decide_eq_true h1, decide_eq_true h6, List.all_eq_true.mpr hp, hn, decide_eq_true hd]
 show (List.range ts.length).all (gk ts) = true
 rw [List.all_eq_true]
 intro k hk
 have hk := List.mem_range.mp hk
 unfold gk
 rw [List.getElem?_eq_getElem hk, hn]
 exact bG.mpr (hg k ts[k] (List.getElem?_eq_getElem hk))
inductive ZH (K : W.Frag) (vs : List V) (H : Hp) (Q : VK) : Prop
 | mk (t sc : Addr) (ns : List Int) (A : Addr → Prop) (z0 : vs = [.ref t]) (z1 : Gd K A H t sc ns) (z2 : ∀ (p : Addr) (xs : List V) (ts : List Tr) (H' : Hp), H' p = some (.tup xs) → ¬ A p → Rpts A H' xs ts → rY (.tup ts) = true → ¬ ("nobody" : Str) ∈ ts.map nm → wL ts ≤ 18300 → zB 17 ts → St1 K H' t sc ns → Ext t H H' → Q (.ref p) H') : ZH K vs H Q
noncomputable def spHouse (K : W.Frag) : Sp := fun vs H Q _ => ZH K vs H Q
theorem uA (T : Txt P w K mg a) : FnOk P w K mg base CX0 3 a.aY a.dG ["_law_tape_here"] (spHouse K) := by
 have S := oM
 have big : (1000000 : Nat) < sizeLine := by decide
 have lX := (mF (P := P) (w := w) (base := base) T).mono (show 1 ≤ 2 by decide)
 have K3 := VN (P := P) (w := w) (base := base) T
 have Qf := Qo (P := P) (w := w) (base := base) T
 refine T.lG.okJ oM (fun vs H Q E h => ?_) (fun cdv A0 outer s H vs Q E hr h => ?_)
 ·obtain ⟨t, sc, ns, A, rfl, _⟩ := h; rfl
 obtain ⟨t, sc, ns, A, rfl, g, q⟩ := h
 refine ⟨_, (wQ (kX (i := 1) S.nd rfl (Or.inr rfl) (mQ K3 hr rfl T.Kz T.k_l_names T.b_l_names .nil iQ (qQ (jv 0) (qQ (bX fJ xQ (mQ lX hr rfl T.kZ T.k_l_draw T.b_l_draw .nil iQ (qQ (jv 0) (qQ xQ jQ)))) jQ)))) (uQ (pQ (mZ aJ rfl T.tX rfl (qQ (kY rfl (show (["_law_k", "_law_tape_here", "_law_names_here"] : List Str).Nodup by decide +kernel) (uW (N := ["_law_tape_here", "_law_names_here"]) (sc := vQ dZ) rfl rfl rfl (by decide +kernel)) (cY rfl T.vF (qQ (gQ qX rfl T.aX rfl (qQ (jv 1) jQ)) jQ)) (fun _ _ _ _ _ => xK) (fun _ _ _ _ _ => (mQ Qf hr rfl T.xI T.k_l_small_part T.b_l_small_part .nil iQ (qQ (jv 1) (qQ (jv 2) (qQ (jv 0) jQ)))))) jQ))))), ?_⟩
 refine ⟨_, rfl, _, rfl, t, 6, sc, ns, rfl, g.st, by decide, by decide, fun k1 H1 k1a k1b st1 e1 => ?_⟩
 have g := g.after e1 st1
 refine ⟨_, _, rfl, rfl, t, sc, ns, A, 1 + k1, rfl, g, by omega, by omega, fun ln NS H2 oln nln hNl hNS hnd hnb st2 e2 => ?_⟩
 have g := g.after e2 st2
 have eA := e1.trans e2
 have hN1 : 1 ≤ NS.length := by omega
 have hN6 : NS.length ≤ 6 := by omega
 refine ⟨_, rfl, _, _, rfl, .inl ⟨_, SqL.of oln, rfl⟩, _, rfl, by rw [List.length_map]; omega, by rw [List.length_map]; omega, fun D hD => ?_⟩
 rw [List.length_map]
 have nD : D ≠ t := g.st.ne hD
 have sD := kQ hD (.lst [])
 refine ⟨fun i mm ys H' => mm = NS.length - i ∧ i ≤ NS.length ∧ ∃ ts : List Tr, H' D = some (.lst ys) ∧ Rpts (fun x => A x ∨ x = D) H' ys ts ∧ ts.length = i ∧ ts.map nm = NS.take i ∧ (∀ t, t ∈ ts → jJ t = true) ∧ (∀ k t, ts[k]? = some t → ∀ g, jB (qU t) g → g ∈ NS.drop (k + 1)) ∧ wL ts ≤ 3050 * i ∧ zB 17 ts ∧ H' ln = some (.lst (NS.map V.str)) ∧ St1 K H' t sc ns ∧ Ext t H2 H',
  ⟨NS.length, by simp, Nat.zero_le _, [], zQ, .nil, rfl, rfl, (fun t h => by cases h), (fun k t h => by simp at h), by rw [wL]; omega, xJ, sD ln _ oln, g.st.same sD, Ext.same sD⟩, ?_⟩
 rintro i mm ys H3 ⟨rfl, hi, ts, hD3, hys, hl3, hn3, hp3, hg3, hw3, hf3, oln3, st3, e3⟩
 have hll := hys.len
 have g3 : Gd K (fun x => A x ∨ x = D) H3 t sc ns := (g.after e3 st3).more (d := D) (by rw [hD3]; exact fun z => nomatch z)
 by_cases hlt : i < (((NS.length : Nat) : Int)).toNat
 ·refine .inr ⟨hlt, ?_⟩
  rintro x' H'' ⟨rfl, rfl⟩
  have hlt' : i < NS.length := by omega
  refine ⟨_, rfl, _, rfl, _, rfl, t, sc, ns, _, ln, i, NS, NS[i], (by rw [show (0 : Int) + (i : Int) = ((i : Nat) : Int) by omega]; rfl), g3, oln3, nln, hN6, hNS, List.getElem?_eq_getElem hlt', fun p T' H4 r4 n4 p4 g4 w4 f4 st4 e4 => ?_⟩
  have hys4 := g3.keepRs e4 hys
  have hD4 := e4 _ _ nD hD3
  have stE := xU (o := .lst (ys ++ [.ref p])) g.st hD (e3.trans e4) st4
  refine ⟨hD4, by omega, NS.length - (i + 1), by omega, rfl, hlt', ts ++ [T'], zQ, Rpts.updD (hys4.append (.cons r4 .nil)), by rw [List.length_append, hl3]; rfl, ?_, fun t' ht' => ?_, fun k t' hk => ?_, ?_, oT hf3 (by rw [pX]; exact ⟨f4, xJ⟩), ?_, stE.1, stE.2⟩
  ·rw [List.map_append, hn3, List.take_succ, List.getElem?_eq_getElem hlt']
   show _ ++ [nm T'] = _
   rw [n4]
   rfl
  ·rcases List.mem_append.mp ht' with h | h
   ·exact hp3 t' h
   ·have e : t' = T' := by simpa using h
    rw [e]
    exact p4
  ·by_cases hki : k < ts.length
   ·rw [List.getElem?_append_left hki] at hk
    exact hg3 k t' hk
   ·have hkl := (List.getElem?_eq_some_iff.mp hk).1
    rw [List.length_append] at hkl
    have hkl : k < ts.length + 1 := hkl
    have e : k = ts.length := by omega
    subst e
    rw [List.getElem?_append_right lR, Nat.sub_self] at hk
    have e : T' = t' := by simpa using hk
    subst e
    rw [hl3]
    exact g4
  ·rw [nX, yQ, wL]
   omega
  ·rw [uX (fun e => by
    rw [e] at oln
    rw [hD] at oln
    cases oln)]
   exact e4 _ _ nln oln3
 ·have ei : i = NS.length := by omega
  subst ei
  refine .inl ⟨by show (((NS.length : Nat) : Int)).toNat ≤ _; omega, D, ys, rfl, .inl ⟨SqL.of hD3, fun p hp => ?_⟩⟩
  have sp := kQ hp (.tup ys)
  rw [List.take_length] at hn3
  refine q p ys ts _ zQ ?_ ((hys.less fun b hb => .inl hb).same sp) (Wa (NS := NS) (by omega) (by omega) hp3 hn3 hnd hg3) (by rw [hn3]; exact hnb) (by omega) hf3 (st3.same sp) ((eA.trans e3).trans (Ext.same sp))
  exact (g.after e3 st3).fresh hp
end
end K06
namespace K06
open PySem L2
theorem lC {d : Nat} {t : Tr} : ∀ {ts : List Tr}, zB d ts → ∀ {i : Nat}, ts[i]? = some t → Tr.fit d t
 | [], _, _, e => by simp at e
 | x :: r, h, i, e => by
  rw [pX] at h
  cases i with
  | zero =>
   have e : x = t := by simpa using e
   rw [← e]
   exact h.1
  | succ i => exact lC h.2 (i := i) (by simpa using e)
theorem seq_ix {n i : Nat} (h : i < n) : seqIndex? ((i : Nat) : Int) n = some i := by
 have h0 : ¬ ((i : Nat) : Int) < 0 := by omega
 unfold seqIndex?
 dsimp only
 rw [if_neg h0, if_pos (by rw [Bool.and_eq_true, decide_eq_true_iff, decide_eq_true_iff]; omega)]
 rfl
theorem nm_len {t : Tr} (h : jJ t = true) : (nm t).length ≤ 8 := by
 have hb := vU h
 cases t with
 | tup xs =>
  cases xs with
  | nil => cases hb
  | cons n r =>
   have hb : (decide (r.length + 1 = 4) && xZ n) = true := hb
   rw [Bool.and_eq_true] at hb
   obtain ⟨z, rfl⟩ := aW hb.2
   have hz : aG (.str z) = true := hb.2
   rw [jU, Bool.and_eq_true, Bool.and_eq_true] at hz
   have := of_decide_eq_true hz.1.2
   show z.length ≤ 8
   omega
 | _ => cases hb
theorem lT {ts : List Tr} (h : rY (.tup ts) = true) : 1 ≤ ts.length ∧ ts.length ≤ 6 ∧ (∀ t, t ∈ ts → jJ t = true) ∧ (ts.map nm).Nodup := by
 have h : ((decide (1 ≤ ts.length) && decide (ts.length ≤ 6)) && (ts.all jJ && (decide ((ts.map nm).Nodup) && (List.range ts.length).all (gk ts)))) = true := h
 rw [Bool.and_eq_true, Bool.and_eq_true, Bool.and_eq_true, Bool.and_eq_true] at h
 exact ⟨of_decide_eq_true h.1.1, of_decide_eq_true h.1.2, List.all_eq_true.mp h.2.1, of_decide_eq_true h.2.2.1⟩
theorem nH {A : Addr → Prop} {H : Hp} {v : V} {t : Tr} (h : Rpt A H v t) (hp : jJ t = true) : ∃ (p q : Addr) (z : Str) (y1 y2 : V) (ls : List V) (c1 c2 : Tr) (tl : List Tr), v = .ref p ∧ ¬ A p ∧ H p = some (.tup [.str z, y1, y2, .ref q]) ∧ t = .tup [.str z, c1, c2, .tup tl] ∧ Rpt A H y1 c1 ∧ Rpt A H y2 c2 ∧ ¬ A q ∧ H q = some (.tup ls) ∧ Rpts A H ls tl := by
 cases h with
 | @tup p xs ts n hq hx =>
  rcases ts with _ | ⟨n0, _ | ⟨b0, _ | ⟨w0, _ | ⟨l0, _ | ⟨x5, r5⟩⟩⟩⟩⟩
  iterate 4 (exact absurd (show false = true from hp) Bool.false_ne_true)
  ·obtain _ | ⟨r0, _ | ⟨r1, _ | ⟨r2, _ | ⟨r3, _ | _⟩⟩⟩⟩ := hx
   have hl := zA hp
   have hn : (xZ n0 && (pW b0 && ((pZ (uY b0) [] w0 && decide (uO w0 ≤ 4)) && sK (uY b0) l0))) = true := hp
   rw [Bool.and_eq_true] at hn
   obtain ⟨z, rfl⟩ := aW hn.1
   cases r0
   cases Jx hl with
   | @mk tl tu k1 k2 =>
    cases r3 with
    | @tup q ls _ nq oq hls => exact ⟨p, q, z, _, _, ls, _, _, tl, rfl, n, hq, rfl, r1, r2, nq, oq, hls⟩
  ·exact absurd (show false = true from hp) Bool.false_ne_true
 | _ => cases hp
section
variable {P : Program} {w : World} {K : W.Frag} {mg : Str → Option Value} {base : Heap} {a : Adr}
inductive ZG (vs : List V) (H : Hp) (Q : VK) : Prop
 | mk (p : Addr) (xs : List V) (ts : List Tr) (z0 : vs = [.ref p]) (z1 : H p = some (.tup xs)) (z2 : Reps H xs ts) (z3 : rY (.tup ts) = true) (z4 : ¬ ("nobody" : Str) ∈ ts.map nm) (z5 : ∀ H', Same H H' → Q (.bl true) H') : ZG vs H Q
noncomputable def spNamed : Sp := fun vs H Q _ => ZG vs H Q
theorem VO (T : Txt P w K mg a) : FnOk P w K mg base CX0 2 a.tO a.yS ["_law_house"] spNamed := by
 have S := dE
 have big : (1000000 : Nat) < sizeLine := by decide
 have kR := QN (P := P) (w := w) (base := base) T
 have Q5 := Z1 (P := P) (w := w) (base := base) T
 refine T.iS.okJ dE (fun vs H Q E h => ?_) (fun cdv A outer s H vs Q E hr h => ?_)
 ·obtain ⟨p, xs, ts, rfl, _⟩ := h; rfl
 obtain ⟨p, xs, ts, rfl, hp, hx, hh, hnb, q⟩ := h
 refine ⟨_, (wQ (mC (i := 1) (show (["_law_house", "_law_names_here", "_law_k", "_law_rest"] : List Str).Nodup by decide +kernel) rfl (Or.inl rfl) rfl (show (["_law_part", "_law_house", "_law_names_here", "_law_k", "_law_rest"] : List Str).Nodup by decide +kernel) (gV (N := ["_law_house", "_law_names_here", "_law_k", "_law_rest"]) rfl (by with_unfolding_all rfl) (by decide +kernel)) (dJ (jv 0)) (fun _ _ _ _ => xK) (fun _ _ _ _ => (cQ (r := zC K) lQ (jv 0) xQ (fun _ _ => rfl)))) (wQ (xY PassesOwn.never rfl (cY rfl T.vF (qQ (gQ qX rfl T.aX rfl (qQ (jv 0) jQ)) jQ)) (pK (i := 2) S.nd rfl (Or.inl rfl)) (wQ (kX (i := 3) S.nd rfl (Or.inl rfl) (mQ kR hr rfl T.vI T.k_behind T.b_behind .nil iQ (qQ (jv 0) (qQ (cQ hX (jv 1) (jv 2) (fun _ _ => rfl)) jQ)))) (wQ (zX (iX (zZ (xX (jX (gQ eQ rfl T.rQ rfl (qQ (jv 3) (qQ (wX rfl T.eD (v := .ty "list") rfl rfl) jQ))))) (zZ (sQ (VG hr.units0) (jv 3) (yZ vV (jv 1) (qJ (bX fJ (jv 2) xQ)) zJ) (oQ _)) (qZ (sQ (op_neT hr.units0) (mQ Q5 hr rfl T.QQ T.k_part_of T.b_part_of .nil iQ (qQ (jv 0) (qQ (cQ hX (jv 1) (jv 2) (fun _ _ => rfl)) jQ))) (cQ lQ (jv 0) (jv 2) (fun _ _ => rfl)) (oQ _)))))) (uQ (pQ fX)) tQ) (wQ (zK (uG PySem.F.plainAttrs_list PySem.F.slot_list_append PySem.F.type_list_append aV (jv 3) (qQ aQ jQ))) (uQ (zX (sQ (VG hr.units0) (mQ kR hr rfl T.vI T.k_behind T.b_behind .nil iQ (qQ (jv 0) (qQ (cQ hX (jv 1) (jv 2) (fun _ _ => rfl)) jQ))) (yZ vV (jv 1) (qJ (bX fJ (jv 2) xQ)) zJ) (oQ _)) (uQ (pQ fX)) tQ)))))) (uQ (pQ (hV Z0 (mQ Q5 hr rfl T.QQ T.k_part_of T.b_part_of .nil iQ (qQ (jv 0) (qQ aQ jQ))) aZ (oQ _)))))), ?_⟩
 obtain ⟨h1, h6, hpa, hnd⟩ := lT hh
 have hbg : ∀ t, t ∈ ts → kW 4 t = true := fun t ht => vU (hpa t ht)
 have hlen := hx.len
 refine ⟨_, rfl, p, rfl, ⟨xs, SqT.of hp⟩, fun D hD3 => ?_⟩
 refine ⟨fun i m zs H' => m = xs.length - i ∧ i ≤ xs.length ∧ H' = upd H D (.lst zs) ∧ zs = (ts.take i).map (fun x => V.str (nm x)), ⟨xs.length, by simp, Nat.zero_le _, rfl, rfl⟩, ?_⟩
 rintro i m zs H' ⟨rfl, hi', rfl, rfl⟩
 have s3 := kQ hD3 (.lst ((ts.take i).map (fun x => V.str (nm x))))
 by_cases hlt : i < xs.length
 ·refine .inr ⟨⟨xs, xs[i], SqT.of (s3 p _ hp), List.getElem?_eq_getElem hlt⟩, ?_⟩
  rintro x' H'' ⟨rfl, hxi⟩
  have hxi := hxi xs (SqT.of (s3 p _ hp))
  obtain ⟨tx, htx, hrx⟩ := hx.get hxi
  obtain ⟨p2, z2, r, rs, rfl, hp2, rfl, _, _⟩ := cJ hrx (hbg tx (List.mem_of_getElem? htx))
  refine ⟨_, rfl, p2, _, _, _, rfl, rfl, SqT.of (s3 p2 _ hp2), at0 _ _, ?_⟩
  exact ⟨zQ, by rw [List.length_map, List.length_take]; omega, xs.length - (i + 1), by omega, rfl, hlt, sV, (map_take (f := fun x => V.str (nm x)) htx).symm⟩
 have ei : i = xs.length := by omega
 subst ei
 rw [hlen, List.take_length] at s3 ⊢
 have hN : (upd H D (.lst (ts.map fun x => V.str (nm x)))) D = some (.lst ((ts.map nm).map V.str)) := by
  rw [zQ, List.map_map]
  rfl
 generalize (upd H D (.lst (ts.map fun x => V.str (nm x)))) = H5 at s3 hN ⊢
 refine .inl ⟨⟨xs, SqT.of (s3 p _ hp), by omega⟩, ?_⟩
 refine ⟨_, rfl, _, _, rfl, .inr ⟨_, SqT.of (s3 p _ hp), rfl⟩, _, rfl, by omega, by omega, ?_⟩
 refine jH (fun i σ' H' => ∃ x2 x3 : Option V, σ' = [some (.ref p), some (.ref D), x2, x3] ∧ Same H5 H') ⟨none, none, rfl, Same.refl H5⟩ ?_ ?_
 ·rintro i σ' H6 hi6 ⟨x2, x3, rfl, s6⟩
  have hit : i < ts.length := by omega
  have hix : i < xs.length := by omega
  have s36 := s3.trans s6
  have zi : (ts.map nm)[i]? = some ((ts.map nm)[i]'(by rw [List.length_map]; exact hit)) := List.getElem?_eq_getElem _
  generalize ((ts.map nm)[i]'(by rw [List.length_map]; exact hit)) = z at zi
  have atz : atI ((ts.map nm).map V.str) (0 + (i : Int)) = some (.str z) := by
   rw [show (0 : Int) + (i : Int) = ((i : Nat) : Int) by omega]
   exact jV (by rw [List.getElem?_map, zi]; rfl)
  have cutE : oX ((ts.map nm).map V.str) (some (0 + (i : Int) + 1)) none = ((ts.map nm).drop (i + 1)).map V.str := by
   rw [show (0 : Int) + (i : Int) + 1 = ((i + 1 : Nat) : Int) by omega, eI, List.map_drop]
  have fz := cI hnd zi
  have xi : xs[i]? = some xs[i] := List.getElem?_eq_getElem hix
  obtain ⟨tx, htx, hrx⟩ := hx.get xi
  obtain ⟨p2, z2, r, rs, e2, hp2, rfl, _, _⟩ := cJ hrx (hbg tx (List.mem_of_getElem? htx))
  have atx : atI xs (0 + (i : Int)) = some (.ref p2) := by
   rw [show (0 : Int) + (i : Int) = ((i : Nat) : Int) by omega]
   exact jV (by rw [xi, e2])
  refine ⟨_, rfl, _, rfl, _, rfl, D, _, _, _, rfl, rfl, SqL.of (s6 D _ hN), atz, p, xs, ts, i, z, rfl, s36 p _ hp, hx.same s36, hbg, by omega, zi, fz, fun l H7 s7 hl0 hl7 => ?_⟩
  have s67 := s6.trans s7
  have s37 := s36.trans s7
  refine ⟨_, rfl, .ref l, .lst, .lst, rfl, zW hl7 rfl, _, rfl, bQ ⟨_, rfl, _, rfl, _, rfl, _, _, rfl, rfl, _, rfl, D, _, rfl, SqL.of (s67 D _ hN), fun pS hS => ?_⟩⟩
  have sS := kQ hS (.lst (oX ((ts.map nm).map V.str) (some (0 + (i : Int) + 1)) none))
  have hpS : (upd H7 pS (.lst (oX ((ts.map nm).map V.str) (some (0 + (i : Int) + 1)) none))) pS = some (.lst (((ts.map nm).drop (i + 1)).map V.str)) := by rw [zQ, cutE]
  generalize (upd H7 pS (.lst (oX ((ts.map nm).map V.str) (some (0 + (i : Int) + 1)) none))) = H8 at sS hpS ⊢
  have s38 := s37.trans sS
  have s58 := s67.trans sS
  have hl8 : H8 l = some (.lst (((ts.map nm).drop (i + 1)).map V.str)) := sS l _ hl7
  refine ⟨l, pS, _, rfl, rfl, SqL.of hl8, SqL.of hpS, _, rfl, bQ ⟨_, rfl, _, rfl, _, rfl, D, _, _, _, rfl, rfl, SqL.of (s58 D _ hN), atz, p, xs, ts, z, rfl, s38 p _ hp, hx.same s38, hbg, fun k x hxk hk hno => ?_, fun hno => absurd zi (hno i)⟩⟩
  have ek : k = i := by
   rcases Nat.lt_trichotomy k i with h | h | h
   ·exact absurd hk (fz k h)
   ·exact h
   ·exact absurd zi (hno i h)
  subst ek
  rw [xi] at hxk
  have ex : x = .ref p2 := by rw [← e2]; exact (Option.some.inj hxk).symm
  subst ex
  refine ⟨_, rfl, _, rfl, p, _, _, _, rfl, rfl, SqT.of (s38 p _ hp), atx, p2, _, rfl, rfl, SqT.of (s38 p2 _ hp2), _, rfl, bQ ?_⟩
  refine ⟨_, rfl, .inl ⟨rfl, _, SqL.of hl8⟩, l, _, _, rfl, rfl, hl8, (by rw [List.length_map, List.length_drop, List.length_map]; omega), ?_⟩
  have s9 : Same H6 (upd H8 l (.lst (((ts.map nm).drop (k + 1)).map V.str ++ [.str "z"]))) := mX (s7.trans sS) hl0
  generalize (upd H8 l (.lst (((ts.map nm).drop (k + 1)).map V.str ++ [.str "z"]))) = H9 at s9 ⊢
  have s39 := s36.trans s9
  have s59 := s6.trans s9
  refine ⟨_, rfl, _, rfl, _, rfl, D, _, _, _, rfl, rfl, SqL.of (s59 D _ hN), atz, p, xs, ts, k, z, rfl, s39 p _ hp, hx.same s39, hbg, by omega, zi, fz, fun l2 HA sA hlA0 hlA => ?_⟩
  have s5A := s59.trans sA
  refine ⟨_, rfl, _, rfl, _, _, rfl, rfl, _, rfl, D, _, rfl, SqL.of (s5A D _ hN), fun pU hU => ?_⟩
  have sU := kQ hU (.lst (oX ((ts.map nm).map V.str) (some (0 + (k : Int) + 1)) none))
  have hpU : (upd HA pU (.lst (oX ((ts.map nm).map V.str) (some (0 + (k : Int) + 1)) none))) pU = some (.lst (((ts.map nm).drop (k + 1)).map V.str)) := by rw [zQ, cutE]
  refine ⟨l2, pU, _, rfl, rfl, SqL.of (sU l2 _ hlA), SqL.of hpU, _, rfl, bQ ⟨_, _, rfl, s5A.trans sU⟩⟩
 ·rintro σ' H6 ⟨x2, x3, rfl, s6⟩
  have s36 := s3.trans s6
  refine ⟨_, rfl, p, xs, ts, "nobody", rfl, s36 p _ hp, hx.same s36, hbg, fun k x _ hk _ => absurd (List.mem_of_getElem? hk) hnb, fun _ => ⟨rfl, ?_⟩⟩
  rw [decide_eq_true rfl]
  exact q _ s36
inductive Q4 (K : W.Frag) (vs : List V) (H : Hp) (Q : VK) : Prop
 | mk (t sc : Addr) (ns : List Int) (A : Addr → Prop) (p : Addr) (xs : List V) (ts : List Tr) (z0 : vs = [.ref t, .ref p]) (z1 : Gd K A H t sc ns) (z2 : H p = some (.tup xs)) (z3 : ¬ A p) (z4 : Rpts A H xs ts) (z5 : rY (.tup ts) = true) (z6 : wL ts ≤ 18300) (z7 : zB 17 ts) (z8 : ∀ (v : V) (H' : Hp), Ths A H' [v] 90000 31 → St1 K H' t sc ns → Ext t H H' → Q v H') : Q4 K vs H Q
noncomputable def Vi (K : W.Frag) : Sp := fun vs H Q _ => Q4 K vs H Q
theorem abc7 {k : Nat} (h : k < 7) : ∃ c, atI ("abcdefg" : Str).cps.toList (0 + (k : Int)) = some c := by
 have c : k = 0 ∨ k = 1 ∨ k = 2 ∨ k = 3 ∨ k = 4 ∨ k = 5 ∨ k = 6 := by omega
 rcases c with rfl | rfl | rfl | rfl | rfl | rfl | rfl <;> exact ⟨_, rfl⟩
theorem Ku (T : Txt P w K mg a) : FnOk P w K mg base CX0 24 a.yC a.jN ["_law_tape_here", "_law_house"] (Vi K) := by
 have S := xT
 have big : (1000000 : Nat) < sizeLine := by decide
 have lX := (mF (P := P) (w := w) (base := base) T).mono (show 1 ≤ 23 by decide)
 have Qg := JD (P := P) (w := w) (base := base) T (19 + 1)
 refine T.bN.okJ xT (fun vs H Q E h => ?_) (fun cdv A0 outer s H vs Q E hr h => ?_)
 ·obtain ⟨t, sc, ns, A, p, xs, ts, rfl, _⟩ := h; rfl
 obtain ⟨t, sc, ns, A, p, xs, ts, rfl, g, hp, hpA, hx, hh, hw, hf, q⟩ := h
 obtain ⟨h1, h6, hpa, hnd⟩ := lT hh
 have hlen := hx.len
 have npt : p ≠ t := fun e => hpA (by rw [e]; exact g.has)
 refine ⟨_, (wQ (kX (i := 2) S.nd rfl (Or.inl rfl) (mZ yY rfl T.eD rfl (qQ (jv 1) jQ))) (wQ (kX (i := 3) S.nd rfl (Or.inl rfl) (mQ lX hr rfl T.kZ T.k_l_draw T.b_l_draw .nil iQ (qQ (jv 0) (qQ (gQ qX rfl T.aX rfl (qQ (jv 2) jQ)) jQ)))) (wQ (kX (i := 4) S.nd rfl (Or.inl rfl) (mQ lX hr rfl T.kZ T.k_l_draw T.b_l_draw .nil iQ (qQ (jv 0) (qQ xQ jQ)))) (wQ (zX (sQ wZ (jv 4) xQ (oQ _)) (uQ (zK (eF PySem.F.plainAttrs_list PySem.F.slot_list_reverse PySem.F.type_list_reverse qI (jv 2)))) tQ) (wQ (zX (sQ wZ (jv 4) xQ (oQ _)) (uQ (zK (uG PySem.F.plainAttrs_list PySem.F.slot_list_insert PySem.F.type_list_insert QP (jv 2) (qQ (mQ lX hr rfl T.kZ T.k_l_draw T.b_l_draw .nil iQ (qQ (jv 0) (qQ (bX fJ (gQ qX rfl T.aX rfl (qQ (jv 2) jQ)) xQ) jQ))) (qQ (cQ hX (jv 2) (jv 3) (fun _ _ => rfl)) jQ))))) tQ) (wQ (zX (sQ wZ (jv 4) xQ (oQ _)) (uQ (zK (uG PySem.F.plainAttrs_list PySem.F.slot_list_pop PySem.F.type_list_pop VS (jv 2) (qQ (jv 3) jQ)))) tQ) (wQ (zX (sQ wZ (jv 4) xQ (oQ _)) (uQ (nL (bX lO (yX (qQ (cQ lQ (cQ hX (jv 2) (mQ lX hr rfl T.kZ T.k_l_draw T.b_l_draw .nil iQ (qQ (jv 0) (qQ (gQ qX rfl T.aX rfl (qQ (jv 2) jQ)) jQ))) (fun _ _ => rfl)) xQ (fun _ _ => rfl)) jQ)) (yZ Jw (cQ hX (jv 2) (jv 3) (fun _ _ => rfl)) (qJ xQ) zJ)) (iH (jv 2) (jv 3) kU))) tQ) (wQ (zX (sQ wZ (jv 4) xQ (oQ _)) (uQ (kX (i := 2) S.nd rfl (Or.inl rfl) (bX tH (jv 2) (vY rfl (show (["_law_k", "_law_tape_here", "_law_house", "_law_parts", "_law_at", "_law_way", "_law_goal"] : List Str).Nodup by decide +kernel) (gV (N := ["_law_tape_here", "_law_house", "_law_parts", "_law_at", "_law_way", "_law_goal"]) rfl (by with_unfolding_all rfl) (by decide +kernel)) (cY rfl T.vF (qQ (bX oH (bX fJ xQ (mQ lX hr rfl T.kZ T.k_l_draw T.b_l_draw .nil iQ (qQ (jv 0) (qQ xQ jQ)))) (gQ qX rfl T.aX rfl (qQ (jv 2) jQ))) jQ)) (fun _ _ _ _ => xK) (fun _ _ _ _ => (yX (qQ (bX wA aQ (cQ ix_str aQ (jv 0) (fun _ _ => rfl))) (qQ (yX jQ) (qQ (yX jQ) (qQ (yX jQ) jQ)))))))))) tQ) (wQ (zX (sQ wZ (jv 4) xQ (oQ _)) (wQ (kX (i := 5) S.nd rfl (Or.inl rfl) (cQ hX (bX tH (cZ (qQ aQ jQ)) (vY rfl (show (["_law_part", "_law_tape_here", "_law_house", "_law_parts", "_law_at", "_law_way", "_law_goal"] : List Str).Nodup by decide +kernel) (gV (N := ["_law_tape_here", "_law_house", "_law_parts", "_law_at", "_law_way", "_law_goal"]) rfl (by with_unfolding_all rfl) (by decide +kernel)) (eO (jv 2)) (fun _ _ _ _ => xK) (fun _ _ _ _ => (cQ (r := zC K) lQ (jv 0) xQ (fun _ _ => rfl))))) (mQ lX hr rfl T.kZ T.k_l_draw T.b_l_draw .nil iQ (qQ (jv 0) (qQ (bX fJ (gQ qX rfl T.aX rfl (qQ (jv 2) jQ)) xQ) jQ))) (fun _ _ => rfl))) (uQ (nL (bX lO (yZ Jw (cQ hX (jv 2) (jv 3) (fun _ _ => rfl)) zJ (qJ xQ)) (yX (qQ (bX lO (cQ lQ (cQ hX (jv 2) (jv 3) (fun _ _ => rfl)) xQ (fun _ _ => rfl)) (yX (qQ (yX (qQ aQ (qQ aZ (qQ (jv 5) (qQ (yX jQ) jQ))))) jQ))) jQ))) (iH (jv 2) (jv 3) kU)))) tQ) (wQ (zX (sQ eG (jv 4) xQ (oQ _)) (uQ (pQ (mQ Qg hr rfl T.Zb T.k_l_bent T.b_l_bent .nil iQ (qQ (jv 0) (qQ (jv 1) jQ))))) tQ) (uQ (pQ (mZ aJ rfl T.tX rfl (qQ (jv 2) jQ)))))))))))))), ?_⟩
 refine ⟨_, rfl, p, xs, rfl, .inr (SqT.of hp), fun l hl => ?_⟩
 have lt : l ≠ t := g.st.ne hl
 have s3 := kQ hl (.lst xs)
 have g3 := (g.same s3).more (d := l) (by rw [zQ]; exact fun z => nomatch z)
 have hx3 := (Rpts.avoid hl hx).same s3
 have hl3 : (upd H l (.lst xs)) l = some (.lst xs) := zQ
 have hp3 := s3 p _ hp
 have e3 : Ext t H (upd H l (.lst xs)) := Ext.same s3
 generalize (upd H l (.lst xs)) = H3 at g3 hx3 hl3 hp3 e3 ⊢
 refine ⟨_, rfl, _, rfl, _, _, rfl, .inl ⟨_, SqL.of hl3, rfl⟩, t, _, sc, ns, rfl, g3.st, (by omega), (by omega), fun at' H4 a0 a1 st4 e4 => ?_⟩
 have g4 := g3.after e4 st4
 refine ⟨_, rfl, t, 8, sc, ns, rfl, g4.st, by decide, by decide, fun way H5 w0 w1 st5 e5 => ?_⟩
 have e45 := e4.trans e5
 have e35 := e3.trans e45
 have g5 := g4.after e5 st5
 have hx5 := g3.keepRs e45 hx3
 have hl5 := e45 _ _ lt hl3
 have hp5 := e45 _ _ npt hp3
 have th5 : Ths (fun x => A x ∨ x = l) H5 xs 18300 17 := (hx5.ths hf).mono hw lR
 have fin : ∀ (H6 : Hp) (ys : List V) (m : Nat) (p6 : Addr), Ths (fun x => A x ∨ x = l) H6 ys m 28 → m + 10 ≤ 90000 → St1 K H6 t sc ns → Ext t H H6 → H6 p6 = none → Q (.ref p6) (upd H6 p6 (.tup ys)) := fun H6 ys m p6 th le st6 e6 hp6 =>
  q _ _ (Ths.tup ((g.after e6 st6).fresh hp6) zQ ((th.weak fun b hb => .inl hb).same (kQ hp6 _)) le (by omega)) (st6.new hp6 _) (e6.trans (Ext.same (kQ hp6 _)))
 obtain ⟨va, ia, eia, hat, hia, hial⟩ := gN (xs := xs) (k := at') a0 a1
 have ca : way = 0 ∨ way = 1 ∨ way = 2 ∨ way = 3 ∨ way = 4 ∨ way = 5 ∨ way = 6 ∨ way = 7 := by omega
 rcases ca with rfl | rfl | rfl | rfl | rfl | rfl | rfl | rfl
 ·refine ⟨_, rfl, rfl, _, rfl, nQ ?_⟩
  obtain ⟨st6, e6⟩ := xU (o := .lst xs.reverse) g.st hl e35 st5
  refine ⟨_, rfl, .inl ⟨rfl, _, SqL.of hl5⟩, l, xs, rfl, rfl, hl5, ?_⟩
  exact ⟨_, rfl, rfl, _, rfl, bQ ⟨_, rfl, rfl, _, rfl, bQ ⟨_, rfl, rfl, _, rfl, bQ ⟨_, rfl, rfl, _, rfl, bQ ⟨_, rfl, rfl, _, rfl, bQ ⟨_, rfl, _, _, rfl, rfl, _, rfl, bQ ⟨_, rfl, l, _, rfl, .inl ⟨SqL.of zQ, fun p6 hp6 => fin _ _ 18300 p6 (Ths.upd (.inr rfl) (th5.reverse.mono lR (by omega))) (by omega) st6 e6 hp6⟩⟩⟩⟩⟩⟩⟩⟩
 ·refine ⟨_, rfl, rfl, _, rfl, bQ ⟨_, rfl, rfl, _, rfl, nQ ?_⟩⟩
  refine ⟨_, rfl, .inl ⟨rfl, _, SqL.of hl5⟩, _, rfl, _, rfl, _, _, rfl, .inl ⟨_, SqL.of hl5, rfl⟩, _, _, rfl, rfl, t, _, sc, ns, rfl, st5, (by omega), (by omega), fun kk H6 k0 k1 st6 e6 => ?_⟩
  have hl6 := e6 _ _ lt hl5
  have th6 := g5.keep e6 th5
  refine ⟨_, rfl, _, rfl, l, _, _, _, rfl, rfl, SqL.of hl6, hat, ?_⟩
  obtain ⟨c', ra, rb, hc', _, _, hle⟩ := th6.parts hia
  obtain ⟨st7, e7⟩ := xU (o := .lst (xs.take kk.toNat ++ va :: xs.drop kk.toNat)) g.st hl (e35.trans e6) st6
  refine ⟨l, xs, kk, va, rfl, rfl, hl6, k0, by omega, by omega, ?_⟩
  refine ⟨_, rfl, rfl, _, rfl, bQ ⟨_, rfl, rfl, _, rfl, bQ ⟨_, rfl, rfl, _, rfl, bQ ⟨_, rfl, rfl, _, rfl, bQ ⟨_, rfl, _, _, rfl, rfl, _, rfl, bQ ⟨_, rfl, l, _, rfl, .inl ⟨SqL.of zQ, fun p6 hp6 => fin _ _ (18300 + (18300 + 18300)) p6 ?_ (by omega) st7 e7 hp6⟩⟩⟩⟩⟩⟩⟩
  exact (Ths.upd (.inr rfl) ((th6.take _).mono lR (by omega))).append (Ths.cons (Ths.upd (.inr rfl) (hc'.mono (by omega) (by omega))) (Ths.upd (.inr rfl) ((th6.drop _).mono lR (by omega))) lR)
 ·refine ⟨_, rfl, rfl, _, rfl, bQ ⟨_, rfl, rfl, _, rfl, bQ ⟨_, rfl, rfl, _, rfl, nQ ?_⟩⟩⟩
  obtain ⟨c', ra, rb, _, hra, hrb, hle⟩ := th5.parts hia
  obtain ⟨st6, e6⟩ := xU (o := .lst (xs.eraseIdx ia)) g.st hl e35 st5
  refine ⟨_, rfl, .inl ⟨rfl, _, SqL.of hl5⟩, _, rfl, l, xs, at', ia, va, rfl, rfl, hl5, by omega, by omega, ?_, hia, ?_⟩
  ·rw [eia]
   exact seq_ix hial
  refine ⟨_, rfl, rfl, _, rfl, bQ ⟨_, rfl, rfl, _, rfl, bQ ⟨_, rfl, rfl, _, rfl, bQ ⟨_, rfl, _, _, rfl, rfl, _, rfl, bQ ⟨_, rfl, l, _, rfl, .inl ⟨SqL.of zQ, fun p6 hp6 => fin _ _ (18300 + 18300) p6 ?_ (by omega) st6 e6 hp6⟩⟩⟩⟩⟩⟩
  rw [List.eraseIdx_eq_take_drop_succ]
  exact Ths.upd (.inr rfl) ((hra.mono (m := 18300) (by omega) (by omega)).append (hrb.mono (m := 18300) (by omega) (by omega)))
 ·refine ⟨_, rfl, rfl, _, rfl, bQ ⟨_, rfl, rfl, _, rfl, bQ ⟨_, rfl, rfl, _, rfl, bQ ⟨_, rfl, rfl, _, rfl, nQ ?_⟩⟩⟩⟩
  refine ⟨_, rfl, _, rfl, _, rfl, _, _, rfl, .inl ⟨_, SqL.of hl5, rfl⟩, t, _, sc, ns, rfl, st5, (by omega), (by omega), fun kk H6 k0 k1 st6 e6 => ?_⟩
  have hl6 := e6 _ _ lt hl5
  have g6 := g5.after e6 st6
  have hx6 := g5.keepRs e6 hx5
  have e36 := e35.trans e6
  obtain ⟨vb, ib, eib, hbt, hib, hibl⟩ := gN (xs := xs) (k := kk) k0 k1
  obtain ⟨tb, htb, rb⟩ := hx6.get hib
  obtain ⟨pb, qb, zb, b1, b2, bl, d1, d2, dl, rfl, nb, ob, rfl, rb1, rb2, nqb, oqb, rbl⟩ := nH rb (hpa tb (List.mem_of_getElem? htb))
  refine ⟨l, _, _, _, rfl, rfl, SqL.of hl6, hbt, pb, _, _, _, rfl, rfl, SqT.of ob, at0 _ _, sZ1, fun p1 h1' => ?_⟩
  have s7 := kQ h1' (.tup [.str zb])
  have n1 : ¬ (fun x => A x ∨ x = l) p1 := g6.fresh h1'
  have o1 : (upd H6 p1 (.tup [.str zb])) p1 = some (.tup [.str zb]) := zQ
  have hl7 := s7 _ _ hl6
  have g7 := g6.same s7
  have hx7 := hx6.same s7
  have e37 := e36.trans (Ext.same s7)
  generalize (upd H6 p1 (.tup [.str zb])) = H7 at o1 hl7 g7 hx7 e37 ⊢
  obtain ⟨ta, hta, ra⟩ := hx7.get hia
  obtain ⟨pa, qa, za, a1', a2', al, c1, c2, cl, rfl, na', oa, rfl, ra1, ra2, nqa, oqa, ral⟩ := nH ra (hpa ta (List.mem_of_getElem? hta))
  refine ⟨_, rfl, _, rfl, l, _, _, _, rfl, rfl, SqL.of hl7, hat, _, rfl, pa, _, rfl, oa, fun r8 H8 s8 o8 f8 => ?_⟩
  have n8 : ¬ (fun x => A x ∨ x = l) r8 := by
   rcases f8 with h | rfl
   ·exact g7.fresh h
   ·exact na'
  rw [cut1] at o8
  have hl8 := s8 _ _ hl7
  have g8 := g7.same s8
  have hx8 := hx7.same s8
  have e38 := e37.trans (Ext.same s8)
  refine ⟨p1, r8, _, _, rfl, rfl, s8 _ _ o1, o8, (by show 1 + 3 ≤ sizeLine; decide), fun r9 H9 s9 o9 f9 => ?_⟩
  have n9 : ¬ (fun x => A x ∨ x = l) r9 := by
   rcases f9 with h | rfl | rfl
   ·exact g8.fresh h
   ·exact n1
   ·exact n8
  have hl9 := s9 _ _ hl8
  have g9 := g8.same s9
  have e39 := e38.trans (Ext.same s9)
  refine ⟨_, rfl, _, rfl, l, xs, at', ia, rfl, rfl, hl9, by rw [eia]; exact Z9 hial, ?_⟩
  obtain ⟨stE, eE⟩ := xU (o := .lst (xs.set ia (.ref r9))) g.st hl e39 g9.st
  have fa := lC hf hta
  have wa := bV hta
  have fb := lC hf htb
  have wb := bV htb
  rw [zV, pX, pX, pX, pX] at fa
  rw [eX, yQ, yQ, yQ, yQ] at wa wb
  rw [bY] at wb
  have ta1 := ((ra1.same s8).same s9).ths1 fa.2.2.1
  have ta2 := ((ra2.same s8).same s9).ths1 fa.2.2.2.1
  have ta3 := (((Rpt.tup nqa oqa ral).same s8).same s9).ths1 fa.2.2.2.2.1
  have tn : Ths (fun x => A x ∨ x = l) H9 [.ref r9] 40000 20 := Ths.tup (k := 39990) (e := 17) n9 o9 (Ths.cons (d := 17) (Ths.one (v := .str zb) (k := zb.length + 1) lR lR) (Ths.cons (ta1.mono lR (by omega)) (Ths.cons (ta2.mono lR (by omega)) (ta3.mono lR (by omega)) lR) lR) (by omega)) (by omega) (by omega)
  have th9 : Ths (fun x => A x ∨ x = l) H9 xs 18300 17 := ((hx8.same s9).ths hf).mono hw lR
  obtain ⟨c', wa', wb', _, hra, hrb, hle⟩ := th9.parts hia
  refine ⟨_, rfl, rfl, _, rfl, bQ ⟨_, rfl, rfl, _, rfl, bQ ⟨_, rfl, _, _, rfl, rfl, _, rfl, bQ ⟨_, rfl, l, _, rfl, .inl ⟨SqL.of zQ, fun p6 hp6 => fin _ _ (18300 + (40000 + 18300)) p6 ?_ (by omega) stE eE hp6⟩⟩⟩⟩⟩
  rw [ZX hial]
  exact Ths.upd (.inr rfl) ((hra.mono (m := 18300) (by omega) (by omega)).append (Ths.cons (tn.mono lR (by omega)) (hrb.mono (m := 18300) (by omega) (by omega)) lR))
 ·refine ⟨_, rfl, rfl, _, rfl, bQ ⟨_, rfl, rfl, _, rfl, bQ ⟨_, rfl, rfl, _, rfl, bQ ⟨_, rfl, rfl, _, rfl, bQ ⟨_, rfl, rfl, _, rfl, nQ ?_⟩⟩⟩⟩⟩
  refine ⟨_, rfl, _, rfl, t, 2, sc, ns, rfl, st5, by decide, by decide, fun kk H6 k0 k1 st6 e6 => ?_⟩
  have hl6 := e6 _ _ lt hl5
  have g6 := g5.after e6 st6
  have th6 := g5.keep e6 th5
  have e36 := e35.trans e6
  refine ⟨_, _, rfl, rfl, _, rfl, _, _, rfl, .inl ⟨_, SqL.of hl6, rfl⟩, _, _, rfl, rfl, _, rfl, by omega, by omega, fun D hD => ?_⟩
  have nD : D ≠ t := g6.st.ne hD
  have sD := kQ hD (.lst [])
  refine ⟨fun i mm ys H' => mm = (6 + kk - ((xs.length : Nat) : Int)).toNat - i ∧ i ≤ (6 + kk - ((xs.length : Nat) : Int)).toNat ∧ ys.length = i ∧ Same H6 H' ∧ H' D = some (.lst ys) ∧ Ths (fun x => (fun x => A x ∨ x = l) x ∨ x = D) H' ys (43 * i) 2, ⟨(6 + kk - ((xs.length : Nat) : Int)).toNat, (Nat.sub_zero _).symm, Nat.zero_le _, rfl, sD, zQ, .nil⟩, ?_⟩
  rintro i mm ys H7 ⟨rfl, hi, hyl, s7, hD7, hys⟩
  have g7 : Gd K (fun x => (fun x => A x ∨ x = l) x ∨ x = D) H7 t sc ns := (g6.same s7).more (d := D) (by rw [hD7]; exact fun z => nomatch z)
  by_cases hlt : i < (6 + kk - ((xs.length : Nat) : Int)).toNat
  ·refine .inr ⟨hlt, ?_⟩
   rintro x' H'' ⟨rfl, rfl⟩
   obtain ⟨c, hc⟩ := abc7 (k := i) (by omega)
   refine ⟨_, rfl, _, _, c, rfl, rfl, (by decide +kernel), hc, _, _, rfl, rfl, (by show 1 + 1 ≤ sizeLine; decide), sZ0, fun p1 h1' => ?_⟩
   have s8 := kQ h1' (.tup [])
   refine ⟨sZ0, fun p2 h2' => ?_⟩
   have s9 := kQ h2' (.tup [])
   refine ⟨sZ0, fun p3 h3' => ?_⟩
   have sA := kQ h3' (.tup [])
   refine ⟨sZ4, fun p4 h4' => ?_⟩
   have sB := kQ h4' (.tup [.str ("z" ++ ⟨#[c]⟩), .ref p1, .ref p2, .ref p3])
   have s789 := (s8.trans s9).trans sA
   have g8 := g7.same s8
   have g9 := g8.same s9
   have gA := g9.same sA
   have t1 : Ths (fun x => (fun x => A x ∨ x = l) x ∨ x = D) _ [.ref p1] 10 1 := Ths.tup (k := 0) (e := 0) (g7.fresh h1') (sA p1 _ (s9 p1 _ zQ)) .nil (by omega) (by omega)
   have t2 : Ths (fun x => (fun x => A x ∨ x = l) x ∨ x = D) _ [.ref p2] 10 1 := Ths.tup (k := 0) (e := 0) (g8.fresh h2') (sA p2 _ zQ) .nil (by omega) (by omega)
   have t3 : Ths (fun x => (fun x => A x ∨ x = l) x ∨ x = D) (upd (upd (upd H'' p1 (.tup [])) p2 (.tup [])) p3 (.tup [])) [.ref p3] 10 1 := Ths.tup (k := 0) (e := 0) (g9.fresh h3') zQ .nil (by omega) (by omega)
   have t4 : Ths (fun x => (fun x => A x ∨ x = l) x ∨ x = D) (upd (upd (upd (upd H'' p1 (.tup [])) p2 (.tup [])) p3 (.tup [])) p4 (.tup [.str ("z" ++ ⟨#[c]⟩), .ref p1, .ref p2, .ref p3])) [.ref p4] 43 2 := Ths.tup (k := 33) (e := 1) (gA.fresh h4') zQ ((Ths.cons (d := 1) (Ths.one (v := .str ("z" ++ ⟨#[c]⟩)) (k := 3) (by show _ + 1 ≤ 3; exact Nat.le_refl 3) lR) (Ths.cons t1 (Ths.cons t2 t3 lR) lR) (by omega)).same sB) (by omega) (by omega)
   have sF := s789.trans sB
   refine ⟨sF D _ hD7, by omega, (6 + kk - ((xs.length : Nat) : Int)).toNat - (i + 1), by omega, rfl, hlt, by rw [List.length_append, hyl]; rfl, mX (s7.trans sF) hD, zQ, ?_⟩
   exact Ths.upd (.inr rfl) (((hys.same sF).append t4).mono (by omega) lR)
  ·have hl7 := s7 _ _ hl6
   refine .inl ⟨Nat.le_of_not_lt hlt, l, D, xs, ys, rfl, rfl, hl7, hD7, by omega, fun l3 h3 => ?_⟩
   have sL := kQ h3 (.lst (xs ++ ys))
   have stL := (st6.same s7).same sL
   have eL := (e36.trans (Ext.same s7)).trans (Ext.same sL)
   have thF : Ths (fun x => A x ∨ x = l) (upd H7 l3 (.lst (xs ++ ys))) (xs ++ ys) (18300 + 43 * i) 28 := (((th6.same s7).mono lR (by omega)).append ((hys.mono lR (by omega)).weak fun b hb => .inl hb)).same sL
   exact ⟨_, rfl, rfl, _, rfl, bQ ⟨_, rfl, _, _, rfl, rfl, _, rfl, bQ ⟨_, rfl, l3, _, rfl, .inl ⟨SqL.of zQ, fun p6 hp6 => fin _ _ _ p6 thF (by omega) stL eL hp6⟩⟩⟩⟩
 ·refine ⟨_, rfl, rfl, _, rfl, bQ ⟨_, rfl, rfl, _, rfl, bQ ⟨_, rfl, rfl, _, rfl, bQ ⟨_, rfl, rfl, _, rfl, bQ ⟨_, rfl, rfl, _, rfl, bQ ⟨_, rfl, rfl, _, rfl, nQ ?_⟩⟩⟩⟩⟩⟩
  refine ⟨sZ1, fun q1 hq1 => ?_⟩
  have s6 := kQ hq1 (.lst [.str "nobody"])
  have oq1 : (upd H5 q1 (.lst [.str "nobody"])) q1 = some (.lst [.str "nobody"]) := zQ
  have hl6 := s6 _ _ hl5
  have g6 := g5.same s6
  have hx6 := hx5.same s6
  have e36 := e35.trans (Ext.same s6)
  have nq1 : q1 ≠ t := g5.st.ne hq1
  generalize (upd H5 q1 (.lst [.str "nobody"])) = H6 at oq1 hl6 g6 hx6 e36 ⊢
  refine ⟨_, rfl, l, rfl, ⟨xs, SqL.of hl6⟩, fun D hD => ?_⟩
  have nD : D ≠ t := g6.st.ne hD
  refine ⟨fun i m zs H' => m = xs.length - i ∧ i ≤ xs.length ∧ H' = upd H6 D (.lst zs) ∧ zs = (ts.take i).map (fun x => V.str (nm x)), ⟨xs.length, by simp, Nat.zero_le _, rfl, rfl⟩, ?_⟩
  rintro i m zs H' ⟨rfl, hi', rfl, rfl⟩
  have sD := kQ hD (.lst ((ts.take i).map (fun x => V.str (nm x))))
  by_cases hlt : i < xs.length
  ·refine .inr ⟨⟨xs, xs[i], SqL.of (sD l _ hl6), List.getElem?_eq_getElem hlt⟩, ?_⟩
   rintro x' H'' ⟨rfl, hxi⟩
   have hxi := hxi xs (SqL.of (sD l _ hl6))
   obtain ⟨tx, htx, hrx⟩ := hx6.get hxi
   obtain ⟨p2, z2, r, rs, rfl, hp2, rfl, _, _⟩ := cJ hrx.rep (vU (hpa tx (List.mem_of_getElem? htx)))
   refine ⟨_, rfl, p2, _, _, _, rfl, rfl, SqT.of (sD p2 _ hp2), at0 _ _, ?_⟩
   exact ⟨zQ, by rw [List.length_map, List.length_take]; omega, xs.length - (i + 1), by omega, rfl, hlt, sV, (map_take (f := fun x => V.str (nm x)) htx).symm⟩
  have ei : i = xs.length := by omega
  subst ei
  rw [hlen, List.take_length] at sD ⊢
  have hN : (upd H6 D (.lst (ts.map fun x => V.str (nm x)))) D = some (.lst ((ts.map nm).map V.str)) := by
   rw [zQ, List.map_map]
   rfl
  have oq1 := sD _ _ oq1
  have hl7 := sD _ _ hl6
  have g7 := g6.same sD
  have hx7 := hx6.same sD
  have e37 := e36.trans (Ext.same sD)
  generalize (upd H6 D (.lst (ts.map fun x => V.str (nm x)))) = H7 at hN oq1 hl7 g7 hx7 e37 ⊢
  refine .inl ⟨⟨xs, SqL.of hl7, by omega⟩, q1, D, [.str "nobody"], (ts.map nm).map V.str, rfl, rfl, oq1, hN, (by rw [List.length_map, List.length_map]; show 1 + _ ≤ _; omega), fun l3 h3 => ?_⟩
  have sL := kQ h3 (.lst ([.str "nobody"] ++ (ts.map nm).map V.str))
  have nl3 : l3 ≠ t := g7.st.ne h3
  have ol3 : (upd H7 l3 (.lst ([.str "nobody"] ++ (ts.map nm).map V.str))) l3 = some (.lst ((("nobody" : Str) :: ts.map nm).map V.str)) := zQ
  have hl8 := sL _ _ hl7
  have g8 := g7.same sL
  have hx8 := hx7.same sL
  have e38 := e37.trans (Ext.same sL)
  generalize (upd H7 l3 (.lst ([.str "nobody"] ++ (ts.map nm).map V.str))) = H8 at ol3 hl8 g8 hx8 e38 ⊢
  refine ⟨_, rfl, _, rfl, _, _, rfl, .inl ⟨_, SqL.of hl8, rfl⟩, _, _, rfl, rfl, t, _, sc, ns, rfl, g8.st, (by omega), (by omega), fun kk H9 k0 k1 st9 e9 => ?_⟩
  have ol3 := e9 _ _ nl3 ol3
  have hl9 := e9 _ _ lt hl8
  have hx9 := g8.keepRs e9 hx8
  have g9 := g8.after e9 st9
  have e39 := e38.trans e9
  obtain ⟨zg, hzg, hzl⟩ : ∃ z : Str, atI ((("nobody" : Str) :: ts.map nm).map V.str) kk = some (.str z) ∧ z.length ≤ 8 := by
   obtain ⟨v', i', _, hat', hi', _⟩ := gN (xs := (("nobody" : Str) :: ts.map nm).map V.str) (k := kk) k0 (by rw [List.length_map, List.length_cons, List.length_map]; omega)
   rw [List.getElem?_map] at hi'
   cases hz : (("nobody" : Str) :: ts.map nm)[i']? with
   | none => rw [hz] at hi'; cases hi'
   | some z =>
    rw [hz] at hi'
    cases hi'
    refine ⟨z, hat', ?_⟩
    rcases List.mem_cons.mp (List.mem_of_getElem? hz) with h | h
    ·rw [h]; decide +kernel
    ·obtain ⟨t', ht', e'⟩ := List.mem_map.mp h
     rw [← e']
     exact nm_len (hpa t' ht')
  refine ⟨l3, _, _, _, rfl, rfl, SqL.of ol3, hzg, ?_⟩
  obtain ⟨ta, hta, ra⟩ := hx9.get hia
  obtain ⟨pa, qa, za, a1', a2', al, c1, c2, cl, rfl, na', oa, rfl, ra1, ra2, nqa, oqa, ral⟩ := nH ra (hpa ta (List.mem_of_getElem? hta))
  refine ⟨_, rfl, _, rfl, l, _, _, _, rfl, rfl, SqL.of hl9, hat, _, rfl, pa, _, rfl, oa, fun rA HA sA oA fA => ?_⟩
  have nA : ¬ (fun x => A x ∨ x = l) rA := by
   rcases fA with h | rfl
   ·exact g9.fresh h
   ·exact na'
  have oA : HA rA = some (.tup [.str za, a1', a2']) := oA
  have hlA := sA _ _ hl9
  have gA := g9.same sA
  have hxA := hx9.same sA
  have e3A := e39.trans (Ext.same sA)
  refine ⟨_, rfl, _, rfl, l, _, _, _, rfl, rfl, SqL.of hlA, hat, pa, _, _, _, rfl, rfl, SqT.of (sA _ _ oa), at3 _ _ _ _ _, _, rfl, sZ0, fun pB hB => ?_⟩
  have sB := kQ hB (.tup [])
  have gB := gA.same sB
  have oB : (upd HA pB (.tup [])) pB = some (.tup []) := zQ
  have nB : ¬ (fun x => A x ∨ x = l) pB := gA.fresh hB
  generalize (upd HA pB (.tup [])) = HB at sB gB oB ⊢
  refine ⟨sZ4, fun pC hC => ?_⟩
  have sC := kQ hC (.tup [.str "part", .non, .str zg, .ref pB])
  have gC := gB.same sC
  have oC : (upd HB pC (.tup [.str "part", .non, .str zg, .ref pB])) pC = some (.tup [.str "part", .non, .str zg, .ref pB]) := zQ
  have nC : ¬ (fun x => A x ∨ x = l) pC := gB.fresh hC
  have oB := sC _ _ oB
  generalize (upd HB pC (.tup [.str "part", .non, .str zg, .ref pB])) = HC at sC gC oC oB ⊢
  refine ⟨sZ1, fun pD hDD => ?_⟩
  have sDD := kQ hDD (.tup [.ref pC])
  have gD := gC.same sDD
  have oD : (upd HC pD (.tup [.ref pC])) pD = some (.tup [.ref pC]) := zQ
  have nDD : ¬ (fun x => A x ∨ x = l) pD := gC.fresh hDD
  have oC := sDD _ _ oC
  have oB := sDD _ _ oB
  generalize (upd HC pD (.tup [.ref pC])) = HD at sDD gD oD oC oB ⊢
  have sAD := (sB.trans sC).trans sDD
  have hral := (((ral.same sA).same sB).same sC).same sDD
  have hallen := hral.len
  have wa := bV hta
  rw [eX, yQ, yQ, yQ, yQ, eX] at wa
  have wcl := kJ cl
  refine ⟨qa, pD, _, _, rfl, rfl, sAD _ _ (sA _ _ oqa), oD, (by show al.length + 1 ≤ _; omega), fun rE HE sE oE fE => ?_⟩
  have nE : ¬ (fun x => A x ∨ x = l) rE := by
   rcases fE with h | rfl | rfl
   ·exact gD.fresh h
   ·exact nqa
   ·exact nDD
  have gE := gD.same sE
  refine ⟨sZ1, fun pF hF => ?_⟩
  have sF := kQ hF (.tup [.ref rE])
  have gF := gE.same sF
  have oF : (upd HE pF (.tup [.ref rE])) pF = some (.tup [.ref rE]) := zQ
  have nF : ¬ (fun x => A x ∨ x = l) pF := gE.fresh hF
  have sAF := (sAD.trans sE).trans sF
  generalize (upd HE pF (.tup [.ref rE])) = HF at sF gF oF sAF ⊢
  refine ⟨rA, pF, _, _, rfl, rfl, sAF _ _ oA, oF, (by show 3 + 1 ≤ sizeLine; decide), fun rG HG sG oG fG => ?_⟩
  have nG : ¬ (fun x => A x ∨ x = l) rG := by
   rcases fG with h | rfl | rfl
   ·exact gF.fresh h
   ·exact nA
   ·exact nF
  have sAG := sAF.trans sG
  have sEG := sF.trans sG
  have sDG := sE.trans sEG
  have gG := gF.same sG
  have hlG := sAG _ _ hlA
  have e3G := e3A.trans (Ext.same sAG)
  refine ⟨_, rfl, _, rfl, l, xs, at', ia, rfl, rfl, hlG, by rw [eia]; exact Z9 hial, ?_⟩
  obtain ⟨stE', eE'⟩ := xU (o := .lst (xs.set ia (.ref rG))) g.st hl e3G gG.st
  have fa := lC hf hta
  rw [zV, pX, pX, pX, pX, zV] at fa
  have ta1 := ((ra1.same sA).same sAG).ths1 fa.2.2.1
  have ta2 := ((ra2.same sA).same sAG).ths1 fa.2.2.2.1
  have tal := (hral.same sDG).ths fa.2.2.2.2.1.2
  have tB : Ths (fun x => A x ∨ x = l) HG [.ref pB] 10 1 := Ths.tup (k := 0) (e := 0) nB (sDG _ _ oB) .nil (by omega) (by omega)
  have tC : Ths (fun x => A x ∨ x = l) HG [.ref pC] 50 3 := Ths.tup (k := 30) (e := 2) nC (sDG _ _ oC) (Ths.cons (d := 2) (Ths.one (v := .str "part") (k := 5) (by show _ + 1 ≤ 5; decide +kernel) lR) (Ths.cons (Ths.one (v := .non) (k := 1) (by show 1 ≤ 1; decide) lR) (Ths.cons (Ths.one (v := .str zg) (k := 9) (by show _ + 1 ≤ 9; omega) lR) (tB.mono lR (by omega)) lR) lR) (by omega)) (by omega) (by omega)
  have tE : Ths (fun x => A x ∨ x = l) HG [.ref rE] 19000 19 := Ths.tup (k := 18900) (e := 18) nE (sEG _ _ oE) (((tal.mono lR (by omega)).append (tC.mono lR (by omega))).mono (by omega) lR) (by omega) (by omega)
  have tn : Ths (fun x => A x ∨ x = l) HG [.ref rG] 60000 20 := Ths.tup (k := 59990) (e := 19) nG oG (Ths.cons (d := 19) (Ths.one (v := .str za) (k := za.length + 1) lR lR) (Ths.cons (ta1.mono lR (by omega)) (Ths.cons (ta2.mono lR (by omega)) tE lR) lR) (by rw [bY] at wa; omega)) (by omega) (by omega)
  have thG : Ths (fun x => A x ∨ x = l) HG xs 18300 17 := ((hxA.same sAG).ths hf).mono hw lR
  obtain ⟨c', wa', wb', _, hra, hrb, hle⟩ := thG.parts hia
  refine ⟨_, rfl, _, _, rfl, rfl, _, rfl, bQ ⟨_, rfl, l, _, rfl, .inl ⟨SqL.of zQ, fun p6 hp6 => fin _ _ (18300 + 60000) p6 ?_ (by omega) stE' eE' hp6⟩⟩⟩
  rw [ZX hial]
  exact Ths.upd (.inr rfl) (((hra.mono (m := wa') lR (by omega)).append (Ths.cons (tn.mono lR (by omega)) (hrb.mono (m := wb') lR (by omega)) lR)).mono (by omega) lR)
 ·refine ⟨_, rfl, rfl, _, rfl, bQ ⟨_, rfl, rfl, _, rfl, bQ ⟨_, rfl, rfl, _, rfl, bQ ⟨_, rfl, rfl, _, rfl, bQ ⟨_, rfl, rfl, _, rfl, bQ ⟨_, rfl, rfl, _, rfl, bQ ⟨_, rfl, _, _, rfl, rfl, _, rfl, nQ ⟨_, rfl, _, rfl, t, sc, ns, A, .ref p, 18310, 18, rfl, g.after e35 st5, Ths.tup hpA hp5 ((th5.weak fun b hb => .inl hb)) (by omega) (by omega), by decide, by decide, fun v6 H6 th st6 e6 => ?_⟩⟩⟩⟩⟩⟩⟩⟩
  exact q _ _ (th.mono (by omega) (by omega)) st6 (e35.trans e6)
 ·refine ⟨_, rfl, rfl, _, rfl, bQ ⟨_, rfl, rfl, _, rfl, bQ ⟨_, rfl, rfl, _, rfl, bQ ⟨_, rfl, rfl, _, rfl, bQ ⟨_, rfl, rfl, _, rfl, bQ ⟨_, rfl, rfl, _, rfl, bQ ⟨_, rfl, _, _, rfl, rfl, _, rfl, nQ ⟨_, rfl, _, rfl, t, sc, ns, A, .ref p, 18310, 18, rfl, g.after e35 st5, Ths.tup hpA hp5 ((th5.weak fun b hb => .inl hb)) (by omega) (by omega), by decide, by decide, fun v6 H6 th st6 e6 => ?_⟩⟩⟩⟩⟩⟩⟩⟩
  exact q _ _ (th.mono (by omega) (by omega)) st6 (e35.trans e6)
end
end K06
namespace K06
open PySem L2
section
variable {P : Program} {w : World} {K : W.Frag} {mg : Str → Option Value} {base : Heap} {a : Adr}
inductive Wv (K : W.Frag) (vs : List V) (H : Hp) (Q : VK) : Prop
 | mk (sc : Addr) (ns : List Int) (z0 : vs = [.ref sc]) (z1 : SqL K H sc (ns.map V.int)) (z2 : ns.length ≤ 63) (z3 : ∀ H', Q (.bl true) H') : Wv K vs H Q
noncomputable def spLaw (K : W.Frag) : Sp := fun vs H Q _ => Wv K vs H Q
noncomputable def isT (t : Addr) : Addr → Prop := fun x => x = t
theorem Zk {H : Hp} {t sc : Addr} {ns : List Int} (st : St1 K H t sc ns) : Gd K (isT t) H t sc ns := ⟨st, rfl, fun x e => by
 have e : x = t := e
 subst e
 obtain ⟨_, _, _, q, _⟩ := st.tp
 rw [q]
 exact fun z => nomatch z⟩
theorem ok_law (T : Txt P w K mg a) : FnOk P w K mg base CX0 25 a.law a.Zv ["_law_script"] (spLaw K) := by
 have S := Vk
 have WB := (ok_tape (P := P) (w := w) (base := base) T).mono (show 1 ≤ 24 by decide)
 have mO := (uA (P := P) (w := w) (base := base) T).mono (show 3 ≤ 24 by decide)
 have jD := (fH (P := P) (w := w) (base := base) T).mono (show 10 ≤ 24 by decide)
 have xH := (VJ (P := P) (w := w) (base := base) T).mono (show 13 ≤ 24 by decide)
 have K4 := (VO (P := P) (w := w) (base := base) T).mono (show 2 ≤ 24 by decide)
 have Ji := Ku (P := P) (w := w) (base := base) T
 refine T.F_law.okJ Vk (fun vs H Q E h => ?_) (fun cdv A outer s H vs Q E hr h => ?_)
 ·obtain ⟨sc, ns, rfl, _⟩ := h; rfl
 obtain ⟨sc, ns, rfl, hs, hl, q⟩ := h
 refine ⟨_, (wQ (kX (i := 1) S.nd rfl (Or.inl rfl) (mQ WB hr rfl T.VU T.k_l_tape T.b_l_tape .nil iQ (qQ (jv 0) jQ))) (wQ (kX (i := 2) S.nd rfl (Or.inl rfl) (mQ mO hr rfl T.wO T.k_l_small_house T.b_l_small_house .nil iQ (qQ (jv 1) jQ))) (wQ (zX (iX (zZ (xX (jX (mQ jD hr rfl T.wC T.k_l_is_house T.b_l_is_house .nil iQ (qQ (jv 2) jQ)))) (zZ (xX (jX (mQ xH hr rfl T.iP T.k_l_right T.b_l_right .nil iQ (qQ (jv 2) jQ)))) (qZ (xX (jX (mQ K4 hr rfl T.KA T.k_l_named T.b_l_named .nil iQ (qQ (jv 2) jQ)))))))) (uQ (pQ fX)) tQ) (wQ (xY PassesOwn.never rfl (cY rfl T.vF (qQ xQ jQ)) (pK (i := 3) S.nd rfl (Or.inl rfl)) (wQ (kX (i := 4) S.nd rfl (Or.inl rfl) (mQ Ji hr rfl T.Z5 T.k_l_turned T.b_l_turned .nil iQ (qQ (jv 1) (qQ (jv 2) jQ)))) (uQ (zX (xX (jX (mQ xH hr rfl T.iP T.k_l_right T.b_l_right .nil iQ (qQ (jv 4) jQ)))) (uQ (pQ fX)) tQ)))) (uQ (pQ (lY (mQ xH hr rfl T.iP T.k_l_right T.b_l_right .nil iQ (qQ (yX jQ) jQ)) (bU (mQ xH hr rfl T.iP T.k_l_right T.b_l_right .nil iQ (qQ (mZ yY rfl T.eD rfl (qQ (jv 2) jQ)) jQ)))))))))), ?_⟩
 refine ⟨_, rfl, sc, ns, rfl, hs, hl, fun t H1 s1 st1 => ?_⟩
 refine ⟨_, rfl, t, sc, ns, isT t, rfl, Zk st1, fun p xs ts H2 hp hpA hx hh hnb hw hf st2 e2 => ?_⟩
 have npt : p ≠ t := hpA
 have house : ∀ H', H' p = some (.tup xs) → Rpts (isT t) H' xs ts → Ths (isT t) H' [.ref p] 18310 18 := fun H' o r => Ths.tup hpA o ((r.ths hf).mono hw lR) (by omega) (by omega)
 refine ⟨_, rfl, .ref p, .tup ts, rfl, .tup hp hx.reps, by rw [eX]; omega, fun H3 s3 => ⟨_, rfl, ?_⟩⟩
 rw [hh]
 refine bQ ⟨_, rfl, .ref p, isT t, 18310, 18, rfl, house _ (s3 _ _ hp) (hx.same s3), by decide, fun H4 s4 => ⟨_, rfl, bQ ?_⟩⟩
 have s34 := s3.trans s4
 refine ⟨_, rfl, p, xs, ts, rfl, s34 _ _ hp, (hx.same s34).reps, hh, hnb, fun H5 s5 => ⟨_, rfl, bQ ?_⟩⟩
 have s35 := s34.trans s5
 refine ⟨10, rfl, by decide, by decide, ?_⟩
 refine jH (fun i σ' H' => ∃ x3 x4, σ' = [some (.ref sc), some (.ref t), some (.ref p), x3, x4] ∧ St1 K H' t sc ns ∧ H' p = some (.tup xs) ∧ Rpts (isT t) H' xs ts) ⟨none, none, rfl, st2.same s35, s35 _ _ hp, hx.same s35⟩ ?_ ?_
 ·rintro i σ' H6 hi ⟨x3, x4, rfl, st6, hp6, hx6⟩
  refine ⟨_, rfl, _, rfl, t, sc, ns, isT t, p, xs, ts, rfl, Zk st6, hp6, hpA, hx6, hh, hw, hf, fun v7 H7 th7 st7 e7 => ?_⟩
  have hx7 := (Zk st6).keepRs e7 hx6
  have hp7 := e7 _ _ npt hp6
  exact ⟨_, rfl, v7, isT t, 90000, 31, rfl, th7, by decide, fun H8 s8 => ⟨_, rfl, bQ ⟨_, _, rfl, st7.same s8, s8 _ _ hp7, hx7.same s8⟩⟩⟩
 ·rintro σ' H6 ⟨x3, x4, rfl, st6, hp6, hx6⟩
  refine ⟨sZ0, fun p9 h9 => ?_⟩
  have s9 := kQ h9 (.tup [])
  refine ⟨.ref p9, isT t, 10, 1, rfl, Ths.tup (k := 0) (e := 0) ((Zk st6).fresh h9) zQ .nil (by omega) (by omega), by decide, fun HA sA => ⟨_, rfl, nQ ?_⟩⟩
  have s9A := s9.trans sA
  refine ⟨_, rfl, p, xs, rfl, .inr (SqT.of (s9A _ _ hp6)), fun l hl' => ?_⟩
  have sB := kQ hl' (.lst xs)
  exact ⟨.ref l, isT t, 18310, 18, rfl, Ths.lst ((Zk (st6.same s9A)).fresh hl') zQ ((((hx6.same s9A).same sB).ths hf).mono hw lR) (by omega) (by omega), by decide, fun HC _ => q HC⟩
end
end K06
namespace K06
open PySem L2
theorem walk {l : W.OpenLaw} {q : Program} {loose : List Str} {XP : (Str → Option Value) → Heap → Prop} {YP : World → Heap → Prop} {d : DefRec} {K : Params → W.Frag} (hn : l.most = some 63) (hdf : d.params.defaults = []) (hnm : d.name = "law")
  (hY : ∀ (w : World) (h : Heap), YP w h → (K w.params).In h)
  (F : ∀ (w : World) (mg : Str → Option Value) (h : Heap), (K w.params).In h → h.Ns mainGlobals mg → ∃ a : Adr, Txt l.prog w (K w.params) mg a ∧ ∃ (f : Addr) (kV dc pm : Value) (an : Option Addr) (cd ct : Value), a.law = f ∧ a.Zv = W.fnOf "law" "law" (dQ kB) (fQ kB) (vQ kB) .none kV dc pm an cd ct) :
  W.WalkO q loose XP YP l.row.toRowW d [] (fun f vs => PySem.call f vs) := by
 refine L2.walk_of (n := 63) (k := 25) (x := "_law_script") (CX := fun _ => CX0) (sp := fun w => spLaw (K w.params)) hn (by decide) hdf ⟨rfl, by decide, by decide⟩ hY ?_ (fun _ _ a ns hl _ hS => ⟨a, ns, rfl, hS, hl, fun _ => rfl⟩) fun _ _ _ _ _ z => z
 intro w mg fa h KX G hmg
 obtain ⟨a, T, f, kV, dc, pm, an, cd, ct, e1, e2⟩ := F w mg h KX G
 rw [hnm] at hmg
 have e := hmg.symm.trans T.m_law
 cases e
 refine ⟨a.Zv, ?_, fun base _ _ => ok_law T⟩
 rw [e2]
 exact fun s u => .of_eq rfl
end K06
open PySem PySem.W PyProof.Rows
namespace PySem.W.Fast
theorem tw16449146960472341002:True:=⟨⟩
theorem tw16220507532290469475:True:=⟨⟩
theorem tw13879605689731513630:True:=⟨⟩
theorem tw4561455010454705384:True:=⟨⟩
theorem tw5811846562657654596:True:=⟨⟩
theorem tw10002643634267712408:True:=⟨⟩
theorem tw7882836525038753932:True:=⟨⟩
theorem tw3615428116095308935:True:=⟨⟩
theorem tw16897746349049158509:True:=⟨⟩
theorem tw3193752271217467672:True:=⟨⟩
theorem tw3939551643895495300:True:=⟨⟩
theorem tw11957884500891994600:True:=⟨⟩
theorem tw9477554071973148310:True:=⟨⟩
theorem tw16863876793890978580:True:=⟨⟩
theorem tw151872024231569462:True:=⟨⟩
theorem tw17068448427307694778:True:=⟨⟩
theorem tw3401761996837398639:True:=⟨⟩
theorem tw11384804450630049658:True:=⟨⟩
theorem tw17721154915878588480:True:=⟨⟩
theorem tw6428540982778341743:True:=⟨⟩
theorem tw17442600602706446522:True:=⟨⟩
theorem tw4920566852737145073:True:=⟨⟩
theorem tw11713380307143291815:True:=⟨⟩
theorem tw12717815861660997399:True:=⟨⟩
theorem tw9320373387045987203:True:=⟨⟩
theorem tw3809760192706645358:True:=⟨⟩
theorem tw6185395454633813039:True:=⟨⟩
theorem tw9230566266253796630:True:=⟨⟩
theorem tw16462864262142034565:True:=⟨⟩
theorem tw5269682021539123671:True:=⟨⟩
theorem tw12348743672825586836:True:=⟨⟩
theorem tw3889753978701530062:True:=⟨⟩
theorem tw11445640978439491546:True:=⟨⟩
theorem tw5194550194530351312:True:=⟨⟩
theorem tw3807122393429854893:True:=⟨⟩
theorem tw5109866551552964088:True:=⟨⟩
theorem tw6764824935658170682:True:=⟨⟩
theorem tw3536966102066557043:True:=⟨⟩
theorem tw15218156353304595334:True:=⟨⟩
theorem tw7392617176948467140:True:=⟨⟩
theorem tw8952324975101763511:True:=⟨⟩
theorem tw18002568901044973395:True:=⟨⟩
theorem tw5129394523973016543:True:=⟨⟩
theorem tw3566712173337983356:True:=⟨⟩
theorem tw4235392839524574406:True:=⟨⟩
theorem tw13714447635932492351:True:=⟨⟩
theorem tw12308164802702985298:True:=⟨⟩
theorem tw9070470355109848013:True:=⟨⟩
theorem tw13983208752313671500:True:=⟨⟩
theorem tw3314425215459490088:True:=⟨⟩
theorem tw14728188209595187664:True:=⟨⟩
theorem tw5826790454649278389:True:=⟨⟩
theorem tw4025663994141606426:True:=⟨⟩
theorem tw2709736218299387565:True:=⟨⟩
theorem tw7575772860954538923:True:=⟨⟩
theorem tw1502159336152950818:True:=⟨⟩
theorem tw2757876648836140324:True:=⟨⟩
theorem tw4857988088438681661:True:=⟨⟩
theorem tw1101431298363395251:True:=⟨⟩
theorem tw13555544222285815088:True:=⟨⟩
theorem tw14758477950249949460:True:=⟨⟩
theorem tw2210912554687331889:True:=⟨⟩
theorem tw6614308341049436301:True:=⟨⟩
theorem tw8321489660239659461:True:=⟨⟩
theorem tw10497819149878864183:True:=⟨⟩
theorem tw16247936617170788831:True:=⟨⟩
theorem tw9710803537534381968:True:=⟨⟩
theorem tw10472414247350954830:True:=⟨⟩
theorem tw18072259401098765582:True:=⟨⟩
theorem tw8676532666097116379:True:=⟨⟩
theorem tw542323363048390593:True:=⟨⟩
theorem tw13689180405771550449:True:=⟨⟩
theorem tw12895773926895976441:True:=⟨⟩
theorem tw4625959291413375319:True:=⟨⟩
theorem tw17381792118215431731:True:=⟨⟩
theorem tw6316940728043214302:True:=⟨⟩
theorem tw17318455289649537494:True:=⟨⟩
theorem tw9098584482481973114:True:=⟨⟩
theorem tw16671763779922251114:True:=⟨⟩
theorem tw10908612355309172981:True:=⟨⟩
theorem tw4025540299472375931:True:=⟨⟩
theorem tw10546561294798585521:True:=⟨⟩
theorem tw17511647008878175041:True:=⟨⟩
theorem tw12876821716549532898:True:=⟨⟩
theorem tw8949949475786082580:True:=⟨⟩
theorem tw12776314516057878496:True:=⟨⟩
theorem tw8208983515034431580:True:=⟨⟩
theorem tw4303182000663552530:True:=⟨⟩
theorem tw12022615990631413422:True:=⟨⟩
theorem tw5266450904413039642:True:=⟨⟩
theorem tw4123474199948893658:True:=⟨⟩
theorem tw2076419206855742413:True:=⟨⟩
theorem tw9392504721898246118:True:=⟨⟩
theorem tw16671357061369766758:True:=⟨⟩
theorem tw1862625215036185256:True:=⟨⟩
theorem tw15824362453967225344:True:=⟨⟩
theorem tw8701054362721483390:True:=⟨⟩
theorem tw2176331738630574296:True:=⟨⟩
theorem tw4741747281727594119:True:=⟨⟩
theorem tw15466171338378882379:True:=⟨⟩
theorem tw16960641776691660993:True:=⟨⟩
theorem tw535320881436778198:True:=⟨⟩
theorem tw12122373812809376640:True:=⟨⟩
theorem tw7867776480704552503:True:=⟨⟩
theorem tw7900335325612036928:True:=⟨⟩
theorem tw476184801599009065:True:=⟨⟩
theorem tw6975564490731388548:True:=⟨⟩
theorem tw18156056381807479412:True:=⟨⟩
theorem tw3472955041642001247:True:=⟨⟩
theorem tw7460571632562014008:True:=⟨⟩
end PySem.W.Fast
set_option maxRecDepth 100000 in
set_option maxHeartbeats 0 in
theorem PySem.Challenge.cw_viewwood_k06_what_is_a_house_holds : PySem.Challenge.rw_viewwood_k06_what_is_a_house.Holds := by
 w_on; o_law; k_head; (case hw => w_witness2)
 k_fill
 refine K06.walk (l := PySem.Challenge.rw_viewwood_k06_what_is_a_house) rfl rfl rfl (fun w h Y => W.kIn_of Y) ?F
 case F =>
  intro w mg h KX G
  refine' K06.txt_mk KX G ?a0 ?l0 ?c0 ?k0 ?a1 ?l1 ?c1 ?k1 ?a2 ?l2 ?c2 ?k2 ?a3 ?l3 ?c3 ?k3 ?a4 ?l4 ?c4 ?k4 ?a5 ?l5 ?c5 ?k5 ?a6 ?l6 ?c6 ?k6 ?a7 ?l7 ?c7 ?k7 ?a8 ?l8 ?c8 ?k8 ?a9 ?l9 ?c9 ?k9 ?a10 ?l10 ?c10 ?k10 ?a11 ?l11 ?c11 ?k11 ?a12 ?l12 ?c12 ?k12 ?a13 ?l13 ?c13 ?k13 ?a14 ?l14 ?c14 ?k14 ?a15 ?l15 ?c15 ?k15 ?a16 ?l16 ?c16 ?k16 ?a17 ?l17 ?c17 ?k17 ?a18 ?l18 ?c18 ?k18 ?a19 ?l19 ?c19 ?k19 ?a20 ?l20 ?c20 ?k20 ?a21 ?l21 ?c21 ?k21 ?a22 ?l22 ?c22 ?k22 ?a23 ?l23 ?c23 ?k23 ?a24 ?l24 ?c24 ?k24 ?a25 ?l25 ?c25 ?k25 ?a26 ?l26 ?c26 ?k26 ?a27 ?l27 ?c27 ?k27 ?a28 ?l28 ?c28 ?k28 ?a29 ?l29 ?c29 ?k29 ?a30 ?l30 ?c30 ?k30 ?a31 ?l31 ?c31 ?k31 ?a32 ?l32 ?c32 ?k32 ?a33 ?l33 ?c33 ?k33 ?a34 ?l34 ?c34 ?k34 ?a35 ?l35 ?c35 ?k35 ?a36 ?l36 ?c36 ?k36 ?a37 ?l37 ?c37 ?k37 ?a38 ?l38 ?c38 ?k38 ?a39 ?l39 ?c39 ?k39 ?a40 ?l40 ?c40 ?k40 ?a41 ?l41 ?c41 ?k41 ?a42 ?l42 ?c42 ?k42 ?a43 ?l43 ?c43 ?k43 ?a44 ?l44 ?c44 ?k44 ?a45 ?l45 ?c45 ?k45 ?gl0 ?gl1 ?gl2 ?gl3 ?ql3 ?gl4 ?ql4 ?sm4 ?gl5 ?ql5 ?sm5 ?gl6 ?ql6 ?sm6 ?pl6_0 ?pl6_1 ?pl6_2 ?pl6_3 ?pl6_4 ?gl7 ?ql7 ?gl8 ?gl9 ?gl10 ?gl11 ?gl12 ?gl13 ?gl14 ?gl15 ?z0 ?z1 ?z2 ?z3 ?z4 ?z5 ?z6 ?z7 ?z8 ?z9 ?z10 ?z11
  (case a0 => k_is)
  (case l0 => k_is)
  (case c0 => k_is)
  (case k0 => k_is)
  (case a1 => k_is)
  (case l1 => k_is)
  (case c1 => k_is)
  (case k1 => k_is)
  (case a2 => k_is)
  (case l2 => k_is)
  (case c2 => k_is)
  (case k2 => k_is)
  (case a3 => k_is)
  (case l3 => k_is)
  (case c3 => k_is)
  (case k3 => k_is)
  (case a4 => k_is)
  (case l4 => k_is)
  (case c4 => k_is)
  (case k4 => k_is)
  (case a5 => k_is)
  (case l5 => k_is)
  (case c5 => k_is)
  (case k5 => k_is)
  (case a6 => k_is)
  (case l6 => k_is)
  (case c6 => k_is)
  (case k6 => k_is)
  (case a7 => k_is)
  (case l7 => k_is)
  (case c7 => k_is)
  (case k7 => k_is)
  (case a8 => k_is)
  (case l8 => k_is)
  (case c8 => k_is)
  (case k8 => k_is)
  (case a9 => k_is)
  (case l9 => k_is)
  (case c9 => k_is)
  (case k9 => k_is)
  (case a10 => k_is)
  (case l10 => k_is)
  (case c10 => k_is)
  (case k10 => k_is)
  (case a11 => k_is)
  (case l11 => k_is)
  (case c11 => k_is)
  (case k11 => k_is)
  (case a12 => k_is)
  (case l12 => k_is)
  (case c12 => k_is)
  (case k12 => k_is)
  (case a13 => k_is)
  (case l13 => k_is)
  (case c13 => k_is)
  (case k13 => k_is)
  (case a14 => k_is)
  (case l14 => k_is)
  (case c14 => k_is)
  (case k14 => k_is)
  (case a15 => k_is)
  (case l15 => k_is)
  (case c15 => k_is)
  (case k15 => k_is)
  (case a16 => k_is)
  (case l16 => k_is)
  (case c16 => k_is)
  (case k16 => k_is)
  (case a17 => k_is)
  (case l17 => k_is)
  (case c17 => k_is)
  (case k17 => k_is)
  (case a18 => k_is)
  (case l18 => k_is)
  (case c18 => k_is)
  (case k18 => k_is)
  (case a19 => k_is)
  (case l19 => k_is)
  (case c19 => k_is)
  (case k19 => k_is)
  (case a20 => k_is)
  (case l20 => k_is)
  (case c20 => k_is)
  (case k20 => k_is)
  (case a21 => k_is)
  (case l21 => k_is)
  (case c21 => k_is)
  (case k21 => k_is)
  (case a22 => k_is)
  (case l22 => k_is)
  (case c22 => k_is)
  (case k22 => k_is)
  (case a23 => k_is)
  (case l23 => k_is)
  (case c23 => k_is)
  (case k23 => k_is)
  (case a24 => k_is)
  (case l24 => k_is)
  (case c24 => k_is)
  (case k24 => k_is)
  (case a25 => k_is)
  (case l25 => k_is)
  (case c25 => k_is)
  (case k25 => k_is)
  (case a26 => k_is)
  (case l26 => k_is)
  (case c26 => k_is)
  (case k26 => k_is)
  (case a27 => k_is)
  (case l27 => k_is)
  (case c27 => k_is)
  (case k27 => k_is)
  (case a28 => k_is)
  (case l28 => k_is)
  (case c28 => k_is)
  (case k28 => k_is)
  (case a29 => k_is)
  (case l29 => k_is)
  (case c29 => k_is)
  (case k29 => k_is)
  (case a30 => k_is)
  (case l30 => k_is)
  (case c30 => k_is)
  (case k30 => k_is)
  (case a31 => k_is)
  (case l31 => k_is)
  (case c31 => k_is)
  (case k31 => k_is)
  (case a32 => k_is)
  (case l32 => k_is)
  (case c32 => k_is)
  (case k32 => k_is)
  (case a33 => k_is)
  (case l33 => k_is)
  (case c33 => k_is)
  (case k33 => k_is)
  (case a34 => k_is)
  (case l34 => k_is)
  (case c34 => k_is)
  (case k34 => k_is)
  (case a35 => k_is)
  (case l35 => k_is)
  (case c35 => k_is)
  (case k35 => k_is)
  (case a36 => k_is)
  (case l36 => k_is)
  (case c36 => k_is)
  (case k36 => k_is)
  (case a37 => k_is)
  (case l37 => k_is)
  (case c37 => k_is)
  (case k37 => k_is)
  (case a38 => k_is)
  (case l38 => k_is)
  (case c38 => k_is)
  (case k38 => k_is)
  (case a39 => k_is)
  (case l39 => k_is)
  (case c39 => k_is)
  (case k39 => k_is)
  (case a40 => k_is)
  (case l40 => k_is)
  (case c40 => k_is)
  (case k40 => k_is)
  (case a41 => k_is)
  (case l41 => k_is)
  (case c41 => k_is)
  (case k41 => k_is)
  (case a42 => k_is)
  (case l42 => k_is)
  (case c42 => k_is)
  (case k42 => k_is)
  (case a43 => k_is)
  (case l43 => k_is)
  (case c43 => k_is)
  (case k43 => k_is)
  (case a44 => k_is)
  (case l44 => k_is)
  (case c44 => k_is)
  (case k44 => k_is)
  (case a45 => k_is)
  (case l45 => k_is)
  (case c45 => k_is)
  (case k45 => k_is)
  (case gl0 => k_is)
  (case gl1 => k_is)
  (case gl2 => k_is)
  (case gl3 => k_is)
  (case ql3 => k_is)
  (case gl4 => k_is)
  (case ql4 => k_is)
  (case sm4 => rfl)
  (case gl5 => k_is)
  (case ql5 => k_is)
  (case sm5 => rfl)
  (case gl6 => k_is)
  (case ql6 => k_is)
  (case sm6 => rfl)
  (case pl6_0 => k_is)
  (case pl6_1 => k_is)
  (case pl6_2 => k_is)
  (case pl6_3 => k_is)
  (case pl6_4 => k_is)
  (case gl7 => k_is)
  (case ql7 => k_is)
  (case gl8 => k_is)
  (case gl9 => k_is)
  (case gl10 => k_is)
  (case gl11 => k_is)
  (case gl12 => k_is)
  (case gl13 => k_is)
  (case gl14 => k_is)
  (case gl15 => k_is)
  (case z0 => k_is)
  (case z1 => k_is)
  (case z2 => k_is)
  (case z3 => k_is)
  (case z4 => k_is)
  (case z5 => k_is)
  (case z6 => k_is)
  (case z7 => k_is)
  (case z8 => k_is)
  (case z9 => k_is)
  (case z10 => k_is)
  (case z11 => k_is)
