import PyProof.Rows.All
import Wide.All
import OpenK.AllK
import Wide.FinOn
import Lean
import PyProof.EqAt
import PyProof.EqKinds
import PyProof.TupleCall
import PyProof.DictUpdate
import KE.KDictOf
import PyProof.AttrMissHeap
import KE.KSortTup
import KE.KItemsList
import PyProof.DictWalks
import PyProof.Rows.TupDisplay
import KE.KEqDict
import PySem.Challenge.RW_viewwood_k08_spots_and_turns
set_option Elab.async false
set_option linter.all false
set_option maxRecDepth 100000
namespace L2
open PySem PySem.Spec PyProof.Rows
abbrev Key := Sum (Option Int) Str
def isNoneK : Value → Bool
 | .none => true
 | _ => false
def keyIs : Key → Value → Bool
 | .inl (some k), v => Value.isInt k v
 | .inl none, v => isNoneK v
 | .inr x, v => Value.isStrOf x v
def keyH (w : World) : Key → Int
 | .inl (some k) => hashInt k
 | .inl none => 4238894112
 | .inr x => hashStr w x
theorem isNoneK_shape {v : Value} (h : isNoneK v = true) : v = .none := by
 cases v <;> first | rfl | cases h
theorem keyIs_shape : ∀ {k : Key} {v : Value}, keyIs k v = true → (∃ i t, k = Sum.inl (some i) ∧ v = Value.int i t) ∨ (∃ x t, k = Sum.inr x ∧ v = Value.str x t) ∨ (k = Sum.inl none ∧ v = Value.none)
 | .inl (some i), v, h => by
  obtain ⟨t, e⟩ := Value.isInt_shape (k := i) (v := v) h
  exact .inl ⟨i, t, rfl, e⟩
 | .inl none, v, h => .inr (.inr ⟨rfl, isNoneK_shape h⟩)
 | .inr x, v, h => by
  obtain ⟨t, e⟩ := Value.isStrOf_shape (x := x) (v := v) h
  exact .inr (.inl ⟨x, t, rfl, e⟩)
theorem keyIs_int (i : Int) (t : Tok) : keyIs (.inl (some i)) (.int i t) = true := by simp [keyIs, Value.isInt]
theorem keyIs_str (x : Str) (t : Tok) : keyIs (.inr x) (.str x t) = true := by simp [keyIs, Value.isStrOf]
theorem key_no {a b : Key} (h : a ≠ b) : decide (a = b) = false := decide_eq_false h
theorem key_ii (a b : Int) : decide ((Sum.inl (some a) : Key) = Sum.inl (some b)) = (a == b) := by
 by_cases e : a = b
 ·subst e; simp
 ·rw [key_no fun q => e (Option.some.inj (Sum.inl.inj q))]
  exact (beq_eq_false_iff_ne.mpr e).symm
theorem key_ss (a b : Str) : decide ((Sum.inr a : Key) = Sum.inr b) = decide (a = b) := by
 by_cases e : a = b
 ·subst e; simp
 ·rw [key_no fun q => e (Sum.inr.inj q), decide_eq_false e]
theorem key_is (i : Int) (y : Str) : decide ((Sum.inl (some i) : Key) = Sum.inr y) = false := decide_eq_false nofun
theorem key_in (i : Int) : decide ((Sum.inl (some i) : Key) = Sum.inl none) = false := decide_eq_false nofun
theorem key_si (x : Str) (j : Int) : decide ((Sum.inr x : Key) = Sum.inl (some j)) = false := decide_eq_false nofun
theorem key_sn (x : Str) : decide ((Sum.inr x : Key) = Sum.inl none) = false := decide_eq_false nofun
theorem key_ni (j : Int) : decide ((Sum.inl none : Key) = Sum.inl (some j)) = false := decide_eq_false nofun
theorem key_ns (y : Str) : decide ((Sum.inl none : Key) = Sum.inr y) = false := decide_eq_false nofun
theorem hash_none {prog : Program} {w : World} {A : Around} {E : Value → Shared → Prop} {s : Shared} {Q : Int → Shared → Prop} (h : Q 4238894112 { s with toks := s.toks + 1 }) : wpAny (model prog w) A (pyHash .none) Q E s := by
 unfold pyHash
 refine wpAny_bind ?_
 rw [cRoomFor, if_neg (by rw [show [Value.none].any Value.onHeap = false from rfl]; exact Bool.false_ne_true)]; refine wpAny_pure ?_
 have ty : s.TypeIs .none "NoneType" := rfl
 refine wpAny_bind (wpAny_specialOf ty PySem.F.slot_NoneType_hash.lookup ?_)
 rw [if_neg (by rw [beq_builtin_none]; exact Bool.false_ne_true)]
 refine wpAny_bind (wpAny_specialOf ty PySem.F.slot_NoneType_hash.lookup ?_)
 refine wpAny_bind (wpAny_callSpecialIfBoundUnlessNone?_slot ty PySem.F.slot_NoneType_hash
  (wpAny_call_entry PySem.F.slot_NoneType_hash ty PySem.F.entry_NoneType_hash
   (show wpAny _ _ (do ret (← mkInt 4238894112)) _ _ s from wpAny_ret_mkInt ?_) (PySem.F.args_NoneType_hash_1 _)))
 show wpAny _ _ (if (decide (-(2 : Int) ^ 63 ≤ 4238894112) && decide ((4238894112 : Int) < 2 ^ 63)) = true then _ else _) Q E _
 rw [if_pos (by decide)]
 exact wpAny_pure h
theorem eqb_none {prog : Program} {w : World} {A : Around} {E : Value → Shared → Prop} {s : Shared} {Q : Bool → Shared → Prop} (h : Q true s) : wpAny (model prog w) A (eqBool .none .none) Q E s := by
 unfold eqBool
 refine wpAny_holding ?_
 refine wpAny_ite_split (fun _ => ?_) (fun hab => absurd rfl hab)
 exact wpAny_bind (wpAny_rule (wpAny_pure h))
def mixKind (prog : Program) (w : World) : PySem.KeyKind prog w Key where
 is := keyIs
 hash := keyH w
 inj := fun v a b ha hb => by
  rcases keyIs_shape ha with ⟨i, t, rfl, rfl⟩ | ⟨x, t, rfl, rfl⟩ | ⟨rfl, rfl⟩ <;> rcases keyIs_shape hb with ⟨j, u, rfl, e⟩ | ⟨y, u, rfl, e⟩ | ⟨rfl, e⟩ <;> cases e <;> rfl
 byValue := fun k v h => by
  rcases keyIs_shape h with ⟨i, t, rfl, rfl⟩ | ⟨x, t, rfl, rfl⟩ | ⟨rfl, rfl⟩ <;> rfl
 pyHash := fun hv h => by
  rcases keyIs_shape hv with ⟨i, t, rfl, rfl⟩ | ⟨x, t, rfl, rfl⟩ | ⟨rfl, rfl⟩
  ·exact wpAny_pyHash_int h
  ·exact wpAny_pyHash_str h
  ·exact hash_none h
 eqBool := fun hu hv h => by
  rcases keyIs_shape hu with ⟨i, t, rfl, rfl⟩ | ⟨x, t, rfl, rfl⟩ | ⟨rfl, rfl⟩ <;> rcases keyIs_shape hv with ⟨j, u, rfl, rfl⟩ | ⟨y, u, rfl, rfl⟩ | ⟨rfl, rfl⟩
  ·rw [key_ii] at h; exact wpAny_eqBool_int h
  ·rw [key_is] at h; exact SeqAt.EqAt.int_str i t y u _ _ _ _ h
  ·rw [key_in] at h; exact SeqAt.EqAt.int_none i t _ _ _ _ h
  ·rw [key_si] at h; exact SeqAt.EqAt.str_int x t j u _ _ _ _ h
  ·rw [key_ss] at h; exact wpAny_eqBool_str h
  ·rw [key_sn] at h; exact SeqAt.EqAt.str_none x t _ _ _ _ h
  ·rw [key_ni] at h; exact SeqAt.EqAt.none_int j u _ _ _ _ h
  ·rw [key_ns] at h; exact SeqAt.EqAt.none_str y u _ _ _ _ h
  ·rw [decide_eq_true (rfl : (Sum.inl none : Key) = Sum.inl none)] at h; exact eqb_none h
 «strs» := fun k x t v h => by
  rcases keyIs_shape h with ⟨i, u, rfl, e⟩ | ⟨y, u, rfl, e⟩ | ⟨rfl, e⟩
  ·exact nomatch e
  ·injection e with e1 _
   subst e1
   cases v <;> rfl
  ·exact nomatch e
theorem mixKind_int (prog : Program) (w : World) (i : Int) (t : Tok) : (mixKind prog w).is (.inl (some i)) (.int i t) = true := keyIs_int i t
theorem mixKind_none (prog : Program) (w : World) : (mixKind prog w).is (.inl none) .none = true := rfl
theorem mixKind_str (prog : Program) (w : World) (x : Str) (t : Tok) : (mixKind prog w).is (.inr x) (.str x t) = true := keyIs_str x t
end L2
namespace L2
open PySem PySem.Spec PyProof.Rows
inductive V where
 | non | bl (b : Bool) | int (i : Int) | str (x : Str) | byt (b : Array UInt8) | flt (b : UInt64) | ref (a : Addr) | ty (n : String)
 deriving DecidableEq
def RelV : V → Value → Prop
 | .non, u => u = Value.none
 | .bl b, u => u = Value.bool b
 | .int i, u => ∃ t, u = Value.int i t
 | .str x, u => ∃ t, u = Value.str x t
 | .byt b, u => ∃ t, u = Value.bytes b t
 | .flt b, u => ∃ t, u = Value.float b t
 | .ref a, u => u = Value.ref a
 | .ty n, u => u = Value.type n
abbrev Vals : List V → List Value → Prop := Paired RelV
theorem Vals.length {xs : List V} {us : List Value} (r : Vals xs us) : xs.length = us.length := Paired.length r
theorem Vals.get : ∀ {xs : List V} {us : List Value} {i : Nat} {x : V}, Vals xs us → xs[i]? = some x → ∃ u, us[i]? = some u ∧ RelV x u
 | _, _, _, _, .nil, e => by simp at e
 | _, _, 0, _, .cons r _, e => by simp at e; subst e; exact ⟨_, rfl, r⟩
 | _, _, i + 1, x, .cons _ t, e => by
  obtain ⟨u, h1, h2⟩ := Vals.get (i := i) (x := x) t (by simpa using e)
  exact ⟨u, by simpa using h1, h2⟩
theorem Vals.set {x : V} {u : Value} (r : RelV x u) : ∀ {xs : List V} {us : List Value} (i : Nat), Vals xs us → Vals (xs.set i x) (us.set i u)
 | _, _, _, .nil => .nil
 | _, _, 0, .cons _ t => .cons r t
 | _, _, i + 1, .cons q t => .cons q (Vals.set r i t)
theorem Vals.append : ∀ {xs ys : List V} {us ws : List Value}, Vals xs us → Vals ys ws → Vals (xs ++ ys) (us ++ ws)
 | _, _, _, _, .nil, s => s
 | _, _, _, _, .cons r t, s => .cons r (Vals.append t s)
theorem Vals.take : ∀ {xs : List V} {us : List Value} (n : Nat), Vals xs us → Vals (xs.take n) (us.take n)
 | _, _, 0, _ => .nil
 | _, _, _ + 1, .nil => .nil
 | _, _, n + 1, .cons r t => .cons r (Vals.take n t)
theorem Vals.drop : ∀ {xs : List V} {us : List Value} (n : Nat), Vals xs us → Vals (xs.drop n) (us.drop n)
 | _, _, 0, r => r
 | _, _, _ + 1, .nil => .nil
 | _, _, n + 1, .cons _ t => Vals.drop n t
def RelO : Option V → Option Value → Prop
 | some v, some u => RelV v u
 | none, none => True
 | _, _ => False
def KV {κ : Type} : List (κ × V) → List (κ × Value) → Prop := Paired fun (p : κ × V) (q : κ × Value) => p.1 = q.1 ∧ RelV p.2 q.2
def kV : Key → V
 | .inl none => .non
 | .inl (some i) => .int i
 | .inr x => .str x
inductive HO where
 | lst (xs : List V)
 | tup (xs : List V)
 | dK (kvs : List (Key × V)) | dT (kvs : List (List Key × V))
 | set (S : Int → Bool) (n : Nat)
 | ins (C dx : Addr) (fs : List (Str × V))
 | own (x : Addr)
 | xd (fs : List (Str × V))
 | met (f x : Addr)
 | rng (lo hi : Int)
 | frz (o : Obj) (u : HO)
 | tbl (ps : Array Value)
 | ext (φ : Heap → Prop)
abbrev Hp := Addr → Option HO
def upd (H : Hp) (a : Addr) (o : HO) : Hp := fun b => if b = a then some o else H b
theorem upd_same {H : Hp} {a : Addr} {o : HO} : upd H a o a = some o := by unfold upd; rw [if_pos rfl]
theorem upd_ne {H : Hp} {a b : Addr} {o : HO} (h : b ≠ a) : upd H a o b = H b := by unfold upd; rw [if_neg h]
theorem upd_upd {H : Hp} {a : Addr} {o u : HO} : upd (upd H a o) a u = upd H a u := by
 funext b; unfold upd; split <;> rfl
theorem ne_of {H : Hp} {a b : Addr} {o u : HO} (h : H a = some o) (h' : H b = some u) (d : o ≠ u) : a ≠ b := by
 intro e; subst e; rw [h] at h'; exact d (Option.some.inj h')
theorem ne_of_none {H : Hp} {a b : Addr} {o : HO} (h : H a = some o) (h' : H b = none) : a ≠ b := by
 intro e; subst e; rw [h] at h'; cases h'
def IsTupN (h : Heap) (a : Addr) (items : Array Value) : Prop := ∃ o, h.get? a = some o ∧ o.cls = .type "tuple" ∧ (∃ n, o.data = .seq items n) ∧ o.dict = none
theorem IsTupN.is {h : Heap} {a : Addr} {items : Array Value} (x : IsTupN h a items) : IsTup h a items := let ⟨o, e, c, d, _⟩ := x; ⟨o, e, c, d⟩
theorem IsTupN.new (h : Heap) (items : Array Value) : IsTupN (h.push { cls := .type "tuple", data := .seq items }) h.objs.size items := ⟨_, Heap.get?_push_size _ rfl, rfl, ⟨_, rfl⟩, rfl⟩
section
variable (P : Program) (w : World)
def ObjOk (H : Hp) (h : Heap) (a : Addr) : HO → Prop
 | .lst xs => xs.length ≤ sizeLine ∧ ∃ (its : List Value) (n : Nat), Vals xs its ∧ h.get? a = some { cls := .type "list", data := .seq its.toArray n }
 | .tup xs => xs.length ≤ sizeLine ∧ ∃ its : List Value, Vals xs its ∧ IsTupN h a its.toArray
 | .dK kvs => kvs.length ≤ sizeLine ∧ (a == sysModules) = false ∧ ∃ vs, KV kvs vs ∧ h.DictOf (mixKind P w) a vs
 | .dT kvs => kvs.length ≤ sizeLine ∧ (a == sysModules) = false ∧ ∃ xs : List (List Key × Addr × Value),
   Paired (fun (p : List Key × V) (q : List Key × Addr × Value) => p.1 = q.1 ∧ H q.2.1 = some (.tup (p.1.map kV)) ∧ RelV p.2 q.2.2) kvs xs ∧
   ∃ o es ep, h.get? a = some o ∧ o.ExactDict ∧ o.data = .dict es ep ∧ es.toList = xs.map (entryOfKey (tupleKind (mixKind P w))) ∧ (xs.map (·.1)).Nodup
 | .set S n => h.SetOf (intKind P w) a S n
 | .ins C dx fs => H dx = some (.own a) ∧ fs.length ≤ 1000 ∧ dx ≠ a ∧ h.get? a = some (PySem.W.instObj C dx) ∧
   ∃ mA, h.Ns1 dx mA ∧ (∀ f, RelO (fs.lookup f) (mA f)) ∧ PySem.Within mA (fs.map (·.1))
 | .own _ => ∃ o, h.get? a = some o
 | .xd fs => ∃ mA, h.Ns1 a mA ∧ ∀ f, RelO (fs.lookup f) (mA f)
 | .rng lo hi => ∃ t u v, h.get? a = some { cls := .type "range", data := .fields #[.int lo t, .int hi u, .int 1 v] }
 | .frz o u => h.get? a = some o ∧ ObjOk H h a u
 | .tbl ps => h.get? a = some { cls := .none, data := .fields ps }
 | .met f x => h.get? a = some (PySem.W.methodObj (.ref f) (.ref x))
 | .ext φ => φ h ∧ (∃ o, h.get? a = some o) ∧ ∀ h1 h2 : Heap, φ h1 → (∀ o, h1.get? a = some o → h2.get? a = some o) → φ h2
def HOk (H : Hp) (h : Heap) : Prop := ∀ a o, H a = some o → ObjOk P w H h a o
end
section
variable {P : Program} {w : World} {H H' : Hp} {h h' : Heap} {a : Addr} {o : HO}
theorem ObjOk.lt (x : ObjOk P w H h a o) : a < h.objs.size := by
 cases o with
 | lst xs => obtain ⟨_, _, _, _, e⟩ := x; exact Heap.lt_size e
 | tup xs => obtain ⟨_, _, _, o, e, _⟩ := x; exact Heap.lt_size e
 | dK kvs => obtain ⟨_, _, _, _, o, _, _, e, _⟩ := x; exact Heap.lt_size e
 | dT kvs => obtain ⟨_, _, _, _, o, _, _, e, _⟩ := x; exact Heap.lt_size e
 | set S n => obtain ⟨o, _, _, _, e, _⟩ := x; exact Heap.lt_size e
 | ins C dx fs => obtain ⟨_, _, _, e, _⟩ := x; exact Heap.lt_size e
 | own y => obtain ⟨_, e⟩ := x; exact Heap.lt_size e
 | xd fs => obtain ⟨_, ⟨_, _, _, e, _⟩, _⟩ := x; exact Heap.lt_size e
 | rng lo hi => obtain ⟨_, _, _, e⟩ := x; exact Heap.lt_size e
 | frz ob u => obtain ⟨e, _⟩ := x; exact Heap.lt_size e
 | tbl ps => exact Heap.lt_size (show h.get? a = some _ from x)
 | met f y => exact Heap.lt_size (show h.get? a = some _ from x)
 | ext φ => obtain ⟨_, ⟨_, e⟩, _⟩ := x; exact Heap.lt_size e
theorem Paired.mapP {α β : Type} {F G : α → β → Prop} : ∀ {l₁ : List α} {l₂ : List β}, Paired F l₁ l₂ → (∀ a b, F a b → G a b) → Paired G l₁ l₂
 | _, _, .nil, _ => .nil
 | _, _, .cons r t, f => .cons (f _ _ r) (Paired.mapP t f)
theorem ObjOk.stay (x : ObjOk P w H h a o) (k : ∀ b u, (b = a ∨ H b = some (.own a)) → h.get? b = some u → h'.get? b = some u)
  (ho : ∀ b, H b = some (.own a) → H' b = some (.own a)) (ht : ∀ b xs, H b = some (.tup xs) → H' b = some (.tup xs)) : ObjOk P w H' h' a o := by
 induction o with
 | lst xs => obtain ⟨z, its, n, r, e⟩ := x; exact ⟨z, its, n, r, k _ _ (.inl rfl) e⟩
 | tup xs => obtain ⟨z, its, r, ob, e, c⟩ := x; exact ⟨z, its, r, ob, k _ _ (.inl rfl) e, c⟩
 | dK kvs => obtain ⟨z, y, vs, r, ob, es, ep, e, c⟩ := x; exact ⟨z, y, vs, r, ob, es, ep, k _ _ (.inl rfl) e, c⟩
 | dT kvs =>
  obtain ⟨z, y, xs, r, ob, es, ep, e, c⟩ := x
  exact ⟨z, y, xs, Paired.mapP r fun p q z => ⟨z.1, ht _ _ z.2.1, z.2.2⟩, ob, es, ep, k _ _ (.inl rfl) e, c⟩
 | set S n => obtain ⟨ob, es, ep, t, e, c⟩ := x; exact ⟨ob, es, ep, t, k _ _ (.inl rfl) e, c⟩
 | ins C dx fs =>
  obtain ⟨d, z, ne, e, mA, ⟨od, es, ep, e2, c⟩, r⟩ := x
  exact ⟨ho _ d, z, ne, k _ _ (.inl rfl) e, mA, ⟨od, es, ep, k _ _ (.inr d) e2, c⟩, r⟩
 | own y => obtain ⟨ob, e⟩ := x; exact ⟨ob, k _ _ (.inl rfl) e⟩
 | xd fs => obtain ⟨mA, ⟨od, es, ep, e, c⟩, r⟩ := x; exact ⟨mA, ⟨od, es, ep, k _ _ (.inl rfl) e, c⟩, r⟩
 | rng lo hi => obtain ⟨t, u, v, e⟩ := x; exact ⟨t, u, v, k _ _ (.inl rfl) e⟩
 | frz ob u ih => obtain ⟨e, q⟩ := x; exact ⟨k _ _ (.inl rfl) e, ih q⟩
 | tbl ps =>
  have e : h.get? a = some { cls := .none, data := .fields ps } := x
  show h'.get? a = some { cls := .none, data := .fields ps }
  exact k a _ (.inl rfl) e
 | met f y =>
  have e : h.get? a = some (PySem.W.methodObj (.ref f) (.ref y)) := x
  show h'.get? a = some (PySem.W.methodObj (.ref f) (.ref y))
  exact k a _ (.inl rfl) e
 | ext φ => obtain ⟨p, ⟨o, e⟩, st⟩ := x; exact ⟨st _ _ p fun o q => k _ _ (.inl rfl) q, ⟨o, k _ _ (.inl rfl) e⟩, st⟩
theorem HOk.lt (x : HOk P w H h) (e : H a = some o) : a < h.objs.size := (x a o e).lt
theorem HOk.fresh (x : HOk P w H h) (e : h.objs.size ≤ a) : H a = none := by
 cases q : H a with
 | none => rfl
 | some u => exact absurd (Nat.lt_of_lt_of_le (x.lt q) e) (Nat.lt_irrefl _)
theorem HOk.kept (x : HOk P w H h) (k : ∀ b u, h.get? b = some u → h'.get? b = some u) : HOk P w H h' := fun a o e =>
 (x a o e).stay (fun b u _ q => k b u q) (fun _ q => q) fun _ _ q => q
theorem HOk.laid (x : HOk P w H h) (k : ∀ b u, h.get? b = some u → h'.get? b = some u) (hp : h.objs.size ≤ a) (new : ObjOk P w (upd H a o) h' a o) : HOk P w (upd H a o) h' := fun b u e => by
 have hn := x.fresh hp
 by_cases hb : b = a
 ·subst hb; rw [upd_same] at e; cases e; exact new
 ·rw [upd_ne hb] at e
  exact (x b u e).stay (fun c v _ q => k c v q) (fun c q => by rw [upd_ne (ne_of_none q hn)]; exact q) fun c xs q => by rw [upd_ne (ne_of_none q hn)]; exact q
end
def Rd (H : Hp) (a : Addr) (u : HO) : Prop := H a = some u ∨ ∃ o, H a = some (.frz o u)
theorem Rd.ok {P : Program} {w : World} {H : Hp} {h : Heap} {a : Addr} {u : HO} (r : Rd H a u) (x : HOk P w H h) : ObjOk P w H h a u := by
 rcases r with r | ⟨o, r⟩
 ·exact x a u r
 ·obtain ⟨_, q⟩ := x a _ r
  exact q
def Mut : Option HO → Prop
 | some (.lst _) => True
 | some (.dK _) => True
 | some (.dT _) => True
 | some (.set _ _) => True
 | some (.ins _ _ _) => True
 | some (.ext _) => True
 | _ => False
section
variable {P : Program} {w : World} {H : Hp} {h h' : Heap} {x e : Addr} {o' : HO}
theorem HOk.write (ok : HOk P w H h) (mu : Mut (H x)) (he : e = x ∨ H e = some (.own x)) (k : ∀ b u, b ≠ e → h.get? b = some u → h'.get? b = some u) (heo : ∃ u, h'.get? e = some u)
  (new : ObjOk P w (upd H x o') h' x o') : HOk P w (upd H x o') h' := fun b u q => by
 have nown : ∀ c y, H c = some (.own y) → c ≠ x := fun c y r z => by subst z; rw [r] at mu; exact mu
 have ntup : ∀ c xs, H c = some (.tup xs) → c ≠ x := fun c xs r z => by subst z; rw [r] at mu; exact mu
 by_cases hb : b = x
 ·subst hb; rw [upd_same] at q; cases q; exact new
 ·rw [upd_ne hb] at q
  by_cases hbe : b = e
  ·have q' : H b = some (.own x) := by
    rcases he with z | z
    ·exact absurd (hbe.trans z) hb
    ·rw [hbe]; exact z
   rw [q] at q'; cases q'
   obtain ⟨v, hv⟩ := heo
   exact ⟨v, by rw [hbe]; exact hv⟩
  ·refine (ok b u q).stay (fun c v hc r => k c v ?_ r) (fun c r => by rw [upd_ne (nown c b r)]; exact r) fun c xs r => by rw [upd_ne (ntup c xs r)]; exact r
   rcases hc with rfl | hc
   ·exact hbe
   ·rintro rfl
    rcases he with z | z
    ·exact nown c b hc z
    ·rw [hc] at z; cases z; exact hb rfl
end
structure Un (fs ex : List Addr) (H H' : Hp) (h h' : Heap) : Prop where
 keep : ∀ b o, h.get? b = some o → H b = none → b ∉ fs → b ∉ ex → h'.get? b = some o
 slot : ∀ b o, h.get? b = some o → H b = none → b ∈ fs → b ∉ ex → ∃ sl, h'.get? b = some { o with slots := sl }
 free : ∀ b o, h.get? b = some o → H b = none → b ∉ ex → H' b = none
 there : ∀ b o, h.get? b = some o → b ∉ ex → ∃ o', h'.get? b = some o'
 tups : ∀ b xs, H b = some (.tup xs) → H' b = some (.tup xs)
 frzs : ∀ b o u, H b = some (.frz o u) → H' b = some (.frz o u)
 tbls : ∀ b ps, H b = some (.tbl ps) → ∃ more, H' b = some (.tbl (ps ++ more))
section
variable {fs fs' ex ex' : List Addr} {H H1 H2 : Hp} {h h1 h2 h' : Heap} {a x e : Addr} {o : HO}
theorem Un.any (u : Un fs ex H H1 h h1) {b : Addr} {ob : Obj} (q : h.get? b = some ob) (n : H b = none) (hx : b ∉ ex) : ∃ sl, h1.get? b = some { ob with slots := sl } := by
 by_cases hb : b ∈ fs
 ·exact u.slot b ob q n hb hx
 ·exact ⟨ob.slots, u.keep b ob q n hb hx⟩
theorem Un.kept (k : ∀ b u, h.get? b = some u → h'.get? b = some u) : Un fs ex H H h h' :=
 ⟨fun b ob q _ _ _ => k b ob q, fun b ob q _ _ _ => ⟨ob.slots, k b ob q⟩, fun _ _ _ n _ => n, fun b ob q _ => ⟨ob, k b ob q⟩, fun _ _ q => q, fun _ _ _ q => q, fun _ ps q => ⟨#[], by rw [q]; simp⟩⟩
theorem Un.refl : Un fs ex H H h h := Un.kept fun _ _ q => q
theorem Un.laid (k : ∀ b u, h.get? b = some u → h'.get? b = some u) (hp : h.objs.size ≤ a) (hn : H a = none) : Un fs ex H (upd H a o) h h' where
 keep := fun b u q _ _ _ => k b u q
 slot := fun b u q _ _ _ => ⟨u.slots, k b u q⟩
 free := fun b u q n _ => by rw [upd_ne (Nat.ne_of_lt (Nat.lt_of_lt_of_le (Heap.lt_size q) hp))]; exact n
 there := fun b u q _ => ⟨u, k b u q⟩
 tups := fun b xs q => by rw [upd_ne (ne_of_none q hn)]; exact q
 frzs := fun b u xs q => by rw [upd_ne (ne_of_none q hn)]; exact q
 tbls := fun b ps q => ⟨#[], by rw [upd_ne (ne_of_none q hn), q]; simp⟩
theorem Un.write (mu : Mut (H x)) (he : e = x ∨ H e = some (.own x)) (k : ∀ b u, b ≠ e → h.get? b = some u → h'.get? b = some u) (heo : ∃ u, h'.get? e = some u) : Un fs ex H (upd H x o) h h' := by
 have hx : ∀ b, H b = none → b ≠ x := fun b n z => by subst z; rw [n] at mu; exact mu
 have hb : ∀ b, H b = none → b ≠ e := fun b n z => by
  subst z
  rcases he with r | r
  ·exact hx b n r
  ·rw [n] at r; cases r
 have hm : ∀ b u, H b = some u → ¬ Mut (some u) → b ≠ x := fun b u q nm z => by subst z; rw [q] at mu; exact nm mu
 refine ⟨fun b u q n _ _ => k b u (hb b n) q, fun b u q n _ _ => ⟨u.slots, k b u (hb b n) q⟩, fun b u q n _ => by rw [upd_ne (hx b n)]; exact n, fun b u q _ => ?_,
  fun b xs q => by rw [upd_ne (hm b _ q fun z => z)]; exact q, fun b u xs q => by rw [upd_ne (hm b _ q fun z => z)]; exact q, fun b ps q => ⟨#[], by rw [upd_ne (hm b _ q fun z => z), q]; simp⟩⟩
 by_cases hbe : b = e
 ·subst hbe; exact heo
 ·exact ⟨u, k b u hbe q⟩
end
def trk (h : Heap) (H : Hp) : List Addr := (List.range h.objs.size).filter fun a => (H a).isSome
def hidT (h : Heap) (H : Hp) : Heap := PySem.W.hideAll h (trk h H)
theorem hidT_size (h : Heap) (H : Hp) : (hidT h H).objs.size = h.objs.size := PySem.W.hideAll_size _ _
theorem hidT_get {h : Heap} {H : Hp} {b : Addr} {o : Obj} (e : h.get? b = some o) (n : H b = none) : (hidT h H).get? b = some o :=
 PySem.W.hideAll_get _ e fun hm => by
  have q : (H b).isSome = true := (List.mem_filter.mp hm).2
  rw [n] at q; simp at q
theorem of_hidT {h : Heap} {H : Hp} {b : Addr} {o : Obj} (e : (hidT h H).get? b = some o) : h.get? b = some o ∧ H b = none := by
 have e' : h.get? b = some o := PySem.W.of_hideAll (trk h H) e
 refine ⟨e', ?_⟩
 cases q : H b with
 | none => rfl
 | some x =>
  have hm : b ∈ trk h H := List.mem_filter.mpr ⟨List.mem_range.mpr (Heap.lt_size e'), by simp [q]⟩
  have z : (hidT h H).get? b = none := PySem.W.hideAll_none (trk h H) hm
  rw [z] at e; cases e
def allNews (g h : Heap) (L : Addr) : List (Addr × Obj) := (List.range h.objs.size).filterMap fun a => if a = L ∨ (g.get? a).isSome = true then none else (h.get? a).map fun o => (a, o)
def rest (g h : Heap) (L d : Addr) : List (Addr × Obj) := (allNews g h L).filter fun p => decide (p.1 ≠ d)
end L2
namespace L2
open PySem PySem.Spec PyProof.Rows
structure Mod (K : PySem.W.Frag) (mg : Str → Option Value) (base : Heap) : Prop where
 kin : K.In base
 glob : base.Ns mainGlobals mg
 blt : ∃ mb, base.Ns builtinsNs mb ∧ ∀ x : Str, x ≠ "__name__" → mb x = bootBuiltins x
 nolimit : base.NoLimit
structure Cx where
 prog : Program
 w : World
 K : PySem.W.Frag
 mg : Str → Option Value
 base : Heap
 A : Around
 N : List Str
 s₀ : Shared
 H₀ : Hp
 env : Env
 outer : List Env
 stack : List Env
 ex : List Addr
 fn : Str → Bool
 calm : Bool
 pn : List (Addr × Obj)
 xe : Value → Shared → Prop
def frs (l : List Env) : List Addr := l.filterMap (·.frame)
abbrev Cx.fs (X : Cx) : List Addr := frs X.outer
def Vis (sc : Scope) (x : Str) : Prop := sc.names.lookup x = some .local ∨ sc.names.lookup x = some .cell ∨ sc.names.lookup x = some .free
def Loc (sc : Scope) (x : Str) : Prop := sc.names.lookup x = some .local ∨ sc.names.lookup x = some .cell
def Look (env : Env) (h : Heap) (m : Str → Option Value) (x : Str) (u : Value) : Prop :=
 (env.kindOf x = some .local ∧ m x = some u) ∨ ((env.kindOf x = some .cell ∨ env.kindOf x = some .free) ∧ ∃ c, env.cells.lookup x = some c ∧ h.IsCell c (some u))
structure Cx.Ok (X : Cx) : Prop where
 mod : Mod X.K X.mg X.base
 kind : X.env.scope.kind = .function
 glob : X.env.globals = mainGlobals
 blt : X.env.builtins = builtinsNs
 above : X.s₀.heap.objs.size ≤ X.env.locals
 inj : ∀ x y c, X.env.cells.lookup x = some c → X.env.cells.lookup y = some c → x = y
 has : ∀ x, (X.env.kindOf x = some .cell ∨ X.env.kindOf x = some .free) → ∃ c, X.env.cells.lookup x = some c
 cab : ∀ x c, X.fn x = true → X.env.cells.lookup x = some c → X.s₀.heap.objs.size ≤ c
 hd : X.calm = true → X.A.handled = none
 frames : X.A.frames = some X.stack
 stk : X.stack = X.outer ∨ (X.stack = X.env :: X.outer ∧ X.env.frame = some X.env.locals)
 exf : ∀ b ∈ X.ex, b ≠ X.env.locals ∧ ∀ x c, X.env.cells.lookup x = some c → c ≠ b
 bs : ∀ b o, X.base.get? b = some o → X.s₀.heap.get? b = some o ∧ X.H₀ b = none
 bsz : X.base.objs.size ≤ X.s₀.heap.objs.size
 noex : ∀ b o, X.base.get? b = some o → b ∉ X.ex
 exfs : ∀ b ∈ X.ex, b ∉ X.fs
 funs : X.s₀.heap.FunFrames X.base X.outer
 frf : ∀ b ∈ X.fs, X.H₀ b = none
structure Inv (X : Cx) (pins : List (Addr × Obj)) (σ : List (Option V)) (H : Hp) (s : Shared) : Prop where
 ok : X.Ok
 os : s.os = X.s₀.os
 bare : AllBare s.gens
 base : Un X.fs X.ex X.H₀ H X.s₀.heap s.heap
 loc : ∃ m, s.heap.Ns X.env.locals m ∧ ∀ (i : Nat) (x : Str) (v : V), X.N[i]? = some x → σ[i]? = some (some v) → Vis X.env.scope x → ∃ u, RelV v u ∧ Look X.env s.heap m x u
 cell : ∀ x c, X.env.cells.lookup x = some c → ∃ v, s.heap.IsCell c v
 free : H X.env.locals = none
 freeC : ∀ x c, X.env.cells.lookup x = some c → H c = none
 pin : ∀ p ∈ X.pn ++ pins, s.heap.get? p.1 = some p.2 ∧ H p.1 = none ∧ p.1 ≠ X.env.locals ∧ p.1 ∉ X.fs ∧ ∀ v, p.2.data ≠ .cell v
 hok : HOk X.prog X.w H s.heap
 len : σ.length = X.N.length
section
variable {X : Cx} {pins : List (Addr × Obj)} {σ : List (Option V)} {H H' : Hp} {s : Shared} {h' : Heap}
theorem Cx.Ok.nofr (ok : X.Ok) {b : Addr} {o : Obj} (e : X.base.get? b = some o) : b ∉ X.fs := fun hb => by
 have := (ok.funs.mem hb).1
 rw [e] at this; cases this
theorem Inv.bs (I : Inv X pins σ H s) : ∀ b o, X.base.get? b = some o → s.heap.get? b = some o ∧ H b = none := fun b o e =>
 ⟨I.base.keep b o (I.ok.bs b o e).1 (I.ok.bs b o e).2 (I.ok.nofr e) (I.ok.noex b o e), I.base.free b o (I.ok.bs b o e).1 (I.ok.bs b o e).2 (I.ok.noex b o e)⟩
theorem Inv.bk (I : Inv X pins σ H s) : ∀ b o, X.base.get? b = some o → s.heap.get? b = some o := fun b o e => (I.bs b o e).1
theorem Inv.mod (I : Inv X pins σ H s) : Mod X.K X.mg X.base := I.ok.mod
theorem Inv.kIn (I : Inv X pins σ H s) : X.K.In s.heap := I.ok.mod.kin.keeps I.bk
theorem Inv.fr (I : Inv X pins σ H s) : ∃ m, Fr X.base X.env.locals s.heap m :=
 let ⟨m, hn, _⟩ := I.loc
 ⟨m, hn, I.bk, Nat.le_trans I.ok.bsz I.ok.above⟩
theorem Inv.lt (I : Inv X pins σ H s) : X.env.locals < s.heap.objs.size := let ⟨_, hn, _⟩ := I.loc; hn.lt
theorem Inv.sz (I : Inv X pins σ H s) : X.s₀.heap.objs.size ≤ s.heap.objs.size := Nat.le_trans I.ok.above (Nat.le_of_lt I.lt)
theorem Inv.nofs (I : Inv X pins σ H s) {a : Addr} (h : s.heap.objs.size ≤ a) : a ∉ X.fs := fun hb => by
 obtain ⟨_, o, ho, _⟩ := I.ok.funs.mem hb
 exact absurd (Nat.lt_of_lt_of_le (Heap.lt_size ho) (Nat.le_trans I.sz h)) (Nat.lt_irrefl _)
theorem Inv.cne (I : Inv X pins σ H s) : ∀ x c, X.env.cells.lookup x = some c → c ≠ X.env.locals := fun x c e z => by
 obtain ⟨v, o, ho, hd⟩ := I.cell x c e
 obtain ⟨m, ⟨o', es, ep, ho', hd', _⟩, _⟩ := I.loc
 rw [z, ho'] at ho; cases ho; rw [hd'] at hd; cases hd
theorem Inv.funs (I : Inv X pins σ H s) : s.heap.FunFrames X.base X.outer := by
 have all : ∀ (l : List Env), (∀ b ∈ frs l, b ∈ X.fs) → X.s₀.heap.FunFrames X.base l → s.heap.FunFrames X.base l := by
  intro l
  induction l with
  | nil => intro _ _; trivial
  | cons env r ih =>
   intro hs hl
   obtain ⟨hk, ⟨L, o, hf, hn, ho, hd⟩, hr⟩ := hl
   have hL : L ∈ X.fs := hs L (by unfold frs; rw [List.filterMap_cons, hf]; exact List.mem_cons_self)
   obtain ⟨sl, e⟩ := I.base.slot L o ho (I.ok.frf L hL) hL fun z => I.ok.exfs L z hL
   exact ⟨hk, ⟨L, _, hf, hn, e, hd⟩, ih (fun b hb => hs b (by unfold frs; rw [List.filterMap_cons, hf]; exact List.mem_cons_of_mem _ hb)) hr⟩
 exact all X.outer (fun _ hb => hb) I.ok.funs
theorem Inv.stack (I : Inv X pins σ H s) : s.heap.FunFrames X.base X.stack := by
 rcases I.ok.stk with e | ⟨e, hf⟩
 ·rw [e]; exact I.funs
 ·rw [e]
  obtain ⟨m, hn, _⟩ := I.loc
  refine .cons (by rw [I.ok.kind]; decide) hf hn ?_ I.funs
  exact Heap.get?_none_of_le (Nat.le_trans I.ok.bsz I.ok.above)
theorem Inv.stkSub (I : Inv X pins σ H s) : ∀ b ∈ frs X.stack, b ∈ X.env.locals :: X.fs := fun b hb => by
 rcases I.ok.stk with e | ⟨e, hf⟩
 ·rw [e] at hb; exact List.mem_cons_of_mem _ hb
 ·rw [e] at hb
  unfold frs at hb
  rw [List.filterMap_cons, hf] at hb
  exact hb
theorem Inv.stkFree (I : Inv X pins σ H s) : ∀ b ∈ frs X.stack, H b = none := fun b hb => by
 rcases List.mem_cons.mp (I.stkSub b hb) with e | hb
 ·rw [e]; exact I.free
 ·obtain ⟨_, o, ho, _⟩ := I.ok.funs.mem hb
  exact I.base.free b o ho (I.ok.frf b hb) fun z => I.ok.exfs b z hb
theorem Inv.step {g' : Array GenState} {t' : Nat} {d' : Drawn} {ch : List Addr} (I : Inv X pins σ H s)
  (hch : ∀ b ∈ ch, (b ∈ X.ex ∨ X.s₀.heap.objs.size ≤ b) ∧ b ≠ X.env.locals ∧ (∀ x c, X.env.cells.lookup x = some c → c ≠ b) ∧ ∀ p ∈ X.pn ++ pins, p.1 ≠ b)
  (keep : ∀ b o, b ≠ X.env.locals → b ∉ X.fs → b ∉ ch → s.heap.get? b = some o → H b = none → h'.get? b = some o)
  (slot : ∀ b o, b ≠ X.env.locals → b ∈ X.fs → b ∉ ch → s.heap.get? b = some o → H b = none → ∃ sl, h'.get? b = some { o with slots := sl }) (free : ∀ b o, b ∉ ch → s.heap.get? b = some o → H b = none → H' b = none)
  (there : ∀ b o, b ∉ ch → s.heap.get? b = some o → ∃ o', h'.get? b = some o')
  (tups : ∀ b xs, H b = some (.tup xs) → H' b = some (.tup xs)) (frzs : ∀ b o u, H b = some (.frz o u) → H' b = some (.frz o u)) (tbls : ∀ b ps, H b = some (.tbl ps) → ∃ more, H' b = some (.tbl (ps ++ more)))
  (ns : ∀ m, s.heap.Ns X.env.locals m → h'.Ns X.env.locals m) (hok : HOk X.prog X.w H' h') (hg : AllBare g') :
  Inv X pins σ H' { s with heap := h', gens := g', drawn := d', toks := t' } := by
 have neL : ∀ b o, X.s₀.heap.get? b = some o → b ≠ X.env.locals := fun b o e => Nat.ne_of_lt (Nat.lt_of_lt_of_le (Heap.lt_size e) I.ok.above)
 have neC : ∀ b o, X.s₀.heap.get? b = some o → b ∉ X.ex → b ∉ ch := fun b o e hx hb => by
  rcases (hch b hb).1 with z | z
  ·exact hx z
  ·exact absurd (Nat.lt_of_lt_of_le (Heap.lt_size e) z) (Nat.lt_irrefl _)
 have cellK : ∀ x c, X.env.cells.lookup x = some c → ∀ v, s.heap.IsCell c v → h'.IsCell c v := fun x c e v ⟨o, ho, hd⟩ => by
  have nch : c ∉ ch := fun z => (hch c z).2.2.1 x c e rfl
  by_cases hc : c ∈ X.fs
  ·obtain ⟨sl, q⟩ := slot c o (I.cne x c e) hc nch ho (I.freeC x c e)
   exact ⟨_, q, hd⟩
  ·exact ⟨o, keep c o (I.cne x c e) hc nch ho (I.freeC x c e), hd⟩
 refine ⟨I.ok, I.os, hg, ⟨fun b o e n hb hx => ?_, fun b o e n hb hx => ?_, fun b o e n hx => ?_, fun b o e hx => ?_, fun b xs e => tups b xs (I.base.tups b xs e), fun b o xs e => frzs b o xs (I.base.frzs b o xs e), fun b ps e => ?_⟩, ?_, fun x c e => ?_, ?_, fun x c e => ?_, fun p hp => ?_, hok, I.len⟩
 ·exact keep b o (neL b o e) hb (neC b o e hx) (I.base.keep b o e n hb hx) (I.base.free b o e n hx)
 ·obtain ⟨sl, e1⟩ := I.base.slot b o e n hb hx
  obtain ⟨sl', e2⟩ := slot b _ (neL b o e) hb (neC b o e hx) e1 (I.base.free b o e n hx)
  exact ⟨sl', e2⟩
 ·obtain ⟨o', e1⟩ := I.base.there b o e hx
  exact free b o' (neC b o e hx) e1 (I.base.free b o e n hx)
 ·obtain ⟨o', e1⟩ := I.base.there b o e hx
  exact there b o' (neC b o e hx) e1
 ·obtain ⟨m1, e1⟩ := I.base.tbls b ps e
  obtain ⟨m2, e2⟩ := tbls b _ e1
  exact ⟨m1 ++ m2, by rw [e2, Array.append_assoc]⟩
 ·obtain ⟨m, hn, hl⟩ := I.loc
  refine ⟨m, ns m hn, fun i x v e1 e2 e3 => ?_⟩
  obtain ⟨u, r, l⟩ := hl i x v e1 e2 e3
  refine ⟨u, r, ?_⟩
  rcases l with l | ⟨k, c, e, z⟩
  ·exact .inl l
  ·exact .inr ⟨k, c, e, cellK x c e _ z⟩
 ·obtain ⟨v, z⟩ := I.cell x c e
  exact ⟨v, cellK x c e v z⟩
 ·obtain ⟨m, ⟨o, _, _, ho, _⟩, _⟩ := I.loc
  exact free _ o (fun z => (hch _ z).2.1 rfl) ho I.free
 ·obtain ⟨v, o, ho, hd⟩ := I.cell x c e
  exact free c o (fun z => (hch c z).2.2.1 x c e rfl) ho (I.freeC x c e)
 ·obtain ⟨e, n, ne, nf, d⟩ := I.pin p hp
  have nch : p.1 ∉ ch := fun z => (hch p.1 z).2.2.2 p hp rfl
  exact ⟨keep p.1 p.2 ne nf nch e n, free p.1 p.2 nch e n, ne, nf, d⟩
theorem Inv.un {t' : Nat} (I : Inv X pins σ H s) (u : Un X.fs [] H H' s.heap h') (hok : HOk X.prog X.w H' h') : Inv X pins σ H' { s with heap := h', toks := t' } := by
 obtain ⟨m, ⟨o, es, ep, ho, r⟩, _⟩ := id I.loc
 obtain ⟨sl, hL⟩ := u.any ho I.free (by simp)
 exact I.step (g' := s.gens) (d' := s.drawn) (ch := []) (fun _ z => nomatch z) (fun b o _ hb _ e n => u.keep b o e n hb (by simp)) (fun b o _ hb _ e n => u.slot b o e n hb (by simp)) (fun b o _ e n => u.free b o e n (by simp)) (fun b o _ e => u.there b o e (by simp)) u.tups u.frzs u.tbls (fun m' hm => by
  obtain ⟨o', es', ep', ho', r'⟩ := hm
  rw [ho] at ho'; cases ho'
  exact ⟨_, es', ep', hL, r'⟩) hok I.bare
theorem Inv.call {g' : Array GenState} {t' : Nat} {d' : Drawn} {ch : List Addr} (I : Inv X pins σ H s) (u : Un (frs X.stack) ch H H' s.heap h') (hok : HOk X.prog X.w H' h') (hg : AllBare g')
  (hch : ∀ b ∈ ch, (b ∈ X.ex ∨ X.s₀.heap.objs.size ≤ b) ∧ b ≠ X.env.locals ∧ (∀ x c, X.env.cells.lookup x = some c → c ≠ b) ∧ ∀ p ∈ X.pn ++ pins, p.1 ≠ b) :
  Inv X pins σ H' { s with heap := h', gens := g', drawn := d', toks := t' } := by
 obtain ⟨m, ⟨o, es, ep, ho, r⟩, _⟩ := id I.loc
 obtain ⟨sl, hL⟩ := u.any ho I.free fun z => (hch _ z).2.1 rfl
 exact I.step (ch := ch) hch (fun b o hL hb hc e n => u.keep b o e n (fun z => (List.mem_cons.mp (I.stkSub b z)).elim hL hb) hc) (fun b o _ _ hc e n => u.any e n hc) (fun b o hc e n => u.free b o e n hc) (fun b o hc e => u.there b o e hc) u.tups u.frzs u.tbls (fun m' hm => by
  obtain ⟨o', es', ep', ho', r'⟩ := hm
  rw [ho] at ho'; cases ho'
  exact ⟨_, es', ep', hL, r'⟩) hok hg
theorem Inv.turned {t' : Nat} {it : Addr} (I : Inv X pins σ H s) (k : ∀ b o, b ≠ it → s.heap.get? b = some o → h'.get? b = some o) (hn : H it = none) (hL : it ≠ X.env.locals)
  (h1 : it ∈ X.ex ∨ X.s₀.heap.objs.size ≤ it) (h2 : ∀ x c, X.env.cells.lookup x = some c → c ≠ it) (h3 : ∀ p ∈ X.pn ++ pins, p.1 ≠ it) : Inv X pins σ H { s with heap := h', toks := t' } := by
 have nit : ∀ b u, H b = some u → b ≠ it := fun b u e z => by rw [z, hn] at e; cases e
 refine I.step (g' := s.gens) (d' := s.drawn) (ch := [it]) (fun b hb => ?_) (fun b o _ _ hc e _ => k b o (fun z => hc (by simp [z])) e) (fun b o _ _ hc e _ => ⟨o.slots, k b o (fun z => hc (by simp [z])) e⟩) (fun _ _ _ _ n => n)
  (fun b o hc e => ⟨o, k b o (fun z => hc (by simp [z])) e⟩) (fun _ _ e => e) (fun _ _ _ e => e) (fun b ps e => ⟨#[], by rw [e]; simp⟩) (fun m hm => ?_) (fun b u e => ?_) I.bare
 ·have e : b = it := by simpa using hb
  subst e
  exact ⟨h1, hL, h2, h3⟩
 ·obtain ⟨o, es, ep, ho, r⟩ := hm
  exact ⟨o, es, ep, k _ o (Ne.symm hL) ho, r⟩
 ·refine (I.hok b u e).stay (fun c v hc q => k c v ?_ q) (fun _ q => q) fun _ _ q => q
  rcases hc with z | z
  ·rw [z]; exact nit b u e
  ·exact nit c _ z
theorem Inv.tok (I : Inv X pins σ H s) (t : Nat) : Inv X pins σ H { s with toks := t } := I.un (h' := s.heap) (t' := t) Un.refl I.hok
theorem Inv.kept {t' : Nat} (I : Inv X pins σ H s) (k : ∀ b u, s.heap.get? b = some u → h'.get? b = some u) : Inv X pins σ H { s with heap := h', toks := t' } := I.un (Un.kept k) (I.hok.kept k)
theorem Inv.laid {a : Addr} {o : HO} {t' : Nat} (I : Inv X pins σ H s) (k : ∀ b u, s.heap.get? b = some u → h'.get? b = some u) (hp : s.heap.objs.size ≤ a) (new : ObjOk X.prog X.w (upd H a o) h' a o) :
  Inv X pins σ (upd H a o) { s with heap := h', toks := t' } := I.un (Un.laid k hp (I.hok.fresh hp)) (I.hok.laid k hp new)
theorem Inv.write {x e : Addr} {o : HO} {t' : Nat} (I : Inv X pins σ H s) (mu : Mut (H x)) (he : e = x ∨ H e = some (.own x)) (k : ∀ b u, b ≠ e → s.heap.get? b = some u → h'.get? b = some u) (heo : ∃ u, h'.get? e = some u)
  (new : ObjOk X.prog X.w (upd H x o) h' x o) : Inv X pins σ (upd H x o) { s with heap := h', toks := t' } := I.un (Un.write mu he k heo) (I.hok.write mu he k heo new)
theorem Inv.weak {σ' : List (Option V)} (I : Inv X pins σ H s) (hl : σ'.length = σ.length) (w : ∀ (i : Nat) v, σ'[i]? = some (some v) → σ[i]? = some (some v)) : Inv X pins σ' H s :=
 ⟨I.ok, I.os, I.bare, I.base, let ⟨m, hn, hl'⟩ := I.loc; ⟨m, hn, fun i x v e1 e2 e3 => hl' i x v e1 (w i v e2) e3⟩, I.cell, I.free, I.freeC, I.pin, I.hok, hl.trans I.len⟩
theorem Inv.pins_of {pins' : List (Addr × Obj)} (I : Inv X pins σ H s) (h : ∀ p ∈ pins', s.heap.get? p.1 = some p.2 ∧ H p.1 = none ∧ p.1 ≠ X.env.locals ∧ p.1 ∉ X.fs ∧ ∀ v, p.2.data ≠ .cell v) : Inv X pins' σ H s :=
 ⟨I.ok, I.os, I.bare, I.base, I.loc, I.cell, I.free, I.freeC, fun p hp => (List.mem_append.mp hp).elim (fun z => I.pin p (List.mem_append_left _ z)) (h p), I.hok, I.len⟩
theorem nodup_ix {N : List Str} (hN : N.Nodup) {i j : Nat} {x : Str} (a : N[i]? = some x) (b : N[j]? = some x) : i = j := by
 obtain ⟨h1, e1⟩ := List.getElem?_eq_some_iff.mp a
 obtain ⟨h2, e2⟩ := List.getElem?_eq_some_iff.mp b
 exact (List.getElem_inj hN).mp (e1.trans e2.symm)
theorem store_ok2 {M : Model} {A : Around} {E : Value → Shared → Prop} {i : Nat} {x : Str} {v : V} {u : Value} {Q : Unit → Shared → Prop} (I : Inv X pins σ H s) (hN : X.N.Nodup) (hi : X.N[i]? = some x) (hx : Loc X.env.scope x) (r : RelV v u)
  (h : ∀ s', Inv X pins (σ.set i (some v)) H s' → (∃ a, Heap.SameBut a s.heap s'.heap ∧ (a = X.env.locals ∨ X.env.cells.lookup x = some a)) → Q () s') (hf : X.fn x = true ∨ X.env.scope.names.lookup x = some .local := by first | exact .inl rfl | exact .inr rfl | assumption) : wpAny M A (storeName X.env x u) Q E s := by
 obtain ⟨m, hn, hl⟩ := id I.loc
 have hcls : (X.env.scope.kind == .class || (X.env.scope.kind == .module && X.env.locals != X.env.globals)) = false := by rw [I.ok.kind]; rfl
 have hiσ : i < σ.length := by rw [I.len]; exact (List.getElem?_eq_some_iff.mp hi).1
 have cne := I.cne
 have tracked : ∀ {a : Addr} {h' : Heap}, (∃ o, s.heap.get? a = some o ∧ H a = none) → Heap.SameBut a s.heap h' → HOk X.prog X.w H h' := fun {a h'} ha hs b ob e => by
  obtain ⟨_, _, hfree⟩ := ha
  refine (I.hok b ob e).stay (fun c w' hc q => (hs.2 c ?_).trans q) (fun _ q => q) fun _ _ q => q
  rintro rfl
  rcases hc with rfl | hc
  ·rw [hfree] at e; cases e
  ·rw [hfree] at hc; cases hc
 rcases hx with hk | hk
 ·refine wpAny_storeName_local hk hn (fun h' hn' hs => ?_) hcls
  obtain ⟨oL, _, _, hoL, _⟩ := id hn
  refine h _ ⟨I.ok, I.os, I.bare, ⟨fun b o e n hb hx => ?_, fun b o e n hb hx => ?_, I.base.free, fun b o e hx => ?_, I.base.tups, I.base.frzs, I.base.tbls⟩, ⟨_, hn', fun j y v' e1 e2 e3 => ?_⟩, fun y c e => ?_, I.free, I.freeC, fun p hp => ?_, tracked ⟨oL, hoL, I.free⟩ hs, by simpa using I.len⟩ ⟨_, hs, .inl rfl⟩
  ·exact (hs.2 b (Nat.ne_of_lt (Nat.lt_of_lt_of_le (Heap.lt_size e) I.ok.above))).trans (I.base.keep b o e n hb hx)
  ·obtain ⟨sl, e1⟩ := I.base.slot b o e n hb hx
   exact ⟨sl, (hs.2 b (Nat.ne_of_lt (Nat.lt_of_lt_of_le (Heap.lt_size e) I.ok.above))).trans e1⟩
  ·obtain ⟨o', e1⟩ := I.base.there b o e hx
   exact ⟨o', (hs.2 b (Nat.ne_of_lt (Nat.lt_of_lt_of_le (Heap.lt_size e) I.ok.above))).trans e1⟩
  ·by_cases hj : j = i
   ·subst hj
    rw [hi] at e1; cases e1
    rw [List.getElem?_set_self hiσ] at e2
    cases e2
    exact ⟨u, r, .inl ⟨hk, by simp⟩⟩
   ·rw [List.getElem?_set_ne (Ne.symm hj)] at e2
    obtain ⟨u', r', q⟩ := hl j y v' e1 e2 e3
    refine ⟨u', r', ?_⟩
    rcases q with ⟨k, e⟩ | ⟨k, c, e, z⟩
    ·refine .inl ⟨k, ?_⟩
     have : y ≠ x := fun e => hj (nodup_ix hN e1 (e ▸ hi))
     simp [this, e]
    ·exact .inr ⟨k, c, e, z.sameBut hs (cne y c e)⟩
  ·obtain ⟨w', z⟩ := I.cell y c e
   exact ⟨w', z.sameBut hs (cne y c e)⟩
  ·obtain ⟨e, n, ne, nf, d⟩ := I.pin p hp
   exact ⟨(hs.2 p.1 ne).trans e, n, ne, nf, d⟩
 ·have hfn : X.fn x = true := by
   rcases hf with z | z
   ·exact z
   ·rw [z] at hk; cases hk
  obtain ⟨c, hc⟩ := I.ok.has x (.inl hk)
  obtain ⟨w', z⟩ := I.cell x c hc
  refine wpAny_storeName_cell I.ok.kind hk hc z (fun h' hc' hs => ?_)
  obtain ⟨oc, hoc, hocd⟩ := id z
  refine h { s with heap := h' } ⟨I.ok, I.os, I.bare, ⟨fun b o e n hb hx => ?_, fun b o e n hb hx => ?_, I.base.free, fun b o e hx => ?_, I.base.tups, I.base.frzs, I.base.tbls⟩, ⟨m, hn.sameBut hs (Ne.symm (cne x c hc)), fun j y v' e1 e2 e3 => ?_⟩, fun y c' e => ?_, I.free, I.freeC, fun p hp => ?_, tracked ⟨oc, hoc, I.freeC x c hc⟩ hs, by simpa using I.len⟩ ⟨c, hs, .inr hc⟩
  ·exact (hs.2 b (Nat.ne_of_lt (Nat.lt_of_lt_of_le (Heap.lt_size e) (I.ok.cab x c hfn hc)))).trans (I.base.keep b o e n hb hx)
  ·obtain ⟨sl, e1⟩ := I.base.slot b o e n hb hx
   exact ⟨sl, (hs.2 b (Nat.ne_of_lt (Nat.lt_of_lt_of_le (Heap.lt_size e) (I.ok.cab x c hfn hc)))).trans e1⟩
  ·obtain ⟨o', e1⟩ := I.base.there b o e hx
   exact ⟨o', (hs.2 b (Nat.ne_of_lt (Nat.lt_of_lt_of_le (Heap.lt_size e) (I.ok.cab x c hfn hc)))).trans e1⟩
  ·by_cases hj : j = i
   ·subst hj
    rw [hi] at e1; cases e1
    rw [List.getElem?_set_self hiσ] at e2
    cases e2
    exact ⟨u, r, .inr ⟨.inl hk, c, hc, hc'⟩⟩
   ·rw [List.getElem?_set_ne (Ne.symm hj)] at e2
    obtain ⟨u', r', q⟩ := hl j y v' e1 e2 e3
    refine ⟨u', r', ?_⟩
    rcases q with q | ⟨k, c', e, z'⟩
    ·exact .inl q
    ·refine .inr ⟨k, c', e, z'.sameBut hs ?_⟩
     rintro rfl
     exact hj (nodup_ix hN e1 (I.ok.inj _ _ _ e hc ▸ hi))
  ·by_cases hcc : c' = c
   ·subst hcc; exact ⟨_, hc'⟩
   ·obtain ⟨w2, z2⟩ := I.cell y c' e
    exact ⟨w2, z2.sameBut hs hcc⟩
  ·obtain ⟨e, n, ne, nf, d⟩ := I.pin p hp
   refine ⟨(hs.2 p.1 ?_).trans e, n, ne, nf, d⟩
   intro q
   rw [q, hoc] at e
   have q' : oc = p.2 := Option.some.inj e
   exact d w' (by rw [← q']; exact hocd)
theorem store_ok {M : Model} {A : Around} {E : Value → Shared → Prop} {i : Nat} {x : Str} {v : V} {u : Value} {Q : Unit → Shared → Prop} (I : Inv X pins σ H s) (hN : X.N.Nodup) (hi : X.N[i]? = some x) (hx : Loc X.env.scope x) (r : RelV v u)
  (h : ∀ s', Inv X pins (σ.set i (some v)) H s' → Q () s') (hf : X.fn x = true ∨ X.env.scope.names.lookup x = some .local := by first | exact .inl rfl | exact .inr rfl | assumption) : wpAny M A (storeName X.env x u) Q E s :=
 store_ok2 I hN hi hx r (fun s' I' _ => h s' I') hf
end
abbrev XK := Value → Option Addr → Hp → Prop
abbrev St := List (Option V)
abbrev VK := V → Hp → Prop
abbrev TE := St → Hp → VK → Prop
abbrev TT := St → Hp → (Bool → Hp → Prop) → Prop
abbrev TA := St → Hp → (List V → Hp → Prop) → Prop
structure Ends where
 nx : St → Hp → Prop
 rt : VK
 bk : St → Hp → Prop := fun _ _ => False
 ct : St → Hp → Prop := fun _ _ => False
abbrev TS := Ends → St → Hp → Prop
def EP (X : Cx) (pins : List (Addr × Obj)) (σ : St) (Q : VK) (u : Value) (s' : Shared) : Prop := ∃ v H', Inv X pins σ H' s' ∧ RelV v u ∧ Q v H'
def TP (X : Cx) (pins : List (Addr × Obj)) (σ : St) (Q : Bool → Hp → Prop) (b : Bool) (s' : Shared) : Prop := ∃ H', Inv X pins σ H' s' ∧ Q b H'
def AP (X : Cx) (pins : List (Addr × Obj)) (σ : St) (Q : List V → Hp → Prop) (us : List Value) (s' : Shared) : Prop := ∃ vs H', Inv X pins σ H' s' ∧ Vals vs us ∧ Q vs H'
def SP (X : Cx) (pins : List (Addr × Obj)) (D : Ends) (f : Flow) (s' : Shared) : Prop :=
 match f with
 | .next => ∃ σ' H', Inv X pins σ' H' s' ∧ D.nx σ' H'
 | .brk => ∃ σ' H', Inv X pins σ' H' s' ∧ D.bk σ' H'
 | .cont => ∃ σ' H', Inv X pins σ' H' s' ∧ D.ct σ' H'
 | .ret u => ∃ v σ' H', Inv X pins σ' H' s' ∧ RelV v u ∧ D.rt v H'
def PE (X : Cx) (e : Expr) (t : TE) : Prop :=
 ∀ (pins : List (Addr × Obj)) (s : Shared) (σ : St) (H : Hp) (Q : VK), Inv X pins σ H s → t σ H Q → wpAny (model X.prog X.w) X.A (eval e X.env) (EP X pins σ Q) X.xe s
def PT (X : Cx) (e : Expr) (t : TT) : Prop :=
 ∀ (pins : List (Addr × Obj)) (s : Shared) (σ : St) (H : Hp) (Q : Bool → Hp → Prop), Inv X pins σ H s → t σ H Q → wpAny (model X.prog X.w) X.A (isTrue e X.env (eval e X.env)) (TP X pins σ Q) X.xe s
def PW (X : Cx) (e : Expr) (t : TT) : Prop :=
 ∀ (whole : Sem Value) (pins : List (Addr × Obj)) (s : Shared) (σ : St) (H : Hp) (Q : Bool → Hp → Prop), Inv X pins σ H s → t σ H Q → wpAny (model X.prog X.w) X.A (isTrue e X.env whole) (TP X pins σ Q) X.xe s
theorem PW.pt {X : Cx} {e : Expr} {t : TT} (h : PW X e t) : PT X e t := h _
def PA (X : Cx) (es : List Expr) (t : TA) : Prop :=
 ∀ (pos : Pos) (pins : List (Addr × Obj)) (s : Shared) (σ : St) (H : Hp) (Q : List V → Hp → Prop), Inv X pins σ H s → t σ H Q → wpAny (model X.prog X.w) X.A (spliced (backTo pos (starEach es X.env))) (AP X pins σ Q) X.xe s
def PS (X : Cx) (st : Stmt) (t : TS) : Prop :=
 ∀ (pins : List (Addr × Obj)) (s : Shared) (σ : St) (H : Hp) (D : Ends), Inv X pins σ H s → t D σ H → wpAny (model X.prog X.w) X.A (exec st X.env) (SP X pins D) X.xe s
def PSs (X : Cx) (st : List Stmt) (t : TS) : Prop :=
 ∀ (pins : List (Addr × Obj)) (s : Shared) (σ : St) (H : Hp) (D : Ends), Inv X pins σ H s → t D σ H → wpAny (model X.prog X.w) X.A (execs st X.env) (SP X pins D) X.xe s
theorem thn {α : Type} {t : Sem α} {Q Q' : α → Shared → Prop} {M : Model} {A : Around} {E : Value → Shared → Prop} {s : Shared} (h : wpAny M A t Q E s) (hQ : ∀ a s, Q a s → Q' a s) : wpAny M A t Q' E s := wpAny_mono h hQ fun _ _ x => x
end L2
namespace L2
open PySem PySem.Spec PyProof.Rows
section
variable {X : Cx}
inductive IVar (i : Nat) (σ : St) (H : Hp) (Q : VK) : Prop
 | mk (v : V) (h : σ[i]? = some (some v)) (q : Q v H) : IVar i σ H Q
def tVar (i : Nat) : TE := fun σ H Q => IVar i σ H Q
def tC (v : V) : TE := fun _ H Q => Q v H
theorem pe_var {i : Nat} {x : Str} {pos : Pos} (hN : X.N[i]? = some x) (hv : Vis X.env.scope x) (hd : (x == ("__debug__" : Str)) = false := by decide) (hcd : (x == ("__classdict__" : Str)) = false := by decide) : PE X (.Name x pos) (tVar i) := by
 intro pins s σ H Q I h
 obtain ⟨v, e, h⟩ := h
 obtain ⟨m, hn, hl⟩ := I.loc
 obtain ⟨u, r, l⟩ := hl i x v hN e hv
 have fin : EP X pins σ Q u s := ⟨v, H, I, r, h⟩
 rcases l with ⟨hk, hm⟩ | ⟨hk, c, hc, hcell⟩
 ·exact wpAny_Name (wpAny_loadName_local I.ok.kind hk hn hm fin) hd
 ·rcases hk with hk | hk
  ·exact wpAny_Name (wpAny_loadName_cell I.ok.kind hk hc hcell fin) hd
  ·exact wpAny_Name (wpAny_loadName_free I.ok.kind hk hc hcell fin hcd) hd
theorem pe_int {i j pos} : PE X (.Constant (.int i) j pos) (tC (.int i)) := fun _ _ _ H _ I h => wpAny_Constant_int ⟨.int i, H, I.tok _, ⟨_, rfl⟩, h⟩
theorem pe_bl {b j pos} : PE X (.Constant (.bool b) j pos) (tC (.bl b)) := fun _ _ _ H _ I h => Constant_bool ⟨.bl b, H, I, rfl, h⟩
theorem pe_non {j pos} : PE X (.Constant .none j pos) (tC .non) := fun _ _ _ H _ I h => Constant_none ⟨.non, H, I, rfl, h⟩
theorem pe_str {x j pos} : PE X (.Constant (.str x) j pos) (tC (.str x)) := fun _ _ _ H _ I h => Calls.Constant_str ⟨.str x, H, I.tok _, ⟨_, rfl⟩, h⟩
def Gl (X : Cx) (x : Str) : Prop := X.env.kindOf x = some .globalImplicit
theorem ld_glob {E : Value → Shared → Prop} {pins : List (Addr × Obj)} {s : Shared} {σ : St} {H : Hp} {x : Str} {u : Value} {pos : Pos} {Q : Value → Shared → Prop} (I : Inv X pins σ H s) (hg : Gl X x) (hm : X.mg x = some u) (h : Q u s)
  (hd : (x == ("__debug__" : Str)) = false := by decide) : wpAny (model X.prog X.w) X.A (eval (.Name x pos) X.env) Q E s :=
 Calls.Name_function_global I.ok.kind hg (Calls.loadGlobal_global (by rw [I.ok.glob]; exact I.mod.glob.keeps I.bk) hm h) hd
theorem ld_blt {E : Value → Shared → Prop} {pins : List (Addr × Obj)} {s : Shared} {σ : St} {H : Hp} {x : Str} {u : Value} {pos : Pos} {Q : Value → Shared → Prop} (I : Inv X pins σ H s) (hg : Gl X x) (hm : X.mg x = none) (hv : bootBuiltins x = some u) (h : Q u s)
  (hn : x ≠ "__name__" := by decide) (hd : (x == ("__debug__" : Str)) = false := by decide) : wpAny (model X.prog X.w) X.A (eval (.Name x pos) X.env) Q E s := by
 obtain ⟨mb, h1, h2⟩ := I.mod.blt
 exact Calls.Name_function_global I.ok.kind hg (Calls.loadGlobal_builtin (by rw [I.ok.glob]; exact I.mod.glob.keeps I.bk) hm (by rw [I.ok.blt]; exact h1.keeps I.bk) ((h2 x hn).trans hv) h) hd
theorem pe_glob {x : Str} {v : V} {u : Value} {pos : Pos} (hg : Gl X x) (hm : X.mg x = some u) (r : RelV v u) (hd : (x == ("__debug__" : Str)) = false := by decide) : PE X (.Name x pos) (tC v) :=
 fun _ _ _ H _ I h => ld_glob I hg hm ⟨v, H, I, r, h⟩ hd
theorem pe_bltn {x : Str} {v : V} {u : Value} {pos : Pos} (hg : Gl X x) (hm : X.mg x = none) (hv : bootBuiltins x = some u) (r : RelV v u) (hn : x ≠ "__name__" := by decide) (hd : (x == ("__debug__" : Str)) = false := by decide) : PE X (.Name x pos) (tC v) :=
 fun _ _ _ H _ I h => ld_blt I hg hm hv ⟨v, H, I, r, h⟩ hn hd
variable {a b : Expr} {ta tb : TE} {pos : Pos}
inductive IBl (Q : Bool → Hp → Prop) (x : V) (H : Hp) : Prop
 | mk (c : Bool) (h : x = .bl c) (q : Q c H) : IBl Q x H
def tB (t : TE) : TT := fun σ H Q => t σ H (IBl Q)
theorem pt_val {e : Expr} {t : TE} (h : PE X e t) (he : ∀ whole, isTrue e X.env whole = (do let v ← whole; standAt e.pos; holding [v] (truthy v)) := by intro _; rfl) : PT X e (tB t) := by
 intro pins s σ H Q I hw
 refine isTrue_plain (thn (h pins s σ H _ I hw) fun v s1 ⟨x, H1, I1, r1, q1⟩ => ?_) (he _)
 obtain ⟨d, rfl, q⟩ := q1
 cases r1
 exact wpAny_truthy_bool ⟨H1, I1, q⟩
variable {tA tB' : TT} {rest : List Expr}
def tAnd (t u : TT) : TT := fun σ H Q => t σ H fun c H1 => if c = true then u σ H1 Q else Q false H1
def tOr (t u : TT) : TT := fun σ H Q => t σ H fun c H1 => if c = true then Q true H1 else u σ H1 Q
def tNot (t : TT) : TT := fun σ H Q => t σ H fun c H1 => Q (!c) H1
theorem pw_and1 (ha : PT X a tA) : PW X (.BoolOp .And [a] pos) tA := by
 intro wh pins s σ H Q I h
 refine isTrue_and (thn (ha pins s σ H Q I h) fun c s1 e => ?_)
 cases c with
 | true => exact isTrue_and_nil e
 | false => exact e
theorem pw_or1 (ha : PT X a tA) : PW X (.BoolOp .Or [a] pos) tA := by
 intro wh pins s σ H Q I h
 refine isTrue_or (thn (ha pins s σ H Q I h) fun c s1 e => ?_)
 cases c with
 | false => exact isTrue_or_nil e
 | true => exact e
theorem pw_and (ha : PT X a tA) (hb : PW X (.BoolOp .And (b :: rest) pos) tB') : PW X (.BoolOp .And (a :: b :: rest) pos) (tAnd tA tB') := by
 intro wh pins s σ H Q I h
 refine isTrue_and (thn (ha pins s σ H _ I h) fun c s1 ⟨H1, I1, q1⟩ => ?_)
 cases c with
 | true => exact hb wh pins s1 σ H1 Q I1 q1
 | false => exact ⟨H1, I1, q1⟩
theorem pw_or (ha : PT X a tA) (hb : PW X (.BoolOp .Or (b :: rest) pos) tB') : PW X (.BoolOp .Or (a :: b :: rest) pos) (tOr tA tB') := by
 intro wh pins s σ H Q I h
 refine isTrue_or (thn (ha pins s σ H _ I h) fun c s1 ⟨H1, I1, q1⟩ => ?_)
 cases c with
 | true => exact ⟨H1, I1, q1⟩
 | false => exact hb wh pins s1 σ H1 Q I1 q1
theorem pt_not (ha : PT X a tA) : PT X (.UnaryOp .Not a pos) (tNot tA) := by
 intro pins s σ H Q I h
 exact isTrue_not (ha pins s σ H (fun c H1 => Q (!c) H1) I h)
def tOrV (ta tb : TE) : TE := fun σ H Q => ta σ H fun x H1 => ∃ c, x = .bl c ∧ if c = true then Q (.bl true) H1 else tb σ H1 Q
theorem pe_one {op} {t : TE} (h : PE X a t) : PE X (.BoolOp op [a] pos) t := fun pins s σ H Q I hw => BoolOp_one (h pins s σ H Q I hw)
theorem pe_or (ha : PE X a ta) (hb : PE X (.BoolOp .Or (b :: rest) pos) tb) : PE X (.BoolOp .Or (a :: b :: rest) pos) (tOrV ta tb) := by
 intro pins s σ H Q I h
 refine BoolOp_or (thn (ha pins s σ H _ I h) fun v s1 ⟨x, H1, I1, r1, q1⟩ => ?_)
 obtain ⟨c, rfl, q1⟩ := q1
 cases r1
 refine wpAny_truthy_bool ?_
 cases c with
 | false => exact hb pins s1 σ H1 Q I1 q1
 | true => exact ⟨.bl true, H1, I1, rfl, q1⟩
def tIf (t : TT) (ta tb : TE) : TE := fun σ H Q => t σ H fun c H1 => if c = true then ta σ H1 Q else tb σ H1 Q
theorem pe_ifExp {c : Expr} (hc : PT X c tA) (ha : PE X a ta) (hb : PE X b tb) : PE X (.IfExp c a b pos) (tIf tA ta tb) := by
 intro pins s σ H Q I h
 refine wpAny_IfExp (thn (hc pins s σ H _ I h) fun d s1 ⟨H1, I1, q1⟩ => ?_)
 cases d with
 | true => exact ha pins s1 σ H1 Q I1 q1
 | false => exact hb pins s1 σ H1 Q I1 q1
end
end L2
namespace L2
open PySem PySem.Spec PyProof.Rows
def SqL (K : PySem.W.Frag) (H : Hp) (a : Addr) (xs : List V) : Prop :=
 Rd H a (.lst xs) ∨
  ∃ (o : Obj) (its : Array Value) (n : Nat), K.lookup a = some o ∧ o.cls = .type "list" ∧ o.dict = none ∧ o.data = .seq its n ∧ its.size ≤ sizeLine ∧ Vals xs its.toList
def SqT (K : PySem.W.Frag) (H : Hp) (a : Addr) (xs : List V) : Prop :=
 Rd H a (.tup xs) ∨
  ∃ (o : Obj) (its : Array Value) (n : Nat), K.lookup a = some o ∧ o.cls = .type "tuple" ∧ o.data = .seq its n ∧ its.size ≤ sizeLine ∧ Vals xs its.toList
def absV : Value → Option V
 | .none => some .non
 | .bool b => some (.bl b)
 | .int i _ => some (.int i)
 | .str x _ => some (.str x)
 | .bytes b _ => some (.byt b)
 | .float b _ => some (.flt b)
 | .ref a => some (.ref a)
 | .type n => some (.ty n)
 | _ => none
theorem RelV.abs {x : V} {u : Value} (r : RelV x u) : absV u = some x := by
 cases x with
 | non => cases r; rfl
 | bl _ => cases r; rfl
 | int _ => obtain ⟨t, rfl⟩ := r; rfl
 | str _ => obtain ⟨t, rfl⟩ := r; rfl
 | byt _ => obtain ⟨t, rfl⟩ := r; rfl
 | flt _ => obtain ⟨t, rfl⟩ := r; rfl
 | ref _ => cases r; rfl
 | ty _ => cases r; rfl
theorem RelV.inj {x y : V} {u : Value} (r : RelV x u) (q : RelV y u) : x = y := Option.some.inj (r.abs.symm.trans q.abs)
theorem Vals.inj : ∀ {xs ys : List V} {us : List Value}, Vals xs us → Vals ys us → xs = ys
 | _, _, _, .nil, .nil => rfl
 | _, _, _, .cons r t, .cons r' t' => by rw [r.inj r', Vals.inj t t']
section
variable {X : Cx} {pins : List (Addr × Obj)} {σ : St} {H : Hp} {s : Shared} {a : Addr} {xs ys : List V}
theorem SqL.of {K : PySem.W.Frag} (h : H a = some (.lst xs)) : SqL K H a xs := .inl (.inl h)
theorem SqT.of {K : PySem.W.Frag} (h : H a = some (.tup xs)) : SqT K H a xs := .inl (.inl h)
theorem Inv.list (I : Inv X pins σ H s) (h : SqL X.K H a xs) : ∃ its : List Value, Vals xs its ∧ PlainL s.heap a its.toArray ∧ xs.length ≤ sizeLine := by
 rcases h with h | ⟨o, its, n, hk, hc, hd, hs, hz, r⟩
 ·obtain ⟨z, its, n, r, e⟩ := h.ok I.hok
  exact ⟨its, r, ⟨_, n, e, rfl, rfl, rfl⟩, z⟩
 ·refine ⟨its.toList, r, ⟨o, n, I.kIn a o hk, hc, hd, by simpa using hs⟩, ?_⟩
  have e := r.length
  simp only [Array.length_toList] at e
  omega
theorem Inv.tuple (I : Inv X pins σ H s) (h : SqT X.K H a xs) : ∃ its : List Value, Vals xs its ∧ IsTup s.heap a its.toArray ∧ xs.length ≤ sizeLine := by
 rcases h with h | ⟨o, its, n, hk, hc, hs, hz, r⟩
 ·obtain ⟨z, its, r, p⟩ := h.ok I.hok
  exact ⟨its, r, IsTupN.is p, z⟩
 ·refine ⟨its.toList, r, ⟨o, I.kIn a o hk, hc, n, by simpa using hs⟩, ?_⟩
  have e := r.length
  simp only [Array.length_toList] at e
  omega
theorem Inv.list_inj (I : Inv X pins σ H s) (h : SqL X.K H a xs) (h' : SqL X.K H a ys) : xs = ys := by
 obtain ⟨its, r, ⟨o, n, e, _, _, d⟩, _⟩ := I.list h
 obtain ⟨its', r', ⟨o', n', e', _, _, d'⟩, _⟩ := I.list h'
 rw [e] at e'; cases e'
 rw [d] at d'
 injection d' with d1 _
 have : its = its' := by simpa using congrArg Array.toList d1
 subst this
 exact r.inj r'
theorem Inv.tuple_inj (I : Inv X pins σ H s) (h : SqT X.K H a xs) (h' : SqT X.K H a ys) : xs = ys := by
 obtain ⟨its, r, ⟨o, e, _, n, d⟩, _⟩ := I.tuple h
 obtain ⟨its', r', ⟨o', e', _, n', d'⟩, _⟩ := I.tuple h'
 rw [e] at e'; cases e'
 rw [d] at d'
 injection d' with d1 _
 have : its = its' := by simpa using congrArg Array.toList d1
 subst this
 exact r.inj r'
end
abbrev Cx.wish (X : Cx) (E : Value → Shared → Prop) : Cx := { X with xe := E }
abbrev Cx.nox (X : Cx) : Cx := X.wish fun _ _ => False
theorem Cx.Ok.wish {X : Cx} (ok : X.Ok) (E : Value → Shared → Prop) : (X.wish E).Ok :=
 ⟨ok.mod, ok.kind, ok.glob, ok.blt, ok.above, ok.inj, ok.has, ok.cab, ok.hd, ok.frames, ok.stk, ok.exf, ok.bs, ok.bsz, ok.noex, ok.exfs, ok.funs, ok.frf⟩
theorem Cx.Ok.unwish {X : Cx} {E : Value → Shared → Prop} (ok : (X.wish E).Ok) : X.Ok :=
 ⟨ok.mod, ok.kind, ok.glob, ok.blt, ok.above, ok.inj, ok.has, ok.cab, ok.hd, ok.frames, ok.stk, ok.exf, ok.bs, ok.bsz, ok.noex, ok.exfs, ok.funs, ok.frf⟩
section
variable {X : Cx} {pins : List (Addr × Obj)} {σ : St} {H : Hp} {s : Shared} {E : Value → Shared → Prop}
theorem Inv.wish (I : Inv X pins σ H s) (E : Value → Shared → Prop) : Inv (X.wish E) pins σ H s := ⟨I.ok.wish E, I.os, I.bare, I.base, I.loc, I.cell, I.free, I.freeC, I.pin, I.hok, I.len⟩
theorem Inv.unwish (I : Inv (X.wish E) pins σ H s) : Inv X pins σ H s := ⟨I.ok.unwish, I.os, I.bare, I.base, I.loc, I.cell, I.free, I.freeC, I.pin, I.hok, I.len⟩
theorem SP.unwish {D : Ends} {f : Flow} {s' : Shared} (h : SP (X.wish E) pins D f s') : SP X pins D f s' := by
 cases f with
 | next => obtain ⟨σ', H', I, q⟩ := h; exact ⟨σ', H', I.unwish, q⟩
 | brk => obtain ⟨σ', H', I, q⟩ := h; exact ⟨σ', H', I.unwish, q⟩
 | cont => obtain ⟨σ', H', I, q⟩ := h; exact ⟨σ', H', I.unwish, q⟩
 | ret u => obtain ⟨v, σ', H', I, r, q⟩ := h; exact ⟨v, σ', H', I.unwish, r, q⟩
theorem PSs.nox {st : List Stmt} {t : TS} (h : PSs X.nox st t) : PSs X st t := fun pins s σ H D I hw =>
 wpAny_mono (h pins s σ H D (I.wish _) hw) (fun _ _ q => q.unwish) fun _ _ z => False.elim z
end
section
variable {X : Cx} {st : Stmt} {rest : List Stmt} {t u : TS} {e : Expr} {te : TE} {pos : Pos}
def tNext : TS := fun D σ H => D.nx σ H
def tSeq (t u : TS) : TS := fun D σ H => t { D with nx := u D } σ H
theorem pss_nil : PSs X [] tNext := fun _ _ σ H _ I h => wpAny_execs_nil ⟨σ, H, I, h⟩
theorem pss_cons (h1 : PS X st t) (h2 : PSs X rest u) : PSs X (st :: rest) (tSeq t u) := by
 intro pins s σ H D I h
 refine wpAny_execs_cons (thn (h1 pins s σ H { D with nx := u D } I h) fun f s1 q => ?_)
 cases f with
 | next =>
  obtain ⟨σ', H', I', q⟩ := q
  exact h2 pins s1 σ' H' D I' q
 | ret v => exact q
 | brk => exact q
 | cont => exact q
theorem pss_one (h1 : PS X st t) : PSs X [st] t := by
 intro pins s σ H D I h
 refine wpAny_execs_cons (thn (h1 pins s σ H D I h) fun f s1 q => ?_)
 cases f with
 | next => exact wpAny_execs_nil q
 | ret v => exact q
 | brk => exact q
 | cont => exact q
theorem Inv.quiet {pins : List (Addr × Obj)} {σ : St} {H : Hp} {s : Shared} (I : Inv X pins σ H s) : interactive X.env = false := by simp [interactive, I.ok.kind]
def tDrop (te : TE) : TS := fun D σ H => te σ H fun _ H1 => D.nx σ H1
theorem ps_expr (he : PE X e te) (hs : swapsWith e none pos.line X.env = pure false := by rfl) : PS X (.Expr e pos) (tDrop te) := by
 intro pins s σ H D I h
 exact wpAny_Expr_any (thn (he pins s σ H _ I h) fun v s1 ⟨x, H1, I1, r1, q1⟩ => ⟨σ, H1, I1, q1⟩) I.quiet hs
def tRet (te : TE) : TS := fun D σ H => te σ H D.rt
theorem ps_ret (he : PE X e te) : PS X (.Return (some e) pos) (tRet te) := by
 intro pins s σ H D I h
 exact wpAny_Return_some (thn (he pins s σ H _ I h) fun v s1 ⟨x, H1, I1, r1, q1⟩ => ⟨x, σ, H1, I1, r1, q1⟩)
def tIfS (c : TT) (t u : TS) : TS := fun D σ H => c σ H fun b H1 => if b = true then t D σ H1 else u D σ H1
theorem ps_if {c : Expr} {a b : List Stmt} {tc : TT} (hc : PT X c tc) (ha : PSs X a t) (hb : PSs X b u) : PS X (.If c a b pos) (tIfS tc t u) := by
 intro pins s σ H D I h
 refine wpAny_If (thn (hc pins s σ H _ I h) fun d s1 ⟨H1, I1, q1⟩ => ?_)
 cases d with
 | true => exact ha pins s1 σ H1 D I1 q1
 | false => exact hb pins s1 σ H1 D I1 q1
end
abbrev TG := V → St → Hp → (St → Hp → Prop) → Prop
def PG (X : Cx) (target : Expr) (t : TG) : Prop :=
 ∀ (pins : List (Addr × Obj)) (s : Shared) (σ : St) (H : Hp) (v : V) (u : Value) (Q : St → Hp → Prop), Inv X pins σ H s → RelV v u → t v σ H Q →
  wpAny (model X.prog X.w) X.A (assign target X.env u) (fun _ s' => ∃ σ' H', Inv X pins σ' H' s' ∧ Q σ' H') X.xe s
abbrev TSet := V → V → V → Hp → (Hp → Prop) → Prop
def PSet (X : Cx) (t : TSet) : Prop :=
 ∀ (pins : List (Addr × Obj)) (s : Shared) (σ : St) (H : Hp) (o i v : V) (ov iv u : Value) (Q : Hp → Prop), Inv X pins σ H s → RelV o ov → RelV i iv → RelV v u → t o i v H Q →
  wpAny (model X.prog X.w) X.A (setItem ov iv u) (fun _ s' => ∃ H', Inv X pins σ H' s' ∧ Q H') X.xe s
section
variable {X : Cx} {pos : Pos}
def gName (i : Nat) : TG := fun v σ H Q => Q (σ.set i (some v)) H
theorem pg_name {i : Nat} {x : Str} (hN : X.N.Nodup) (hi : X.N[i]? = some x) (hx : Loc X.env.scope x) (hf : X.fn x = true ∨ X.env.scope.names.lookup x = some .local := by first | exact .inl rfl | exact .inr rfl | assumption) : PG X (.Name x pos) (gName i) := by
 intro pins s σ H v u Q I r h
 exact wpAny_assign_Name (store_ok I hN hi hx r (fun s' I' => ⟨_, H, I', h⟩) hf)
def gSub (to ti : TE) (t : TSet) : TG := fun v σ H Q => to σ H fun o H1 => ti σ H1 fun i H2 => t o i v H2 fun H3 => Q σ H3
theorem pg_sub {o i : Expr} {to ti : TE} {t : TSet} (ho : PE X o to) (hi : PE X i ti) (hs : PSet X t)
  (ha : ∀ v, assign (.Subscript o i pos) X.env v = (do
   let ov ← holding [v] (eval o X.env)
   let iv ← holding [v, ov] (eval i X.env)
   standAt pos
   holding [v, ov, iv] (setItem ov iv v)
   release [v, ov, iv] []) := by intro _; rfl) : PG X (.Subscript o i pos) (gSub to ti t) := by
 intro pins s σ H v u Q I r h
 rw [ha]
 refine wpAny_bind (wpAny_holding (thn (ho pins s σ H _ I h) fun ov s1 ⟨x, H1, I1, r1, q1⟩ => ?_))
 refine wpAny_bind (wpAny_holding (thn (hi pins s1 σ H1 _ I1 q1) fun iv s2 ⟨y, H2, I2, r2, q2⟩ => ?_))
 refine wpAny_bind (wpAny_standAt (wpAny_bind (wpAny_holding (thn (hs pins s2 σ H2 x y v ov iv u _ I2 r1 r2 r q2) fun _ s3 ⟨H3, I3, q3⟩ => ?_))))
 exact wpAny_release ⟨σ, H3, I3, q3⟩
def tAsg (te : TE) (g : TG) : TS := fun D σ H => te σ H fun x H1 => g x σ H1 D.nx
theorem ps_asg {tg e : Expr} {te : TE} {g : TG} (he : PE X e te) (hg : PG X tg g) (hs : swapsWithSole [tg] e pos.line X.env = pure false := by rfl) (hw : swappedStores [tg] e X.env = pure none := by rfl)
  (h1 : (assignEach [tg] X.env).map (·.2) = [assign tg X.env] := by rfl) : PS X (.Assign [tg] e pos) (tAsg te g) := by
 intro pins s σ H D I h
 refine wpAny_Assign_stores (thn (he pins s σ H _ I h) fun v s1 ⟨x, H1, I1, r1, q1⟩ => ?_) hs hw
 rw [h1]
 exact thn (hg pins s1 σ H1 x v _ I1 r1 q1) fun _ s2 q => q
theorem ps_set {i : Nat} {x : Str} {e : Expr} {te : TE} {pos' : Pos} (hN : X.N.Nodup) (hi : X.N[i]? = some x) (hx : Loc X.env.scope x) (he : PE X e te) (hs : swapsWith e (some (.Name x pos')) pos.line X.env = pure false := by rfl) (hf : X.fn x = true ∨ X.env.scope.names.lookup x = some .local := by first | exact .inl rfl | exact .inr rfl | assumption) :
  PS X (.Assign [.Name x pos'] e pos) (tAsg te (gName i)) := by
 intro pins s σ H D I h
 refine wpAny_Assign_Name (thn (he pins s σ H _ I h) fun v s1 ⟨y, H1, I1, r1, q1⟩ => ?_) hs
 exact store_ok I1 hN hi hx r1 (fun s2 I2 => ⟨_, H1, I2, q1⟩) hf
end
structure It where
 go : Nat → Hp → Prop
 yld : Nat → Hp → V → Hp → Prop
 stop : Nat → Hp → Prop
def FpOk (X : Cx) (pins : List (Addr × Obj)) (H : Hp) (b : Addr) : Prop :=
 H b = none ∧ b ≠ X.env.locals ∧ b ∉ X.fs ∧ (b ∈ X.ex ∨ X.s₀.heap.objs.size ≤ b) ∧ (∀ x c, X.env.cells.lookup x = some c → c ≠ b) ∧ ∀ p ∈ X.pn ++ pins, p.1 ≠ b
theorem Inv.fpOk {X : Cx} {pins : List (Addr × Obj)} {σ : St} {H H' : Hp} {s : Shared} {b : Addr} (I : Inv X pins σ H s) (hb : s.heap.objs.size ≤ b) (hn : H' b = none) : FpOk X pins H' b := by
 refine ⟨hn, Nat.ne_of_gt (Nat.lt_of_lt_of_le I.lt hb), I.nofs hb, .inr (Nat.le_trans I.sz hb), fun x c e z => ?_, fun p hp z => ?_⟩
 ·obtain ⟨v, q⟩ := I.cell x c e
  exact absurd (Nat.lt_of_lt_of_le q.lt (by rw [z]; exact hb)) (Nat.lt_irrefl _)
 ·exact absurd (Nat.lt_of_lt_of_le (Heap.lt_size (I.pin p hp).1) (by rw [z]; exact hb)) (Nat.lt_irrefl _)
structure Turn (P : Program) (w : World) (K : PySem.W.Frag) (tg : Expr) (J : It) (fp : List Addr) (it : Addr) (tn : Nat → Heap → Prop) : Prop where
 mem : it ∈ fp
 obj : ∀ i h, tn i h → ∀ b ∈ fp, ∃ o, h.get? b = some o ∧ ∀ v, o.data ≠ .cell v
 keep : ∀ i h h', tn i h → (∀ b ∈ fp, ∀ o, h.get? b = some o → h'.get? b = some o) → tn i h'
 item : ∀ (X : Cx), X.prog = P → X.w = w → X.K = K → X.calm = true → ∀ (i : Nat) (pins : List (Addr × Obj)) (s : Shared) (σ : St) (H : Hp) (E : Value → Shared → Prop), Inv X pins σ H s → (∀ b ∈ fp, FpOk X pins H b) → tn i s.heap → J.go i H →
  wpAny (model P w) X.A (pyNext (.ref it)) (fun r s1 => ∃ u, r = some u ∧
   wpAny (model P w) X.A (letOwnedTupleGo tg (.ref it) u) (fun _ s2 => ∃ x H', Inv X pins σ H' s2 ∧ RelV x u ∧ J.yld i H x H' ∧ tn (i + 1) s2.heap ∧ ∀ b ∈ fp, H' b = none) E s1) E s
 done : ∀ (X : Cx), X.prog = P → X.w = w → X.K = K → X.calm = true → ∀ (i : Nat) (pins : List (Addr × Obj)) (s : Shared) (σ : St) (H : Hp) (E : Value → Shared → Prop), Inv X pins σ H s → (∀ b ∈ fp, FpOk X pins H b) → tn i s.heap → J.stop i H →
  wpAny (model P w) X.A (pyNext (.ref it)) (fun r s1 => r = none ∧ Inv X pins σ H s1) E s
 self : ∀ (A : Around) (i : Nat) (s : Shared) (Q : Value → Shared → Prop) (E : Value → Shared → Prop), tn i s.heap → Q (.ref it) s → wpAny (model P w) A (pyIter (.ref it)) Q E s
abbrev TI := St → Hp → (It → Hp → Prop) → Prop
def PIE (X : Cx) (pins : List (Addr × Obj)) (σ : St) (tg : Expr) (R : It → Hp → Prop) (itv : Value) (s2 : Shared) : Prop :=
 ∃ (it : Addr) (fp : List Addr) (tn : Nat → Heap → Prop) (J : It) (H' : Hp), itv = .ref it ∧ Inv X pins σ H' s2 ∧ Turn X.prog X.w X.K tg J fp it tn ∧ tn 0 s2.heap ∧ (∀ b ∈ fp, FpOk X pins H' b) ∧ R J H'
def PI (X : Cx) (tg iter : Expr) (wi : TI) : Prop :=
 ∀ (pins : List (Addr × Obj)) (s : Shared) (σ : St) (H : Hp) (R : It → Hp → Prop), Inv X pins σ H s → wi σ H R →
  wpAny (model X.prog X.w) X.A (eval iter X.env) (fun v s1 => wpAny (model X.prog X.w) X.A (pyIter v) (PIE X pins σ tg R) X.xe s1) X.xe s
theorem go_of {M : Model} {A : Around} {E : Value → Shared → Prop} {s : Shared} {tg : Expr} {it : Addr} {u : Value} {o : Obj} {n : String} {vs : Array Value} {Q : Unit → Shared → Prop} (ho : s.heap.get? it = some o) (hc : o.cls = .type n) (hd : o.data = .fields vs)
  (hn : ["enumerate", "zip", "dict_itemiterator", "dict_reverseitemiterator", "odict_iterator", "itertools.zip_longest", "itertools.pairwise"].contains n = false) (hQ : Q () s) : wpAny M A (letOwnedTupleGo tg (.ref it) u) Q E s := by
 unfold letOwnedTupleGo
 cases tg <;> first
  | exact wpAny_pure hQ
  | (cases u <;> first
    | exact wpAny_pure hQ
    | (refine wpAny_bind (wpAny_load ho ?_)
       rw [hc, hd]
       show wpAny M A (if (["enumerate", "zip", "dict_itemiterator", "dict_reverseitemiterator", "odict_iterator", "itertools.zip_longest", "itertools.pairwise"].contains n && vs[0]? == some (rawInt _)) = true then _ else _) Q E s
       rw [if_neg (by intro h; rw [hn, Bool.false_and] at h; cases h)]
       exact wpAny_pure hQ))
def Itl (K : PySem.W.Frag) (a : Addr) : It :=
 ⟨fun i H => ∃ xs x, SqL K H a xs ∧ xs[i]? = some x, fun i H x H' => H' = H ∧ ∀ xs, SqL K H a xs → xs[i]? = some x, fun i H => ∃ xs, SqL K H a xs ∧ xs.length ≤ i⟩
def Itt (K : PySem.W.Frag) (a : Addr) : It :=
 ⟨fun i H => ∃ xs x, SqT K H a xs ∧ xs[i]? = some x, fun i H x H' => H' = H ∧ ∀ xs, SqT K H a xs → xs[i]? = some x, fun i H => ∃ xs, SqT K H a xs ∧ xs.length ≤ i⟩
def Itr (lo : Int) (n : Nat) : It := ⟨fun i _ => i < n, fun i H x H' => H' = H ∧ x = .int (lo + i), fun i _ => n ≤ i⟩
theorem turn_list {P : Program} {w : World} {K : PySem.W.Frag} {tg : Expr} (a it : Addr) : Turn P w K tg (Itl K a) [it] it (fun i h => h.IsListIter it a i) where
 mem := by simp
 obj := fun i h st b hb => by
  have e : b = it := by simpa using hb
  subst e
  obtain ⟨o, e, c, d⟩ := st
  exact ⟨o, e, fun v z => by rw [d] at z; cases z⟩
 keep := fun i h h' st k => st.at fun o e => k it (by simp) o e
 item := by
  intro X hP hw hK hc i pins s σ H E I hf st hg
  subst hP hw hK
  obtain ⟨xs, x, hq, hx⟩ := hg
  obtain ⟨its, rv, p, hz⟩ := I.list hq
  obtain ⟨u, hu, ru⟩ := rv.get hx
  obtain ⟨f0, f1, f2, f3, f4, f5⟩ := hf it (by simp)
  refine wpAny_pyNext_list_item st p.isList (x := u) (by simpa using hu) fun h' st' sb => ?_
  have I1 : Inv X pins σ H { s with heap := h' } := I.turned (t' := s.toks) (fun b o hb e => (sb.2 b hb).trans e) f0 f1 f3 f4 f5
  obtain ⟨o, e, c, d⟩ := id st'
  exact ⟨u, rfl, go_of (s := { s with heap := h' }) e c d (by decide) ⟨x, H, I1, ru, ⟨rfl, fun ys hy => by rw [I.list_inj hy hq]; exact hx⟩, st', fun b hb => (hf b hb).1⟩⟩
 done := by
  intro X hP hw hK hc i pins s σ H E I hf st hg
  subst hP hw hK
  obtain ⟨xs, hq, hx⟩ := hg
  obtain ⟨its, rv, p, hz⟩ := I.list hq
  obtain ⟨f0, f1, f2, f3, f4, f5⟩ := hf it (by simp)
  have hl := rv.length
  exact wpAny_pyNext_list_end (I.ok.hd hc) st p.isList (by simp; omega) fun h' eb => ⟨rfl, I.turned (t' := s.toks) (fun b o hb e => eb b o hb e) f0 f1 f3 f4 f5⟩
 self := fun _ _ _ _ _ st h => wpAny_pyIter_listiter st h
theorem turn_tuple {P : Program} {w : World} {K : PySem.W.Frag} {tg : Expr} (a it : Addr) : Turn P w K tg (Itt K a) [it] it (fun i h => h.IsTupleIter it a i) where
 mem := by simp
 obj := fun i h st b hb => by
  have e : b = it := by simpa using hb
  subst e
  obtain ⟨o, e, c, d⟩ := st
  exact ⟨o, e, fun v z => by rw [d] at z; cases z⟩
 keep := fun i h h' st k => st.at fun o e => k it (by simp) o e
 item := by
  intro X hP hw hK hc i pins s σ H E I hf st hg
  subst hP hw hK
  obtain ⟨xs, x, hq, hx⟩ := hg
  obtain ⟨its, rv, p, hz⟩ := I.tuple hq
  obtain ⟨u, hu, ru⟩ := rv.get hx
  obtain ⟨f0, f1, f2, f3, f4, f5⟩ := hf it (by simp)
  refine wpAny_pyNext_tuple_item st (show s.heap.IsTuple a its.toArray from p) (x := u) (by simpa using hu) fun h' st' sb => ?_
  have I1 : Inv X pins σ H { s with heap := h' } := I.turned (t' := s.toks) (fun b o hb e => (sb.2 b hb).trans e) f0 f1 f3 f4 f5
  obtain ⟨o, e, c, d⟩ := id st'
  exact ⟨u, rfl, go_of (s := { s with heap := h' }) e c d (by decide) ⟨x, H, I1, ru, ⟨rfl, fun ys hy => by rw [I.tuple_inj hy hq]; exact hx⟩, st', fun b hb => (hf b hb).1⟩⟩
 done := by
  intro X hP hw hK hc i pins s σ H E I hf st hg
  subst hP hw hK
  obtain ⟨xs, hq, hx⟩ := hg
  obtain ⟨its, rv, p, hz⟩ := I.tuple hq
  obtain ⟨f0, f1, f2, f3, f4, f5⟩ := hf it (by simp)
  have hl := rv.length
  exact wpAny_pyNext_tuple_end (I.ok.hd hc) st (show s.heap.IsTuple a its.toArray from p) (by simp; omega) fun h' eb => ⟨rfl, I.turned (t' := s.toks) (fun b o hb e => eb b o hb e) f0 f1 f3 f4 f5⟩
 self := fun _ _ _ _ _ st h => wpAny_pyIter_tupleiter st h
theorem turn_range {P : Program} {w : World} {K : PySem.W.Frag} {tg : Expr} (it : Addr) (lo : Int) (n : Nat) : Turn P w K tg (Itr lo n) [it] it (fun i h => IsRangeIter h it (lo + (i : Nat) * 1) ((n : Int) - (i : Nat)) 1) where
 mem := by simp
 obj := fun i h st b hb => by
  have e : b = it := by simpa using hb
  subst e
  exact ⟨_, st, fun v z => by
   have z' : Data.fields _ = Data.cell v := z
   cases z'⟩
 keep := fun i h h' st k => k it (by simp) _ st
 item := by
  intro X hP hw hK hc i pins s σ H E I hf st hg
  subst hP hw hK
  obtain ⟨f0, f1, f2, f3, f4, f5⟩ := hf it (by simp)
  have W := Walks.range (prog := X.prog) (w := X.w) (I.ok.hd hc) it lo 1 n
  refine W.item i s _ _ hg st fun v h' tk hv st' kk => ?_
  obtain ⟨t, rfl⟩ := hv
  have I1 : Inv X pins σ H { s with heap := h', toks := tk } := I.turned (fun b o hb e => kk b o (by simpa using hb) e) f0 f1 f3 f4 f5
  refine ⟨_, rfl, go_of (s := { s with heap := h', toks := tk }) (n := "range_iterator") st' rfl rfl (by decide) ⟨.int (lo + i), H, I1, ⟨t, ?_⟩, ⟨rfl, rfl⟩, st', fun b hb => (hf b hb).1⟩⟩
  rw [Int.mul_one]
 done := by
  intro X hP hw hK hc i pins s σ H E I hf st hg
  subst hP hw hK
  obtain ⟨f0, f1, f2, f3, f4, f5⟩ := hf it (by simp)
  exact wpAny_pyNext_range_end (I.ok.hd hc) st (by have : n ≤ i := hg; omega) fun h' eb => ⟨rfl, I.turned (t' := s.toks) (fun b o hb e => eb b o hb e) f0 f1 f3 f4 f5⟩
 self := fun _ _ _ _ _ st h => wpAny_pyIter_rangeiter st h
end L2
namespace L2
open PySem PySem.Spec PyProof.Rows
section
variable {X : Cx} {tg : Expr}
def iList (K : PySem.W.Frag) (tl : TE) : TI := fun σ H R => tl σ H fun x H1 => ∃ a, x = .ref a ∧ (∃ xs, SqL K H1 a xs) ∧ R (Itl K a) H1
def iTup (K : PySem.W.Frag) (tl : TE) : TI := fun σ H R => tl σ H fun x H1 => ∃ a, x = .ref a ∧ (∃ xs, SqT K H1 a xs) ∧ R (Itt K a) H1
theorem pi_list {l : Expr} {tl : TE} (hl : PE X l tl) : PI X tg l (iList X.K tl) := by
 intro pins s σ H R I h
 refine thn (hl pins s σ H _ I h) fun v s1 ⟨x, H1, I1, r1, q1⟩ => ?_
 obtain ⟨a, e, ⟨xs, hq⟩, q⟩ := q1
 subst e
 cases r1
 obtain ⟨its, rv, p, hz⟩ := I1.list hq
 refine wpAny_pyIter_list p.isList ?_
 refine ⟨s1.heap.objs.size, [s1.heap.objs.size], _, _, H1, rfl, I1.kept (t' := s1.toks) fun b o e => Heap.get?_push_of_some _ e, turn_list a _, ⟨_, Heap.get?_push_size _ rfl, rfl, rfl⟩, fun b hb => ?_, q⟩
 have e : b = s1.heap.objs.size := by simpa using hb
 subst e
 exact I1.fpOk (Nat.le_refl _) (I1.hok.fresh (Nat.le_refl _))
theorem pi_tup {l : Expr} {tl : TE} (hl : PE X l tl) : PI X tg l (iTup X.K tl) := by
 intro pins s σ H R I h
 refine thn (hl pins s σ H _ I h) fun v s1 ⟨x, H1, I1, r1, q1⟩ => ?_
 obtain ⟨a, e, ⟨xs, hq⟩, q⟩ := q1
 subst e
 cases r1
 obtain ⟨its, rv, p, hz⟩ := I1.tuple hq
 refine wpAny_pyIter_tuple (show s1.heap.IsTuple a its.toArray from p) ?_
 refine ⟨s1.heap.objs.size, [s1.heap.objs.size], _, _, H1, rfl, I1.kept (t' := s1.toks) fun b o e => Heap.get?_push_of_some _ e, turn_tuple a _, ⟨_, Heap.get?_push_size _ rfl, rfl, rfl⟩, fun b hb => ?_, q⟩
 have e : b = s1.heap.objs.size := by simpa using hb
 subst e
 exact I1.fpOk (Nat.le_refl _) (I1.hok.fresh (Nat.le_refl _))
theorem range_it {pins : List (Addr × Obj)} {σ : St} {H : Hp} {s : Shared} {R : It → Hp → Prop} {E : Value → Shared → Prop} {lo hi : Int} {t u v : Tok} {tk : Nat} (I : Inv X pins σ H s) (h1 : -(2 ^ 62) ≤ lo) (h2 : lo < 2 ^ 62) (h3 : -(2 ^ 62) ≤ hi) (h4 : hi < 2 ^ 62)
  (q : R (Itr lo (hi - lo).toNat) H) : wpAny (model X.prog X.w) X.A (pyIter (.ref s.heap.objs.size)) (PIE X pins σ tg R) E { s with heap := s.heap.push { cls := .type "range", data := .fields #[.int lo t, .int hi u, .int 1 v] }, toks := tk } := by
 refine wpAny_pyIter_range (IsRange.new ..) (small_one h1 h2 h3 h4) ?_
 have I1 : Inv X pins σ H { s with heap := s.heap.push { cls := .type "range", data := .fields #[.int lo t, .int hi u, .int 1 v] }, toks := tk } := I.kept fun b o e => Heap.get?_push_of_some _ e
 refine ⟨(s.heap.push { cls := .type "range", data := .fields #[.int lo t, .int hi u, .int 1 v] }).objs.size, [(s.heap.push { cls := .type "range", data := .fields #[.int lo t, .int hi u, .int 1 v] }).objs.size], _, _, H, rfl,
  I1.kept (t' := tk) fun b o e => Heap.get?_push_of_some _ e, turn_range _ lo (hi - lo).toNat, ?_, fun b hb => ?_, q⟩
 ·have e1 : lo + ((0 : Nat) : Int) * 1 = lo := by simp
  have e2 : (((hi - lo).toNat : Nat) : Int) - ((0 : Nat) : Int) = Builtin.Range.rangeSize lo hi 1 := by rw [rangeSize_one]; split <;> omega
  show IsRangeIter _ _ (lo + ((0 : Nat) : Int) * 1) ((((hi - lo).toNat : Nat) : Int) - ((0 : Nat) : Int)) 1
  rw [e1, e2]
  exact Heap.get?_push_size _ rfl
 ·have e : b = (s.heap.push { cls := .type "range", data := .fields #[.int lo t, .int hi u, .int 1 v] }).objs.size := by simpa using hb
  subst e
  exact I1.fpOk (Nat.le_refl _) (I1.hok.fresh (Nat.le_refl _))
def iRng1 (ta : TA) : TI := fun σ H R => ta σ H fun vs H1 => ∃ j : Int, vs = [.int j] ∧ -(2 ^ 62) ≤ j ∧ j < 2 ^ 62 ∧ R (Itr 0 j.toNat) H1
theorem pi_range1 {a : Expr} {ta : TA} {p pos : Pos} (hg : Gl X "range") (hm : X.mg "range" = none) (ha : PA X [a] ta) (hs : starEach [a] X.env = [(false, eval a X.env)] := by rfl) : PI X tg (.Call (.Name "range" p) [a] [] pos) (iRng1 ta) := by
 intro pins s σ H R I h
 refine Call_ (ld_blt I hg hm boot_range (PyProof.Rows.callWith_type1 (thn (ha pos pins s σ H _ I h) fun us s1 ⟨vs, H1, I1, r1, q1⟩ => ?_) hs rfl))
 obtain ⟨j, e, q1, q2, q⟩ := q1
 subst e
 cases r1 with
 | cons r rr =>
  cases rr
  obtain ⟨t, rfl⟩ := r
  exact call_range_1 (range_it I1 (by omega) (by omega) q1 q2 (by simpa using q))
def tFor (wi : TI) (g : TG) (tb : TS) : TS := fun D σ H => wi σ H fun J H1 => ∃ W : Nat → Nat → St → Hp → Prop, (∃ m, W 0 m σ H1) ∧ ∀ i m σ H, W i m σ H →
 (J.stop i H ∧ D.nx σ H) ∨ (J.go i H ∧ ∃ N : St → Hp → Prop, (∀ σ' H', N σ' H' → ∃ m', m' < m ∧ W (i + 1) m' σ' H') ∧ ∀ x H', J.yld i H x H' → g x σ H' fun σ2 H2 => tb { D with nx := N, ct := N, bk := D.nx } σ2 H2)
def pinsAt (fp : List Addr) (h : Heap) : List (Addr × Obj) := fp.filterMap fun b => (h.get? b).map fun o => (b, o)
theorem mem_pinsAt {fp : List Addr} {h : Heap} {b : Addr} {o : Obj} (hb : b ∈ fp) (e : h.get? b = some o) : (b, o) ∈ pinsAt fp h := List.mem_filterMap.mpr ⟨b, hb, by rw [e]; rfl⟩
theorem of_pinsAt {fp : List Addr} {h : Heap} {p : Addr × Obj} (hp : p ∈ pinsAt fp h) : p.1 ∈ fp ∧ h.get? p.1 = some p.2 := by
 obtain ⟨b, hb, e⟩ := List.mem_filterMap.mp hp
 cases q : h.get? b with
 | none => rw [q] at e; cases e
 | some o =>
  rw [q] at e
  have e' : (b, o) = p := Option.some.inj e
  subst e'
  exact ⟨hb, q⟩
theorem Inv.pinned {pins : List (Addr × Obj)} {σ : St} {H : Hp} {s : Shared} {fp : List Addr} (I : Inv X pins σ H s) (hf : ∀ b ∈ fp, FpOk X pins H b) (ho : ∀ b ∈ fp, ∃ o, s.heap.get? b = some o ∧ ∀ v, o.data ≠ .cell v) : Inv X (pins ++ pinsAt fp s.heap) σ H s :=
 I.pins_of fun p hp => (List.mem_append.mp hp).elim (fun z => I.pin p (List.mem_append_right _ z)) fun z => by
  obtain ⟨hb, e⟩ := of_pinsAt z
  obtain ⟨f0, f1, f2, _⟩ := hf p.1 hb
  obtain ⟨o, e', d⟩ := ho p.1 hb
  rw [e] at e'; cases e'
  exact ⟨e, f0, f1, f2, d⟩
theorem Inv.unpinned {pins pl : List (Addr × Obj)} {σ : St} {H : Hp} {s : Shared} (I : Inv X (pins ++ pl) σ H s) : Inv X pins σ H s := I.pins_of fun p hp => I.pin p (List.mem_append_right _ (List.mem_append_left _ hp))
theorem ps_for {iter : Expr} {body : List Stmt} {wi : TI} {g : TG} {tb : TS} {pos : Pos} (hp : PassesOwn (model X.prog X.w) X.A X.env X.xe) (hc : X.calm = true) (hi : PI X tg iter wi) (hg : PG X tg g) (hb : PSs X body tb)
  (hs : ∀ x, foldedSetIterable iter X.env x = pure x := by intro _; rfl) : PS X (.For tg iter body [] pos) (tFor wi g tb) := by
 intro pins s σ H D I h
 refine wpAny_For (thn (hi pins s σ H _ I h) fun v s1 h1 => thn h1 fun itv s2 h2 => ?_) hs
 obtain ⟨it, fp, tn, J, H2, e, I2, T, st2, f2, W, ⟨m0, w0⟩, turn⟩ := h2
 subst e
 have stat : ∀ {H' : Hp}, (∀ b ∈ fp, H' b = none) → ∀ b ∈ fp, FpOk X pins H' b := fun hn b hb => ⟨hn b hb, (f2 b hb).2⟩
 refine codeAny_forLoop_any (fun n s' => ∃ i σ' H', Inv X pins σ' H' s' ∧ tn i s'.heap ∧ (∀ b ∈ fp, H' b = none) ∧ W i n σ' H') ?_ m0 ⟨0, σ, H2, I2, st2, fun b hb => (f2 b hb).1, w0⟩
 rintro n s3 ⟨i, σ3, H3, I3, st3, fr3, w3⟩
 rcases turn i n σ3 H3 w3 with ⟨stop, qn⟩ | ⟨go, N, hN, step⟩
 ·refine wpAny_passesOwn hp (thn (T.done X rfl rfl rfl hc i pins s3 σ3 H3 X.xe I3 (stat fr3) st3 stop) fun r s4 ⟨hr, I4⟩ => ?_)
  subst hr
  exact wpAny_execs_nil ⟨σ3, H3, I4, qn⟩
 ·refine wpAny_passesOwn hp (thn (T.item X rfl rfl rfl hc i pins s3 σ3 H3 X.xe I3 (stat fr3) st3 go) fun r s4 ⟨u, hr, h4⟩ => ?_)
  subst hr
  refine wpAny_passesOwn hp (thn h4 fun _ s5 ⟨x, H5, I5, r5, y5, st5, fr5⟩ => ?_)
  have I5' := I5.pinned (stat fr5) (T.obj _ _ st5)
  refine wpAny_passesOwn hp (thn (hg _ s5 σ3 H5 x u _ I5' r5 (step x H5 y5)) fun _ s6 ⟨σ6, H6, I6, q6⟩ => ?_)
  refine wpAny_passesOwn hp (thn (hb _ s6 σ6 H6 _ I6 q6) fun f s7 q7 => ?_)
  have again : ∀ {σ7 : St} {H7 : Hp}, Inv X (pins ++ pinsAt fp s5.heap) σ7 H7 s7 → N σ7 H7 → ∃ m, m < n ∧ ∃ i σ' H', Inv X pins σ' H' s7 ∧ tn i s7.heap ∧ (∀ b ∈ fp, H' b = none) ∧ W i m σ' H' := fun {σ7 H7} I7 n7 => by
   obtain ⟨m', hm, w7⟩ := hN σ7 H7 n7
   refine ⟨m', hm, i + 1, σ7, H7, I7.unpinned, T.keep _ _ _ st5 fun b hb o e => (I7.pin (b, o) (List.mem_append_right _ (List.mem_append_right _ (mem_pinsAt hb e)))).1, fun b hb => ?_, w7⟩
   obtain ⟨o, e, d⟩ := T.obj _ _ st5 b hb
   exact (I7.pin (b, o) (List.mem_append_right _ (List.mem_append_right _ (mem_pinsAt hb e)))).2.1
  cases f with
  | next => obtain ⟨σ7, H7, I7, n7⟩ := q7; exact again I7 n7
  | cont => obtain ⟨σ7, H7, I7, n7⟩ := q7; exact again I7 n7
  | brk => obtain ⟨σ7, H7, I7, q7⟩ := q7; exact ⟨σ7, H7, I7.unpinned, q7⟩
  | ret v => obtain ⟨x7, σ7, H7, I7, r7, q7⟩ := q7; exact ⟨x7, σ7, H7, I7.unpinned, r7, q7⟩
end
end L2
namespace L2
open PySem PySem.Spec PyProof.Rows
abbrev R2 := V → V → Hp → VK → Prop
def OpR (X : Cx) (f : Value → Value → Sem Value) (r : R2) : Prop :=
 ∀ (pins : List (Addr × Obj)) (s : Shared) (σ : St) (H : Hp) (x y : V) (v u : Value) (Q : VK), Inv X pins σ H s → RelV x v → RelV y u → r x y H Q →
  wpAny (model X.prog X.w) X.A (f v u) (EP X pins σ Q) X.xe s
def UnR (X : Cx) (f : Value → Sem Value) (r : V → Hp → VK → Prop) : Prop :=
 ∀ (pins : List (Addr × Obj)) (s : Shared) (σ : St) (H : Hp) (x : V) (v : Value) (Q : VK), Inv X pins σ H s → RelV x v → r x H Q →
  wpAny (model X.prog X.w) X.A (f v) (EP X pins σ Q) X.xe s
def CallR (X : Cx) (f : Value) (r : List V → Hp → VK → Prop) : Prop :=
 ∀ (pins : List (Addr × Obj)) (s : Shared) (σ : St) (H : Hp) (xs : List V) (us : List Value) (Q : VK), Inv X pins σ H s → Vals xs us → r xs H Q →
  wpAny (model X.prog X.w) X.A (call f us) (EP X pins σ Q) X.xe s
def tOp (r : R2) (ta tb : TE) : TE := fun σ H Q => ta σ H fun x H1 => tb σ H1 fun y H2 => r x y H2 Q
def tUn (r : V → Hp → VK → Prop) (ta : TE) : TE := fun σ H Q => ta σ H fun x H1 => r x H1 Q
inductive II (C : Int → Int → Prop) (g : Int → Int → V) (x y : V) (H : Hp) (Q : VK) : Prop
 | mk (i j : Int) (h : x = .int i) (h' : y = .int j) (c : C i j) (q : Q (g i j) H) : II C g x y H Q
def rI (C : Int → Int → Prop) (g : Int → Int → V) : R2 := II C g
inductive II0 (g : Int → Int → V) (x y : V) (H : Hp) (Q : VK) : Prop
 | mk (i j : Int) (h : x = .int i) (h' : y = .int j) (q : Q (g i j) H) : II0 g x y H Q
def rI0 (g : Int → Int → V) : R2 := II0 g
def rU (g : Int → V) : V → Hp → VK → Prop := fun x H Q => ∃ i, x = .int i ∧ Q (g i) H
section
variable {X : Cx} {a b c : Expr} {ta tb tc : TE} {pos : Pos}
theorem binT (ha : PE X a ta) (hb : PE X b tb) {pins : List (Addr × Obj)} {s : Shared} {σ : St} {H : Hp} {R : V → V → Hp → Prop} (I : Inv X pins σ H s)
  (h : ta σ H fun x H1 => tb σ H1 fun y H2 => R x y H2) {Q : Value → Shared → Prop} {f : Value → Value → Sem Value}
  (hf : ∀ v u s2 x y H2, Inv X pins σ H2 s2 → RelV x v → RelV y u → R x y H2 → wpAny (model X.prog X.w) X.A (f v u) Q X.xe s2) :
  wpAny (model X.prog X.w) X.A (eval a X.env) (fun v s₁ => wpAny (model X.prog X.w) X.A (eval b X.env) (fun u s₂ => wpAny (model X.prog X.w) X.A (f v u) Q X.xe s₂) X.xe s₁) X.xe s := by
 refine thn (ha pins s σ H _ I h) fun v s1 ⟨x, H1, I1, r1, q1⟩ => ?_
 refine thn (hb pins s1 σ H1 _ I1 q1) fun u s2 ⟨y, H2, I2, r2, q2⟩ => ?_
 exact hf v u s2 x y H2 I2 r1 r2 q2
theorem pe_op {op : Operator} {r : R2} (ho : OpR X (binaryOp op) r) (ha : PE X a ta) (hb : PE X b tb) : PE X (.BinOp a op b pos) (tOp r ta tb) := by
 intro pins s σ H Q I h
 exact wpAny_BinOp (binT ha hb I h fun v u s2 x y H2 I2 rx ry q => ho pins s2 σ H2 x y v u Q I2 rx ry q)
theorem pe_un {op : UnaryOp} {r : V → Hp → VK → Prop} (ho : UnR X (unaryOp op) r) (ha : PE X a ta) : PE X (.UnaryOp op a pos) (tUn r ta) := by
 intro pins s σ H Q I h
 exact UnaryOp_ (thn (ha pins s σ H _ I h) fun v s1 ⟨x, H1, I1, r1, q1⟩ => ho pins s1 σ H1 x v Q I1 r1 q1)
theorem opI {f : Value → Value → Sem Value} {C : Int → Int → Prop} {g : Int → Int → Int}
  (rule : ∀ (i j : Int) (t u : Tok) (s : Shared) (Q : Value → Shared → Prop) (E : Value → Shared → Prop), C i j → Q (.int (g i j) s.toks) { s with toks := s.toks + 1 } → wpAny (model X.prog X.w) X.A (f (.int i t) (.int j u)) Q E s) :
  OpR X f (rI C fun i j => .int (g i j)) := by
 intro pins s σ H x y v u Q I rx ry h
 obtain ⟨i, j, rfl, rfl, hc, q⟩ := h
 obtain ⟨t, rfl⟩ := rx
 obtain ⟨t', rfl⟩ := ry
 exact rule i j t t' s _ _ hc ⟨.int (g i j), H, I.tok _, ⟨_, rfl⟩, q⟩
theorem opI0 {f : Value → Value → Sem Value} {g : Int → Int → Int}
  (rule : ∀ (i j : Int) (t u : Tok) (s : Shared) (Q : Value → Shared → Prop) (E : Value → Shared → Prop), Q (.int (g i j) s.toks) { s with toks := s.toks + 1 } → wpAny (model X.prog X.w) X.A (f (.int i t) (.int j u)) Q E s) :
  OpR X f (rI0 fun i j => .int (g i j)) := by
 intro pins s σ H x y v u Q I rx ry h
 obtain ⟨i, j, rfl, rfl, q⟩ := h
 obtain ⟨t, rfl⟩ := rx
 obtain ⟨t', rfl⟩ := ry
 exact rule i j t t' s _ _ ⟨.int (g i j), H, I.tok _, ⟨_, rfl⟩, q⟩
theorem opB0 {f : Value → Value → Sem Value} {g : Int → Int → Bool}
  (rule : ∀ (i j : Int) (t u : Tok) (s : Shared) (Q : Value → Shared → Prop) (E : Value → Shared → Prop), Q (.bool (g i j)) s → wpAny (model X.prog X.w) X.A (f (.int i t) (.int j u)) Q E s) :
  OpR X f (rI0 fun i j => .bl (g i j)) := by
 intro pins s σ H x y v u Q I rx ry h
 obtain ⟨i, j, rfl, rfl, q⟩ := h
 obtain ⟨t, rfl⟩ := rx
 obtain ⟨t', rfl⟩ := ry
 exact rule i j t t' s _ _ ⟨.bl (g i j), H, I, rfl, q⟩
def CPow (i j : Int) : Prop := 0 ≤ j ∧ j ≤ 1000000 ∧ i.natAbs < 2 ^ 64
def CMul (i j : Int) : Prop := (-(2 ^ 64) < i ∧ i < 2 ^ 64) ∨ (-(2 ^ 64) < j ∧ j < 2 ^ 64)
theorem CMul.ok {i j : Int} (h : CMul i j) : IntMulOk i j := by
 rcases h with ⟨h1, h2⟩ | ⟨h1, h2⟩
 ·exact .of_left (intBits_le_64 h1 h2)
 ·exact .of_right (intBits_le_64 h1 h2)
theorem op_add : OpR X (binaryOp .Add) (rI0 fun i j => .int (i + j)) := opI0 fun _ _ _ _ _ _ _ q => add_int q
theorem op_sub : OpR X (binaryOp .Sub) (rI0 fun i j => .int (i - j)) := opI0 fun _ _ _ _ _ _ _ q => sub_int q
theorem op_mul : OpR X (binaryOp .Mult) (rI CMul fun i j => .int (i * j)) := opI fun _ _ _ _ _ _ _ hc q => mul_int q hc.ok
theorem op_mod : OpR X (binaryOp .Mod) (rI (fun _ j => 0 < j) fun i j => .int (i % j)) := opI fun i j _ _ _ _ _ hc q => by
 have h1 : (0 : Int) < j := hc
 exact mod_int' (by omega) (by rw [Int.fmod_eq_emod_of_nonneg i (by omega)]; exact q)
theorem op_pow : OpR X (binaryOp .Pow) (rI CPow fun i j => .int (i ^ j.toNat)) := opI fun _ _ _ _ _ _ _ hc q => pow_int_small hc.1 hc.2.1 hc.2.2 q
theorem unI {f : Value → Sem Value} {g : Int → Int}
  (rule : ∀ (i : Int) (t : Tok) (s : Shared) (Q : Value → Shared → Prop) (E : Value → Shared → Prop), Q (.int (g i) s.toks) { s with toks := s.toks + 1 } → wpAny (model X.prog X.w) X.A (f (.int i t)) Q E s) :
  UnR X f (rU fun i => .int (g i)) := by
 intro pins s σ H x v Q I rx h
 obtain ⟨i, rfl, q⟩ := h
 obtain ⟨t, rfl⟩ := rx
 exact rule i t s _ _ ⟨.int (g i), H, I.tok _, ⟨_, rfl⟩, q⟩
theorem un_neg : UnR X (unaryOp .USub) (rU fun i => .int (-i)) := unI fun _ _ _ _ _ q => neg_int q
end
def scal : V → V → Bool
 | .non, .non => true | .non, .int _ => true | .int _, .non => true | .non, .bl _ => true | .bl _, .non => true | .non, .str _ => true | .str _, .non => true
 | .int _, .int _ => true | .bl _, .bl _ => true | .str _, .str _ => true | .byt _, .byt _ => true
 | .int _, .str _ => true | .str _, .int _ => true | .bl _, .str _ => true | .str _, .bl _ => true
 | _, _ => false
def rEq : R2 := fun x y H Q => scal x y = true ∧ Q (.bl (decide (x = y))) H
def rNe : R2 := fun x y H Q => scal x y = true ∧ Q (.bl (!decide (x = y))) H
theorem dec_int {i j : Int} : decide (V.int i = V.int j) = (i == j) := by
 rw [Bool.eq_iff_iff]
 simp
theorem dec_bl {i j : Bool} : decide (V.bl i = V.bl j) = (i == j) := by
 rw [Bool.eq_iff_iff]
 simp
theorem dec_str {i j : Str} : decide (V.str i = V.str j) = (i == j) := by
 rw [Bool.eq_iff_iff]
 simp
theorem dec_byt {i j : Array UInt8} : decide (V.byt i = V.byt j) = (i.toList == j.toList) := by
 rw [Bool.eq_iff_iff]
 cases i
 cases j
 simp
section
variable {X : Cx} {a b c : Expr} {ta tb tc : TE} {pos : Pos}
theorem fin_bl {pins : List (Addr × Obj)} {σ : St} {H : Hp} {s : Shared} {Q : VK} {k k' : Bool} (I : Inv X pins σ H s) (q : Q (.bl k) H) (e : k = k') : EP X pins σ Q (.bool k') s := by
 subst e
 exact ⟨.bl k, H, I, rfl, q⟩
theorem op_eq : OpR X (compareOp .Eq) rEq := by
 intro pins s σ H x y v u Q I rx ry h
 obtain ⟨hs, q⟩ := h
 cases x with
 | non =>
  cases rx
  cases y with
  | non => cases ry; exact PySem.EqNone.eq_none_none (fin_bl I q (by simp))
  | bl j => cases ry; exact PySem.EqNone.eq_none_bool (fin_bl I q (by simp))
  | int j => obtain ⟨t', rfl⟩ := ry; exact PySem.EqNone.eq_none_int (fin_bl I q (by simp))
  | str j => obtain ⟨t', rfl⟩ := ry; exact PySem.EqNone.eq_none_str (fin_bl I q (by simp))
  | _ => exact absurd (show false = true from hs) Bool.false_ne_true
 | bl i =>
  cases rx
  cases y with
  | non => cases ry; exact PySem.EqNone.eq_bool_none (fin_bl I q (by simp))
  | bl j => cases ry; exact eq_bool (fin_bl I q dec_bl)
  | str j => obtain ⟨t', rfl⟩ := ry; exact PySem.EqMixed.eq_bool_str (fin_bl I q (by simp))
  | _ => exact absurd (show false = true from hs) Bool.false_ne_true
 | int i =>
  obtain ⟨t, rfl⟩ := rx
  cases y with
  | non => cases ry; exact PySem.EqNone.eq_int_none (fin_bl I q (by simp))
  | int j => obtain ⟨t', rfl⟩ := ry; exact eq_int (fin_bl I q dec_int)
  | str j => obtain ⟨t', rfl⟩ := ry; exact PySem.EqMixed.eq_int_str (fin_bl I q (by simp))
  | _ => exact absurd (show false = true from hs) Bool.false_ne_true
 | str i =>
  obtain ⟨t, rfl⟩ := rx
  cases y with
  | non => cases ry; exact PySem.EqNone.eq_str_none (fin_bl I q (by simp))
  | bl j => cases ry; exact PySem.EqMixed.eq_str_bool (fin_bl I q (by simp))
  | int j => obtain ⟨t', rfl⟩ := ry; exact PySem.EqMixed.eq_str_int (fin_bl I q (by simp))
  | str j => obtain ⟨t', rfl⟩ := ry; exact eq_str (fin_bl I q dec_str)
  | _ => exact absurd (show false = true from hs) Bool.false_ne_true
 | byt i =>
  obtain ⟨t, rfl⟩ := rx
  cases y with
  | byt j => obtain ⟨t', rfl⟩ := ry; exact PySem.W.eq_bytes (fin_bl I q dec_byt)
  | _ => exact absurd (show false = true from hs) Bool.false_ne_true
 | _ => cases y <;> exact absurd (show false = true from hs) Bool.false_ne_true
theorem op_ne : OpR X (compareOp .NotEq) rNe := by
 intro pins s σ H x y v u Q I rx ry h
 obtain ⟨hs, q⟩ := h
 cases x with
 | non =>
  cases rx
  cases y with
  | non => cases ry; exact PySem.EqNone.ne_none_none (fin_bl I q (by simp))
  | bl j => cases ry; exact PySem.EqNone.ne_none_bool (fin_bl I q (by simp))
  | int j => obtain ⟨t', rfl⟩ := ry; exact PySem.EqNone.ne_none_int (fin_bl I q (by simp))
  | str j => obtain ⟨t', rfl⟩ := ry; exact PySem.EqNone.ne_none_str (fin_bl I q (by simp))
  | _ => exact absurd (show false = true from hs) Bool.false_ne_true
 | bl i =>
  cases rx
  cases y with
  | non => cases ry; exact PySem.EqNone.ne_bool_none (fin_bl I q (by simp))
  | bl j => cases ry; exact ne_bool (fin_bl I q (congrArg not dec_bl))
  | str j => obtain ⟨t', rfl⟩ := ry; exact PySem.EqMixed.ne_bool_str (fin_bl I q (by simp))
  | _ => exact absurd (show false = true from hs) Bool.false_ne_true
 | int i =>
  obtain ⟨t, rfl⟩ := rx
  cases y with
  | non => cases ry; exact PySem.EqNone.ne_int_none (fin_bl I q (by simp))
  | int j => obtain ⟨t', rfl⟩ := ry; exact ne_int (fin_bl I q (congrArg not dec_int))
  | str j => obtain ⟨t', rfl⟩ := ry; exact PySem.EqMixed.ne_int_str (fin_bl I q (by simp))
  | _ => exact absurd (show false = true from hs) Bool.false_ne_true
 | str i =>
  obtain ⟨t, rfl⟩ := rx
  cases y with
  | non => cases ry; exact PySem.EqNone.ne_str_none (fin_bl I q (by simp))
  | bl j => cases ry; exact PySem.EqMixed.ne_str_bool (fin_bl I q (by simp))
  | int j => obtain ⟨t', rfl⟩ := ry; exact PySem.EqMixed.ne_str_int (fin_bl I q (by simp))
  | str j => obtain ⟨t', rfl⟩ := ry; exact ne_str (fin_bl I q (congrArg not dec_str))
  | _ => exact absurd (show false = true from hs) Bool.false_ne_true
 | byt i =>
  obtain ⟨t, rfl⟩ := rx
  cases y with
  | byt j => obtain ⟨t', rfl⟩ := ry; exact PySem.W.ne_bytes (fin_bl I q (congrArg not dec_byt))
  | _ => exact absurd (show false = true from hs) Bool.false_ne_true
 | _ => cases y <;> exact absurd (show false = true from hs) Bool.false_ne_true
theorem op_lt : OpR X (compareOp .Lt) (rI0 fun i j => .bl (decide (i < j))) := opB0 fun _ _ _ _ _ _ _ q => lt_int q
theorem op_gt : OpR X (compareOp .Gt) (rI0 fun i j => .bl (decide (j < i))) := opB0 fun _ _ _ _ _ _ _ q => gt_int q
theorem op_isN : OpR X (compareOp .Is) (fun x y H Q => y = .non ∧ Q (.bl (decide (x = .non))) H) := by
 intro pins s σ H x y v u Q I rx ry h
 obtain ⟨rfl, q⟩ := h
 cases ry
 refine is_none_gen (fin_bl I q ?_)
 cases x <;> first
  | (cases rx; rfl)
  | (obtain ⟨t, rfl⟩ := rx; rfl)
theorem OpR.or {f : Value → Value → Sem Value} {r r' : R2} (h : OpR X f r) (h' : OpR X f r') : OpR X f (fun x y H Q => r x y H Q ∨ r' x y H Q) := by
 intro pins s σ H x y v u Q I rx ry q
 rcases q with q | q
 ·exact h pins s σ H x y v u Q I rx ry q
 ·exact h' pins s σ H x y v u Q I rx ry q
theorem nomark (b : Expr) {op : CmpOp} (h : op ≠ .In := by decide) (h2 : op ≠ .NotIn := by decide) : behindInMarks op b = false := by
 have e1 : (op == CmpOp.In) = false := by cases op <;> first | rfl | exact absurd rfl h
 have e2 : (op == CmpOp.NotIn) = false := by cases op <;> first | rfl | exact absurd rfl h2
 cases b <;> simp [behindInMarks, e1, e2]
theorem pe_cmpR {op : CmpOp} {r : R2} (ho : OpR X (compareOp op) r) (ha : PE X a ta) (hb : PE X b tb) (hm : behindInMarks op b = false) : PE X (.Compare a [op] [b] pos) (tOp r ta tb) := by
 intro pins s σ H Q I h
 exact wpAny_Compare1 (binT ha hb I h fun v u s2 x y H2 I2 rx ry q => ho pins s2 σ H2 x y v u Q I2 rx ry q) hm
def tTest (t : TE) : TT := fun σ H Q => t σ H (IBl Q)
theorem pt_cmpR {op : CmpOp} {r : R2} (ho : OpR X (compareOp op) r) (ha : PE X a ta) (hb : PE X b tb) (hm : behindInMarks op b = false) : PT X (.Compare a [op] [b] pos) (tTest (tOp r ta tb)) := by
 intro pins s σ H Q I h
 refine wpAny_isTrue_Compare1 (thn (ha pins s σ H _ I h) fun v s1 ⟨x, H1, I1, r1, q1⟩ => thn (hb pins s1 σ H1 _ I1 q1) fun u s2 ⟨y, H2, I2, r2, q2⟩ =>
  thn (ho pins s2 σ H2 x y v u _ I2 r1 r2 q2) fun c s3 ⟨z, H3, I3, r3, k, e, q3⟩ => ?_) hm
 subst e
 cases r3
 exact wpAny_truthy_bool ⟨H3, I3, q3⟩
theorem line63 : (sizeLine : Nat) < 2 ^ 63 := by rw [sizeLine_eq]; decide
theorem op_add_str : OpR X (binaryOp .Add) (fun x y H Q => ∃ i j, x = .str i ∧ y = .str j ∧ i.length + j.length ≤ sizeLine ∧ Q (.str (i ++ j)) H) := by
 intro pins s σ H x y v u Q I rx ry h
 obtain ⟨i, j, rfl, rfl, hz, q⟩ := h
 obtain ⟨t, rfl⟩ := rx
 obtain ⟨t', rfl⟩ := ry
 exact add_str (fun t' tk => ⟨.str (i ++ j), H, I.tok _, ⟨_, rfl⟩, q⟩) hz
theorem vals1 {x : V} {us : List Value} (r : Vals [x] us) : ∃ u, us = [u] ∧ RelV x u := by
 cases r with
 | cons r1 r2 => cases r2; exact ⟨_, rfl, r1⟩
theorem vals2 {x y : V} {us : List Value} (r : Vals [x, y] us) : ∃ u w', us = [u, w'] ∧ RelV x u ∧ RelV y w' := by
 cases r with
 | cons r1 r2 =>
  cases r2 with
  | cons r3 r4 => cases r4; exact ⟨_, _, rfl, r1, r3⟩
theorem call_abs : CallR X (.builtin "abs") (fun xs H Q => ∃ i, xs = [.int i] ∧ Q (.int (if i < 0 then -i else i)) H) := by
 intro pins s σ H xs us Q I r h
 obtain ⟨i, rfl, q⟩ := h
 obtain ⟨u, rfl, t, rfl⟩ := vals1 r
 exact call_abs_int fun u tk => ⟨.int (if i < 0 then -i else i), H, I.tok _, ⟨_, rfl⟩, q⟩
theorem call_max2 (hc : X.calm = true) : CallR X (.builtin "max") (fun xs H Q => ∃ i j, xs = [.int i, .int j] ∧ Q (.int (if j > i then j else i)) H) := by
 intro pins s σ H xs us Q I r h
 obtain ⟨i, j, rfl, q⟩ := h
 obtain ⟨u, w', rfl, ⟨t, rfl⟩, ⟨t', rfl⟩⟩ := vals2 r
 refine max_two_ints (I.ok.hd hc) fun h' tk k => ⟨_, H, I.kept k, ?_, q⟩
 by_cases hj : j > i
 ·rw [if_pos hj, if_pos hj]; exact ⟨_, rfl⟩
 ·rw [if_neg hj, if_neg hj]; exact ⟨_, rfl⟩
theorem call_min2 (hc : X.calm = true) : CallR X (.builtin "min") (fun xs H Q => ∃ i j, xs = [.int i, .int j] ∧ Q (.int (if j < i then j else i)) H) := by
 intro pins s σ H xs us Q I r h
 obtain ⟨i, j, rfl, q⟩ := h
 obtain ⟨u, w', rfl, ⟨t, rfl⟩, ⟨t', rfl⟩⟩ := vals2 r
 refine min_two_ints (I.ok.hd hc) fun h' tk k => ⟨_, H, I.kept k, ?_, q⟩
 by_cases hj : j < i
 ·rw [if_pos hj, if_pos hj]; exact ⟨_, rfl⟩
 ·rw [if_neg hj, if_neg hj]; exact ⟨_, rfl⟩
end
end L2
namespace L2
open PySem PySem.Spec PyProof.Rows
structure ObjM (h : Heap) (x dx C : Addr) (mA : Str → Option Value) : Prop where
 obj : h.get? x = some (PySem.W.instObj C dx)
 ns : h.Ns1 dx mA
 ne : dx ≠ x
theorem lookIn_ns {h : Heap} {dx : Addr} {mA : Str → Option Value} (n : h.Ns1 dx mA) : ∃ od, h.get? dx = some od ∧ ∀ name, PySem.W.lookIn name od = some (mA name) := by
 obtain ⟨o, es, ep, ho, hd, hk, _, hm⟩ := n
 refine ⟨o, ho, fun name => ?_⟩
 have e := hm name
 unfold nsFind findBy at e
 rw [← Array.find?_toList] at e
 unfold PySem.W.lookIn
 rw [hd]
 dsimp only
 split
 ·rename_i y q
  rw [q] at e
  exact congrArg some e
 ·rename_i q
  rw [q] at e
  have a : es.toList.any (·.refKey) = false := by
   rw [List.any_eq_false]
   intro y hy
   obtain ⟨z, t, hkey⟩ := hk y (Array.mem_toList_iff.mp hy)
   simp [DictEntry.refKey, hkey]
  have a' : ¬ es.toList.any (·.refKey) = true := by rw [a]; exact Bool.false_ne_true
  rw [if_neg a']
  exact congrArg some e
theorem ObjM.look {h : Heap} {x dx C : Addr} {mA : Str → Option Value} (I : ObjM h x dx C mA) : ∃ od, PySem.W.InstAt h x (PySem.W.instObj C dx) C (some od) ∧ ∀ name, PySem.W.lookIn name od = some (mA name) :=
 let ⟨od, ho, hl⟩ := lookIn_ns I.ns
 ⟨od, ⟨I.obj, rfl, rfl, ho⟩, hl⟩
section
variable {prog : Program} {w : World} {A : Around} {E : Value → Shared → Prop} {s : Shared} {K : PySem.W.Frag} {x dx C f : Addr} {mA : Str → Option Value} {name : Str} {v : Value}
theorem get_map {expr : Bool} {Q : Value → Shared → Prop} (X : K.In s.heap) (I : ObjM s.heap x dx C mA) (hg : PySem.W.plainGet K C name = true) (hh : PySem.W.hasDictIn K C = true)
  (ha : PySem.W.findIn K (.ref C) name = some none) (hv : mA name = some v) (hv' : PySem.W.handedIn v = true) (h : Q v { s with toks := s.toks + 1 }) :
  wpAny (model prog w) A (getAttr (.ref x) name expr) Q E s := by
 obtain ⟨od, J, hl⟩ := I.look
 exact PySem.W.get_value X J (PySem.W.plainGet_of hg).1 (PySem.W.findObj_own hh ha rfl (by rw [hl, hv])) hv' h
theorem get_meth {pl : Sem Bool} {Q : Value × List Value → Shared → Prop} (X : K.In s.heap) (I : ObjM s.heap x dx C mA) (hg : PySem.W.plainGet K C name = true)
  (hf : PySem.W.findIn K (.ref C) name = some (some (.ref f))) (ht : PySem.W.isFn K (.ref f) = true) (hv : mA name = none) (h : Q (.ref f, [.ref x]) s) :
  wpAny (model prog w) A (getMethod (.ref x) name pl) Q E s := by
 obtain ⟨od, J, hl⟩ := I.look
 exact PySem.W.method_fn X J (PySem.W.plainGet_of hg).1 (PySem.W.plainGet_of hg).2 hf (beq_iff_eq.mp ht) (by show (PySem.W.lookIn name od).map (·.isSome) = some false; rw [hl, hv]; rfl) h
theorem set_map {ns : List Str} {Q : Unit → Shared → Prop} (X : K.In s.heap) (I : ObjM s.heap x dx C mA)
  (hs : PySem.W.findIn K (.ref C) "__setattr__" = some (some (.builtin "object.__setattr__"))) (hp : PySem.W.plainOver K C = true) (ht : PySem.W.takerIn K C name = some none) (hh : PySem.W.hasDictIn K C = true)
  (hw : PySem.Within mA ns) (hsz : ns.length ≤ sizeLine)
  (h : ∀ h', ObjM h' x dx C (fun y => if y = name then some v else mA y) → Heap.SameBut dx s.heap h' → Q () { s with heap := h', toks := s.toks + 2 }) :
  wpAny (model prog w) A (setAttr (.ref x) name v) Q E s := by
 obtain ⟨od, J, hl⟩ := I.look
 refine PySem.W.set_plain X J hs (PySem.W.osa_open (s := { s with toks := s.toks + 1 }) (r := none) X J hp ht fun b => ?_)
 obtain ⟨cd, hc, hd'⟩ := PySem.W.any_some hh
 have hx : s.heap.get? x = some ⟨.ref C, some dx, .plain, #[]⟩ := I.obj
 refine wpAny_bind (wpAny_pure (wpAny_bind (wpAny_bind (wpAny_loadPart hx (wpAny_bind (PySem.W.Looks.here (s := { s with toks := s.toks + 1 }) (PySem.W.looks_clsIn X hc) ?_))))))
 rw [hd']
 refine wpAny_pure (a := some dx) (wpAny_bind (wpAny_pure (wpAny_bind ?_)))
 refine wpAny_nsSet1 (s := { s with toks := s.toks + 1 }) I.ns fun h' hn2 hs2 => ?_
 obtain ⟨oD, esD, epD, hoD, hdD, hcD⟩ := hn2.count (PySem.Within.cons name v hw)
 refine wpAny_bind (wpAny_lookBehind hoD (by rw [hdD]; exact pastItsLine_dict (Nat.le_trans hcD (by rw [List.length_cons]; omega))) ?_)
 exact wpAny_pure (h _ ⟨(hs2.2 _ (Ne.symm I.ne)).trans I.obj, hn2, I.ne⟩ hs2)
theorem make_map {R : Result → Shared → Prop} {vs : List Value} {kw : List (Str × Value)} (X : K.In s.heap) (hm : PySem.W.makesIn K C = true)
  (hi : PySem.W.findIn K (.ref C) "__init__" = some (some (.ref f))) (hf : PySem.W.typeIn K (.ref f) = some (.type "function"))
  (h : codeAny (model prog w) (A.under (.builtin "type.__call__" ⟨.ref C :: vs, kw⟩)) (.call (.ref f) ⟨.ref (s.heap.objs.size + 1) :: vs, kw⟩) (PySem.W.InitBack (s.heap.objs.size + 1) R)
   { s with heap := (s.heap.push PySem.W.emptyDict).push (PySem.W.instObj C s.heap.objs.size) }) :
  codeAny (model prog w) A (.call (.ref C) ⟨vs, kw⟩) R s := by
 obtain ⟨hh, g, d, t, os⟩ := s
 exact PySem.W.make_core (PySem.W.makes_of X hm) (PySem.W.looks_findIn X hi) (fun self => PySem.W.bind_fn X self hf) (.inl rfl) h
end
def putF (f : Str) (v : V) : List (Str × V) → List (Str × V)
 | [] => [(f, v)]
 | (g, x) :: r => if g = f then (g, v) :: r else (g, x) :: putF f v r
theorem lookup_putF (f g : Str) (v : V) : ∀ fs : List (Str × V), (putF f v fs).lookup g = if g = f then some v else fs.lookup g
 | [] => by
  show List.lookup g [(f, v)] = _
  by_cases h : g = f
  ·have hb : (g == f) = true := beq_iff_eq.mpr h
   simp only [List.lookup, hb, if_pos h]
  ·have hb : (g == f) = false := beq_eq_false_iff_ne.mpr h
   simp only [List.lookup, hb, if_neg h]
 | (k, x) :: r => by
  have ih := lookup_putF f g v r
  rw [show putF f v ((k, x) :: r) = (if k = f then (k, v) :: r else (k, x) :: putF f v r) from rfl]
  by_cases hk : k = f
  ·rw [if_pos hk]
   by_cases h : g = k
   ·have hb : (g == k) = true := beq_iff_eq.mpr h
    simp only [List.lookup, hb, if_pos (h.trans hk)]
   ·have hb : (g == k) = false := beq_eq_false_iff_ne.mpr h
    simp only [List.lookup, hb, if_neg (fun e : g = f => h (e.trans hk.symm))]
  ·rw [if_neg hk]
   by_cases h : g = k
   ·have hb : (g == k) = true := beq_iff_eq.mpr h
    simp only [List.lookup, hb, if_neg (fun e : g = f => hk (h.symm.trans e))]
   ·have hb : (g == k) = false := beq_eq_false_iff_ne.mpr h
    simp only [List.lookup, hb]
    exact ih
theorem keys_putF (f : Str) (v : V) : ∀ fs : List (Str × V), f ∈ (putF f v fs).map (·.1) ∧ ∀ g, g ∈ fs.map (·.1) → g ∈ (putF f v fs).map (·.1)
 | [] => ⟨by simp [putF], fun g h => by simp at h⟩
 | (k, x) :: r => by
  obtain ⟨i1, i2⟩ := keys_putF f v r
  rw [show putF f v ((k, x) :: r) = (if k = f then (k, v) :: r else (k, x) :: putF f v r) from rfl]
  by_cases hk : k = f
  ·rw [if_pos hk]
   subst hk
   exact ⟨by simp, fun g h => by simpa using h⟩
  ·rw [if_neg hk]
   refine ⟨?_, fun g h => ?_⟩
   ·rw [List.map_cons]
    exact List.mem_cons_of_mem _ i1
   ·rw [List.map_cons] at h ⊢
    rcases List.mem_cons.mp h with e | e
    ·exact List.mem_cons.mpr (.inl e)
    ·exact List.mem_cons_of_mem _ (i2 g e)
theorem length_putF (f : Str) (v : V) : ∀ fs : List (Str × V), (putF f v fs).length ≤ fs.length + 1
 | [] => by simp [putF]
 | (k, x) :: r => by
  have ih := length_putF f v r
  rw [show putF f v ((k, x) :: r) = (if k = f then (k, v) :: r else (k, x) :: putF f v r) from rfl]
  by_cases hk : k = f
  ·rw [if_pos hk, List.length_cons, List.length_cons]; omega
  ·rw [if_neg hk, List.length_cons, List.length_cons]; omega
theorem RelO.some_of {v : V} {o : Option Value} (r : RelO (some v) o) : ∃ u, o = some u ∧ RelV v u := by
 cases o with
 | none => exact (show False from r).elim
 | some u => exact ⟨u, rfl, r⟩
theorem RelO.none_of {o : Option Value} (r : RelO none o) : o = none := by
 cases o with
 | none => rfl
 | some u => exact (show False from r).elim
theorem handed_of {v : V} {u : Value} (r : RelV v u) : PySem.W.handedIn u = true := by
 cases v with
 | non => cases (show u = Value.none from r); rfl
 | bl b => cases (show u = Value.bool b from r); rfl
 | int i => obtain ⟨t, e⟩ := (show ∃ t, u = Value.int i t from r); cases e; rfl
 | str x => obtain ⟨t, e⟩ := (show ∃ t, u = Value.str x t from r); cases e; rfl
 | byt b => obtain ⟨t, e⟩ := (show ∃ t, u = Value.bytes b t from r); cases e; rfl
 | flt b => obtain ⟨t, e⟩ := (show ∃ t, u = Value.float b t from r); cases e; rfl
 | ref a => cases (show u = Value.ref a from r); rfl
 | ty n => cases (show u = Value.type n from r); rfl
section
variable {P : Program} {w : World} {H H' : Hp} {h h' : Heap} {a C dx : Addr} {fs fs' : List (Str × V)}
theorem ins_get (hok : HOk P w H h) (e : H a = some (.ins C dx fs)) : ∃ mA, ObjM h a dx C mA ∧ (∀ f, RelO (fs.lookup f) (mA f)) ∧ PySem.Within mA (fs.map (·.1)) ∧ fs.length ≤ 1000 ∧ H dx = some (.own a) := by
 obtain ⟨d, z, ne, ob, mA, n, r, q⟩ := (show ObjOk P w H h a (.ins C dx fs) from hok a _ e)
 exact ⟨mA, ⟨ob, n, ne⟩, r, q, z, d⟩
end
structure Cls (K : PySem.W.Frag) (C : Addr) : Prop where
 pg : PySem.W.plainGet K C Str.empty = true
 hd : PySem.W.hasDictIn K C = true
 po : PySem.W.plainOver K C = true
 sa : PySem.W.findIn K (.ref C) "__setattr__" = some (some (.builtin "object.__setattr__"))
theorem Cls.get {K : PySem.W.Frag} {C : Addr} (c : Cls K C) (f : Str) : PySem.W.plainGet K C f = true := c.pg
def NoAttr (K : PySem.W.Frag) (C : Addr) (f : Str) : Prop := PySem.W.findIn K (.ref C) f = some none
theorem NoAttr.taker {K : PySem.W.Frag} {C : Addr} {f : Str} (n : NoAttr K C f) : PySem.W.takerIn K C f = some none := by
 unfold PySem.W.takerIn
 rw [show PySem.W.findIn K (.ref C) f = some none from n]
 rfl
structure Meth (K : PySem.W.Frag) (C : Addr) (m : Str) (f : Addr) : Prop where
 at_ : PySem.W.findIn K (.ref C) m = some (some (.ref f))
 fn : PySem.W.isFn K (.ref f) = true
 kp : PySem.W.keepIn K (.ref f) = true
section
variable {X : Cx} {pins : List (Addr × Obj)} {σ : St} {H : Hp} {s : Shared} {a C dx : Addr} {fs : List (Str × V)} {f : Str} {v : V} {A : Around} {E : Value → Shared → Prop}
theorem getattr_ok {b : Bool} {Q : Value → Shared → Prop} (I : Inv X pins σ H s) (e : H a = some (.ins C dx fs)) (c : Cls X.K C) (n : NoAttr X.K C f) (l : fs.lookup f = some v)
  (h : ∀ u s', Inv X pins σ H s' → RelV v u → Q u s') : wpAny (model X.prog X.w) A (getAttr (.ref a) f b) Q E s := by
 obtain ⟨mA, O, r, _, _, _⟩ := ins_get I.hok e
 obtain ⟨u, hu, ru⟩ := RelO.some_of (v := v) (o := mA f) (by rw [← l]; exact r f)
 exact get_map I.kIn O (c.get f) c.hd n hu (handed_of ru) (h u _ (I.tok _) ru)
theorem getmeth_ok {m : Str} {g : Addr} {pl : Sem Bool} {Q : Value × List Value → Shared → Prop} (I : Inv X pins σ H s) (e : H a = some (.ins C dx fs)) (c : Cls X.K C) (k : Meth X.K C m g) (l : fs.lookup m = none)
  (h : Q (.ref g, [.ref a]) s) : wpAny (model X.prog X.w) A (getMethod (.ref a) m pl) Q E s := by
 obtain ⟨mA, O, r, _, _, _⟩ := ins_get I.hok e
 have hn : mA m = none := RelO.none_of (by rw [← l]; exact r m)
 exact get_meth I.kIn O (c.get m) k.at_ k.fn hn h
theorem setattr_ok {y : V} {u : Value} {Q : Unit → Shared → Prop} (I : Inv X pins σ H s) (e : H a = some (.ins C dx fs)) (c : Cls X.K C) (n : NoAttr X.K C f) (hl : fs.length < 1000) (ry : RelV y u)
  (h : ∀ s', Inv X pins σ (upd H a (.ins C dx (putF f y fs))) s' → Q () s') : wpAny (model X.prog X.w) A (setAttr (.ref a) f u) Q E s := by
 obtain ⟨mA, O, r, wi, _, ho⟩ := ins_get I.hok e
 have hz : (fs.map (·.1)).length ≤ sizeLine := by rw [List.length_map, sizeLine_eq]; omega
 refine set_map I.kIn O c.sa c.po n.taker c.hd wi hz fun h' O' sb => h _ ?_
 have hd : ∃ o, h'.get? dx = some o := let ⟨o, _, _, e', _⟩ := O'.ns; ⟨o, e'⟩
 refine I.write (x := a) (e := dx) (by rw [e]; exact True.intro) (.inr ho) (fun b q hb z => (sb.2 b hb).trans z) hd ?_
 refine ⟨by rw [upd_ne O.ne]; exact ho, ?_, O.ne, O'.obj, _, O'.ns, fun g => ?_, fun g hg => ?_⟩
 ·have := length_putF f y fs; omega
 ·show RelO ((putF f y fs).lookup g) (if g = f then some u else mA g)
  rw [lookup_putF]
  by_cases q : g = f
  ·rw [if_pos q, if_pos q]; exact ry
  ·rw [if_neg q, if_neg q]; exact r g
 ·by_cases q : g = f
  ·rw [q]; exact (keys_putF f y fs).1
  ·refine (keys_putF f y fs).2 g (wi g fun z => hg ?_)
   show (if g = f then some u else mA g) = none
   rw [if_neg q]; exact z
theorem Inv.made (I : Inv X pins σ H s) : Inv X pins σ (upd (upd H s.heap.objs.size (.own (s.heap.objs.size + 1))) (s.heap.objs.size + 1) (.ins C s.heap.objs.size []))
  { s with heap := (s.heap.push PySem.W.emptyDict).push (PySem.W.instObj C s.heap.objs.size) } := by
 have e1 : (s.heap.push PySem.W.emptyDict).get? s.heap.objs.size = some PySem.W.emptyDict := Heap.get?_push_size s.heap rfl
 have e2 : ((s.heap.push PySem.W.emptyDict).push (PySem.W.instObj C s.heap.objs.size)).get? (s.heap.objs.size + 1) = some (PySem.W.instObj C s.heap.objs.size) := by
  have := Heap.get?_push_size (s.heap.push PySem.W.emptyDict) (o := PySem.W.instObj C s.heap.objs.size) rfl
  rwa [Heap.size_push] at this
 have e3 : (s.heap.push PySem.W.emptyDict).Ns s.heap.objs.size (fun _ => none) := ⟨PySem.W.emptyDict, #[], _, e1, rfl, (fun e he => absurd he (by simp)), fun _ => rfl⟩
 have I1 := I.laid (a := s.heap.objs.size) (o := .own (s.heap.objs.size + 1)) (h' := s.heap.push PySem.W.emptyDict) (t' := s.toks) (fun b u q => Heap.get?_push_of_some _ q) (Nat.le_refl _) ⟨_, e1⟩
 refine I1.laid (a := s.heap.objs.size + 1) (o := .ins C s.heap.objs.size []) (t' := s.toks) (fun b u q => Heap.get?_push_of_some _ q) (Nat.le_of_eq (Heap.size_push _ _)) ?_
 have ne : s.heap.objs.size ≠ s.heap.objs.size + 1 := Nat.ne_of_lt (Nat.lt_succ_self _)
 refine ⟨by rw [upd_ne ne, upd_same], Nat.zero_le _, ne, e2, fun _ => none, (Heap.Ns1.of_empty e3).at fun o q => Heap.get?_push_of_some _ q, fun _ => True.intro, fun y hy => absurd rfl hy⟩
theorem attr_of {prog : Program} {w : World} {env : Env} {e : Expr} {f : Str} {pos : Pos} {s : Shared} {Q : Value → Shared → Prop} (hb : attributeBase e f env (eval e env) = eval e env)
  (h : wpAny (model prog w) A (eval e env) (fun o s₁ => wpAny (model prog w) A (getAttr o f true) Q E s₁) E s) : wpAny (model prog w) A (eval (.Attribute e f pos) env) Q E s :=
 Attribute_any_ h (by rw [arm_eval_Attribute, hb])
end
def tFld (K : PySem.W.Frag) (ta : TE) (f : Str) : TE := fun σ H Q => ta σ H fun x H1 => ∃ a C dx fs v, x = .ref a ∧ H1 a = some (.ins C dx fs) ∧ Cls K C ∧ NoAttr K C f ∧ fs.lookup f = some v ∧ Q v H1
def sFld (K : PySem.W.Frag) (ta tv : TE) (f : Str) : TS := fun D σ H => tv σ H fun y H1 => ta σ H1 fun x H2 => ∃ a C dx fs, x = .ref a ∧ H2 a = some (.ins C dx fs) ∧ Cls K C ∧ NoAttr K C f ∧ fs.length < 1000 ∧
 D.nx σ (upd H2 a (.ins C dx (putF f y fs)))
section
variable {X : Cx} {o e value : Expr} {f : Str} {pos pos' tpos : Pos} {ta tv : TE}
theorem pe_fld (he : PE X e ta) (hb : attributeBase e f X.env (eval e X.env) = eval e X.env) : PE X (.Attribute e f pos) (tFld X.K ta f) := by
 intro pins s σ H Q I h
 refine attr_of hb (thn (he pins s σ H _ I h) fun u s1 ⟨x, H1, I1, rx, a, C, dx, fs, v, ex, ea, c, n, l, q⟩ => ?_)
 subst ex
 obtain rfl : u = Value.ref a := rx
 exact getattr_ok I1 ea c n l fun u' s2 I2 ru => ⟨v, H1, I2, ru, q⟩
theorem ps_fld (ha : PE X o ta) (hv : PE X value tv) (hs : swapsWith value (some (.Attribute o f pos')) pos.line X.env = pure false) : PS X (.Assign [.Attribute o f pos'] value pos) (sFld X.K ta tv f) := by
 intro pins s σ H D I h
 refine plainObj_wpAny_Assign_Attribute (thn (hv pins s σ H _ I h) fun u s1 ⟨y, H1, I1, ry, q⟩ => thn (ha pins s1 σ H1 _ I1 q) fun ov s2 ⟨x, H2, I2, rx, a, C, dx, fs, ex, ea, c, n, l, q2⟩ => ?_) hs
 subst ex
 obtain rfl : ov = Value.ref a := rx
 exact setattr_ok I2 ea c n l ry fun s3 I3 => ⟨σ, _, I3, q2⟩
end
section
variable {X : Cx} {pins : List (Addr × Obj)} {σ : St} {H : Hp} {s : Shared} {A : Around} {E : Value → Shared → Prop} {Q : Value → Shared → Prop} {c : Value} {b : Bool}
inductive TyOf (K : PySem.W.Frag) (H : Hp) : V → Value → Prop where
 | non : TyOf K H .non (.type "NoneType")
 | bl (x : Bool) : TyOf K H (.bl x) (.type "bool")
 | int (i : Int) : TyOf K H (.int i) (.type "int")
 | str (x : Str) : TyOf K H (.str x) (.type "str")
 | flt (x : UInt64) : TyOf K H (.flt x) (.type "float")
 | lst {a : Addr} {xs : List V} (e : H a = some (.lst xs)) : TyOf K H (.ref a) (.type "list")
 | frz {a : Addr} {o : Obj} {xs : List V} (e : H a = some (.frz o (.lst xs))) : TyOf K H (.ref a) (.type "list")
 | tup {a : Addr} {xs : List V} (e : H a = some (.tup xs)) : TyOf K H (.ref a) (.type "tuple")
 | dK {a : Addr} {kvs : List (Key × V)} (e : H a = some (.dK kvs)) : TyOf K H (.ref a) (.type "dict")
 | dT {a : Addr} {kvs : List (List Key × V)} (e : H a = some (.dT kvs)) : TyOf K H (.ref a) (.type "dict")
 | ins {a C dx : Addr} {fs : List (Str × V)} (e : H a = some (.ins C dx fs)) (cl : Cls K C) (ha : PySem.W.findIn K (.ref C) "__class__" = some (some (.builtin "object.__class__")))
   (hn : PySem.W.specialIn K (.builtin "object.__class__") "__get__" = some (some (.builtin "getset_descriptor.__get__"))) (htk : PySem.W.takesIn K (.builtin "object.__class__") = some true)
   (hm : PySem.W.mroIn K C (.type "object") = some true) : TyOf K H (.ref a) (.ref C)
theorem isinst_ok {x : V} {u t : Value} (I : Inv X pins σ H s) (rx : RelV x u) (ty : TyOf X.K H x t) (e : PySem.W.kitOne X.K t c = some b) (h : ∀ tk, Q (.bool b) { s with toks := tk }) :
  wpAny (model X.prog X.w) A (call (.builtin "isinstance") [u, c]) Q E s := by
 cases ty with
 | non => cases (show u = Value.none from rx); exact PySem.W.kia_one PySem.W.kitx_none I.kIn True.intro e (fun z => nomatch z) h
 | bl y => cases (show u = Value.bool y from rx); exact PySem.W.kia_one PySem.W.kitx_bool I.kIn True.intro e (fun z => nomatch z) h
 | int i => obtain ⟨t, q⟩ := (show ∃ t, u = Value.int i t from rx); cases q; exact PySem.W.kia_one PySem.W.kitx_int I.kIn True.intro e (fun z => nomatch z) h
 | str y => obtain ⟨t, q⟩ := (show ∃ t, u = Value.str y t from rx); cases q; exact PySem.W.kia_one PySem.W.kitx_str I.kIn True.intro e (fun z => nomatch z) h
 | flt y => obtain ⟨t, q⟩ := (show ∃ t, u = Value.float y t from rx); cases q; exact PySem.W.kia_one PySem.W.kitx_float I.kIn True.intro e (fun z => nomatch z) h
 | @lst a xs ea =>
  cases (show u = Value.ref a from rx)
  obtain ⟨_, _, n, _, h1⟩ := (show ObjOk X.prog X.w H s.heap a (.lst xs) from I.hok a _ ea)
  exact PySem.W.kia_one PySem.W.kitx_list I.kIn ⟨_, h1, rfl⟩ e (fun z => nomatch z) h
 | @frz a ob xs ea =>
  cases (show u = Value.ref a from rx)
  obtain ⟨_, _, _, n, _, h1⟩ := (show ObjOk X.prog X.w H s.heap a (.frz ob (.lst xs)) from I.hok a _ ea)
  exact PySem.W.kia_one PySem.W.kitx_list I.kIn ⟨_, h1, rfl⟩ e (fun z => nomatch z) h
 | @tup a xs ea =>
  cases (show u = Value.ref a from rx)
  obtain ⟨_, _, _, p⟩ := (show ObjOk X.prog X.w H s.heap a (.tup xs) from I.hok a _ ea)
  obtain ⟨o, h1, h2, _⟩ := p
  exact PySem.W.kia_one PySem.W.kitx_tuple I.kIn ⟨o, h1, h2⟩ e (fun z => nomatch z) h
 | @dK a kvs ea =>
  cases (show u = Value.ref a from rx)
  obtain ⟨_, _, vs, _, p⟩ := (show ObjOk X.prog X.w H s.heap a (.dK kvs) from I.hok a _ ea)
  obtain ⟨o, es, ep, h1, h2, _⟩ := p
  exact PySem.W.kia_one PySem.W.kitx_dict I.kIn ⟨o, h1, h2.1⟩ e (fun z => nomatch z) h
 | @dT a kvs ea =>
  cases (show u = Value.ref a from rx)
  obtain ⟨_, _, xs, _, o, es, ep, h1, h2, _⟩ := (show ObjOk X.prog X.w H s.heap a (.dT kvs) from I.hok a _ ea)
  exact PySem.W.kia_one PySem.W.kitx_dict I.kIn ⟨o, h1, h2.1⟩ e (fun z => nomatch z) h
 | @ins a C dx fs ea cl ha hn htk hm =>
  cases (show u = Value.ref a from rx)
  obtain ⟨mA, O, _⟩ := ins_get I.hok ea
  obtain ⟨od, J, _⟩ := O.look
  exact PySem.W.kia_one (PySem.W.kitx_own (cl.get _) cl.hd ha hn htk hm) I.kIn J e (fun z => nomatch z) h
end
end L2
namespace L2
open PySem PySem.Spec PyProof.Rows
structure Room (k : Nat) (A : Around) : Prop where
 hd : A.handled = none
 dp : A.depth + 3 * k + 5 < recursionLimit
 un : A.units + 16 * k + 200 < cLine
theorem Room.mono {j k : Nat} {A : Around} (r : Room k A) (h : j ≤ k) : Room j A := ⟨r.hd, by have := r.dp; omega, by have := r.un; omega⟩
theorem Room.deeper {k : Nat} {A : Around} (r : Room (k + 1) A) (env : Env) : Room k (A.deeper env) :=
 ⟨r.hd, by have := r.dp; show A.depth + 1 + 3 * k + 5 < _; omega, by have := r.un; show A.units + 3 + 16 * k + 200 < _; omega⟩
theorem make_depth {A : Around} {C : Addr} {us : List Value} {kw : List (Str × Value)} : (A.under (.builtin "type.__call__" ⟨.ref C :: us, kw⟩)).depth = A.depth + 1 := by
 first | rfl | simp [Around.under, Code.weight, Code.isCreation, Code.isGuard, Code.isCaller, Code.frames, Code.isFrame, guardIds]
theorem make_units {A : Around} {C : Addr} {us : List Value} {kw : List (Str × Value)} : (A.under (.builtin "type.__call__" ⟨.ref C :: us, kw⟩)).units = A.units + 1 := by
 first | rfl | simp [Around.under, Code.cUnits, Code.frames, Code.isFrame]
theorem Room.make {k : Nat} {A : Around} (r : Room (k + 1) A) (C : Addr) (us : List Value) (kw : List (Str × Value)) : Room k (A.under (.builtin "type.__call__" ⟨.ref C :: us, kw⟩)) :=
 ⟨r.hd, by have := r.dp; rw [make_depth]; omega, by have := r.un; rw [make_units]; omega⟩
theorem Room.depth {k : Nat} {A : Around} (r : Room k A) : A.depth < recursionLimit := by have := r.dp; omega
theorem Room.units {k : Nat} {A : Around} (r : Room k A) : A.units + 64 < cLine := by have := r.un; omega
def tNil : TA := fun _ H Q => Q [] H
def tCons (ta : TE) (tr : TA) : TA := fun σ H Q => ta σ H fun x H1 => tr σ H1 fun xs H2 => Q (x :: xs) H2
section
variable {X : Cx} {e : Expr} {es : List Expr} {te : TE} {t : TA} {pos : Pos}
theorem pa_nil : PA X [] tNil := fun _ _ _ _ H Q I h => Calls.spliced_nil ⟨[], H, I, .nil, h⟩
theorem pa_cons (ha : PE X e te) (hr : PA X es t) (hs : starEach (e :: es) X.env = (false, eval e X.env) :: starEach es X.env := by rfl) : PA X (e :: es) (tCons te t) := by
 intro pos pins s σ H Q I h
 rw [hs]
 show wpAny _ _ (spliced ((false, eval e X.env) :: backTo pos (starEach es X.env))) _ _ s
 refine Calls.spliced_cons (thn (ha pins s σ H _ I h) fun u s1 ⟨x, H1, I1, r1, q1⟩ => ?_)
 exact thn (hr pos pins s1 σ H1 _ I1 q1) fun us s2 ⟨xs, H2, I2, r2, q2⟩ => ⟨x :: xs, H2, I2, .cons r1 r2, q2⟩
inductive INew (o : List V → HO) (Q : VK) (xs : List V) (H : Hp) : Prop
 | mk (h : xs.length ≤ sizeLine) (q : ∀ p, H p = none → Q (.ref p) (upd H p (o xs))) : INew o Q xs H
def tTup (t : TA) : TE := fun σ H Q => t σ H (INew .tup Q)
def tLst (t : TA) : TE := fun σ H Q => t σ H (INew .lst Q)
theorem pe_tup {x1} (h : PA X es t) : PE X (.Tuple es x1 pos) (tTup t) := by
 intro pins s σ H Q I hq
 refine wpAny_Tuple_spliced (thn (h pos pins s σ H _ I hq) fun us s1 ⟨xs, H1, I1, r, z, q⟩ => ⟨by rw [← r.length]; exact z, ?_⟩)
 have hf : H1 s1.heap.objs.size = none := I1.hok.fresh (Nat.le_refl _)
 refine ⟨.ref s1.heap.objs.size, upd H1 s1.heap.objs.size (.tup xs), I1.laid (t' := s1.toks) (fun b u e => Heap.get?_push_of_some _ e) (Nat.le_refl _) ?_, rfl, q _ hf⟩
 exact ⟨z, us, r, ⟨_, Heap.get?_push_size _ rfl, rfl, ⟨_, rfl⟩, rfl⟩⟩
theorem pe_lst (h : PA X es t) : PE X (.List es pos) (tLst t) := by
 intro pins s σ H Q I hq
 refine wpAny_List_spliced (thn (h pos pins s σ H _ I hq) fun us s1 ⟨xs, H1, I1, r, z, q⟩ => ⟨by rw [← r.length]; exact z, ?_⟩)
 have hf : H1 s1.heap.objs.size = none := I1.hok.fresh (Nat.le_refl _)
 refine ⟨.ref s1.heap.objs.size, upd H1 s1.heap.objs.size (.lst xs), I1.laid (t' := s1.toks) (fun b u e => Heap.get?_push_of_some _ e) (Nat.le_refl _) ?_, rfl, q _ hf⟩
 exact ⟨z, us, 0, r, Heap.get?_push_size _ rfl⟩
end
abbrev Sp := List V → Hp → VK → XK → Prop
abbrev CXT := List Env → Hp → Shared → XK → Value → Shared → Prop
structure Env0 (P : Program) (w : World) (K : PySem.W.Frag) (mg : Str → Option Value) (base : Heap) (A : Around) (outer : List Env) (s : Shared) (H : Hp) : Prop where
 frames : A.frames = some outer
 mod : Mod K mg base
 bs : ∀ b o, base.get? b = some o → s.heap.get? b = some o ∧ H b = none
 bsz : base.objs.size ≤ s.heap.objs.size
 funs : s.heap.FunFrames base outer
 frf : ∀ b ∈ frs outer, H b = none
 hok : HOk P w H s.heap
 bare : AllBare s.gens
def CE (outer : List Env) (P : Program) (w : World) (H : Hp) (s : Shared) (Q : VK) (u : Value) (s' : Shared) : Prop :=
 ∃ v H', s'.os = s.os ∧ AllBare s'.gens ∧ Un (frs outer) [] H H' s.heap s'.heap ∧ HOk P w H' s'.heap ∧ RelV v u ∧ Q v H'
def CR (CX : CXT) (outer : List Env) (P : Program) (w : World) (H : Hp) (s : Shared) (Q : VK) (E : XK) (r : Result) (s' : Shared) : Prop :=
 match r with
 | .ok (.ret u) => CE outer P w H s Q u s'
 | .ok _ => False
 | .error e => CX outer H s E e s'
structure FnOk (P : Program) (w : World) (K : PySem.W.Frag) (mg : Str → Option Value) (base : Heap) (CX : CXT) (k : Nat) (f : Addr) (fd : FuncData) (ps : List Str) (sp : Sp) : Prop where
 len : ∀ vs H Q E, sp vs H Q E → vs.length = ps.length
 run : ∀ (A : Around) (outer : List Env) (s : Shared) (H : Hp) (args : Args) (us : List Value) (vs : List V) (Q : VK) (E : XK), Room k A → Env0 P w K mg base A outer s H → BindsTo s fd args (ps.zip us) → Vals vs us → sp vs H Q E →
  codeAny (model P w) A (.call (.ref f) args) (CR CX outer P w H s Q E) s
theorem FnOk.mono {P : Program} {w : World} {K : PySem.W.Frag} {mg : Str → Option Value} {base : Heap} {CX : CXT} {j k : Nat} {f : Addr} {fd : FuncData} {ps : List Str} {sp : Sp} (F : FnOk P w K mg base CX j f fd ps sp) (h : j ≤ k) :
  FnOk P w K mg base CX k f fd ps sp := ⟨F.len, fun A outer s H args us vs Q E hr => F.run A outer s H args us vs Q E (hr.mono h)⟩
theorem Env0.make {P : Program} {w : World} {K : PySem.W.Frag} {mg : Str → Option Value} {base : Heap} {A : Around} {outer : List Env} {s : Shared} {H : Hp} (e : Env0 P w K mg base A outer s H) (C : Addr) (us : List Value) (kw : List (Str × Value)) :
  Env0 P w K mg base (A.under (.builtin "type.__call__" ⟨.ref C :: us, kw⟩)) outer s H := ⟨by first | exact e.frames | (simpa [Around.under, Code.envs, Code.isFrame, pushEnvs] using e.frames), e.mod, e.bs, e.bsz, e.funs, e.frf, e.hok, e.bare⟩
section
variable {X : Cx} {pins : List (Addr × Obj)} {σ : St} {H : Hp} {s s' : Shared}
theorem Inv.env0 (I : Inv X pins σ H s) : Env0 X.prog X.w X.K X.mg X.base X.A X.stack s H :=
 ⟨I.ok.frames, I.ok.mod, I.bs, Nat.le_trans I.ok.bsz I.sz, I.stack, I.stkFree, I.hok, I.bare⟩
theorem Inv.after {Q : VK} {u : Value} (I : Inv X pins σ H s) (h : CE X.stack X.prog X.w H s Q u s') : EP X pins σ Q u s' := by
 obtain ⟨v, H', os, bare, un, hok, r, q⟩ := h
 obtain ⟨hh, g, d, t, os'⟩ := s'
 obtain rfl : os' = s.os := os
 exact ⟨v, H', I.call (h' := hh) (g' := g) (d' := d) (t' := t) (ch := []) un hok bare (fun b z => absurd z (by simp)), r, q⟩
end
def tCall (sp : Sp) (dvs : List V) (E : XK) (t : TA) : TE := fun σ H Q => t σ H fun vs H1 => sp (vs ++ dvs) H1 Q E
def tMeth (C : Addr) (m : Str) (sp : Sp) (dvs : List V) (E : XK) (ta : TE) (t : TA) : TE := fun σ H Q => ta σ H fun x H1 => ∃ a dx fs, x = .ref a ∧ H1 a = some (.ins C dx fs) ∧ fs.lookup m = none ∧
 t σ H1 fun vs H2 => sp (x :: (vs ++ dvs)) H2 Q E
def tMake (C : Addr) (sp : Sp) (dvs : List V) (E : XK) (t : TA) : TE := fun σ H Q => t σ H fun vs H1 => ∀ x dx, H1 x = none → H1 dx = none → dx ≠ x →
 sp (.ref x :: (vs ++ dvs)) (upd (upd H1 dx (.own x)) x (.ins C dx [])) (fun v H2 => v = .non ∧ Q (.ref x) H2) E
def Binds (K : PySem.W.Frag) (fd : FuncData) (ps : List Str) (ds : List Value) : Prop :=
 ∀ (s : Shared) (us : List Value), K.In s.heap → (us ++ ds).length = ps.length → BindsTo s fd ⟨us, []⟩ (ps.zip (us ++ ds))
theorem Binds.all {K : PySem.W.Frag} {fd : FuncData} {ps : List Str} (h : ∀ us : List Value, us.length = ps.length → bindArgs fd ⟨us, []⟩ = pure (ps.zip us)) : Binds K fd ps [] := fun s us _ hl => by
 rw [List.append_nil] at hl ⊢
 exact .of_eq (h us hl)
def Passes (CX : CXT) (X : Cx) (E : XK) : Prop := ∀ (pins : List (Addr × Obj)) (σ : St) (H : Hp) (s : Shared) (e : Value) (s' : Shared), Inv X pins σ H s → CX X.stack H s E e s' → X.xe e s'
section
variable {X : Cx} {CX : CXT} {k : Nat} {f C : Addr} {fd : FuncData} {ps : List Str} {sp : Sp} {dvs : List V} {ds : List Value} {E : XK} {x m : Str} {p pos apos : Pos} {e o : Expr} {es : List Expr} {ta : TE} {t : TA}
theorem run_fn {pins : List (Addr × Obj)} {σ : St} {H : Hp} {s : Shared} {Q : VK} {us : List Value} {vs : List V} (F : FnOk X.prog X.w X.K X.mg X.base CX k f fd ps sp) (hr : Room k X.A) (hb : Binds X.K fd ps ds) (hd : Vals dvs ds) (hx : Passes CX X E)
  (I : Inv X pins σ H s) (r : Vals vs us) (h : sp (vs ++ dvs) H Q E) : wpAny (model X.prog X.w) X.A (call (.ref f) us) (EP X pins σ Q) X.xe s := by
 have r2 : Vals (vs ++ dvs) (us ++ ds) := r.append hd
 have hl : (us ++ ds).length = ps.length := by rw [← r2.length]; exact F.len _ _ _ _ h
 refine wpAny_call (codeAny_mono (F.run X.A X.stack s H ⟨us, []⟩ (us ++ ds) (vs ++ dvs) Q E hr I.env0 (hb s us I.kIn hl) r2 h) fun r s' hq => ?_)
 cases r with
 | error e => exact hx pins σ H s e s' I hq
 | ok fl =>
  cases fl with
  | ret u => exact I.after hq
  | next => exact False.elim hq
  | brk => exact False.elim hq
  | cont => exact False.elim hq
theorem pe_call (F : FnOk X.prog X.w X.K X.mg X.base CX k f fd ps sp) (hr : Room k X.A) (hg : Gl X x) (hm : X.mg x = some (.ref f)) (hk : PySem.W.keepIn X.K (.ref f) = true) (hb : Binds X.K fd ps ds) (hd : Vals dvs ds) (hx : Passes CX X E)
  (ha : PA X (e :: es) t) (hdb : (x == ("__debug__" : Str)) = false := by decide) (he : starEach (e :: es) X.env = (false, eval e X.env) :: starEach es X.env := by rfl) (hpl : (backTo pos (starEach es X.env)).any (·.1) = false := by rfl) :
  PE X (.Call (.Name x p) (e :: es) [] pos) (tCall sp dvs E t) := by
 intro pins s σ H Q I h
 refine wpAny_Call_Name_kw (ld_glob I hg hm ?_ hdb)
 refine PySem.W.callWith_K (h₀ := X.base) I.ok.mod.kin hk (thn (ha pos pins s σ H _ I h) fun us s1 ⟨vs, H1, I1, r, q⟩ => ⟨I1.kIn, ?_⟩) he hpl
 exact run_fn F hr hb hd hx I1 r q
theorem pe_meth {pl : Sem Bool} (he : PE X o ta) (c : Cls X.K C) (hm : Meth X.K C m f) (F : FnOk X.prog X.w X.K X.mg X.base CX k f fd ps sp) (hr : Room k X.A) (hb : Binds X.K fd ps ds) (hd : Vals dvs ds) (hx : Passes CX X E) (ha : PA X (e :: es) t)
  (hst : starEach (e :: es) X.env = (false, eval e X.env) :: starEach es X.env := by rfl) (hpl : (backTo pos (starEach es X.env)).any (·.1) = false := by rfl)
  (ht : eval (.Call (.Attribute o m apos) (e :: es) [] pos) X.env = (do
   let ov ← eval o X.env
   standAt apos.atName
   let (f, first) ← holding [ov] (getMethod ov m pl)
   callWith pos f first (backTo pos (starEach (e :: es) X.env)) (backToKw pos (keywordEach [] X.env))) := by rfl) :
  PE X (.Call (.Attribute o m apos) (e :: es) [] pos) (tMeth C m sp dvs E ta t) := by
 intro pins s σ H Q I h
 refine PySem.W.methodCall_KW (pl := pl) (thn (he pins s σ H _ I h) fun u s1 ⟨x, H1, I1, rx, a, dx, fs, ex, ea, l, q⟩ => ?_) ht
 subst ex
 obtain rfl : u = Value.ref a := rx
 refine getmeth_ok I1 ea c hm l ?_
 refine PySem.W.callWith_K (first := [.ref a]) (h₀ := X.base) I.ok.mod.kin hm.kp (thn (ha pos pins s1 σ H1 _ I1 q) fun us s2 ⟨vs, H2, I2, r, q2⟩ => ⟨I2.kIn, ?_⟩) hst hpl
 exact run_fn (us := .ref a :: us) (vs := .ref a :: vs) F hr hb hd hx I2 (.cons rfl r) q2
structure Mk (K : PySem.W.Frag) (C f : Addr) : Prop where
 makes : PySem.W.makesIn K C = true
 init : PySem.W.findIn K (.ref C) "__init__" = some (some (.ref f))
 fn : PySem.W.isFn K (.ref f) = true
 kp : PySem.W.keepIn K (.ref C) = true
theorem run_make {pins : List (Addr × Obj)} {σ : St} {H : Hp} {s : Shared} {Q : VK} {us : List Value} {vs : List V} (M : Mk X.K C f) (F : FnOk X.prog X.w X.K X.mg X.base CX k f fd ps sp) (hr : Room (k + 1) X.A) (hb : Binds X.K fd ps ds) (hd : Vals dvs ds)
  (hx : Passes CX X E) (I : Inv X pins σ H s) (r : Vals vs us)
  (h : ∀ x dx, H x = none → H dx = none → dx ≠ x → sp (.ref x :: (vs ++ dvs)) (upd (upd H dx (.own x)) x (.ins C dx [])) (fun v H2 => v = .non ∧ Q (.ref x) H2) E) :
  wpAny (model X.prog X.w) X.A (call (.ref C) us) (EP X pins σ Q) X.xe s := by
 have hq := h (s.heap.objs.size + 1) s.heap.objs.size (I.hok.fresh (Nat.le_succ _)) (I.hok.fresh (Nat.le_refl _)) (Nat.ne_of_lt (Nat.lt_succ_self _))
 have I2 := Inv.made (C := C) I
 have r2 : Vals (V.ref (s.heap.objs.size + 1) :: (vs ++ dvs)) (Value.ref (s.heap.objs.size + 1) :: (us ++ ds)) := .cons rfl (r.append hd)
 have hl : (Value.ref (s.heap.objs.size + 1) :: us ++ ds).length = ps.length := by
  have e := r2.length
  rw [F.len _ _ _ _ hq] at e
  exact e.symm
 refine wpAny_call (make_map (f := f) I.kIn M.makes M.init (beq_iff_eq.mp M.fn) (codeAny_mono (F.run _ X.stack _ _ ⟨Value.ref (s.heap.objs.size + 1) :: us, []⟩ (Value.ref (s.heap.objs.size + 1) :: (us ++ ds)) _ _ E (hr.make C us [])
  (I2.env0.make C us []) (hb _ (Value.ref (s.heap.objs.size + 1) :: us) I2.kIn hl) r2 hq) fun r s' hq' => ?_))
 cases r with
 | error e => exact hx pins σ _ _ e s' I2 hq'
 | ok fl =>
  cases fl with
  | ret u =>
   obtain ⟨v, H', I3, rv, ev, q3⟩ := I2.after hq'
   subst ev
   exact ⟨rv, ⟨V.ref (s.heap.objs.size + 1), H', I3, rfl, q3⟩⟩
  | next => exact False.elim hq'
  | brk => exact False.elim hq'
  | cont => exact False.elim hq'
theorem pe_make (M : Mk X.K C f) (F : FnOk X.prog X.w X.K X.mg X.base CX k f fd ps sp) (hr : Room (k + 1) X.A) (hg : Gl X x) (hm : X.mg x = some (.ref C)) (hb : Binds X.K fd ps ds) (hd : Vals dvs ds) (hx : Passes CX X E)
  (ha : PA X (e :: es) t) (hdb : (x == ("__debug__" : Str)) = false := by decide) (he : starEach (e :: es) X.env = (false, eval e X.env) :: starEach es X.env := by rfl) (hpl : (backTo pos (starEach es X.env)).any (·.1) = false := by rfl) :
  PE X (.Call (.Name x p) (e :: es) [] pos) (tMake C sp dvs E t) := by
 intro pins s σ H Q I h
 refine wpAny_Call_Name_kw (ld_glob I hg hm ?_ hdb)
 refine PySem.W.callWith_K (h₀ := X.base) I.ok.mod.kin M.kp (thn (ha pos pins s σ H _ I h) fun us s1 ⟨vs, H1, I1, r, q⟩ => ⟨I1.kIn, ?_⟩) he hpl
 exact run_make M F hr hb hd hx I1 r q
end
structure FnScope (N P : List Str) (sc : Scope) : Prop where
 kind : sc.kind = .function
 co : sc.isCoroutine = false
 gen : sc.isGenerator = false
 nd : N.Nodup
 pre : N.take P.length = P
 par : ∀ x ∈ P, sc.names.lookup x = some .local ∨ sc.names.lookup x = some .cell
 nofree : ∀ y ∈ sc.names, y.2 ≠ .free
theorem bindL_out {kindOf : Str → Option NameKind} {x : Str} : ∀ {binds : List (Str × Value)} {m : Str → Option Value}, (∀ v, (x, v) ∉ binds) → bindL kindOf binds m x = m x
 | [], _, _ => rfl
 | (n, v) :: r, m, h => by
  unfold bindL
  rw [bindL_out fun w hw => h w (List.mem_cons_of_mem _ hw)]
  split
  ·have : x ≠ n := by rintro rfl; exact h v List.mem_cons_self
   simp [this]
  ·rfl
theorem bindC_out {kindOf : Str → Option NameKind} {x : Str} : ∀ {binds : List (Str × Value)} {m : Str → Option Value}, (∀ v, (x, v) ∉ binds) → bindC kindOf binds m x = m x
 | [], _, _ => rfl
 | (n, v) :: r, m, h => by
  unfold bindC
  rw [bindC_out fun w hw => h w (List.mem_cons_of_mem _ hw)]
  split
  ·rfl
  ·have : x ≠ n := by rintro rfl; exact h v List.mem_cons_self
   simp [this]
theorem bindL_get {kindOf : Str → Option NameKind} {x : Str} {v : Value} : ∀ {P : List Str} {vs : List Value} {i : Nat} {m : Str → Option Value}, P.Nodup → P[i]? = some x → vs[i]? = some v → kindOf x = some .local →
  bindL kindOf (P.zip vs) m x = some v
 | [], _, _, _, _, h, _, _ => by simp at h
 | _ :: _, [], _, _, _, _, h, _ => by simp at h
 | p :: P, w :: vs, 0, m, nd, h1, h2, hk => by
  simp at h1 h2; subst h1; subst h2
  show bindL kindOf ((p, w) :: P.zip vs) m p = _
  unfold bindL
  rw [bindL_out fun v hv => (List.nodup_cons.mp nd).1 (List.of_mem_zip hv).1, if_pos hk]
  simp
 | p :: P, w :: vs, i + 1, m, nd, h1, h2, hk => by
  show bindL kindOf ((p, w) :: P.zip vs) m x = _
  unfold bindL
  exact bindL_get (i := i) (List.nodup_cons.mp nd).2 (by simpa using h1) (by simpa using h2) hk
theorem bindC_get {kindOf : Str → Option NameKind} {x : Str} {v : Value} : ∀ {P : List Str} {vs : List Value} {i : Nat} {m : Str → Option Value}, P.Nodup → P[i]? = some x → vs[i]? = some v → kindOf x ≠ some .local →
  bindC kindOf (P.zip vs) m x = some v
 | [], _, _, _, _, h, _, _ => by simp at h
 | _ :: _, [], _, _, _, _, h, _ => by simp at h
 | p :: P, w :: vs, 0, m, nd, h1, h2, hk => by
  simp at h1 h2; subst h1; subst h2
  show bindC kindOf ((p, w) :: P.zip vs) m p = _
  unfold bindC
  rw [bindC_out fun v hv => (List.nodup_cons.mp nd).1 (List.of_mem_zip hv).1, if_neg hk]
  simp
 | p :: P, w :: vs, i + 1, m, nd, h1, h2, hk => by
  show bindC kindOf ((p, w) :: P.zip vs) m x = _
  unfold bindC
  exact bindC_get (i := i) (List.nodup_cons.mp nd).2 (by simpa using h1) (by simpa using h2) hk
def start (N : List Str) (vs : List V) : St := vs.map some ++ List.replicate (N.length - vs.length) none
def cxOf (CX : CXT) (P : Program) (w : World) (K : PySem.W.Frag) (mg : Str → Option Value) (base : Heap) (N : List Str) (qual : Str) (scope : Scope) (f : Addr) (cd : Value) (A : Around) (outer : List Env) (s : Shared) (H : Hp) (E : XK) : Cx where
 prog := P
 w := w
 K := K
 mg := mg
 base := base
 A := A.deeper (envOfC qual scope s.heap.objs.size f cd)
 N := N
 s₀ := s
 H₀ := H
 env := envOfC qual scope s.heap.objs.size f cd
 outer := outer
 stack := envOfC qual scope s.heap.objs.size f cd :: outer
 ex := []
 calm := true
 fn := fun _ => true
 pn := []
 xe := fun e s' => wpAny (model P w) (A.deeper (envOfC qual scope s.heap.objs.size f cd)) (leaving (envOfC qual scope s.heap.objs.size f cd) e) (fun _ s'' => CX outer H s E e s'') (fun e' s'' => CX outer H s E e' s'') s'
theorem cell_has {sc : Scope} {n : Nat} {x : Str} (h : sc.names.lookup x = some .cell) : ∃ c, (cellsFrom n sc.names []).lookup x = some c := by
 have q := PySem.W.cellsFrom_some sc.names n [] (.inl h)
 exact Option.isSome_iff_exists.mp q
theorem inv_start {CX : CXT} {P : Program} {w : World} {K : PySem.W.Frag} {mg : Str → Option Value} {base : Heap} {N ps : List Str} {qual : Str} {scope : Scope} {f : Addr} {cd : Value} {A : Around} {outer : List Env} {s s1 : Shared} {H : Hp} {E : XK} {us : List Value} {vs : List V}
  (S : FnScope N ps scope) (hd : A.handled = none) (e0 : Env0 P w K mg base A outer s H) (hl : vs.length = ps.length) (r : Vals vs us)
  (x : InCallC s s.heap.objs.size (bindL (envOfC qual scope s.heap.objs.size f cd).kindOf (ps.zip us) fun _ => none) (cellsFrom (s.heap.objs.size + 1) scope.names []) (bindC (envOfC qual scope s.heap.objs.size f cd).kindOf (ps.zip us) fun _ => none) s1) :
  Inv (cxOf CX P w K mg base N qual scope f cd A outer s H E) [] (start N vs) H s1 := by
 have hpl : ps.length ≤ N.length := by have := congrArg List.length S.pre; rw [List.length_take] at this; omega
 obtain ⟨h1, tk, rfl, hk⟩ := x.done
 have noA : ∀ b : Addr, b ∉ (cxOf CX P w K mg base N qual scope f cd A outer s H E).ex := fun b z => absurd (show b ∈ ([] : List Addr) from z) (by simp)
 refine ⟨⟨e0.mod, S.kind, rfl, rfl, Nat.le_refl _, fun y z c h1 h2 => ?_, fun y hy => ?_, fun y c _ h => ?_, fun _ => hd, Around.frames_deeper e0.frames, .inr ⟨rfl, rfl⟩, fun b z => absurd z (noA b), e0.bs, e0.bsz, fun b _ _ => noA b, fun b z => absurd z (noA b), e0.funs, e0.frf⟩,
  rfl, e0.bare, Un.kept hk, ⟨_, x.toInCall.ns, fun i y v h1 h2 h3 => ?_⟩, fun y c h => ⟨_, x.cell y c h⟩, e0.hok.fresh (Nat.le_refl _), fun y c h => ?_, fun p hp => absurd (show p ∈ ([] : List (Addr × Obj)) from hp) (by simp), e0.hok.kept hk, ?_⟩
 ·exact name_of_addr x.apart (PySem.mem_of_lookup h1) (PySem.mem_of_lookup h2)
 ·have hy : scope.names.lookup y = some .cell ∨ scope.names.lookup y = some .free := hy
  rcases hy with hy | hy
  ·exact cell_has hy
  ·exact absurd rfl (S.nofree _ (PySem.mem_of_lookup hy))
 ·exact Nat.le_of_lt (x.above y c (PySem.mem_of_lookup h))
 ·have hi : i < vs.length := by
   unfold start at h2
   by_cases hi : i < vs.length
   ·exact hi
   ·rw [List.getElem?_append_right (by simpa using hi)] at h2
    rw [List.getElem?_replicate] at h2
    split at h2 <;> cases h2
  have ha : vs[i]? = some v := by
   unfold start at h2
   rw [List.getElem?_append_left (by simpa using hi), List.getElem?_map] at h2
   cases e : vs[i]? with
   | none => rw [e] at h2; cases h2
   | some a => rw [e] at h2; cases h2; rfl
  obtain ⟨u, hu, rv⟩ := r.get ha
  have hp : ps[i]? = some y := by
   rw [← S.pre, List.getElem?_take_of_lt (by omega)]; exact h1
  have ndP : ps.Nodup := by rw [← S.pre]; exact S.nd.sublist (List.take_sublist _ _)
  refine ⟨u, rv, ?_⟩
  rcases S.par y (List.mem_of_getElem? hp) with k | k
  ·exact .inl ⟨k, bindL_get ndP hp hu k⟩
  ·obtain ⟨c, e⟩ := cell_has (n := s.heap.objs.size + 1) k
   refine .inr ⟨.inl k, c, e, ?_⟩
   have q := x.cell y c e
   rw [bindC_get ndP hp hu (by show scope.names.lookup y ≠ _; rw [k]; decide)] at q
   exact q
 ·exact e0.hok.fresh (Nat.le_of_lt (x.above y c (PySem.mem_of_lookup h)))
 ·unfold start
  show _ = N.length
  rw [List.length_append, List.length_map, List.length_replicate]
  omega
theorem fn_of {CX : CXT} {P : Program} {w : World} {K : PySem.W.Frag} {mg : Str → Option Value} {base : Heap} {k : Nat} {f : Addr} {name qual : Str} {params : Arguments} {body : List Stmt} {scope : Scope} {dV kV doc pm cdv ct oc : Value} {an od : Option Addr}
  {osl : Array (Option Value)} {N ps : List Str} {sp : Sp} (lk : K.lookup f = some ⟨oc, od, .func (PySem.W.fnOf name qual params body scope dV kV doc pm an cdv ct), osl⟩) (hcd : PySem.W.codeIn K cdv qual = true) (S : FnScope N ps scope)
  (len : ∀ vs H Q E, sp vs H Q E → vs.length = ps.length)
  (hbody : ∀ (A : Around) (outer : List Env) (s : Shared) (H : Hp) (vs : List V) (Q : VK) (E : XK), Room k (A.deeper (envOfC qual scope s.heap.objs.size f cdv)) → sp vs H Q E →
   ∃ t, PSs (cxOf CX P w K mg base N qual scope f cdv A outer s H E) body t ∧ t { nx := fun _ H' => Q .non H', rt := Q } (start N vs) H) :
  FnOk P w K mg base CX (k + 1) f (PySem.W.fnOf name qual params body scope dV kV doc pm an cdv ct) ps sp := by
 refine ⟨len, fun A outer s H args us vs Q E hr e0 hb r hsp => ?_⟩
 have hl := len _ _ _ _ hsp
 have KX : K.In s.heap := e0.mod.kin.keeps fun b o e => (e0.bs b o e).1
 have lim : s.heap.NoLimit := e0.mod.nolimit.keeps fun b o e => (e0.bs b o e).1
 have hkind : ∀ y ∈ ps.zip us, scope.names.lookup y.1 = some .local ∨ (scope.names.lookup y.1 = some .cell ∧ ((cellsFrom (s.heap.objs.size + 1) scope.names []).lookup y.1).isSome = true) := fun ⟨n, v⟩ hy => by
  rcases S.par n (List.of_mem_zip hy).1 with q | q
  ·exact .inl q
  ·exact .inr ⟨q, PySem.W.cellsFrom_some _ _ _ (.inl q)⟩
 refine codeAny_call_function hr.depth (KX _ _ lk) rfl S.co S.gen rfl (PySem.W.codeRec_of KX hcd) (hb _ _ _ _ ?_)
 refine wpAny_newFunctionEnv_cells S.kind hkind fun env he s1 x => ?_
 subst he
 refine ⟨lim.keeps x.toInCall.keep, codeAny_func ?_⟩
 obtain ⟨t, ht, hq⟩ := hbody A outer s H vs Q E (hr.deeper _) hsp
 have I : Inv (cxOf CX P w K mg base N qual scope f cdv A outer s H E) [] (start N vs) H s1 := inv_start S hr.hd e0 hl r x
 refine wpAny_mono (ht [] s1 (start N vs) H _ I hq) (fun fl s' hs => ?_) fun e s' hs => hs
 have fin : ∀ {σ' : St} {H' : Hp} {v : V} {u : Value}, Inv (cxOf CX P w K mg base N qual scope f cdv A outer s H E) [] σ' H' s' → RelV v u → Q v H' → CE outer P w H s Q u s' :=
  fun {σ' H' v u} J rv q => ⟨v, H', J.os, J.bare, J.base, J.hok, rv, q⟩
 cases fl with
 | ret u =>
  obtain ⟨v, σ', H', J, rv, q⟩ := hs
  exact fin J rv q
 | next =>
  obtain ⟨σ', H', J, q⟩ := hs
  exact fin (v := V.non) (u := Value.none) J rfl q
 | brk =>
  obtain ⟨_, _, _, q⟩ := hs
  exact False.elim q
 | cont =>
  obtain ⟨_, _, _, q⟩ := hs
  exact False.elim q
end L2
namespace L2
open PySem PySem.Spec PyProof.Rows
section
variable {X : Cx} {x : Str} {p pos : Pos} {e : Expr} {es : List Expr} {t : TA} {id T : String} {r : List V → Hp → VK → Prop}
def tCB (r : List V → Hp → VK → Prop) (t : TA) : TE := fun σ H Q => t σ H fun vs H1 => r vs H1 Q
theorem pe_callB (hc : CallR X (.builtin id) r) (hg : Gl X x) (hm : X.mg x = none) (hv : bootBuiltins x = some (.builtin id)) (ha : PA X (e :: es) t) (hn : x ≠ "__name__" := by decide) (hdb : (x == ("__debug__" : Str)) = false := by decide)
  (he : starEach (e :: es) X.env = (false, eval e X.env) :: starEach es X.env := by rfl) (hpl : (backTo pos (starEach es X.env)).any (·.1) = false := by rfl) : PE X (.Call (.Name x p) (e :: es) [] pos) (tCB r t) := by
 intro pins s σ H Q I h
 refine wpAny_Call_Name_kw (ld_blt I hg hm hv ?_ hn hdb)
 exact PyProof.Rows.callWith_builtin1 (thn (ha pos pins s σ H _ I h) fun us s1 ⟨vs, H1, I1, r1, q1⟩ => hc pins s1 σ H1 vs us Q I1 r1 q1) he hpl
theorem pe_callTy (hc : CallR X (.type T) r) (hg : Gl X x) (hm : X.mg x = none) (hv : bootBuiltins x = some (.type T)) (ha : PA X (e :: es) t) (hn : x ≠ "__name__" := by decide) (hdb : (x == ("__debug__" : Str)) = false := by decide)
  (he : starEach (e :: es) X.env = (false, eval e X.env) :: starEach es X.env := by rfl) (hpl : (backTo pos (starEach es X.env)).any (·.1) = false := by rfl) : PE X (.Call (.Name x p) (e :: es) [] pos) (tCB r t) := by
 intro pins s σ H Q I h
 refine wpAny_Call_Name_kw (ld_blt I hg hm hv ?_ hn hdb)
 exact PyProof.Rows.callWith_type1 (thn (ha pos pins s σ H _ I h) fun us s1 ⟨vs, H1, I1, r1, q1⟩ => hc pins s1 σ H1 vs us Q I1 r1 q1) he hpl
end
end L2
namespace HT
open PySem PyProof.Rows
section
variable {prog : Program} {w : World} {A : Around} {E : Value → Shared → Prop} {s : Shared}
theorem cat_tup {t b : Addr} {vs ws : List Value} {Q : Value → Shared → Prop} (ht : IsTup s.heap t vs.toArray) (hb : IsTup s.heap b ws.toArray) (hv : vs ≠ [])
  (h1 : ws = [] → Q (.ref t) s) (h2 : ws ≠ [] → Q (.ref s.heap.objs.size) { s with heap := s.heap.push { cls := .type "tuple", data := .seq (vs ++ ws).toArray } })
  (hsz : vs.length + ws.length ≤ sizeLine) : wpAny (model prog w) A (binaryOp .Add (.ref t) (.ref b)) Q E s := by
 obtain ⟨⟨cls, dd, data, sl⟩, ho, hc, n, hd⟩ := id ht
 obtain ⟨⟨cls2, dd2, data2, sl2⟩, ho2, hc2, n2, hd2⟩ := id hb
 simp only at hc hd hc2 hd2
 subst hc hd hc2 hd2
 have e : vs.toArray ++ ws.toArray = (vs ++ ws).toArray := by simp
 by_cases hw : ws = []
 ·exact concat_meets ⟨_, ho, rfl⟩ ⟨_, ho2, rfl⟩ noFill_tuple_add seq_tuple_add PySem.F.slot_tuple_add PySem.F.entry_tuple_add (PySem.F.args_tuple_add_2 _ _)
   (tuple_addW1 t b vs.toArray ws.toArray n n2 dd dd2 sl sl2 (by simpa using hv) (by simp [hw])) ⟨ho, ho2, h1 hw⟩
 ·refine concat_meets ⟨_, ho, rfl⟩ ⟨_, ho2, rfl⟩ noFill_tuple_add seq_tuple_add PySem.F.slot_tuple_add PySem.F.entry_tuple_add (PySem.F.args_tuple_add_2 _ _)
   (tuple_addW2 t b vs.toArray ws.toArray n n2 dd dd2 sl sl2 (by simpa using hv) (by simpa using hw) (by rw [List.size_toArray, List.size_toArray]; exact hsz)) ⟨ho, ho2, ?_⟩
  rw [e]
  exact h2 hw
def sIx (n d : Nat) : Option Int → Nat
 | none => d
 | some v => if v < 0 then (v + (n : Int)).toNat else min v.toNat n
theorem sIx_none (n d : Nat) : sIx n d none = d := rfl
end
end HT
namespace L2
open PySem PySem.Spec PyProof.Rows
abbrev TO := St → Hp → (Option Int → Hp → Prop) → Prop
def PO (X : Cx) (e : Option Expr) (t : TO) : Prop :=
 ∀ (pins : List (Addr × Obj)) (s : Shared) (σ : St) (H : Hp) (Q : Option Int → Hp → Prop), Inv X pins σ H s → t σ H Q →
  wpAny (model X.prog X.w) X.A (evalPart e X.env) (fun u s' => ∃ o H', Inv X pins σ H' s' ∧ IsPart u o ∧ Q o H') X.xe s
def tNoPart : TO := fun _ H Q => Q none H
def tPart (t : TE) : TO := fun σ H Q => t σ H fun x H1 => ∃ i, x = .int i ∧ Q (some i) H1
section
variable {X : Cx} {e : Expr} {te : TE} {lo hi : Option Expr} {tl th : TO} {pos p2 : Pos}
theorem po_none : PO X none tNoPart := by
 intro pins s σ H Q I h
 rw [evalPart_none]
 exact wpAny_pure ⟨none, H, I, .none, h⟩
theorem po_some (h : PE X e te) : PO X (some e) (tPart te) := by
 intro pins s σ H Q I hw
 rw [evalPart_some]
 refine thn (h pins s σ H _ I hw) fun u s1 ⟨x, H1, I1, r1, q1⟩ => ?_
 obtain ⟨i, rfl, q⟩ := q1
 obtain ⟨t, rfl⟩ := r1
 exact ⟨some i, H1, I1, .int i t, q⟩
def SlR (X : Cx) (r : V → Option Int → Option Int → Hp → VK → Prop) : Prop :=
 ∀ (pins : List (Addr × Obj)) (s : Shared) (σ : St) (H : Hp) (x : V) (v vl vu : Value) (lo hi : Option Int) (sl : Addr) (Q : VK), Inv X pins σ H s → RelV x v → s.heap.IsSliceOf sl vl vu .none → IsPart vl lo → IsPart vu hi → r x lo hi H Q →
  ∃ T id, typeLookup (.type T) "__getitem__" = pure (some (.builtin id)) ∧ s.TypeIs v T ∧ wpAny (model X.prog X.w) X.A (getItem v (.ref sl)) (EP X pins σ Q) X.xe s
def tSl (r : V → Option Int → Option Int → Hp → VK → Prop) (te : TE) (tl th : TO) : TE := fun σ H Q => te σ H fun x H1 => tl σ H1 fun l H2 => th σ H2 fun u H3 => r x l u H3 Q
theorem pe_slice {r : V → Option Int → Option Int → Hp → VK → Prop} (hr : SlR X r) (he : PE X e te) (hl : PO X lo tl) (hu : PO X hi th) : PE X (.Subscript e (.Slice lo hi none p2) pos) (tSl r te tl th) := by
 intro pins s σ H Q I h
 refine Subscript_ (thn (he pins s σ H _ I h) fun v s1 ⟨x, H1, I1, r1, q1⟩ => ?_)
 refine wpAny_Slice (thn (hl pins s1 σ H1 _ I1 q1) fun vl s2 ⟨l, H2, I2, pl, q2⟩ => thn (hu pins s2 σ H2 _ I2 q2) fun vu s3 ⟨u, H3, I3, pu, q3⟩ => ?_)
 rw [evalPart_none]
 refine wpAny_pure ?_
 have I4 : Inv X pins σ H3 { s3 with heap := s3.heap.push { cls := .type "slice", data := .fields #[vl, vu, .none] } } := I3.kept (t' := s3.toks) fun b ob q => Heap.get?_push_of_some _ q
 obtain ⟨T, id, hT, ht, hg⟩ := hr pins { s3 with heap := s3.heap.push { cls := .type "slice", data := .fields #[vl, vu, .none] } } σ H3 x v vl vu l u s3.heap.objs.size Q I4 r1 (Heap.IsSliceOf.new ..) pl pu q3
 show wpAny (model X.prog X.w) X.A (subscriptTail e (.Slice lo hi none p2) v (.ref s3.heap.objs.size)) (EP X pins σ Q) X.xe { s3 with heap := s3.heap.push { cls := .type "slice", data := .fields #[vl, vu, .none] } }
 exact tail_any (ops := [.ref s3.heap.objs.size, v]) ht hT hg (by with_unfolding_all rfl)
def cutV (xs : List V) (lo hi : Option Int) : List V := (xs.drop (HT.sIx xs.length 0 lo)).take (HT.sIx xs.length xs.length hi - HT.sIx xs.length 0 lo)
theorem cutV_length (xs : List V) (lo hi : Option Int) : (cutV xs lo hi).length ≤ xs.length := by
 unfold cutV
 rw [List.length_take, List.length_drop]
 omega
def rCatT (K : PySem.W.Frag) : R2 := fun x y H Q => ∃ a b xs ys, x = .ref a ∧ y = .ref b ∧ SqT K H a xs ∧ SqT K H b ys ∧ xs ≠ [] ∧ xs.length + ys.length ≤ sizeLine ∧
 (ys = [] → Q (.ref a) H) ∧ (ys ≠ [] → ∀ p, H p = none → Q (.ref p) (upd H p (.tup (xs ++ ys))))
theorem Vals.nil_iff {xs : List V} {us : List Value} (r : Vals xs us) : us = [] ↔ xs = [] := by
 cases r with
 | nil => simp
 | cons _ _ => simp
theorem op_catT : OpR X (binaryOp .Add) (rCatT X.K) := by
 intro pins s σ H x y v u Q I rx ry h
 obtain ⟨a, b, xs, ys, rfl, rfl, ha, hb, hx, hz, q1, q2⟩ := h
 cases rx
 cases ry
 obtain ⟨its, r1, p1, _⟩ := I.tuple ha
 obtain ⟨its2, r2, p2, _⟩ := I.tuple hb
 refine HT.cat_tup p1 p2 (fun z => hx (r1.nil_iff.mp z)) (fun z => ⟨.ref a, H, I, rfl, q1 (r2.nil_iff.mp z)⟩) (fun z => ?_) (by rw [← r1.length, ← r2.length]; exact hz)
 refine ⟨.ref s.heap.objs.size, _, I.laid (t' := s.toks) (o := .tup (xs ++ ys)) (fun b ob q => Heap.get?_push_of_some _ q) (Nat.le_refl _) ?_, rfl, q2 (fun w => z (r2.nil_iff.mpr w)) _ (I.hok.fresh (Nat.le_refl _))⟩
 exact ⟨by rw [List.length_append]; exact hz, _, r1.append r2, IsTupN.new _ _⟩
end
end L2
namespace L2
open PySem PySem.Spec PyProof.Rows
def ixN (n : Nat) (i : Int) : Option Nat := if 0 ≤ i then (if i < n then some i.toNat else none) else if -(n : Int) ≤ i then some (i + n).toNat else none
def atI {α : Type} (xs : List α) (i : Int) : Option α := (ixN xs.length i).bind fun j => xs[j]?
theorem ixN_seq {n : Nat} {i : Int} {j : Nat} (h : ixN n i = some j) : seqIndex? i n = some j ∧ j < n ∧ -(n : Int) ≤ i ∧ i < n := by
 unfold ixN at h
 by_cases h0 : 0 ≤ i
 ·rw [if_pos h0] at h
  by_cases h1 : i < n
  ·rw [if_pos h1] at h
   have e : i.toNat = j := Option.some.inj h
   exact ⟨by rw [seqIndex_of h0 h1, e], by omega, by omega, h1⟩
  ·rw [if_neg h1] at h; cases h
 ·rw [if_neg h0] at h
  by_cases h1 : -(n : Int) ≤ i
  ·rw [if_pos h1] at h
   have e : (i + n).toNat = j := Option.some.inj h
   exact ⟨by rw [seqIndex_neg (by omega) h1, e], by omega, h1, by omega⟩
  ·rw [if_neg h1] at h; cases h
theorem atI_get {α : Type} {xs : List α} {i : Int} {v : α} (h : atI xs i = some v) : ∃ j, seqIndex? i xs.length = some j ∧ xs[j]? = some v ∧ j < xs.length ∧ -(xs.length : Int) ≤ i ∧ i < xs.length := by
 unfold atI at h
 cases e : ixN xs.length i with
 | none => rw [e] at h; cases h
 | some j =>
  rw [e] at h
  obtain ⟨h1, h2, h3, h4⟩ := ixN_seq e
  exact ⟨j, h1, h, h2, h3, h4⟩
def PlainIx (b : Expr) : Prop := ∀ o i, subscripted b false o i = operate [o, i] (getItem o i)
def IxR (X : Cx) (r : R2) : Prop :=
 ∀ (value slice : Expr) (pins : List (Addr × Obj)) (s : Shared) (σ : St) (H : Hp) (x y : V) (v u : Value) (Q : VK), Inv X pins σ H s → RelV x v → RelV y u → r x y H Q →
  subscripted slice false v u = operate [v, u] (getItem v u) → wpAny (model X.prog X.w) X.A (subscriptTail value slice v u) (EP X pins σ Q) X.xe s
def MtR (X : Cx) (id : String) (r : V → List V → Hp → VK → Prop) : Prop :=
 ∀ (pins : List (Addr × Obj)) (s : Shared) (σ : St) (H : Hp) (x : V) (xs : List V) (v : Value) (us : List Value) (Q : VK), Inv X pins σ H s → RelV x v → Vals xs us → r x xs H Q →
  wpAny (model X.prog X.w) X.A (call (.builtin id) (v :: us)) (EP X pins σ Q) X.xe s
section
variable {X : Cx} {a b : Expr} {ta tb : TE} {pos : Pos}
theorem IxR.or {r r' : R2} (h : IxR X r) (h' : IxR X r') : IxR X (fun x y H Q => r x y H Q ∨ r' x y H Q) := by
 intro value slice pins s σ H x y v u Q I rx ry q hs
 rcases q with q | q
 ·exact h value slice pins s σ H x y v u Q I rx ry q hs
 ·exact h' value slice pins s σ H x y v u Q I rx ry q hs
theorem pe_ix {r : R2} (hr : IxR X r) (ha : PE X a ta) (hb : PE X b tb) (hs : PlainIx b) : PE X (.Subscript a b pos) (tOp r ta tb) := by
 intro pins s σ H Q I h
 exact Subscript_ (binT ha hb I h fun v u s2 x y H2 I2 rx ry q => hr a b pins s2 σ H2 x y v u Q I2 rx ry q (hs _ _))
inductive IIx (S : Hp → Addr → List V → Prop) (x y : V) (H : Hp) (Q : VK) : Prop
 | mk (p : Addr) (xs : List V) (i : Int) (v : V) (h : x = .ref p) (h' : y = .int i) (s : S H p xs) (a : atI xs i = some v) (q : Q v H) : IIx S x y H Q
def rIxL (K : PySem.W.Frag) : R2 := IIx (SqL K)
def rIxT (K : PySem.W.Frag) : R2 := IIx (SqT K)
def rIxS : R2 := fun x y H Q => ∃ z i c, x = .str z ∧ y = .int i ∧ z.length ≤ sizeLine ∧ atI z.cps.toList i = some c ∧ Q (.str ⟨#[c]⟩) H
theorem ix_list : IxR X (rIxL X.K) := by
 intro value slice pins s σ H x y v u Q I rx ry h hs
 obtain ⟨p, xs, i, z, rfl, rfl, hq, he, q⟩ := h
 cases rx
 obtain ⟨t, rfl⟩ := ry
 obtain ⟨its, r, pl, hz⟩ := I.list hq
 obtain ⟨j, h1, h2, h3, h4, h5⟩ := atI_get he
 obtain ⟨w, ew, rw'⟩ := r.get h2
 have hl := r.length
 have hn := line63
 have fin : EP X pins σ Q w s := ⟨z, H, I, rw', q⟩
 by_cases h0 : 0 ≤ i
 ·have hj : i.toNat = j := by
   rw [seqIndex_of h0 h5] at h1
   exact Option.some.inj h1
  exact item_listR pl.isList h0 (by omega) (by rw [hj]; simpa using ew) fin hs
 ·have hj : (i + (its.toArray.size : Int)).toNat = j := by
   rw [seqIndex_neg (by omega) h4] at h1
   rw [List.size_toArray, ← hl]
   exact Option.some.inj h1
  exact subscriptTail_builtinR (x := w) pl.isList.typeIs slot_list_getitem.lookup
   (wpAny_getItem_list_neg (Q := fun r s' => r = w ∧ EP X pins σ Q r s') pl.isList (by omega) (by rw [List.size_toArray] <;> omega) (by omega) (by rw [hj]; simpa using ew) ⟨rfl, fin⟩) hs
theorem ix_tup : IxR X (rIxT X.K) := by
 intro value slice pins s σ H x y v u Q I rx ry h hs
 obtain ⟨p, xs, i, z, rfl, rfl, hq, he, q⟩ := h
 cases rx
 obtain ⟨t, rfl⟩ := ry
 obtain ⟨its, r, pl, hz⟩ := I.tuple hq
 obtain ⟨j, h1, h2, h3, h4, h5⟩ := atI_get he
 obtain ⟨w, ew, rw'⟩ := r.get h2
 have hl := r.length
 have hn := line63
 have fin : EP X pins σ Q w s := ⟨z, H, I, rw', q⟩
 exact subscriptTail_builtinR (x := w) pl.typeIs slot_tuple_getitem.lookup
  (getItem_tuple (j := j) (Q := fun r s' => r = w ∧ EP X pins σ Q r s') pl (by omega) (by omega) (by rw [List.size_toArray, ← hl]; exact h1) (by simpa using ew) ⟨rfl, fin⟩) hs
theorem ix_str : IxR X rIxS := by
 intro value slice pins s σ H x y v u Q I rx ry h hs
 obtain ⟨z, i, c, rfl, rfl, hz, he, q⟩ := h
 obtain ⟨t, rfl⟩ := rx
 obtain ⟨t', rfl⟩ := ry
 obtain ⟨j, h1, h2, h3, h4, h5⟩ := atI_get he
 have hl : z.cps.toList.length = z.length := by simp [Str.length]
 rw [hl] at h1 h4 h5
 have hn := line63
 exact tail_any (typeIs_str s z t) slot_str_getitem.lookup (getItem_str (c := c) (by
  have e1 : decide (i < -(2 ^ 63 : Int)) = false := decide_eq_false (by omega)
  have e2 : decide (i ≥ 2 ^ 63) = false := decide_eq_false (by omega)
  rw [e1, e2, Bool.or_false]) (by rw [h1]; simpa using h2) ⟨.str ⟨#[c]⟩, H, I.tok _, ⟨_, rfl⟩, q⟩) hs
def rIx (K : PySem.W.Frag) : R2 := fun x y H Q => rIxL K x y H Q ∨ rIxT K x y H Q ∨ rIxS x y H Q
theorem ix_seq : IxR X (rIx X.K) := ix_list.or (ix_tup.or ix_str)
theorem mapSeq_set (its : List Value) (n j : Nat) (u : Value) : Obj.mapSeq (·.setIfInBounds j u) { cls := .type "list", data := .seq its.toArray n } = { cls := .type "list", data := .seq (its.set j u).toArray n } := by
 simp [Obj.mapSeq]
theorem Inv.lst {pins : List (Addr × Obj)} {σ : St} {H : Hp} {s : Shared} {p : Addr} {xs : List V} (I : Inv X pins σ H s) (h : H p = some (.lst xs)) :
  ∃ (its : List Value) (n : Nat), Vals xs its ∧ s.heap.get? p = some { cls := .type "list", data := .seq its.toArray n } ∧ xs.length ≤ sizeLine := by
 obtain ⟨z, its, n, r, e⟩ := I.hok p _ h
 exact ⟨its, n, r, e, z⟩
theorem Inv.lstUpd {pins : List (Addr × Obj)} {σ : St} {H : Hp} {s : Shared} {p : Addr} {xs ys : List V} {its its' : List Value} {n n' : Nat} {f : Obj → Obj} (I : Inv X pins σ H s) (h : H p = some (.lst xs))
  (ho : s.heap.get? p = some { cls := .type "list", data := .seq its.toArray n }) (hf : f { cls := .type "list", data := .seq its.toArray n } = { cls := .type "list", data := .seq its'.toArray n' }) (r : Vals ys its') (hz : ys.length ≤ sizeLine) (t : Nat) :
  Inv X pins σ (upd H p (.lst ys)) { s with heap := s.heap.update p f, toks := t } := by
 have e : (s.heap.update p f).get? p = some { cls := .type "list", data := .seq its'.toArray n' } := by
  rw [Heap.get?_update_self f ho (by rw [hf] <;> rfl), hf]
 refine I.write (x := p) (e := p) (by rw [h]; trivial) (.inl rfl) (fun b u hb q => (Heap.get?_update_other _ _ (Ne.symm hb)).trans q) ⟨_, e⟩ ?_
 exact ⟨hz, its', n', r, e⟩
def rSetL : V → V → V → Hp → (Hp → Prop) → Prop := fun o i v H Q => ∃ p xs k j, o = .ref p ∧ i = .int k ∧ H p = some (.lst xs) ∧ ixN xs.length k = some j ∧ Q (upd H p (.lst (xs.set j v)))
theorem set_list : PSet X rSetL := by
 intro pins s σ H o i v ov iv u Q I ro ri rv h
 obtain ⟨p, xs, k, j, rfl, rfl, hp, hj, q⟩ := h
 cases ro
 obtain ⟨t, rfl⟩ := ri
 obtain ⟨its, n, r, ho, hz⟩ := I.lst hp
 obtain ⟨h1, h2, h3, h4⟩ := ixN_seq hj
 have hl := r.length
 have hn := line63
 have I' : Inv X pins σ (upd H p (.lst (xs.set j v))) { s with heap := s.heap.update p (Obj.mapSeq (·.setIfInBounds j u)) } :=
  I.lstUpd hp ho (mapSeq_set its n j u) (r.set rv j) (by rw [List.length_set]; exact hz) s.toks
 by_cases h0 : 0 ≤ k
 ·have hk : k.toNat = j := by
   rw [seqIndex_of h0 h4] at h1
   exact Option.some.inj h1
  exact PySem.W.ki_setAt ho h0 (by omega) (by rw [List.size_toArray, ← hl]; exact h4) (by rw [hk]; exact ⟨_, I', q⟩)
 ·have hk : (k + (its.toArray.size : Int)).toNat = j := by
   rw [seqIndex_neg (by omega) h3] at h1
   rw [List.size_toArray, ← hl]
   exact Option.some.inj h1
  exact PySem.W.ki_setBack ho (by omega) (by rw [List.size_toArray, ← hl]; exact h3) (by omega) (by rw [hk]; exact ⟨_, I', q⟩)
theorem slice_bounds (lo hi : Option Int) (n : Nat) : (sliceBounds lo hi none n).1 = ((HT.sIx n 0 lo : Nat) : Int) ∧ (sliceBounds lo hi none n).2.1 = ((HT.sIx n n hi : Nat) : Int) ∧ (sliceBounds lo hi none n).2.2 = 1 := by
 refine ⟨?_, ?_, rfl⟩
 ·cases lo with
  | none => simp [sliceBounds, HT.sIx]
  | some i =>
   simp only [sliceBounds, HT.sIx, Option.getD_none, show (1 : Int) > 0 by decide, if_true]
   by_cases h : i < 0
   ·simp only [h, if_true] <;> omega
   ·simp only [h, if_false] <;> omega
 ·cases hi with
  | none => simp [sliceBounds, HT.sIx]
  | some i =>
   simp only [sliceBounds, HT.sIx, Option.getD_none, show (1 : Int) > 0 by decide, if_true]
   by_cases h : i < 0
   ·simp only [h, if_true] <;> omega
   ·simp only [h, if_false] <;> omega
theorem slicePick_cut (its : List Value) (lo hi : Option Int) : slicePick its.toArray lo hi none = ((its.drop (HT.sIx its.length 0 lo)).take (HT.sIx its.length its.length hi - HT.sIx its.length 0 lo)).toArray := by
 obtain ⟨h1, h2, h3⟩ := slice_bounds lo hi its.toArray.size
 unfold slicePick
 rw [h1, h2, h3]
 simp only [sliceRange_one, pick_run, List.size_toArray] <;> rfl
def rSlL (K : PySem.W.Frag) : V → Option Int → Option Int → Hp → VK → Prop := fun x lo hi H Q => ∃ a xs, x = .ref a ∧ SqL K H a xs ∧ ∀ p, H p = none → Q (.ref p) (upd H p (.lst (cutV xs lo hi)))
theorem sl_list : SlR X (rSlL X.K) := by
 intro pins s σ H x v vl vu lo hi sl Q I rx hs pl pu h
 obtain ⟨a, xs, rfl, hx, q⟩ := h
 cases rx
 obtain ⟨its, r, ht, hz⟩ := I.list hx
 have hlen := r.length
 refine ⟨"list", _, slot_list_getitem.lookup, ht.isList.typeIs, ?_⟩
 refine wpAny_getItem_list_slice ht.isList hs pl pu .none (by simp) ?_ (by rw [List.size_toArray] <;> omega)
 rw [slicePick_cut, ← hlen]
 refine ⟨.ref s.heap.objs.size, _, I.laid (t' := s.toks) (o := .lst (cutV xs lo hi)) (fun b ob q => Heap.get?_push_of_some _ q) (Nat.le_refl _) ?_, rfl, q _ (I.hok.fresh (Nat.le_refl _))⟩
 exact ⟨Nat.le_trans (cutV_length xs lo hi) hz, _, 0, (r.drop (HT.sIx xs.length 0 lo)).take (HT.sIx xs.length xs.length hi - HT.sIx xs.length 0 lo), Heap.get?_push_size _ rfl⟩
def flatV : V → Bool
 | .non => true
 | .bl _ => true
 | .int _ => true
 | .str _ => true
 | _ => false
def eqV : V → V → Bool
 | .non, .non => true
 | .bl a, .bl b => a == b
 | .bl a, .int b => (if a then 1 else 0) == b
 | .int a, .bl b => a == (if b then 1 else 0)
 | .int a, .int b => a == b
 | .str a, .str b => a == b
 | _, _ => false
theorem eqAt_V {A : Around} {s : Shared} {y x : V} {u v : Value} (ry : RelV y u) (rx : RelV x v) (fy : flatV y = true) (fx : flatV x = true) : SeqAt.EqAt A s u v (eqV y x) := by
 cases y with
 | non =>
  cases ry
  cases x with
  | non => cases rx; exact SeqAt.EqAt.same _
  | bl b => cases rx; exact SeqAt.EqAt.none_bool b
  | int b => obtain ⟨t, rfl⟩ := rx; exact SeqAt.EqAt.none_int b t
  | str b => obtain ⟨t, rfl⟩ := rx; exact SeqAt.EqAt.none_str b t
  | _ => exact absurd (show false = true from fx) Bool.false_ne_true
 | bl a =>
  cases ry
  cases x with
  | non => cases rx; exact SeqAt.EqAt.bool_none a
  | bl b => cases rx; exact SeqAt.EqAt.bool_bool a b
  | int b => obtain ⟨t, rfl⟩ := rx; exact SeqAt.EqAt.bool_int a b t
  | str b => obtain ⟨t, rfl⟩ := rx; exact SeqAt.EqAt.bool_str a b t
  | _ => exact absurd (show false = true from fx) Bool.false_ne_true
 | int a =>
  obtain ⟨t', rfl⟩ := ry
  cases x with
  | non => cases rx; exact SeqAt.EqAt.int_none a t'
  | bl b => cases rx; exact SeqAt.EqAt.int_bool a t' b
  | int b => obtain ⟨t, rfl⟩ := rx; exact SeqAt.EqAt.int_int a t' b t
  | str b => obtain ⟨t, rfl⟩ := rx; exact SeqAt.EqAt.int_str a t' b t
  | _ => exact absurd (show false = true from fx) Bool.false_ne_true
 | str a =>
  obtain ⟨t', rfl⟩ := ry
  cases x with
  | non => cases rx; exact SeqAt.EqAt.str_none a t'
  | bl b => cases rx; exact SeqAt.EqAt.str_bool a t' b
  | int b => obtain ⟨t, rfl⟩ := rx; exact SeqAt.EqAt.str_int a t' b t
  | str b => obtain ⟨t, rfl⟩ := rx; exact SeqAt.EqAt.str_str a t' b t
  | _ => exact absurd (show false = true from fx) Bool.false_ne_true
 | _ => exact absurd (show false = true from fy) Bool.false_ne_true
def eqU (x : V) (u : Value) : Bool := match u with
 | .none => eqV .non x
 | .bool b => eqV (.bl b) x
 | .int i _ => eqV (.int i) x
 | .str z _ => eqV (.str z) x
 | _ => false
theorem eqU_of {x y : V} {u : Value} (r : RelV y u) (f : flatV y = true) : eqU x u = eqV y x := by
 cases y with
 | non => cases r; rfl
 | bl b => cases r; rfl
 | int i => obtain ⟨t, rfl⟩ := r; rfl
 | str z => obtain ⟨t, rfl⟩ := r; rfl
 | _ => exact absurd (show false = true from f) Bool.false_ne_true
theorem any_eqU {x : V} : ∀ {xs : List V} {us : List Value}, Vals xs us → xs.all flatV = true → us.any (eqU x) = xs.any fun y => eqV y x
 | _, _, .nil, _ => rfl
 | y :: xs, u :: us, .cons r t, f => by
  rw [List.all_cons, Bool.and_eq_true] at f
  rw [List.any_cons, List.any_cons, eqU_of r f.1, any_eqU t f.2]
theorem mem_eqAt {A : Around} {s : Shared} {x : V} {v : Value} (rx : RelV x v) (fx : flatV x = true) : ∀ {xs : List V} {us : List Value}, Vals xs us → xs.all flatV = true → ∀ u ∈ us, SeqAt.EqAt A s u v (eqU x u)
 | _, _, .nil, _ => fun u hu => by cases hu
 | y :: xs, u :: us, .cons r t, f => fun u' hu => by
  rw [List.all_cons, Bool.and_eq_true] at f
  rcases List.mem_cons.mp hu with rfl | hu
  ·rw [eqU_of r f.1]; exact eqAt_V r rx f.1 fx
  ·exact mem_eqAt rx fx t f.2 u' hu
def inV (x : V) (xs : List V) : Bool := xs.any fun y => eqV y x
def rIn (K : PySem.W.Frag) (neg : Bool) : R2 := fun x y H Q => ∃ p xs, y = .ref p ∧ (SqL K H p xs ∨ SqT K H p xs) ∧ flatV x = true ∧ xs.all flatV = true ∧ Q (.bl (if neg then !inV x xs else inV x xs)) H
theorem op_in_seq : OpR X (compareOp .In) (rIn X.K false) := by
 intro pins s σ H x y v u Q I rx ry h
 obtain ⟨p, xs, rfl, hq, fx, fs, q⟩ := h
 cases ry
 rcases hq with hq | hq
 ·obtain ⟨its, r, pl, hz⟩ := I.list hq
  refine SeqAt.in_listAt (eqU x) pl.isList (fun w hw => mem_eqAt rx fx r fs w (by simpa using hw)) ⟨.bl _, H, I, rfl, ?_⟩
  rw [show its.toArray.any (eqU x) = its.any (eqU x) by simp, any_eqU r fs]
  exact q
 ·obtain ⟨its, r, pl, hz⟩ := I.tuple hq
  refine SeqAt.in_tupleAt (eqU x) pl (fun w hw => mem_eqAt rx fx r fs w (by simpa using hw)) ⟨.bl _, H, I, rfl, ?_⟩
  rw [show its.toArray.any (eqU x) = its.any (eqU x) by simp, any_eqU r fs]
  exact q
theorem op_notIn_seq : OpR X (compareOp .NotIn) (rIn X.K true) := by
 intro pins s σ H x y v u Q I rx ry h
 obtain ⟨p, xs, rfl, hq, fx, fs, q⟩ := h
 cases ry
 rcases hq with hq | hq
 ·obtain ⟨its, r, pl, hz⟩ := I.list hq
  refine SeqAt.notIn_listAt (eqU x) pl.isList (fun w hw => mem_eqAt rx fx r fs w (by simpa using hw)) ⟨.bl _, H, I, rfl, ?_⟩
  rw [show its.toArray.any (eqU x) = its.any (eqU x) by simp, any_eqU r fs]
  exact q
 ·obtain ⟨its, r, pl, hz⟩ := I.tuple hq
  refine SeqAt.notIn_tupleAt (eqU x) pl (fun w hw => mem_eqAt rx fx r fs w (by simpa using hw)) ⟨.bl _, H, I, rfl, ?_⟩
  rw [show its.toArray.any (eqU x) = its.any (eqU x) by simp, any_eqU r fs]
  exact q
theorem call_len_seq : CallR X (.builtin "len") (fun xs H Q => ∃ p ys, xs = [.ref p] ∧ (SqL X.K H p ys ∨ SqT X.K H p ys) ∧ Q (.int ys.length) H) := by
 intro pins s σ H xs us Q I r h
 obtain ⟨p, ys, rfl, hq, q⟩ := h
 obtain ⟨u, rfl, rx⟩ := vals1 r
 cases rx
 have hn := line63
 rcases hq with hq | hq
 ·obtain ⟨its, r', pl, hz⟩ := I.list hq
  have hlen := r'.length
  exact Calls.call_len_list pl.isList (by simp only [List.size_toArray] <;> omega) ⟨.int ys.length, H, I.tok _, ⟨s.toks + 1, by rw [List.size_toArray, hlen]⟩, q⟩
 ·obtain ⟨its, r', pl, hz⟩ := I.tuple hq
  have hlen := r'.length
  exact len_tuple pl (by simp only [List.size_toArray] <;> omega) ⟨.int ys.length, H, I.tok _, ⟨s.toks + 1, by rw [List.size_toArray, hlen]⟩, q⟩
theorem call_len_str : CallR X (.builtin "len") (fun xs H Q => ∃ z, xs = [.str z] ∧ z.length ≤ sizeLine ∧ Q (.int z.length) H) := by
 intro pins s σ H xs us Q I r h
 obtain ⟨z, rfl, hz, q⟩ := h
 obtain ⟨u, rfl, t, rfl⟩ := vals1 r
 have hn := line63
 exact len_str (by omega) ⟨.int z.length, H, I.tok _, ⟨_, rfl⟩, q⟩
theorem CallR.or {f : Value} {r r' : List V → Hp → VK → Prop} (h : CallR X f r) (h' : CallR X f r') : CallR X f (fun xs H Q => r xs H Q ∨ r' xs H Q) := by
 intro pins s σ H xs us Q I rs q
 rcases q with q | q
 ·exact h pins s σ H xs us Q I rs q
 ·exact h' pins s σ H xs us Q I rs q
theorem call_tuple_of : CallR X (.type "tuple") (fun xs H Q => ∃ p ys, xs = [.ref p] ∧ ((SqL X.K H p ys ∧ ∀ l, H l = none → Q (.ref l) (upd H l (.tup ys))) ∨ (SqT X.K H p ys ∧ Q (.ref p) H))) := by
 intro pins s σ H xs us Q I r h
 obtain ⟨p, ys, rfl, h⟩ := h
 obtain ⟨u, rfl, rx⟩ := vals1 r
 cases rx
 rcases h with ⟨hq, q⟩ | ⟨hq, q⟩
 ·obtain ⟨its, r', pl, hz⟩ := I.list hq
  have hlen := r'.length
  refine call_tuple_list pl.isList (fun h' kp => ?_) (by simp only [List.size_toArray] <;> omega)
  have I1 : Inv X pins σ H { s with heap := h' } := I.kept (t' := s.toks) kp
  have I2 : Inv X pins σ (upd H h'.objs.size (.tup ys)) { s with heap := h'.push { cls := .type "tuple", data := .seq its.toArray } } :=
   I1.laid (t' := s.toks) (fun b o e => Heap.get?_push_of_some _ e) (Nat.le_refl _) (show ObjOk X.prog X.w _ _ _ (.tup ys) from ⟨hz, its, r', IsTupN.new _ _⟩)
  exact ⟨.ref h'.objs.size, _, I2, rfl, q _ (I1.hok.fresh (Nat.le_refl _))⟩
 ·obtain ⟨its, r', pl, hz⟩ := I.tuple hq
  exact call_tuple_same pl ⟨.ref p, H, I, rfl, q⟩
def tyV (K : PySem.W.Frag) (T : String) (x : V) (H : Hp) : Prop := match x with
 | .str _ => T = "str"
 | .int _ => T = "int"
 | .ref p => (T = "list" ∧ ∃ xs, SqL K H p xs) ∨ (T = "tuple" ∧ ∃ o, K.lookup p = some o ∧ o.cls = .type "tuple" ∧ o.dict = none) ∨
   (T = "dict" ∧ ((∃ kvs, H p = some (.dK kvs)) ∨ ∃ kvs, H p = some (.dT kvs))) ∨ (T = "set" ∧ ∃ S n, H p = some (.set S n))
 | _ => False
theorem tyV_is {pins : List (Addr × Obj)} {σ : St} {H : Hp} {s : Shared} {T : String} {x : V} {v : Value} (I : Inv X pins σ H s) (r : RelV x v) (ty : tyV X.K T x H) :
  s.TypeIs v T ∧ ∀ a, v = .ref a → ∃ ob, s.heap.get? a = some ob ∧ ob.dict = none := by
 cases x with
 | str z =>
  obtain ⟨t, rfl⟩ := r
  cases (show T = "str" from ty)
  exact ⟨typeIs_str s z t, fun _ e => nomatch e⟩
 | int i =>
  obtain ⟨t, rfl⟩ := r
  cases (show T = "int" from ty)
  exact ⟨typeIs_int s i t, fun _ e => nomatch e⟩
 | ref p =>
  cases r
  rcases ty with ⟨rfl, xs, hq⟩ | ⟨rfl, o, hk, hc, hd⟩ | ⟨rfl, hk⟩ | ⟨rfl, S, n, hk⟩
  ·obtain ⟨its, _, pl, _⟩ := I.list hq
   refine ⟨pl.isList.typeIs, fun a e => ?_⟩
   cases e
   obtain ⟨o, n, e, c, hd, _⟩ := pl
   exact ⟨o, e, hd⟩
  ·refine ⟨⟨o, I.kIn p o hk, hc⟩, fun a e => ?_⟩
   cases e
   exact ⟨o, I.kIn _ o hk, hd⟩
  ·have z : ∃ o, s.heap.get? p = some o ∧ o.ExactDict := by
    rcases hk with ⟨kvs, hk⟩ | ⟨kvs, hk⟩
    ·obtain ⟨_, _, _, _, o, _, _, e, ex, _⟩ := I.hok p _ hk
     exact ⟨o, e, ex⟩
    ·obtain ⟨_, _, _, _, o, _, _, e, ex, _⟩ := I.hok p _ hk
     exact ⟨o, e, ex⟩
   obtain ⟨o, e, ex⟩ := z
   refine ⟨⟨o, e, ex.1⟩, fun a e2 => ?_⟩
   cases e2
   exact ⟨o, e, ex.2.1⟩
  ·obtain ⟨o, _, _, _, e, ex, _⟩ := I.hok p _ hk
   refine ⟨⟨o, e, ex.1⟩, fun a e2 => ?_⟩
   cases e2
   exact ⟨o, e, ex.2.1⟩
 | _ => exact False.elim ty
def tBM0 (K : PySem.W.Frag) (T : String) (r : V → List V → Hp → VK → Prop) (to : TE) : TE := fun σ H Q => to σ H fun x H1 => tyV K T x H1 ∧ r x [] H1 Q
def tBM (K : PySem.W.Frag) (T : String) (r : V → List V → Hp → VK → Prop) (to : TE) (t : TA) : TE := fun σ H Q => to σ H fun x H1 => tyV K T x H1 ∧ t σ H1 fun xs H2 => r x xs H2 Q
variable {o e : Expr} {es : List Expr} {to : TE} {t : TA} {name : Str} {apos cpos : Pos} {T id : String} {r : V → List V → Hp → VK → Prop}
theorem pe_bm0 (pa : PlainAttrs T) (slot : Slot T name id) (hty : typeOf (.builtin id) = pure (.type "method_descriptor")) (hm : MtR X id r) (ho : PE X o to)
  (hbase : attributeBase o name X.env (eval o X.env) = eval o X.env := by rfl) (hline : (apos.endLine == cpos.line) = true := by rfl) : PE X (.Call (.Attribute o name apos) [] [] cpos) (tBM0 X.K T r to) := by
 intro pins s σ H Q I h
 refine wpAny_Call_method0_late hbase hline (thn (ho pins s σ H _ I h) fun v s1 ⟨x, H1, I1, r1, ty, q1⟩ => ?_)
 obtain ⟨h1, h2⟩ := tyV_is I1 r1 ty
 exact ⟨T, id, pa, slot, hty, h1, h2, Calls.callWith_builtin rfl (PySem.evalArgs_none (hm pins s1 σ H1 x [] v [] Q I1 r1 .nil q1))⟩
theorem pe_bm (pa : PlainAttrs T) (slot : Slot T name id) (hty : typeOf (.builtin id) = pure (.type "method_descriptor")) (hm : MtR X id r) (ho : PE X o to) (ha : PA X (e :: es) t)
  (hbase : attributeBase o name X.env (eval o X.env) = eval o X.env := by rfl)
  (hfew : ((backTo cpos (starEach (e :: es) X.env)).all (fun x => !x.1) && (backToKw cpos (keywordEach [] X.env)).all (fun x => x.1.isSome)
   && decide ((e :: es).length + ([] : List Keyword).length + (if ([] : List Keyword).isEmpty then 0 else 1) < 30)) = true := by rfl)
  (hline : (apos.endLine == cpos.line) = true := by rfl) (hs : starEach (e :: es) X.env = (false, eval e X.env) :: starEach es X.env := by rfl) (hplain : (backTo cpos (starEach es X.env)).any (·.1) = false := by rfl) :
  PE X (.Call (.Attribute o name apos) (e :: es) [] cpos) (tBM X.K T r to t) := by
 intro pins s σ H Q I h
 refine wpAny_Call_method_late hbase hfew hline rfl (thn (ho pins s σ H _ I h) fun v s1 ⟨x, H1, I1, r1, ty, q1⟩ => ?_)
 obtain ⟨h1, h2⟩ := tyV_is I1 r1 ty
 refine ⟨T, id, pa, slot, hty, h1, h2, ?_⟩
 have hA := ha cpos pins s1 σ H1 _ I1 q1
 rw [hs] at hA ⊢
 refine Calls.callWith_builtin (by show (false || (backTo cpos (starEach es X.env)).any (·.1)) = false; rw [hplain] <;> rfl) (Calls.evalArgs_plain ?_)
 exact thn hA fun us s2 ⟨vs, H2, I2, r2, q2⟩ => hm pins s2 σ H2 x vs v us Q I2 r1 r2 q2
end
end L2
namespace L2
open PySem PySem.Spec PyProof.Rows
def MtM (X : Cx) (id : String) (r : V → List V → Hp → VK → Prop) : Prop :=
 ∀ (pins : List (Addr × Obj)) (s : Shared) (σ : St) (H : Hp) (x : V) (xs : List V) (v : Value) (us : List Value) (Q : VK), Inv X pins σ H s → RelV x v → Vals xs us → r x xs H Q →
  wpAny (model X.prog X.w) X.A (call (.builtin id) (v :: us)) (EP X pins σ Q) X.xe s
theorem Vals.one : ∀ {x : V} {us : List Value}, Vals [x] us → ∃ u, us = [u] ∧ RelV x u
 | _, _, .cons r .nil => ⟨_, rfl, r⟩
theorem Vals.rep {xs : List V} {us : List Value} (h : Vals xs us) : ∀ k : Nat, Vals (List.replicate k xs).flatten (List.replicate k us).flatten
 | 0 => .nil
 | k + 1 => by
  rw [List.replicate_succ, List.replicate_succ, List.flatten_cons, List.flatten_cons]
  exact Vals.append h (Vals.rep h k)
theorem foldl_rep (its : List Value) : ∀ (k : Nat) (acc : List Value),
  List.foldl (fun x1 x2 => x1 ++ x2) acc.toArray (List.replicate k its.toArray) = (acc ++ (List.replicate k its).flatten).toArray
 | 0, acc => by simp
 | k + 1, acc => by
  have e : acc.toArray ++ its.toArray = (acc ++ its).toArray := by simp
  have e2 : (acc ++ its) ++ (List.replicate k its).flatten = acc ++ (List.replicate (k + 1) its).flatten := by
   rw [List.replicate_succ, List.flatten_cons, List.append_assoc]
  rw [← e2, ← foldl_rep its k (acc ++ its), ← e, List.replicate_succ, List.foldl_cons]
section
variable {X : Cx} {pins : List (Addr × Obj)} {σ : St} {H : Hp} {s : Shared} {l b : Addr} {xs ys zs : List V}
theorem Inv.lset {its its' : List Value} {n : Nat} {f : Array Value → Array Value} {t' : Nat} (I : Inv X pins σ H s) (hH : H l = some (.lst xs))
  (e : s.heap.get? l = some { cls := .type "list", data := .seq its.toArray n }) (hf : f its.toArray = its'.toArray) (hv : Vals ys its') (hz : ys.length ≤ sizeLine) :
  Inv X pins σ (upd H l (.lst ys)) { s with heap := s.heap.update l (Obj.mapSeq f), toks := t' } := by
 have q := PySem.IsL.update e f
 rw [hf] at q
 refine I.write (x := l) (e := l) (by rw [hH]; exact trivial) (.inl rfl) (fun b' u hb hu => (Heap.get?_update_other s.heap (Obj.mapSeq f) (Ne.symm hb)).trans hu) ⟨_, q⟩ ?_
 exact ⟨hz, its', _, hv, q⟩
theorem Inv.lnew {its : List Value} {t' : Nat} (I : Inv X pins σ H s) (hv : Vals ys its) (hz : ys.length ≤ sizeLine) :
  Inv X pins σ (upd H s.heap.objs.size (.lst ys)) { s with heap := s.heap.push { cls := .type "list", data := .seq its.toArray }, toks := t' } :=
 I.laid (fun _ _ q => Heap.get?_push_of_some _ q) (Nat.le_refl _) ⟨hz, its, 0, hv, Heap.get?_push_size _ rfl⟩
theorem Inv.fresh (I : Inv X pins σ H s) : H s.heap.objs.size = none := I.hok.fresh (Nat.le_refl _)
theorem Inv.lstM (I : Inv X pins σ H s) (hH : H l = some (.lst xs)) : xs.length ≤ sizeLine ∧ ∃ (its : List Value) (n : Nat), Vals xs its ∧ xs.length = its.length ∧ s.heap.get? l = some { cls := .type "list", data := .seq its.toArray n } := by
 obtain ⟨z, its, n, r, e⟩ := I.hok l _ hH
 exact ⟨z, its, n, r, r.length, e⟩
theorem notLongL {n : Nat} (h : n ≤ sizeLine) : Builtin.List.listTooLong n = false := by
 unfold Builtin.List.listTooLong
 exact decide_eq_false (by omega)
end
section
variable {X : Cx}
def rAppend : V → List V → Hp → VK → Prop := fun x vs H Q => ∃ l xs y, x = .ref l ∧ vs = [y] ∧ H l = some (.lst xs) ∧ xs.length < sizeLine ∧ Q .non (upd H l (.lst (xs ++ [y])))
theorem mt_append : MtM X "list.append" rAppend := by
 intro pins s σ H x vs v us Q I rx rv h
 obtain ⟨l, xs, y, rfl, rfl, hH, hz, q⟩ := h
 cases rx
 obtain ⟨u, rfl, ru⟩ := rv.one
 obtain ⟨z, its, n, r, hl, e⟩ := I.lstM hH
 refine call_meets F.slot_list_append ⟨_, e, rfl⟩ F.entry_list_append (F.args_list_append_2 _ _) (PySem.list_append l its.toArray n u (by rw [List.size_toArray]; omega)) ⟨e, ?_⟩
 refine ⟨.non, _, I.lset (its' := its ++ [u]) hH e (by simp) (r.append (.cons ru .nil)) ?_, rfl, q⟩
 rw [List.length_append, List.length_singleton]
 omega
def rCat : R2 := fun x y H Q => ∃ l b xs zs, x = .ref l ∧ y = .ref b ∧ H l = some (.lst xs) ∧ H b = some (.lst zs) ∧ xs.length + zs.length ≤ sizeLine ∧ ∀ p, H p = none → Q (.ref p) (upd H p (.lst (xs ++ zs)))
theorem op_cat : OpR X (binaryOp .Add) rCat := by
 intro pins s σ H x y v u Q I rx ry h
 obtain ⟨l, b, xs, zs, rfl, rfl, hH, hB, hz, q⟩ := h
 cases rx
 cases ry
 obtain ⟨z, its, n, r, hl, e⟩ := I.lstM hH
 obtain ⟨z2, its2, n2, r2, hl2, e2⟩ := I.lstM hB
 refine PySem.P.add_list e e2 ?_ (by rw [List.size_toArray, List.size_toArray]; omega)
 have ea : its.toArray ++ its2.toArray = (its ++ its2).toArray := by simp
 rw [ea]
 exact ⟨.ref _, _, I.lnew (t' := s.toks) (r.append r2) (by rw [List.length_append]; omega), rfl, q _ I.fresh⟩
def rRep : R2 := fun x y H Q => ∃ l k xs, x = .ref l ∧ y = .int k ∧ H l = some (.lst xs) ∧ -(2 ^ 63) ≤ k ∧ k < 2 ^ 63 ∧ xs.length * k.toNat ≤ sizeLine ∧
 ∀ p, H p = none → Q (.ref p) (upd H p (.lst (List.replicate k.toNat xs).flatten))
theorem len_rep {α : Type} (xs : List α) (k : Nat) : (List.replicate k xs).flatten.length = k * xs.length := by
 induction k with
 | zero => simp
 | succ k ih => rw [List.replicate_succ, List.flatten_cons, List.length_append, ih, Nat.succ_mul, Nat.add_comm]
theorem op_rep : OpR X (binaryOp .Mult) rRep := by
 intro pins s σ H x y v u Q I rx ry h
 obtain ⟨l, k, xs, rfl, rfl, hH, h1, h2, hz, q⟩ := h
 cases rx
 obtain ⟨t, rfl⟩ := ry
 obtain ⟨z, its, n, r, hl, e⟩ := I.lstM hH
 have hlen : its.toArray.size * k.toNat ≤ sizeLine := by rw [List.size_toArray, ← hl]; exact hz
 have hcap : ¬ its.toArray.size * k.toNat > (2 ^ 63 - 1) / 8 := by
  have : (sizeLine : Nat) ≤ (2 ^ 63 - 1) / 8 := by decide
  omega
 have hfit : ¬ (!Builtin.List.listFitsIndex k) = true := by
  rw [fitsIndex_both h1 h2]
  exact Bool.false_ne_true
 have hlong : ¬ Builtin.List.listTooLong (its.toArray.size * k.toNat) = true := by
  rw [notLongL hlen]
  exact Bool.false_ne_true
 have hnew : List.foldl (fun x1 x2 => x1 ++ x2) #[] (List.replicate (if its.toArray.isEmpty = true then 0 else k.toNat) its.toArray) = (List.replicate k.toNat its).flatten.toArray := by
  have f0 : ∀ m : Nat, List.foldl (fun x1 x2 => x1 ++ x2) #[] (List.replicate m its.toArray) = (List.replicate m its).flatten.toArray := fun m => by
   have := foldl_rep its m []
   rw [List.nil_append] at this
   exact this
  rw [f0]
  cases its with
  | nil => simp
  | cons a r' => rw [if_neg (by simp)]
 refine wpAny_binaryOp_repeat_ref (T := "list") (U := "int") (by decide) ⟨_, e, rfl⟩ (fun s' => typeIs_int s' k t) noFill_list_mul F.fills_int_mul F.slot_int_rmul repeat_list F.slot_int_index.lookup
  (call_meets F.slot_int_rmul (typeIs_int s k t) F.entry_int_rmul (F.args_int_rmul_2 _ _) (int___rmul___int_list k t l its.toArray n)
   ⟨e, rfl, ⟨_, e, rfl⟩, call_meets F.slot_list_mul ⟨_, e, rfl⟩ F.entry_list_mul (F.args_list_mul_2 _ _) (AutoListH.list___mul___list_int_3 l its.toArray n k t hfit hcap hlong) ⟨e, ?_⟩⟩)
 rw [hnew]
 exact ⟨.ref _, _, I.lnew (t' := s.toks) (r.rep k.toNat) (by rw [len_rep, Nat.mul_comm]; exact hz), rfl, q _ I.fresh⟩
end
end L2
namespace L2
open PySem PySem.Spec PyProof.Rows
section
variable {κ : Type} [DecidableEq κ]
def valV (kvs : List (κ × V)) (k : κ) : Option V := (kvs.find? fun kv => decide (kv.1 = k)).map (·.2)
def putK (kvs : List (κ × V)) (k : κ) (v : V) : List (κ × V) :=
 if (kvs.any fun kv => decide (kv.1 = k)) = true then kvs.map (fun kv => if kv.1 = k then (kv.1, v) else kv) else kvs ++ [(k, v)]
theorem valV_pos {p : κ × V} {r : List (κ × V)} {k : κ} (e : p.1 = k) : valV (p :: r) k = some p.2 := by simp [valV, List.find?_cons, e]
theorem valV_neg {p : κ × V} {r : List (κ × V)} {k : κ} (e : ¬ p.1 = k) : valV (p :: r) k = valV r k := by simp [valV, List.find?_cons, e]
theorem valV_any (k : κ) : ∀ kvs : List (κ × V), (kvs.any fun kv => decide (kv.1 = k)) = (valV kvs k).isSome
 | [] => rfl
 | p :: r => by
  rw [List.any_cons]
  by_cases e : p.1 = k
  ·simp only [valV_pos e, decide_eq_true e, Bool.true_or, Option.isSome_some]
  ·rw [valV_neg e, decide_eq_false e, Bool.false_or]; exact valV_any k r
theorem length_putK (kvs : List (κ × V)) (k : κ) (v : V) : (putK kvs k v).length ≤ kvs.length + 1 := by
 unfold putK
 split
 ·rw [List.length_map]; omega
 ·rw [List.length_append, List.length_cons, List.length_nil]; omega
theorem RelO.isSome_eq {o : Option V} {u : Option Value} (r : RelO o u) : o.isSome = u.isSome := by
 cases o with
 | none => cases u with
  | none => rfl
  | some _ => exact (show False from r).elim
 | some _ => cases u with
  | none => exact (show False from r).elim
  | some _ => rfl
theorem RelO.getD {o : Option V} {u : Option Value} {d : V} {d' : Value} (r : RelO o u) (rd : RelV d d') : RelV (o.getD d) (u.getD d') := by
 cases o with
 | none => cases u with
  | none => exact rd
  | some _ => exact (show False from r).elim
 | some _ => cases u with
  | none => exact (show False from r).elim
  | some _ => exact r
theorem KV.val {kvs : List (κ × V)} {vs : List (κ × Value)} (r : KV kvs vs) (k : κ) : RelO (valV kvs k) (valueAt vs k) := by
 unfold KV at r
 induction r with
 | nil => exact True.intro
 | @cons p q ps qs h t ih =>
  obtain ⟨h1, h2⟩ := h
  by_cases e : p.1 = k
  ·have e' : q.1 = k := h1.symm.trans e
   have b : valueAt (q :: qs) k = some q.2 := by simp [valueAt, List.find?_cons, e']
   rw [valV_pos e, b]; exact h2
  ·have e' : ¬ q.1 = k := fun z => e (h1.trans z)
   have b : valueAt (q :: qs) k = valueAt qs k := by simp [valueAt, List.find?_cons, e']
   rw [valV_neg e, b]; exact ih
theorem KV.any {kvs : List (κ × V)} {vs : List (κ × Value)} (r : KV kvs vs) (k : κ) : (kvs.any fun kv => decide (kv.1 = k)) = vs.any fun kv => decide (kv.1 = k) := by
 unfold KV at r
 induction r with
 | nil => rfl
 | cons h t ih => rw [List.any_cons, List.any_cons, ih, h.1]
theorem KV.repl {kvs : List (κ × V)} {vs : List (κ × Value)} (r : KV kvs vs) (k : κ) {y : V} {u : Value} (ry : RelV y u) :
  KV (kvs.map fun kv => if kv.1 = k then (kv.1, y) else kv) (vs.map fun kv => if kv.1 = k then (kv.1, u) else kv) := by
 unfold KV at r ⊢
 induction r with
 | nil => exact .nil
 | @cons p q ps qs h t ih =>
  rw [List.map_cons, List.map_cons]
  refine .cons ?_ ih
  obtain ⟨h1, h2⟩ := h
  by_cases e : p.1 = k
  ·rw [if_pos e, if_pos (h1.symm.trans e)]; exact ⟨h1, ry⟩
  ·rw [if_neg e, if_neg (fun z => e (h1.trans z))]; exact ⟨h1, h2⟩
theorem KV.put {kvs : List (κ × V)} {vs : List (κ × Value)} (r : KV kvs vs) (k : κ) {y : V} {u : Value} (ry : RelV y u) : KV (putK kvs k y) (stored vs k u) := by
 unfold putK stored
 rw [r.any k]
 by_cases e : (vs.any fun kv => decide (kv.1 = k)) = true
 ·rw [if_pos e, if_pos e]; exact r.repl k ry
 ·rw [if_neg e, if_neg e]; exact Paired.snoc r ⟨rfl, ry⟩
theorem KV.length {kvs : List (κ × V)} {vs : List (κ × Value)} (r : KV kvs vs) : kvs.length = vs.length := Paired.length r
end
theorem kV_is {P : Program} {w : World} {k : Key} {u : Value} (r : RelV (kV k) u) : (mixKind P w).is k u = true := by
 rcases k with (_ | i) | x
 ·cases (show u = Value.none from r); exact mixKind_none P w
 ·obtain ⟨t, e⟩ := (show ∃ t, u = Value.int i t from r); subst e; exact mixKind_int P w i t
 ·obtain ⟨t, e⟩ := (show ∃ t, u = Value.str x t from r); subst e; exact mixKind_str P w x t
theorem items_are {P : Program} {w : World} : ∀ {ks : List Key} {us : List Value}, Vals (ks.map kV) us → ItemsAre (mixKind P w) ks us
 | [], _, r => by rw [List.map_nil] at r; cases r; exact .nil
 | k :: ks, _, r => by
  rw [List.map_cons] at r
  cases r with
  | cons h t => exact .cons (kV_is h) (items_are t)
abbrev KT (H : Hp) : List (List Key × V) → List (List Key × Addr × Value) → Prop := Paired fun p q => p.1 = q.1 ∧ H q.2.1 = some (.tup (p.1.map kV)) ∧ RelV p.2 q.2.2
theorem KT.val {H : Hp} {kvs : List (List Key × V)} {xs : List (List Key × Addr × Value)} (r : KT H kvs xs) (k : List Key) : RelO (valV kvs k) ((atKey xs k).map (·.2)) := by
 induction r with
 | nil => exact True.intro
 | @cons p q ps qs h t ih =>
  obtain ⟨h1, _, h2⟩ := h
  by_cases e : p.1 = k
  ·have e' : q.1 = k := h1.symm.trans e
   have b : atKey (q :: qs) k = some q.2 := by simp [atKey, List.find?_cons, e']
   rw [valV_pos e, b]; exact h2
  ·have e' : ¬ q.1 = k := fun z => e (h1.trans z)
   have b : atKey (q :: qs) k = atKey qs k := by simp [atKey, List.find?_cons, e']
   rw [valV_neg e, b]; exact ih
theorem KT.repl {H : Hp} {kvs : List (List Key × V)} {xs : List (List Key × Addr × Value)} (r : KT H kvs xs) (k : List Key) {y : V} {u : Value} (ry : RelV y u) :
  KT H (kvs.map fun kv => if kv.1 = k then (kv.1, y) else kv) (xs.map (putAt k u)) := by
 induction r with
 | nil => exact .nil
 | @cons p q ps qs h t ih =>
  rw [List.map_cons, List.map_cons]
  refine .cons ?_ ih
  obtain ⟨h1, h2, h3⟩ := h
  unfold putAt
  by_cases e : p.1 = k
  ·rw [if_pos e, if_pos (h1.symm.trans e)]; exact ⟨h1, h2, ry⟩
  ·rw [if_neg e, if_neg (fun z => e (h1.trans z))]; exact ⟨h1, h2, h3⟩
theorem KT.put {H : Hp} {kvs : List (List Key × V)} {xs : List (List Key × Addr × Value)} (r : KT H kvs xs) (k : List Key) {b : Addr} {y : V} {u : Value} (hb : H b = some (.tup (k.map kV))) (ry : RelV y u) :
  KT H (putK kvs k y) (storedH xs k b u) := by
 have e : (kvs.any fun kv => decide (kv.1 = k)) = (atKey xs k).isSome := by
  rw [valV_any, (r.val k).isSome_eq, Option.isSome_map]
 unfold putK storedH
 rw [e]
 by_cases q : (atKey xs k).isSome = true
 ·rw [if_pos q, if_pos q]; exact r.repl k ry
 ·rw [if_neg q, if_neg q]; exact Paired.snoc r ⟨rfl, hb, ry⟩
theorem KT.keeps {H H' : Hp} {kvs : List (List Key × V)} {xs : List (List Key × Addr × Value)} (r : KT H kvs xs) (ht : ∀ b ys, H b = some (.tup ys) → H' b = some (.tup ys)) : KT H' kvs xs :=
 Paired.mapP r fun _ _ z => ⟨z.1, ht _ _ z.2.1, z.2.2⟩
section
variable {P : Program} {w : World} {H : Hp} {h : Heap} {a : Addr}
theorem rd_of {u : HO} (ok : HOk P w H h) (e : Rd H a u) : ObjOk P w H h a u := e.ok ok
theorem dk_rd {kvs : List (Key × V)} (ok : HOk P w H h) (e : Rd H a (.dK kvs)) : kvs.length ≤ sizeLine ∧ (a == sysModules) = false ∧ ∃ vs, KV kvs vs ∧ h.DictOf (mixKind P w) a vs :=
 show ObjOk P w H h a (.dK kvs) from rd_of ok e
theorem dk_of {kvs : List (Key × V)} (ok : HOk P w H h) (e : H a = some (.dK kvs)) : kvs.length ≤ sizeLine ∧ (a == sysModules) = false ∧ ∃ vs, KV kvs vs ∧ h.DictOf (mixKind P w) a vs := dk_rd ok (.inl e)
theorem key_of {ks : List Key} (ok : HOk P w H h) (e : H a = some (.tup (ks.map kV))) : (tupleKind (mixKind P w)).is h ks a := by
 obtain ⟨_, its, r, o, h1, h2, ⟨n, h3⟩, _⟩ := (show ObjOk P w H h a (.tup (ks.map kV)) from ok a _ e)
 exact ⟨o, its.toArray, n, h1, h2, h3, by simpa using items_are r⟩
theorem dt_rd {kvs : List (List Key × V)} (ok : HOk P w H h) (e : Rd H a (.dT kvs)) : kvs.length ≤ sizeLine ∧ (a == sysModules) = false ∧
  ∃ xs, KT H kvs xs ∧ h.DictOfH (tupleKind (mixKind P w)) a xs := by
 obtain ⟨z, y, xs, r, o, es, ep, h1, h2, h3, h4, h5⟩ := (show ObjOk P w H h a (.dT kvs) from rd_of ok e)
 refine ⟨z, y, xs, r, o, es, ep, h1, h2, h3, h4, fun x hx => ?_, h5⟩
 have all : ∀ {l : List (List Key × V)} {m : List (List Key × Addr × Value)}, KT H l m → ∀ x ∈ m, (tupleKind (mixKind P w)).is h x.1 x.2.1 := by
  intro l m q
  induction q with
  | nil => intro x hx; exact nomatch hx
  | @cons p q ps qs hq t ih =>
   intro x hx
   rcases List.mem_cons.mp hx with e | hx
   ·subst e
    exact key_of ok (by rw [← hq.1]; exact hq.2.1)
   ·exact ih x hx
 exact all r x hx
theorem dt_of {kvs : List (List Key × V)} (ok : HOk P w H h) (e : H a = some (.dT kvs)) : kvs.length ≤ sizeLine ∧ (a == sysModules) = false ∧
  ∃ xs, KT H kvs xs ∧ h.DictOfH (tupleKind (mixKind P w)) a xs := dt_rd ok (.inl e)
end
def DGet (H : Hp) (a : Addr) (y : V) (r : Option V) : Prop :=
 (∃ kvs k, Rd H a (.dK kvs) ∧ y = kV k ∧ r = valV kvs k) ∨ ∃ kvs k b, Rd H a (.dT kvs) ∧ y = .ref b ∧ H b = some (.tup (k.map kV)) ∧ r = valV kvs k
def DPut (H : Hp) (a : Addr) (y v : V) (H' : Hp) : Prop :=
 (∃ kvs k, H a = some (.dK kvs) ∧ y = kV k ∧ kvs.length < sizeLine ∧ H' = upd H a (.dK (putK kvs k v))) ∨
 ∃ kvs k b, H a = some (.dT kvs) ∧ y = .ref b ∧ H b = some (.tup (k.map kV)) ∧ kvs.length < sizeLine ∧ H' = upd H a (.dT (putK kvs k v))
theorem DGet.t {H : Hp} {a b : Addr} {kvs : List (List Key × V)} {k : List Key} (e : H a = some (.dT kvs)) (eb : H b = some (.tup (k.map kV))) : DGet H a (.ref b) (valV kvs k) := .inr ⟨kvs, k, b, .inl e, rfl, eb, rfl⟩
theorem DPut.k {H : Hp} {a : Addr} {kvs : List (Key × V)} {k : Key} {v : V} (e : H a = some (.dK kvs)) (hl : kvs.length < sizeLine) : DPut H a (kV k) v (upd H a (.dK (putK kvs k v))) := .inl ⟨kvs, k, e, rfl, hl, rfl⟩
theorem DPut.t {H : Hp} {a b : Addr} {kvs : List (List Key × V)} {k : List Key} {v : V} (e : H a = some (.dT kvs)) (eb : H b = some (.tup (k.map kV))) (hl : kvs.length < sizeLine) :
  DPut H a (.ref b) v (upd H a (.dT (putK kvs k v))) := .inr ⟨kvs, k, b, e, rfl, eb, hl, rfl⟩
section
variable {X : Cx} {pins : List (Addr × Obj)} {σ : St} {H : Hp} {s : Shared} {a : Addr} {y v : V} {u r : Value} {o : Option V} {A : Around} {E : Value → Shared → Prop}
theorem Inv.big (I : Inv X pins σ H s) : sysModules < s.heap.objs.size := by
 have h : mainGlobals < s.heap.objs.size := (I.mod.glob.keeps I.bk).lt
 exact Nat.lt_trans (by decide) h
theorem d_getItem {Q : Value → Shared → Prop} (hu : A.units + 1 < cLine) (I : Inv X pins σ H s) (g : DGet H a y (some v)) (ry : RelV y u) (h : ∀ w' s', Inv X pins σ H s' → RelV v w' → Q w' s') :
  wpAny (model X.prog X.w) A (getItem (.ref a) u) Q E s := by
 rcases g with ⟨kvs, k, e, ey, l⟩ | ⟨kvs, k, b, e, ey, eb, l⟩
 ·subst ey
  obtain ⟨z, hd, vs, rel, dd⟩ := dk_rd I.hok e
  obtain ⟨w', hw, rw'⟩ := RelO.some_of (v := v) (o := valueAt vs k) (by rw [l]; exact rel.val k)
  exact wpAny_getItem_of (kV_is ry) dd.mapOf hw (h w' _ (I.tok _) rw')
 ·subst ey
  cases (show u = Value.ref b from ry)
  obtain ⟨z, hd, xs, rel, dd⟩ := dt_rd I.hok e
  obtain ⟨w', hw, rw'⟩ := RelO.some_of (v := v) (o := (atKey xs k).map (·.2)) (by rw [l]; exact rel.val k)
  obtain ⟨p, hp, hp2⟩ := Option.map_eq_some_iff.mp hw
  refine wpAny_getItem_heap (tupleKind_room_in1 hu) (key_of I.hok eb) dd hp ?_
  rw [hp2]
  exact h w' _ (I.tok _) rw'
theorem d_write {h' : Heap} {t' : Nat} {ob : HO} (I : Inv X pins σ H s) (mu : Mut (H a)) (hs : Heap.SameBut a s.heap h') (he : ∃ q, h'.get? a = some q) (new : ObjOk X.prog X.w (upd H a ob) h' a ob) :
  Inv X pins σ (upd H a ob) { s with heap := h', toks := t' } :=
 I.write (x := a) (e := a) mu (.inl rfl) (fun b q hb z => (hs.2 b hb).trans z) he new
theorem dk_new {P : Program} {w : World} {H' : Hp} {h' : Heap} {kvs : List (Key × V)} {vs : List (Key × Value)} (z : kvs.length ≤ sizeLine) (hd : (a == sysModules) = false) (rel : KV kvs vs) (dd : h'.DictOf (mixKind P w) a vs) :
  ObjOk P w H' h' a (.dK kvs) := ⟨z, hd, vs, rel, dd⟩
theorem d_setItem {H' : Hp} {Q : Unit → Shared → Prop} (hu : A.units + 1 < cLine) (I : Inv X pins σ H s) (g : DPut H a y v H') (ry : RelV y u) (rv : RelV v r) (h : ∀ s', Inv X pins σ H' s' → Q () s') :
  wpAny (model X.prog X.w) A (setItem (.ref a) u r) Q E s := by
 rcases g with ⟨kvs, k, e, ey, l, eH⟩ | ⟨kvs, k, b, e, ey, eb, l, eH⟩
 ·subst ey eH
  obtain ⟨z, hd, vs, rel, dd⟩ := dk_of I.hok e
  have hz : vs.length ≤ sizeLine := by rw [← rel.length]; exact z
  have hl : (putK kvs k v).length ≤ sizeLine := by have := length_putK kvs k v; omega
  refine wpAny_setItem_pairs (hsz := hz) (kV_is ry) dd fun h' dd' hs => h _ ?_
  have he : ∃ q, h'.get? a = some q := let ⟨q, _, _, hq, _⟩ := dd'; ⟨q, hq⟩
  exact d_write I (by rw [e]; exact True.intro) hs he (dk_new hl hd (rel.put k rv) dd')
 ·subst ey eH
  cases (show u = Value.ref b from ry)
  obtain ⟨z, hd, xs, rel, dd⟩ := dt_of I.hok e
  have hz : xs.length ≤ sizeLine := by rw [← Paired.length rel]; exact z
  have hl : (putK kvs k v).length ≤ sizeLine := by have := length_putK kvs k v; omega
  refine wpAny_setItem_heap (hsz := hz) (tupleKind_room_in1 hu) (key_of I.hok eb) dd fun h' dd' hs => h _ ?_
  obtain ⟨q, es, ep, hq, h2, h3, h4, _, h5⟩ := dd'
  refine d_write I (by rw [e]; exact True.intro) hs ⟨q, hq⟩ ⟨hl, hd, _, (rel.put k eb rv).keeps fun c ys ec => ?_, q, es, ep, hq, h2, h3, h4, h5⟩
  rw [upd_ne (ne_of ec e (fun z => nomatch z))]
  exact ec
end
section
variable {X : Cx} {pins : List (Addr × Obj)} {σ : St} {H : Hp} {s : Shared} {a : Addr} {kvs : List (Key × V)} {k : Key} {u : Value} {A : Around} {E : Value → Shared → Prop}
theorem d_len {Q : Value → Shared → Prop} (I : Inv X pins σ H s) (e : Rd H a (.dK kvs)) (h : ∀ t s', Inv X pins σ H s' → Q (.int kvs.length t) s') : wpAny (model X.prog X.w) A (call (.builtin "len") [.ref a]) Q E s := by
 obtain ⟨z, hd, vs, rel, dd⟩ := dk_rd I.hok e
 refine call_len_dict hd dd (by rw [← rel.length]; rw [sizeLine_eq] at z; omega) ?_
 rw [← rel.length]
 exact h _ _ (I.tok _)
end
def NoSl (i : Expr) : Prop := ∀ ov iv, subscripted i false ov iv = operate [ov, iv] (getItem ov iv)
theorem subD_of {prog : Program} {w : World} {A : Around} {E : Value → Shared → Prop} {s : Shared} {env : Env} {value slice : Expr} {pos : Pos} {T id : String} {Q : Value → Shared → Prop}
  (hl : typeLookup (.type T) "__getitem__" = pure (some (.builtin id))) (hs : NoSl slice)
  (h : wpAny (model prog w) A (eval value env) (fun o s₁ => wpAny (model prog w) A (eval slice env) (fun i s₂ => s₂.TypeIs o T ∧ wpAny (model prog w) A (getItem o i) Q E s₂) E s₁) E s) :
  wpAny (model prog w) A (eval (.Subscript value slice pos) env) Q E s := by
 refine Subscript_ (wpAny_mono h (fun o s₁ h₁ => wpAny_mono h₁ (fun i s₂ h₂ => ?_) fun _ _ x => x) fun _ _ x => x)
 obtain ⟨hT, h₂⟩ := h₂
 unfold subscriptTail
 refine wpAny_bind ?_
 rw [getitemInPython_of_ne hT.not_modules]
 refine wpAny_bind (wpAny_specialOf hT hl ?_)
 have fin : wpAny (model prog w) A (subscripted slice false o i) (fun r s₃ => wpAny (model prog w) A (letTemporaryGo value o r >>= fun _ => pure r) Q E s₃) E s₂ := by
  rw [hs o i]
  exact wpAny_operating (wpAny_mono h₂ (fun r s₃ h₃ => wpAny_bind (wpAny_letTemporaryGo (wpAny_pure h₃))) fun _ _ x => x)
 first
  | exact wpAny_pure (wpAny_bind fin)
  | exact wpAny_bind (wpAny_pure (wpAny_bind fin))
  | exact wpAny_bind fin
theorem dict_typeIs {X : Cx} {pins : List (Addr × Obj)} {σ : St} {H : Hp} {s : Shared} {a : Addr} {y : V} {o : Option V} (I : Inv X pins σ H s) (g : DGet H a y o) : s.TypeIs (.ref a) "dict" := by
 rcases g with ⟨kvs, k, e, _, _⟩ | ⟨kvs, k, b, e, _, _, _⟩
 ·obtain ⟨_, _, vs, _, dd⟩ := dk_rd I.hok e
  exact dd.typeIs
 ·obtain ⟨_, _, xs, _, dd⟩ := dt_rd I.hok e
  exact dd.typeIs
def tDGet (td ty : TE) : TE := fun σ H Q => td σ H fun x H1 => ty σ H1 fun y H2 => ∃ a v, x = .ref a ∧ DGet H2 a y (some v) ∧ Q v H2
def sDPut (td ty tv : TE) : TS := fun D σ H => tv σ H fun v H1 => td σ H1 fun x H2 => ty σ H2 fun y H3 => ∃ a H4, x = .ref a ∧ DPut H3 a y v H4 ∧ D.nx σ H4
section
variable {X : Cx} {o i e value : Expr} {pos pos' tpos : Pos} {td ty tv : TE}
theorem pe_dget (hu : X.A.units + 1 < cLine) (ho : PE X o td) (hi : PE X i ty) (hs : NoSl i) : PE X (.Subscript o i pos) (tDGet td ty) := by
 intro pins s σ H Q I h
 refine subD_of PySem.F.slot_dict_getitem.lookup hs (thn (ho pins s σ H _ I h) fun u s1 ⟨x, H1, I1, rx, q1⟩ => thn (hi pins s1 σ H1 _ I1 q1) fun iv s2 ⟨y, H2, I2, ry, a, v, ex, g, q2⟩ => ?_)
 subst ex
 obtain rfl : u = Value.ref a := rx
 exact ⟨dict_typeIs I2 g, d_getItem hu I2 g ry fun w' s3 I3 rw' => ⟨v, H2, I3, rw', q2⟩⟩
theorem ps_dput (hu : X.A.units + 1 < cLine) (ho : PE X o td) (hi : PE X i ty) (hv : PE X value tv) (hs : swapsWith value (some (.Subscript o i pos')) pos.line X.env = pure false) :
  PS X (.Assign [.Subscript o i pos'] value pos) (sDPut td ty tv) := by
 intro pins s σ H D I h
 refine wpAny_Assign_Subscript (thn (hv pins s σ H _ I h) fun r s1 ⟨v, H1, I1, rv, q1⟩ => thn (ho pins s1 σ H1 _ I1 q1) fun u s2 ⟨x, H2, I2, rx, q2⟩ => thn (hi pins s2 σ H2 _ I2 q2) fun iv s3 ⟨y, H3, I3, ry, a, H4, ex, g, q3⟩ => ?_) hs
 subst ex
 obtain rfl : u = Value.ref a := rx
 exact d_setItem hu I3 g ry rv fun s4 I4 => ⟨σ, H4, I4, q3⟩
end
theorem dk_empty {P : Program} {w : World} {H : Hp} (h : Heap) (hb : sysModules < h.objs.size) : ObjOk P w H (h.push { cls := .type "dict", data := .dict #[] }) h.objs.size (.dK []) :=
 ⟨Nat.zero_le _, beq_eq_false_iff_ne.mpr (Ne.symm (Nat.ne_of_lt hb)), [], .nil, Heap.DictOf.new h⟩
theorem dt_empty {P : Program} {w : World} {H : Hp} (h : Heap) (hb : sysModules < h.objs.size) : ObjOk P w H (h.push { cls := .type "dict", data := .dict #[] }) h.objs.size (.dT []) :=
 ⟨Nat.zero_le _, beq_eq_false_iff_ne.mpr (Ne.symm (Nat.ne_of_lt hb)), [], .nil, _, #[], 0, Heap.get?_push_size _ rfl, ⟨rfl, rfl, rfl⟩, rfl, rfl, List.nodup_nil⟩
def tDNewK : TE := fun _ H Q => ∀ p, H p = none → Q (.ref p) (upd H p (.dK []))
def tDNewT : TE := fun _ H Q => ∀ p, H p = none → Q (.ref p) (upd H p (.dT []))
section
variable {X : Cx} {pos : Pos}
theorem pe_dnewK : PE X (.Dict [] [] pos) tDNewK := fun pins s σ H Q I h =>
 wpAny_Dict_empty ⟨.ref s.heap.objs.size, _, I.laid (a := s.heap.objs.size) (o := .dK []) (t' := s.toks) (fun _ _ q => Heap.get?_push_of_some _ q) (Nat.le_refl _) (dk_empty s.heap I.big), rfl, h _ (I.hok.fresh (Nat.le_refl _))⟩
theorem pe_dnewT : PE X (.Dict [] [] pos) tDNewT := fun pins s σ H Q I h =>
 wpAny_Dict_empty ⟨.ref s.heap.objs.size, _, I.laid (a := s.heap.objs.size) (o := .dT []) (t' := s.toks) (fun _ _ q => Heap.get?_push_of_some _ q) (Nat.le_refl _) (dt_empty s.heap I.big), rfl, h _ (I.hok.fresh (Nat.le_refl _))⟩
end
def tPairs : List (TE × TE) → St → Hp → (List (V × V) → Hp → Prop) → Prop
 | [], _, H, Q => Q [] H
 | (tk, tv) :: r, σ, H, Q => tk σ H fun x H1 => tv σ H1 fun y H2 => tPairs r σ H2 fun ps H3 => Q ((x, y) :: ps) H3
abbrev VV : List (V × V) → List (Value × Value) → Prop := Paired fun p q => RelV p.1 q.1 ∧ RelV p.2 q.2
def PPs (X : Cx) (pos : Pos) (keys : List (Option Expr)) (values : List Expr) (trs : List (TE × TE)) : Prop :=
 ∀ (pins : List (Addr × Obj)) (s : Shared) (σ : St) (H : Hp) (Q : List (V × V) → Hp → Prop), Inv X pins σ H s → tPairs trs σ H Q →
  wpAny (model X.prog X.w) X.A (evalPairs (pairTrees keys values X.env pos)) (fun vs s' => ∃ ps H', Inv X pins σ H' s' ∧ VV ps vs ∧ Q ps H') X.xe s
theorem pps_nil {X : Cx} {pos : Pos} : PPs X pos [] [] [] := fun pins s σ H Q I h => pairTrees_nil_walk ⟨[], H, I, .nil, h⟩
theorem pps_cons {X : Cx} {pos : Pos} {k v : Expr} {ks : List (Option Expr)} {vs : List Expr} {tk tv : TE} {trs : List (TE × TE)} (hk : PE X k tk) (hv : PE X v tv) (hr : PPs X pos ks vs trs) :
  PPs X pos (some k :: ks) (v :: vs) ((tk, tv) :: trs) := fun pins s σ H Q I h =>
 pairTrees_cons_walk (thn (hk pins s σ H _ I h) fun u s1 ⟨x, H1, I1, rx, q1⟩ => thn (hv pins s1 σ H1 _ I1 q1) fun w2 s2 ⟨y, H2, I2, ry, q2⟩ =>
  thn (hr pins s2 σ H2 _ I2 q2) fun ws s3 ⟨ps, H3, I3, rel, q3⟩ => ⟨(x, y) :: ps, H3, I3, .cons ⟨rx, ry⟩ rel, q3⟩)
def mergeK (kvs more : List (Key × V)) : List (Key × V) := more.foldl (fun acc kv => putK acc kv.1 kv.2) kvs
theorem KV.merge : ∀ {more : List (Key × V)} {rs : List (Key × Value)} {kvs : List (Key × V)} {vs : List (Key × Value)}, KV more rs → KV kvs vs → KV (mergeK kvs more) (merged vs rs) := by
 intro more rs kvs vs r
 unfold KV at r
 induction r generalizing kvs vs with
 | nil => intro q; exact q
 | @cons p q ps qs h t ih =>
  intro r0
  have e : KV (putK kvs p.1 p.2) (stored vs q.1 q.2) := by
   have := r0.put p.1 h.2
   rw [← h.1]; exact this
  exact ih e
theorem length_mergeK : ∀ (more kvs : List (Key × V)), (mergeK kvs more).length ≤ kvs.length + more.length
 | [], kvs => by show kvs.length ≤ kvs.length + 0; omega
 | p :: r, kvs => by
  have h1 := length_mergeK r (putK kvs p.1 p.2)
  have h2 := length_putK kvs p.1 p.2
  show (mergeK (putK kvs p.1 p.2) r).length ≤ _
  rw [List.length_cons]; omega
theorem carries_of {P : Program} {w : World} : ∀ {kvs : List (Key × V)} {ws : List (Value × Value)}, VV (kvs.map fun kv => (kV kv.1, kv.2)) ws → ∃ rs, Carries (mixKind P w) ws rs ∧ KV kvs rs
 | [], _, r => by rw [List.map_nil] at r; cases r; exact ⟨[], True.intro, .nil⟩
 | p :: kvs, _, r => by
  rw [List.map_cons] at r
  cases r with
  | @cons a b as bs h t =>
   obtain ⟨rs, c, q⟩ := carries_of (P := P) (w := w) t
   obtain ⟨b1, b2⟩ := b
   exact ⟨(p.1, b2) :: rs, ⟨kV_is h.1, rfl, c⟩, .cons ⟨rfl, h.2⟩ q⟩
def tDisp (trs : List (TE × TE)) : TE := fun σ H Q => ∀ p, H p = none → tPairs trs σ (upd H p (.dK [])) fun ps H2 => H2 p = some (.dK []) ∧ ∃ kvs : List (Key × V), ps = kvs.map (fun kv => (kV kv.1, kv.2)) ∧ kvs.length ≤ 15 ∧ Q (.ref p) (upd H2 p (.dK (mergeK [] kvs)))
theorem pe_disp {X : Cx} {pos : Pos} {keys : List (Option Expr)} {values : List Expr} {trs : List (TE × TE)} (h : PPs X pos keys values trs) (hall : keys.all (·.isSome) = true) (hl : keys.length = values.length) (h0 : keys ≠ [])
  (h15 : keys.length ≤ 15) : PE X (.Dict keys values pos) (tDisp trs) := by
 intro pins s σ H Q I q
 have hn := I.hok.fresh (Nat.le_refl s.heap.objs.size)
 have I1 := I.laid (a := s.heap.objs.size) (o := .dK []) (h' := s.heap.push { cls := .type "dict", data := .dict #[] }) (t' := s.toks) (fun _ _ q => Heap.get?_push_of_some _ q) (Nat.le_refl _) (dk_empty s.heap I.big)
 refine wpAny_Dict_walk (knd := mixKind X.prog X.w) hall hl h0 h15 (thn (h pins _ σ _ _ I1 (q _ hn)) fun ws s2 ⟨ps, H2, I2, rel, e, kvs, ep, lk, q2⟩ => ?_)
 subst ep
 obtain ⟨rs, c, rk⟩ := carries_of (P := X.prog) (w := X.w) rel
 obtain ⟨z, hd, vs0, r0, dd⟩ := dk_of I2.hok e
 cases r0
 refine ⟨rs, c, dd, fun h' dd' hs => ⟨.ref s.heap.objs.size, _, ?_, rfl, q2⟩⟩
 have hz : (mergeK [] kvs).length ≤ sizeLine := by
  have h1 := length_mergeK kvs []
  rw [List.length_nil] at h1
  rw [sizeLine_eq]; omega
 have he : ∃ q, h'.get? s.heap.objs.size = some q := let ⟨q, _, _, hq, _⟩ := dd'; ⟨q, hq⟩
 exact d_write I2 (by rw [e]; exact True.intro) hs he (dk_new hz hd (rk.merge .nil) dd')
structure M2 (X : Cx) (o : Expr) (m : Str) (apos : Pos) (e f : Expr) (cpos : Pos) : Prop where
 base : attributeBase o m X.env (eval o X.env) = eval o X.env
 few : ((backTo cpos (starEach [e, f] X.env)).all (fun x => !x.1) && (backToKw cpos (keywordEach [] X.env)).all (fun x => x.1.isSome)
  && decide (([e, f] : List Expr).length + ([] : List Keyword).length + (if ([] : List Keyword).isEmpty then 0 else 1) < 30)) = true
 line : (apos.endLine == cpos.line) = true
 trees : backTo cpos (starEach [e, f] X.env) = [(false, eval e X.env), (false, eval f X.env)]
def IsD (H : Hp) (a : Addr) : Prop := (∃ kvs, Rd H a (.dK kvs)) ∨ ∃ kvs, Rd H a (.dT kvs)
theorem isD_at {X : Cx} {pins : List (Addr × Obj)} {σ : St} {H : Hp} {s : Shared} {a : Addr} (I : Inv X pins σ H s) (d : IsD H a) :
  s.TypeIs (.ref a) "dict" ∧ (∀ b, Value.ref a = .ref b → ∃ ob, s.heap.get? b = some ob ∧ ob.dict = none) ∧ (a == sysModules) = false := by
 rcases d with ⟨kvs, e⟩ | ⟨kvs, e⟩
 ·obtain ⟨_, hd, vs, _, dd⟩ := dk_rd I.hok e
  refine ⟨dd.typeIs, fun b q => ?_, hd⟩
  cases q
  obtain ⟨ob, _, _, h1, h2, _⟩ := dd
  exact ⟨ob, h1, h2.2.1⟩
 ·obtain ⟨_, hd, xs, _, dd⟩ := dt_rd I.hok e
  refine ⟨dd.typeIs, fun b q => ?_, hd⟩
  cases q
  obtain ⟨ob, _, _, h1, h2, _⟩ := dd
  exact ⟨ob, h1, h2.2.1⟩
section
variable {X : Cx} {pins : List (Addr × Obj)} {σ : St} {H : Hp} {s : Shared} {a : Addr} {y d : V} {u r : Value} {o : Option V} {A : Around} {E : Value → Shared → Prop}
theorem d_get2 {Q : Value → Shared → Prop} (hu : A.units + 1 < cLine) (I : Inv X pins σ H s) (g : DGet H a y o) (ry : RelV y u) (rd : RelV d r) (h : ∀ w' s', Inv X pins σ H s' → RelV (o.getD d) w' → Q w' s') :
  wpAny (model X.prog X.w) A (call (.builtin "dict.get") [.ref a, u, r]) Q E s := by
 rcases g with ⟨kvs, k, e, ey, l⟩ | ⟨kvs, k, b, e, ey, eb, l⟩
 ·subst ey
  obtain ⟨z, hd, vs, rel, dd⟩ := dk_rd I.hok e
  refine call_meetsIn PySem.F.slot_dict_get dd.typeIs PySem.F.entry_dict_get (PySem.F.args_dict_get_3 _ _ _) (meets_dict_get_default (mixKind X.prog X.w) a (kV_is ry) hd r) ⟨_, dd.mapOf, h _ _ (I.tok _) ?_⟩
  rw [l]
  exact (rel.val k).getD rd
 ·subst ey
  cases (show u = Value.ref b from ry)
  obtain ⟨z, hd, xs, rel, dd⟩ := dt_rd I.hok e
  refine call_meetsIn PySem.F.slot_dict_get dd.typeIs PySem.F.entry_dict_get (PySem.F.args_dict_get_3 _ _ _) (meetsH_dict_get_default (tupleKind (mixKind X.prog X.w)) a b hd r) ⟨tupleKind_room_in1 hu, k, xs, key_of I.hok eb, dd, h _ _ (I.tok _) ?_⟩
  rw [l]
  exact (rel.val k).getD rd
end
def tDGet2 (td ty tx : TE) : TE := fun σ H Q => td σ H fun x H1 => ∃ a, x = .ref a ∧ IsD H1 a ∧ ty σ H1 fun y H2 => tx σ H2 fun z H3 => ∃ o, DGet H3 a y o ∧ Q (o.getD z) H3
section
variable {X : Cx} {o e f : Expr} {apos cpos : Pos} {td ty tx : TE}
theorem pe_dget2 (hu : X.A.units + 1 < cLine) (ho : PE X o td) (he : PE X e ty) (hf : PE X f tx) (m : M2 X o "get" apos e f cpos) : PE X (.Call (.Attribute o "get" apos) [e, f] [] cpos) (tDGet2 td ty tx) := by
 intro pins s σ H Q I h
 refine wpAny_Call_method m.base m.few m.line PySem.F.plainAttrs_dict PySem.F.slot_dict_get PySem.F.type_dict_get (thn (ho pins s σ H _ I h) fun u s1 ⟨x, H1, I1, rx, a, ex, d, q1⟩ => ?_)
 subst ex
 obtain rfl : u = Value.ref a := rx
 obtain ⟨t1, t2, _⟩ := isD_at I1 d
 refine ⟨t1, t2, ?_⟩
 rw [m.trees]
 refine Calls.callWith_builtin rfl (Calls.evalArgs_plain (Calls.spliced_cons (thn (he pins s1 σ H1 _ I1 q1) fun iv s2 ⟨y, H2, I2, ry, q2⟩ =>
  Calls.spliced_cons (thn (hf pins s2 σ H2 _ I2 q2) fun fv s3 ⟨z, H3, I3, rz, ov, g, q3⟩ => Calls.spliced_nil ?_))))
 exact d_get2 hu I3 g ry rz fun w' s4 I4 rw' => ⟨_, H3, I4, rw', q3⟩
end
end L2
namespace Att
open PySem PySem.W PySem.Calls PyProof.Rows
theorem ints_of_wellAll {P : Params} {h : Heap} : ∀ (ns : List Int) (vs : List Value), WellAll P h vs (ns.map WData.int) → IntsAre vs ns := by
 intro ns
 induction ns with
 | nil =>
  intro vs w
  rw [List.map_nil] at w
  cases w
  exact .nil
 | cons n ns ih =>
  intro vs w
  rw [List.map_cons] at w
  cases w with
  | cons a b =>
   cases a
   exact .cons _ _ (ih _ b)
theorem script_of {l : OpenLaw} {n : Nat} (hn : l.most = some n) {P : Params} {h : Heap} {args : List WData} {vals : List Value}
  (hpre : l.row.toRowW.claim.pre args = true) (hwl : WellAll P h vals args) :
  ∃ a vs ns, vals = [Value.ref a] ∧ args = [WData.list (ns.map WData.int)] ∧ h.get? a = some { cls := .type "list", data := .seq vs.toArray } ∧ IntsAre vs ns ∧ ns.length ≤ n := by
 have hsh : WShape.hasAll [] args [.list .int] = true := (pre_splitW hpre).1
 have hc : l.pre.holds [] { args := args } = true := (pre_splitW hpre).2
 obtain ⟨d, r, rfl, h1, h2⟩ := hasAllW_cons hsh
 obtain rfl := hasAllW_nil h2
 obtain ⟨xs, rfl, h3⟩ := hasW_list h1
 obtain ⟨ns, rfl⟩ := items_int h3
 have hlen : ns.length ≤ n := by
  unfold OpenLaw.pre at hc
  have h4 : (WTm.not (.lt (.lit (.int (n : Int))) (.len (.arg 0)))).holds [] { args := [.list (ns.map .int)] } = true := by
   have h4 := (holds_andW hc).1
   rw [hn] at h4
   exact h4
  have h5 := condW_of h4 (w_not (w_lt w_lit (w_len_list (w_arg rfl))))
  rw [List.length_map] at h5
  refine Nat.le_of_not_lt fun q => ?_
  have q' : (n : Int) < ((ns.length : Nat) : Int) := by omega
  first
   | (rw [decide_eq_true q'] at h5; exact absurd h5 (by decide))
   | (simp at h5; omega)
 cases hwl with
 | cons w1 w2 =>
  cases w2
  cases w1 with
  | list ho hall => exact ⟨_, _, ns, rfl, rfl, ho, ints_of_wellAll ns _ hall, hlen⟩
theorem post_true (l : OpenLaw) (args : List WData) : l.row.toRowW.claim.post args (.bool true) args = true :=
 postW_of (r := l.row.toRowW) (X := (true == true))
  (show WShape.has [] (.bool true) .bool = true by first | rfl | decide | simp [WShape.has, WShape.arms, WShape.armsAll])
  (show (WTm.eq .res (.lit (.bool true))).value [] { args := args, res := some (.bool true), after := args } = some (.bool (true == true)) from w_eq_bool (w_res rfl) w_lit) rfl
theorem attach_call {l : OpenLaw} {n : Nat} {q : Program} {loose : List Str} {XP : (Str → Option Value) → Heap → Prop} {YP : World → Heap → Prop} {d : DefRec}
  (hn : l.most = some n) (hdf : d.params.defaults = [])
  (call : ∀ (w : World) (s₀ s₁ : Shared) (mg mb : Str → Option Value) (fa : Addr) (o : Obj) (pm cd doc : Value) (a : Addr) (vs : List Value) (ns : List Int),
   Ground q loose [] XP w s₀ mg mb s₁.heap → YP w s₁.heap →
   s₁.heap.get? fa = some o → o.data = .func (docDef d.name d.params d.body d.scope pm cd doc) → s₁.heap.CodeRec cd d.name → mg d.name = some (.ref fa) →
   s₁.heap.get? a = some { cls := .type "list", data := .seq vs.toArray } → IntsAre vs ns → ns.length ≤ n → s₁.gens = #[] →
   codeAny (model l.prog w) callerA (.call (.ref fa) ⟨[.ref a], []⟩) (fun r s' => r = .ok (.ret (.bool true)) ∧ OldK s₁.heap s'.heap ∧ s'.os = s₁.os ∧ AllBare s'.gens) s₁) :
  WalkO q loose XP YP l.row.toRowW d [] (fun f vs => PySem.call f vs) := by
 intro w s₀ s₁ mg mb G Y fa o pm cd doc dV kV ho hd hcd hD hmg hg args vals as hpre hlay hrd hwl hlo
 obtain rfl : dV = .none := Dflts.none hD hdf
 obtain rfl : kV = .none := Dflts.noKw hD
 obtain ⟨a, vs, ns, rfl, rfl, hobj, hints, hlen⟩ := script_of hn hpre hwl
 refine enter_call (codeAny_mono (call w s₀ s₁ mg mb fa o pm cd doc a vs ns G Y ho (fd_plain hd) hcd hmg hobj hints hlen hg) fun r s' hq => ?_)
 obtain ⟨rfl, h2, h3, h4⟩ := hq
 exact ⟨.inl ⟨.bool true, .bool true, [], rfl, fun _ => rfl, .bool true, post_true l _, fun _ => ⟨List.Pairwise.nil, fun _ hm => (nomatch hm)⟩⟩, h2, h3, h4⟩
end Att
namespace L2
open PySem PySem.Spec PyProof.Rows
theorem vals_ints : ∀ {vs : List Value} {ns : List Int}, IntsAre vs ns → Vals (ns.map V.int) vs
 | _, _, .nil => .nil
 | _, _, .cons n t h => .cons ⟨t, rfl⟩ (vals_ints h)
def Only (H : Hp) : Prop := ∀ b, H b = none ∨ ∃ o xs, H b = some (.frz o (.lst xs))
theorem law_call {P : Program} {w : World} {K : PySem.W.Frag} {mg mb : Str → Option Value} {CX : CXT} {k : Nat} {fa a : Addr} {fd : FuncData} {x : Str} {sp : Sp} {s₁ : Shared} {vs : List Value} {ns : List Int}
  (KX : K.In s₁.heap) (hns : s₁.heap.Ns mainGlobals mg) (hb : s₁.heap.Ns builtinsNs mb) (hbb : ∀ x : Str, x ≠ "__name__" → mb x = bootBuiltins x) (hlim : s₁.heap.NoLimit) (hg : s₁.gens = #[])
  (ha : s₁.heap.get? a = some { cls := .type "list", data := .seq vs.toArray }) (hi : IntsAre vs ns) (hl : ns.length ≤ sizeLine) (hr : Room k callerA)
  (F : ∀ base : Heap, K.In base → base.Ns mainGlobals mg → FnOk P w K mg base CX k fa fd [x] sp) (hbind : ∀ (s : Shared) (u : Value), BindsTo s fd ⟨[u], []⟩ [(x, u)])
  (hsp : ∀ H : Hp, Only H → SqL K H a (ns.map V.int) → sp [.ref a] H (fun v _ => v = .bl true) fun _ _ _ => False)
  (hCX : ∀ H e s', CX [] H s₁ (fun _ _ _ => False) e s' → False) :
  codeAny (model P w) callerA (.call (.ref fa) ⟨[.ref a], []⟩) (fun r s' => r = .ok (.ret (.bool true)) ∧ OldK s₁.heap s'.heap ∧ s'.os = s₁.os ∧ AllBare s'.gens) s₁ := by
 have rv := vals_ints hi
 have lenV := hi.length
 have core : ∀ H : Hp, Only H → SqL K H a (ns.map V.int) → HOk P w H s₁.heap → (∀ b, H b ≠ none → b = a) → (H a ≠ none → K.lookup a = none) →
   codeAny (model P w) callerA (.call (.ref fa) ⟨[.ref a], []⟩) (fun r s' => r = .ok (.ret (.bool true)) ∧ OldK s₁.heap s'.heap ∧ s'.os = s₁.os ∧ AllBare s'.gens) s₁ := by
  intro H hO hS hok hA hK
  have base_of : ∀ {b : Addr} {o : Obj}, s₁.heap.get? b = some o → H b = none → (hidT s₁.heap H).get? b = some o := fun e n => hidT_get e n
  have noA : ∀ {b : Addr} {o : Obj} {es : Array DictEntry} {ep : Nat}, s₁.heap.get? b = some o → o.data = .dict es ep → H b = none := fun {b o es ep} e d => by
   cases q : H b with
   | none => rfl
   | some u =>
    have e' : b = a := hA b (by rw [q]; simp)
    subst e'
    rw [ha] at e; cases e
    have d' : Data.seq vs.toArray _ = Data.dict es ep := d
    cases d'
  have nsK : ∀ {b : Addr} {m : Str → Option Value}, s₁.heap.Ns b m → (hidT s₁.heap H).Ns b m := fun {b m} ⟨o, es, ep, e, d, r⟩ => ⟨o, es, ep, base_of e (noA e d), d, r⟩
  have hKb : K.In (hidT s₁.heap H) := fun b o e => base_of (KX b o e) (by
   cases q : H b with
   | none => rfl
   | some u =>
    have e' : b = a := hA b (by rw [q]; simp)
    subst e'
    rw [hK (by rw [q]; simp)] at e; cases e)
  have hM : Mod K mg (hidT s₁.heap H) := ⟨hKb, nsK hns, ⟨mb, nsK hb, hbb⟩, let ⟨mc, h1, h2⟩ := hlim; ⟨mc, nsK h1, h2⟩⟩
  have e0 : Env0 P w K mg (hidT s₁.heap H) callerA [] s₁ H := ⟨rfl, hM, fun b o e => of_hidT e, Nat.le_of_eq (hidT_size _ _), trivial, fun b hb => absurd (show b ∈ ([] : List Addr) from hb) (by simp), hok, .of_eq hg⟩
  refine codeAny_mono ((F _ hKb (nsK hns)).run callerA [] s₁ H ⟨[.ref a], []⟩ [.ref a] [.ref a] _ _ hr e0 (hbind s₁ (.ref a)) (.cons rfl .nil) (hsp H hO hS)) fun r s' h => ?_
  cases r with
  | error e => exact (hCX H e s' h).elim
  | ok fl =>
   cases fl with
   | next => exact False.elim h
   | brk => exact False.elim h
   | cont => exact False.elim h
   | ret u =>
    obtain ⟨v, H', os, bare, un, hok', r', q⟩ := h
    have q' : v = .bl true := q
    subst q'
    obtain rfl : u = Value.bool true := r'
    refine ⟨rfl, OldK.of_keep fun b o e => ?_, os, bare⟩
    cases q : H b with
    | none => exact un.keep b o e q (by intro z; exact absurd (show b ∈ ([] : List Addr) from z) (by simp)) (by simp)
    | some u =>
     rcases hO b with z | ⟨ob, xs, z⟩
     ·rw [q] at z; cases z
     ·have z2 := un.frzs b ob _ z
      obtain ⟨e1, _⟩ := hok b _ z
      obtain ⟨e2, _⟩ := hok' b _ z2
      rw [e] at e1; cases e1
      exact e2
 cases hk : K.lookup a with
 | some o =>
  have e := KX a o hk
  rw [ha] at e
  cases e
  refine core (fun _ => none) (fun _ => .inl rfl) (.inr ⟨_, vs.toArray, _, hk, rfl, rfl, rfl, by rw [List.size_toArray, lenV]; exact hl, by simpa using rv⟩) (fun b u z => by have z' : (none : Option HO) = some u := z; cases z') (fun b z => absurd rfl z) fun z => absurd rfl z
 | none =>
  refine core (fun b => if b = a then some (.frz { cls := .type "list", data := .seq vs.toArray } (.lst (ns.map V.int))) else none) (fun b => ?_) (.inl (.inr ⟨{ cls := .type "list", data := .seq vs.toArray }, if_pos rfl⟩)) (fun b u z => ?_) (fun b z => ?_) fun _ => hk
  ·by_cases hb : b = a
   ·exact .inr ⟨_, _, if_pos hb⟩
   ·exact .inl (if_neg hb)
  ·by_cases hb : b = a
   ·have z' := (if_pos hb).symm.trans z
    cases z'
    subst hb
    exact ⟨ha, by rw [List.length_map]; exact hl, vs, _, rv, ha⟩
   ·have z' := (if_neg hb).symm.trans z
    cases z'
  ·by_cases hb : b = a
   ·exact hb
   ·exact absurd (if_neg hb) z
end L2
namespace L2
open PySem PySem.Spec PyProof.Rows
theorem walk_of {l : PySem.W.OpenLaw} {n k : Nat} {q : Program} {loose : List Str} {XP : (Str → Option Value) → Heap → Prop} {YP : World → Heap → Prop} {d : DefRec} {K : Params → PySem.W.Frag} {CX : World → CXT} {sp : World → Sp} {x : Str}
  (hn : l.most = some n) (hn2 : n ≤ sizeLine) (hdf : d.params.defaults = []) (hr : Room k callerA)
  (hY : ∀ (w : World) (h : Heap), YP w h → (K w.params).In h)
  (F : ∀ (w : World) (mg : Str → Option Value) (fa : Addr) (h : Heap), (K w.params).In h → h.Ns mainGlobals mg → mg d.name = some (.ref fa) →
   ∃ fd : FuncData, (∀ (s : Shared) (u : Value), BindsTo s fd ⟨[u], []⟩ [(x, u)]) ∧
    ∀ base : Heap, (K w.params).In base → base.Ns mainGlobals mg → FnOk l.prog w (K w.params) mg base (CX w) k fa fd [x] (sp w))
  (hsp : ∀ (w : World) (H : Hp) (a : Addr) (ns : List Int), ns.length ≤ n → Only H → SqL (K w.params) H a (ns.map V.int) → sp w [.ref a] H (fun v _ => v = .bl true) fun _ _ _ => False)
  (hCX : ∀ (w : World) (H : Hp) (s : Shared) (e : Value) (s' : Shared), CX w [] H s (fun _ _ _ => False) e s' → False) :
  PySem.W.WalkO q loose XP YP l.row.toRowW d [] (fun f vs => PySem.call f vs) := by
 refine Att.attach_call hn hdf fun w s₀ s₁ mg mb fa o pm cd doc a vs ns G Y ho hd hcd hmg hobj hints hlen hg => ?_
 have KX := hY w _ Y
 obtain ⟨fd, hb, hF⟩ := F w mg fa _ KX G.T.g hmg
 exact law_call KX G.T.g G.T.b G.T.builtins G.T.nolimit hg hobj hints (Nat.le_trans hlen hn2) hr hF hb (fun H hO hS => hsp w H a ns hlen hO hS) fun H e s' => hCX w H s₁ e s'
end L2
namespace L2
open PySem PySem.Spec PyProof.Rows
def defArgs (s : Stmt) : Arguments := match s with
 | .FunctionDef _ a _ _ _ _ _ _ _ _ => a
 | _ => { posonlyargs := [], args := [], vararg := none, kwonlyargs := [], kw_defaults := [], kwarg := none, defaults := [] }
def defBody (s : Stmt) : List Stmt := match s with
 | .FunctionDef _ _ b _ _ _ _ _ _ _ => b
 | _ => []
def defScope (s : Stmt) : Scope := match s with
 | .FunctionDef _ _ _ _ _ _ sc _ _ _ => sc
 | _ => { kind := .function, names := [], isGenerator := false, isCoroutine := false }
abbrev CX0 : CXT := fun _ _ _ _ _ _ => False
abbrev E0 : XK := fun _ _ _ => False
theorem pass0 {X : Cx} : Passes CX0 X E0 := fun _ _ _ _ _ _ _ h => h.elim
structure Fun (K : PySem.W.Frag) (x qual : Str) (st : Stmt) (f : Addr) (fd : FuncData) : Prop where
 ex : ∃ (oc : Value) (od : Option Addr) (kV doc pm : Value) (an : Option Addr) (cdv ct : Value) (osl : Array (Option Value)),
  fd = PySem.W.fnOf x qual (defArgs st) (defBody st) (defScope st) .none kV doc pm an cdv ct ∧ K.lookup f = some ⟨oc, od, .func fd, osl⟩ ∧ PySem.W.codeIn K cdv qual = true
 kp : PySem.W.keepIn K (.ref f) = true
section
variable {P : Program} {w : World} {K : PySem.W.Frag} {mg : Str → Option Value} {base : Heap}
theorem Fun.ok {x qual : Str} {st : Stmt} {f : Addr} {fd : FuncData} {N ps : List Str} {k : Nat} {sp : Sp} (F : Fun K x qual st f fd) (S : FnScope N ps (defScope st)) (len : ∀ vs H Q E, sp vs H Q E → vs.length = ps.length)
  (hbody : ∀ (cdv : Value) (A : Around) (outer : List Env) (s : Shared) (H : Hp) (vs : List V) (Q : VK) (E : XK), Room k (A.deeper (envOfC qual (defScope st) s.heap.objs.size f cdv)) → sp vs H Q E →
   ∃ t, PSs (cxOf CX0 P w K mg base N qual (defScope st) f cdv A outer s H E).nox (defBody st) t ∧ t { nx := fun _ H' => Q .non H', rt := Q } (start N vs) H) : FnOk P w K mg base CX0 (k + 1) f fd ps sp := by
 obtain ⟨oc, od, kV, doc, pm, an, cdv, ct, osl, rfl, lk, hcd⟩ := F.ex
 refine fn_of lk hcd S len fun A outer s H vs Q E hr hsp => ?_
 obtain ⟨t, h, q⟩ := hbody cdv A outer s H vs Q E hr hsp
 exact ⟨t, h.nox, q⟩
theorem Fun.binds {x qual : Str} {st : Stmt} {f : Addr} {fd : FuncData} {ps : List Str} (F : Fun K x qual st f fd)
  (h : ∀ (kV doc pm : Value) (an : Option Addr) (cdv ct : Value) (us : List Value), us.length = ps.length → bindArgs (PySem.W.fnOf x qual (defArgs st) (defBody st) (defScope st) .none kV doc pm an cdv ct) ⟨us, []⟩ = pure (ps.zip us)) : Binds K fd ps [] := by
 obtain ⟨oc, od, kV, doc, pm, an, cdv, ct, osl, rfl, lk, hcd⟩ := F.ex
 exact .all (h kV doc pm an cdv ct)
theorem fun_mk {x qual : Str} {st : Stmt} {f : Addr} {oc : Value} {od an : Option Addr} {osl : Array (Option Value)} {kV doc pm cdv ct : Value} (l : K.lookup f = some ⟨oc, od, .func (PySem.W.fnOf x qual (defArgs st) (defBody st) (defScope st) .none kV doc pm an cdv ct), osl⟩)
  (c : PySem.W.codeIn K cdv qual = true) (k : PySem.W.keepIn K (.ref f) = true) : Fun K x qual st f (PySem.W.fnOf x qual (defArgs st) (defBody st) (defScope st) .none kV doc pm an cdv ct) := ⟨⟨oc, od, kV, doc, pm, an, cdv, ct, osl, rfl, l, c⟩, k⟩
end
theorem hu_of {A : Around} {k : Nat} (hr : Room k A) : A.units + 1 < cLine := Nat.lt_of_le_of_lt (Nat.add_le_add_left (by decide : 1 ≤ 64) _) hr.units
section
variable {X : Cx}
theorem pv (i : Nat) {x : Str} {pos : Pos} (hN : X.N[i]? = some x := by rfl) (hv : Vis X.env.scope x := by first | exact Or.inl rfl | exact Or.inr (Or.inl rfl) | exact Or.inr (Or.inr rfl)) (hd : (x == ("__debug__" : Str)) = false := by decide)
  (hcd : (x == ("__classdict__" : Str)) = false := by decide) : PE X (.Name x pos) (tVar i) := pe_var hN hv hd hcd
end
def Same (H H' : Hp) : Prop := ∀ b o, H b = some o → H' b = some o
theorem Same.refl (H : Hp) : Same H H := fun _ _ h => h
end L2
namespace L2
open PySem PySem.Spec PyProof.Rows
section
variable {X : Cx}
theorem call_lenD : CallR X (.builtin "len") (fun xs H Q => ∃ a kvs, xs = [V.ref a] ∧ H a = some (.dK kvs) ∧ Q (.int kvs.length) H) := by
 intro pins s σ H xs us Q I r h
 obtain ⟨a, kvs, rfl, ha, q⟩ := h
 obtain ⟨u, rfl, ru⟩ := vals1 r
 cases ru
 exact d_len I (.inl ha) fun t s' I' => ⟨.int kvs.length, H, I', ⟨t, rfl⟩, q⟩
end
end L2
set_option Elab.async false
set_option linter.all false
set_option maxRecDepth 100000
set_option maxHeartbeats 4000000
namespace L2
open PySem PySem.Spec PyProof.Rows
def noStar : Expr → Bool
 | .Starred _ _ => false
 | _ => true
theorem star_cons {e : Expr} {es : List Expr} {env : Env} (h : noStar e = true) : starEach (e :: es) env = (false, eval e env) :: starEach es env := by
 cases e <;> first | rfl | exact absurd h Bool.false_ne_true
theorem star_any {pos : Pos} {env : Env} : ∀ {es : List Expr}, es.all noStar = true → (backTo pos (starEach es env)).any (·.1) = false
 | [], _ => rfl
 | e :: es, h => by
  rw [List.all_cons, Bool.and_eq_true] at h
  rw [star_cons h.1]
  show (false || (backTo pos (starEach es env)).any (·.1)) = false
  rw [star_any h.2]
  rfl
section
variable {X : Cx} {e : Expr} {es : List Expr} {te : TE} {t : TA} {x : Str} {p pos : Pos}
theorem qa_cons (ha : PE X e te) (hr : PA X es t) (hs : noStar e = true := by rfl) : PA X (e :: es) (tCons te t) := pa_cons ha hr (star_cons hs)
theorem qe_call {CX : CXT} {k : Nat} {f : Addr} {fd : FuncData} {ps : List Str} {sp : Sp} {dvs : List V} {ds : List Value} {E : XK} (F : FnOk X.prog X.w X.K X.mg X.base CX k f fd ps sp) (hr : Room k X.A) (hg : Gl X x) (hm : X.mg x = some (.ref f)) (hk : PySem.W.keepIn X.K (.ref f) = true) (hb : Binds X.K fd ps ds) (hd : Vals dvs ds) (hx : Passes CX X E)
  (ha : PA X (e :: es) t) (hdb : (x == ("__debug__" : Str)) = false := by decide) (hs : noStar e = true := by rfl) (hall : es.all noStar = true := by rfl) : PE X (.Call (.Name x p) (e :: es) [] pos) (tCall sp dvs E t) :=
 pe_call F hr hg hm hk hb hd hx ha hdb (star_cons hs) (star_any hall)
theorem qe_callB {id : String} {r : List V → Hp → VK → Prop} (hc : CallR X (.builtin id) r) (hg : Gl X x) (hm : X.mg x = none) (hv : bootBuiltins x = some (.builtin id)) (ha : PA X (e :: es) t) (hn : x ≠ "__name__" := by decide) (hdb : (x == ("__debug__" : Str)) = false := by decide)
  (hs : noStar e = true := by rfl) (hall : es.all noStar = true := by rfl) : PE X (.Call (.Name x p) (e :: es) [] pos) (tCB r t) := pe_callB hc hg hm hv ha hn hdb (star_cons hs) (star_any hall)
theorem qe_callTy {T : String} {r : List V → Hp → VK → Prop} (hc : CallR X (.type T) r) (hg : Gl X x) (hm : X.mg x = none) (hv : bootBuiltins x = some (.type T)) (ha : PA X (e :: es) t) (hn : x ≠ "__name__" := by decide) (hdb : (x == ("__debug__" : Str)) = false := by decide)
  (hs : noStar e = true := by rfl) (hall : es.all noStar = true := by rfl) : PE X (.Call (.Name x p) (e :: es) [] pos) (tCB r t) := pe_callTy hc hg hm hv ha hn hdb (star_cons hs) (star_any hall)
end
section
variable {prog : Program} {w : World} {A : Around} {R : Result → Shared → Prop} {s : Shared}
theorem compLoop_own {elt target iter : Expr} {ifs : List Expr} {scope : Scope} {pos : Pos} {it acc : Value} {env : Env} (I : Nat → Shared → Prop)
  (turn : ∀ n s, I n s → wpAny (model prog w) A (pyNext it) (fun r s₁ => match r with
   | none => R (.ok .next) s₁
   | some v => wpAny (model prog w) A (letOwnedTupleGo target it v) (fun _ s₁ => wpAny (model prog w) A (assign target env v) (fun _ s₂ =>
     wpAny (model prog w) A (forIn ifs true fun c r => if r = true then do let ok ← isTrue c env (eval c env); pure (ForInStep.yield ok) else pure (ForInStep.yield r)) (fun ok s₃ =>
      if ok = true then wpAny (model prog w) A (eval elt env) (fun x s₄ =>
       wpAny (model prog w) A (call (.builtin "list.append") [acc, x]) (fun _ s₅ => ∃ m, m < n ∧ I m s₅) (fun _ _ => False) s₄) (fun _ _ => False) s₃
      else ∃ m, m < n ∧ I m s₃) (fun _ _ => False) s₂) (fun _ _ => False) s₁) (fun _ _ => False) s₁) (fun _ _ => False) s)
  (n : Nat) (h : I n s) :
  codeAny (model prog w) A (.compLoop (.ListComp elt [⟨target, iter, ifs, 0⟩] scope pos) 0 it acc env) R s := by
 refine codeAny_loop rfl I (fun n s hI => ?_) n h
 show wpAny _ A ((compTurn (.ListComp elt [⟨target, iter, ifs, 0⟩] scope pos) 0 it acc env).onRaise (fun x => do noteFrame x env; theTreesLotGoes x)) _ _ s
 refine wpAny_noted ?_
 rw [compTurn_list]
 refine wpAny_bind (wpAny_standAt (wpAny_bind (wpAny_mono (turn n s hI) (fun r s₁ h₁ => ?_) fun _ _ h' => False.elim h')))
 cases r with
 | none => exact wpAny_pure h₁
 | some v =>
  refine wpAny_bind (wpAny_mono h₁ (fun _ s₁' h₁' => ?_) fun _ _ h' => False.elim h')
  refine wpAny_bind (wpAny_mono h₁' (fun _ s₂ h₂ => wpAny_bind (wpAny_mono h₂ (fun ok s₃ h₃ => ?_) fun _ _ h' => False.elim h')) fun _ _ h' => False.elim h')
  cases ok with
  | false => exact wpAny_pure ⟨rfl, h₃⟩
  | true =>
   exact wpAny_bind (wpAny_bind (wpAny_mono h₃ (fun x s₄ h₄ => wpAny_bind (wpAny_mono h₄ (fun _ s₅ h₅ => wpAny_pure (wpAny_pure ⟨rfl, h₅⟩)) fun _ _ h' => False.elim h')) fun _ _ h' => False.elim h'))
end
theorem relabel_inv {env : Env} : ∀ {names : List (Str × NameKind)} {y : Str} {k : NameKind},
  (names.map fun (n, k) => if (k == NameKind.free && env.scope.kind == .function && env.kindOf n == some .cell) then (n, NameKind.cell) else (n, k)).lookup y = some k →
   ∃ k0, (y, k0) ∈ names ∧ (k = k0 ∨ (k0 = .free ∧ k = .cell))
 | [], _, _, h => by simp at h
 | (n, k1) :: r, y, k, h => by
  have ih := @relabel_inv env r y k
  have h : List.lookup y ((if (k1 == NameKind.free && env.scope.kind == .function && env.kindOf n == some .cell) = true then (n, NameKind.cell) else (n, k1)) :: _) = some k := h
  cases hx : y == n with
  | true =>
   have e : y = n := by simpa using hx
   subst e
   by_cases hc : (k1 == NameKind.free && env.scope.kind == .function && env.kindOf y == some .cell) = true
   ·rw [if_pos hc] at h
    simp only [List.lookup_cons, beq_self_eq_true] at h
    have hk : k1 = .free := by
     rw [Bool.and_eq_true, Bool.and_eq_true] at hc
     exact beq_iff_eq.mp hc.1.1
    exact ⟨k1, List.mem_cons_self, .inr ⟨hk, (Option.some.inj h).symm⟩⟩
   ·rw [if_neg hc] at h
    simp only [List.lookup_cons, beq_self_eq_true] at h
    exact ⟨k1, List.mem_cons_self, .inl (Option.some.inj h).symm⟩
  | false =>
   have h2 : (r.map fun (n, k) => if (k == NameKind.free && env.scope.kind == .function && env.kindOf n == some .cell) then (n, NameKind.cell) else (n, k)).lookup y = some k := by
    by_cases hc : (k1 == NameKind.free && env.scope.kind == .function && env.kindOf n == some .cell) = true
    ·rw [if_pos hc] at h; simp only [List.lookup_cons, hx] at h; exact h
    ·rw [if_neg hc] at h; simp only [List.lookup_cons, hx] at h; exact h
   obtain ⟨k0, m, q⟩ := ih h2
   exact ⟨k0, List.mem_cons_of_mem _ m, q⟩
def PIfs (X : Cx) (ifs : List Expr) (t : TT) : Prop :=
 ∀ (pins : List (Addr × Obj)) (s : Shared) (σ : St) (H : Hp) (Q : Bool → Hp → Prop), Inv X pins σ H s → t σ H Q →
  wpAny (model X.prog X.w) X.A (forIn ifs true fun c r => if r = true then do let ok ← isTrue c X.env (eval c X.env); pure (ForInStep.yield ok) else pure (ForInStep.yield r)) (TP X pins σ Q) X.xe s
def tYes : TT := fun _ H Q => Q true H
theorem pifs_nil {X : Cx} : PIfs X [] tYes := fun _ _ _ H _ I h => wpAny_tests_nil ⟨H, I, h⟩
theorem pifs_one {X : Cx} {c : Expr} {t : TT} (h : PT X c t) : PIfs X [c] t := fun pins s σ H Q I hw => wpAny_tests_one (h pins s σ H Q I hw)
def cxComp (X : Cx) (x : Str) (scope : Scope) (cl : List (Str × Addr)) (fp : List Addr) (C : Addr) (s₂ : Shared) (H₂ : Hp) : Cx where
 prog := X.prog
 w := X.w
 K := X.K
 mg := X.mg
 base := X.base
 A := X.A
 N := x :: X.N
 s₀ := s₂
 H₀ := H₂
 env := compEnvC scope cl C X.env
 outer := X.stack
 stack := X.stack
 ex := fp
 fn := fun _ => false
 calm := X.calm
 pn := []
 xe := fun _ _ => False
def tComp (wi : TI) (tc : TT) (te : TE) : TE := fun σ H Q => wi σ H fun J H1 => ∀ D, H1 D = none → ∃ W : Nat → Nat → List V → Hp → Prop, (∃ m, W 0 m [] (upd H1 D (.lst []))) ∧ ∀ i m ys H, W i m ys H →
 (J.stop i H ∧ Q (.ref D) H) ∨ (J.go i H ∧ ∀ x H', J.yld i H x H' → tc (some x :: σ) H' fun b H2 =>
  if b = true then te (some x :: σ) H2 fun y H3 => H3 D = some (.lst ys) ∧ ys.length < sizeLine ∧ ∃ m', m' < m ∧ W (i + 1) m' (ys ++ [y]) (upd H3 D (.lst (ys ++ [y])))
  else ∃ m', m' < m ∧ W (i + 1) m' ys H2)
section
variable {X : Cx}
structure CompOk (X : Cx) (x : Str) (scope : Scope) (cl : List (Str × Addr)) : Prop where
 clos : closureFor scope X.env = pure cl
 cell : ∀ y ∈ scope.names, y.2 ≠ .cell
 kind : scope.kind = .function
 names : ∀ y ∈ scope.names, y.2 = .local → scope.names.lookup y.1 = some .local
 hx : scope.names.lookup x = some .local
 loc : ∀ y ∈ scope.names, y.2 = .local → y.1 ∉ X.N
 free : ∀ y ∈ scope.names, y.2 = .free → X.env.kindOf y.1 ≠ some .local ∧ (X.env.kindOf y.1 = some .cell ∨ X.env.kindOf y.1 = some .free) ∧ ∃ c, cl.lookup y.1 = some c
 cl : ∀ y c, cl.lookup y = some c → X.env.cells.lookup y = some c
theorem comp_block {elt iter : Expr} {x : Str} {px pos : Pos} {ifs : List Expr} {scope : Scope} {cl : List (Str × Addr)} {tc : TT} {te : TE} {RR : Value → Addr → Result → Shared → Prop} {EE : Value → Shared → Prop}
  (hc : X.calm = true) (hN : (x :: X.N).Nodup) (K : CompOk X x scope cl)
  (ht : ∀ fp C s₂ H₂, PIfs (cxComp X x scope cl fp C s₂ H₂) ifs tc) (he : ∀ fp C s₂ H₂, PE (cxComp X x scope cl fp C s₂ H₂) elt te)
  {pins : List (Addr × Obj)} {σ : St} {s₂ : Shared} {H₂ : Hp} {it : Addr} {fp : List Addr} {tn : Nat → Heap → Prop} {J : It} {Q : VK}
  (I₂ : Inv X pins σ H₂ s₂) (T : Turn X.prog X.w X.K (.Name x px) J fp it tn) (st₂ : tn 0 s₂.heap) (f₂ : ∀ b ∈ fp, FpOk X pins H₂ b)
  (R : ∀ D, H₂ D = none → ∃ W : Nat → Nat → List V → Hp → Prop, (∃ m, W 0 m [] (upd H₂ D (.lst []))) ∧ ∀ i m ys H, W i m ys H →
   (J.stop i H ∧ Q (.ref D) H) ∨ (J.go i H ∧ ∀ x H', J.yld i H x H' → tc (some x :: σ) H' fun b H2 =>
    if b = true then te (some x :: σ) H2 fun y H3 => H3 D = some (.lst ys) ∧ ys.length < sizeLine ∧ ∃ m', m' < m ∧ W (i + 1) m' (ys ++ [y]) (upd H3 D (.lst (ys ++ [y])))
    else ∃ m', m' < m ∧ W (i + 1) m' ys H2))
  (hRR : ∀ (D C : Addr) (H : Hp) (s4 : Shared) (m : Str → Option Value), s4.heap.Ns C m → C ≠ X.env.locals → H C = none → (∀ x c, X.env.cells.lookup x = some c → c ≠ C) → s₂.heap.objs.size ≤ C → Inv X pins σ H s4 →
   Q (.ref D) H → RR (.ref D) C (.ok .next) s4) :
  wpAny (model X.prog X.w) X.A (newList []) (fun acc s₃ => wpAny (model X.prog X.w) X.A (newFunctionEnv scope X.env.globals cl [] X.env.qual none .none (some X.env)) (fun cenv s₄ =>
   codeAny (model X.prog X.w) X.A (.compStart (.ListComp elt [⟨.Name x px, iter, ifs, 0⟩] scope pos) 0 (.ref it) acc { cenv with scope := relabel scope X.env }) (RR acc cenv.locals) s₄) EE s₃) EE s₂ := by
 refine wpAny_newObj_type (wpAny_newFunctionEnv K.cell (by intro y hy; simp at hy) (fun h₁ hns₁ hsb₁ => ?_) K.kind)
 dsimp only at hns₁ hsb₁ ⊢
 generalize hH2 : s₂.heap.push { cls := .type "list", dict := none, data := .seq ([] : List Value).toArray } = H2 at hns₁ hsb₁ ⊢
 have hC : H2.objs.size = s₂.heap.objs.size + 1 := by rw [← hH2, Heap.size_push]
 have hDC : s₂.heap.objs.size ≠ H2.objs.size := by rw [hC]; exact Nat.ne_of_lt (Nat.lt_succ_self _)
 have below : ∀ b, b < s₂.heap.objs.size → b ≠ H2.objs.size ∧ b ≠ s₂.heap.objs.size := fun b hb => ⟨by rw [hC]; exact Nat.ne_of_lt (Nat.lt_succ_of_lt hb), Nat.ne_of_lt hb⟩
 have old : ∀ b o, s₂.heap.get? b = some o → h₁.get? b = some o := fun b o e => hsb₁.extBut b o (below b (Heap.lt_size e)).1 (Heap.get?_push_of_some _ (hH2 ▸ Heap.get?_push_of_some _ e))
 have hacc : h₁.get? s₂.heap.objs.size = some { cls := .type "list", dict := none, data := .seq ([] : List Value).toArray } := hsb₁.extBut _ _ hDC (Heap.get?_push_of_some _ (hH2 ▸ Heap.get?_push_size _ rfl))
 have fD : H₂ s₂.heap.objs.size = none := I₂.hok.fresh (Nat.le_refl _)
 have fC : H₂ H2.objs.size = none := I₂.hok.fresh (by rw [hC]; exact Nat.le_succ _)
 have fpLt : ∀ b ∈ fp, b < s₂.heap.objs.size := fun b hb => let ⟨o, e, _⟩ := T.obj _ _ st₂ b hb; Heap.lt_size e
 obtain ⟨W, ⟨m0, w0⟩, turn⟩ := R s₂.heap.objs.size fD
 have okX : (cxComp X x scope cl fp H2.objs.size s₂ H₂).Ok := by
  refine ⟨I₂.ok.mod, K.kind, I₂.ok.glob, I₂.ok.blt, ?_, fun y z c h1 h2 => I₂.ok.inj y z c (K.cl y c h1) (K.cl z c h2), fun y hy => ?_, fun y c h _ => ?_, I₂.ok.hd, I₂.ok.frames, .inl rfl, fun b hb => ⟨(below b (fpLt b hb)).1, fun y c h => (f₂ b hb).2.2.2.2.1 y c (K.cl y c h)⟩, I₂.bs,
   Nat.le_trans I₂.ok.bsz I₂.sz, fun b o e hb => ?_, fun b hb z => ?_, I₂.stack, I₂.stkFree⟩
  ·show s₂.heap.objs.size ≤ H2.objs.size
   rw [hC]; exact Nat.le_succ _
  ·have hy' : (scope.names.map fun (n, k) => if (k == NameKind.free && X.env.scope.kind == .function && X.env.kindOf n == some .cell) then (n, NameKind.cell) else (n, k)).lookup y = some .cell ∨
     (scope.names.map fun (n, k) => if (k == NameKind.free && X.env.scope.kind == .function && X.env.kindOf n == some .cell) then (n, NameKind.cell) else (n, k)).lookup y = some .free := hy
   have fr : (y, NameKind.free) ∈ scope.names := by
    rcases hy' with q | q
    ·obtain ⟨k0, hm, z | ⟨z, _⟩⟩ := relabel_inv q
     ·subst z; exact absurd rfl (K.cell _ hm)
     ·subst z; exact hm
    ·obtain ⟨k0, hm, z | ⟨z, w⟩⟩ := relabel_inv q
     ·subst z; exact hm
     ·cases w
   exact (K.free _ fr rfl).2.2
  ·exact absurd (show false = true from h) Bool.false_ne_true
  ·obtain ⟨_, _, _, f3, _⟩ := f₂ b hb
   rcases f3 with z | z
   ·exact I₂.ok.noex b o e z
   ·exact absurd (Nat.lt_of_lt_of_le (Heap.lt_size (I₂.ok.bs b o e).1) z) (Nat.lt_irrefl _)
  ·obtain ⟨_, f1, f2', _⟩ := f₂ b hb
   rcases List.mem_cons.mp (I₂.stkSub b z) with q | q
   ·exact f1 q
   ·exact f2' q
 have hDne : ∀ b, H₂ b ≠ none → b ≠ s₂.heap.objs.size := fun b hb z => hb (z ▸ fD)
 have ldD : HOk X.prog X.w (upd H₂ s₂.heap.objs.size (.lst [])) h₁ := I₂.hok.laid old (Nat.le_refl _) ⟨Nat.zero_le _, [], _, .nil, hacc⟩
 have visFree : ∀ y, Vis (relabel scope X.env) y → y ∈ X.N → (y, NameKind.free) ∈ scope.names ∧ ((relabel scope X.env).names.lookup y = some .cell ∨ (relabel scope X.env).names.lookup y = some .free) := by
  intro y hv hne
  rcases hv with q | q | q
  ·obtain ⟨k0, hm, z | ⟨z, w⟩⟩ := relabel_inv (env := X.env) (show (scope.names.map _).lookup y = _ from q)
   ·subst z; exact absurd hne (K.loc _ hm rfl)
   ·cases w
  ·obtain ⟨k0, hm, z | ⟨z, w⟩⟩ := relabel_inv (env := X.env) (show (scope.names.map _).lookup y = _ from q)
   ·subst z; exact absurd rfl (K.cell _ hm)
   ·subst z; exact ⟨hm, .inl q⟩
  ·obtain ⟨k0, hm, z | ⟨z, w⟩⟩ := relabel_inv (env := X.env) (show (scope.names.map _).lookup y = _ from q)
   ·subst z; exact ⟨hm, .inr q⟩
   ·cases w
 have I' : ∀ tk, Inv (cxComp X x scope cl fp H2.objs.size s₂ H₂) [] (none :: σ) (upd H₂ s₂.heap.objs.size (.lst [])) { s₂ with heap := h₁, toks := tk } := by
  intro tk
  refine ⟨okX, rfl, I₂.bare, Un.laid old (Nat.le_refl _) fD, ⟨_, hns₁, fun i y v h1 h2 h3 => ?_⟩, fun y c h => ?_, ?_, fun y c h => ?_, fun p hp => absurd hp (by simp [cxComp]), ldD, ?_⟩
  ·cases i with
   | zero => simp at h2
   | succ i =>
    have h1' : X.N[i]? = some y := by simpa [cxComp] using h1
    have h2' : σ[i]? = some (some v) := by simpa using h2
    have hne : y ∈ X.N := List.mem_of_getElem? h1'
    obtain ⟨fm, kk⟩ := visFree y h3 hne
    obtain ⟨nl, vz, c, hcl⟩ := K.free _ fm rfl
    obtain ⟨mm, hn, hl⟩ := I₂.loc
    obtain ⟨u, ru, l⟩ := hl i y v h1' h2' (vz.elim (fun z => .inr (.inl z)) fun z => .inr (.inr z))
    rcases l with ⟨z, _⟩ | ⟨_, c', hc', hcell⟩
    ·exact absurd z nl
    ·have ec : c' = c := Option.some.inj (hc'.symm.trans (K.cl _ _ hcl))
     subst ec
     obtain ⟨o, ho, hd⟩ := hcell
     exact ⟨u, ru, .inr ⟨kk, c', hcl, o, old _ _ ho, hd⟩⟩
  ·obtain ⟨v, o, ho, hd⟩ := I₂.cell y c (K.cl y c h)
   exact ⟨v, o, old _ _ ho, hd⟩
  ·show upd H₂ _ _ H2.objs.size = none
   rw [upd_ne (Ne.symm hDC)]; exact fC
  ·show upd H₂ _ _ c = none
   obtain ⟨v, o, ho, hd⟩ := I₂.cell y c (K.cl y c h)
   rw [upd_ne (below c (Heap.lt_size ho)).2]; exact I₂.freeC y c (K.cl y c h)
  ·show (none :: σ).length = (x :: X.N).length
   rw [List.length_cons, List.length_cons, I₂.len]
 have stat : ∀ {H' : Hp}, (∀ b ∈ fp, H' b = none) → ∀ b ∈ fp, FpOk (cxComp X x scope cl fp H2.objs.size s₂ H₂) [] H' b := fun hn b hb =>
  ⟨hn b hb, (okX.exf b hb).1, okX.exfs b hb, .inl hb, (okX.exf b hb).2, fun p hp => absurd hp (by simp [cxComp])⟩
 have tn₁ : tn 0 h₁ := T.keep _ _ _ st₂ fun b _ o e => old b o e
 have fp₁ : ∀ b ∈ fp, upd H₂ s₂.heap.objs.size (.lst []) b = none := fun b hb => by rw [upd_ne (below b (fpLt b hb)).2]; exact (f₂ b hb).1
 have loop : ∀ s₃ : Shared, (∃ tk, s₃ = { s₂ with heap := h₁, toks := tk }) →
   codeAny (model X.prog X.w) X.A (.compLoop (.ListComp elt [⟨.Name x px, iter, ifs, 0⟩] scope pos) 0 (.ref it) (.ref s₂.heap.objs.size) (compEnvC scope cl H2.objs.size X.env))
    (RR (.ref s₂.heap.objs.size) H2.objs.size) s₃ := by
  rintro s₃ ⟨tk, rfl⟩
  refine compLoop_own (fun n s' => ∃ i ys H' v0, Inv (cxComp X x scope cl fp H2.objs.size s₂ H₂) [] (v0 :: σ) H' s' ∧ tn i s'.heap ∧ (∀ b ∈ fp, H' b = none) ∧ W i n ys H') ?_ m0
   ⟨0, [], _, none, I' tk, tn₁, fp₁, w0⟩
  rintro n s3 ⟨i, ys, H3, v0, I3, st3, fr3, w3⟩
  rcases turn i n ys H3 w3 with ⟨stop, qn⟩ | ⟨go, step⟩
  ·refine thn (T.done (cxComp X x scope cl fp H2.objs.size s₂ H₂) rfl rfl rfl hc i [] s3 (v0 :: σ) H3 (fun _ _ => False) I3 (stat fr3) st3 stop) fun r s4 ⟨hr, I4⟩ => ?_
   subst hr
   show RR _ _ (.ok .next) s4
   obtain ⟨m, hn, _⟩ := I4.loc
   have un := I4.base
   have os4 : s4.os = s₂.os := I4.os
   refine hRR _ _ H3 s4 m hn ?_ I4.free (fun y c h z => ?_) (by rw [hC]; exact Nat.le_succ _) ?_ qn
   ·exact Ne.symm (below _ I₂.lt).1
   ·obtain ⟨v, o, ho, hd⟩ := I₂.cell y c h
    exact (below c (Heap.lt_size ho)).1 z
   ·obtain ⟨hh, g, d, t, os'⟩ := s4
    obtain rfl : os' = s₂.os := os4
    exact I₂.call (h' := hh) (g' := g) (d' := d) (t' := t) (ch := fp) un I4.hok I4.bare fun b hb => ⟨(f₂ b hb).2.2.2.1, (f₂ b hb).2.1, (f₂ b hb).2.2.2.2.1, (f₂ b hb).2.2.2.2.2⟩
  ·refine thn (T.item (cxComp X x scope cl fp H2.objs.size s₂ H₂) rfl rfl rfl hc i [] s3 (v0 :: σ) H3 (fun _ _ => False) I3 (stat fr3) st3 go) fun r s4 ⟨u, hr, h4⟩ => ?_
   subst hr
   refine thn h4 fun _ s5 ⟨x5, H5, I5, r5, y5, st5, fr5⟩ => ?_
   have I5' := I5.pinned (stat fr5) (T.obj _ _ st5)
   have hg : PG (cxComp X x scope cl fp H2.objs.size s₂ H₂) (.Name x px) (gName 0) := pg_name (i := 0) (x := x) hN rfl (.inl (lookup_relabel_local K.hx)) (.inr (lookup_relabel_local K.hx))
   have again : ∀ {H' : Hp} {s' : Shared} {v : Option V}, Inv (cxComp X x scope cl fp H2.objs.size s₂ H₂) ([] ++ pinsAt fp s5.heap) (v :: σ) H' s' → tn (i + 1) s'.heap ∧ ∀ b ∈ fp, H' b = none := fun I7 =>
    ⟨T.keep _ _ _ st5 fun b hb o e => (I7.pin (b, o) (List.mem_append_right _ (List.mem_append_right _ (mem_pinsAt hb e)))).1, fun b hb => by
     obtain ⟨o, e, d⟩ := T.obj _ _ st5 b hb
     exact (I7.pin (b, o) (List.mem_append_right _ (List.mem_append_right _ (mem_pinsAt hb e)))).2.1⟩
   refine thn (hg _ s5 (v0 :: σ) H5 x5 u (fun σ' H' => σ' = some x5 :: σ ∧ H' = H5) I5' r5 ⟨rfl, rfl⟩) fun _ s6 ⟨σ6, H6, I6, e6, e6'⟩ => ?_
   subst e6 e6'
   refine thn (ht fp _ s₂ H₂ _ s6 (some x5 :: σ) H6 _ I6 (step x5 H6 y5)) fun ok s7 ⟨H7, I7, q7⟩ => ?_
   cases ok with
   | false =>
    rw [if_neg Bool.false_ne_true] at q7
    rw [if_neg Bool.false_ne_true]
    obtain ⟨m', hm, w7⟩ := q7
    obtain ⟨k1, k2⟩ := again I7
    exact ⟨m', hm, i + 1, ys, H7, some x5, I7.unpinned, k1, k2, w7⟩
   | true =>
    rw [if_pos rfl] at q7
    rw [if_pos rfl]
    refine thn (he fp _ s₂ H₂ _ s7 (some x5 :: σ) H7 _ I7 q7) fun y s8 ⟨y8, H8, I8, r8, hD8, hl8, m', hm, w8⟩ => ?_
    refine thn (mt_append (X := cxComp X x scope cl fp H2.objs.size s₂ H₂) _ s8 _ H8 (.ref s₂.heap.objs.size) [y8] (.ref s₂.heap.objs.size) [y] (fun _ H9 => H9 = upd H8 s₂.heap.objs.size (.lst (ys ++ [y8]))) I8 rfl (.cons r8 .nil) ⟨_, ys, y8, rfl, rfl, hD8, hl8, rfl⟩) fun _ s9 ⟨_, H9, I9, _, e9⟩ => ?_
    subst e9
    obtain ⟨k1, k2⟩ := again I9
    exact ⟨m', hm, i + 1, ys ++ [y8], _, some x5, I9.unpinned, k1, k2, w8⟩
 exact codeAny_compStart_list (loop _ ⟨_, rfl⟩) (T.self _ 0 _ _ _ tn₁ (loop _ ⟨_, rfl⟩))
theorem pe_comp {elt iter : Expr} {x : Str} {px pos : Pos} {ifs : List Expr} {scope : Scope} {cl : List (Str × Addr)} {wi : TI} {tc : TT} {te : TE}
  (hc : X.calm = true) (hN : (x :: X.N).Nodup) (K : CompOk X x scope cl) (hi : PI X (.Name x px) iter wi)
  (ht : ∀ fp C s₂ H₂, PIfs (cxComp X x scope cl fp C s₂ H₂) ifs tc) (he : ∀ fp C s₂ H₂, PE (cxComp X x scope cl fp C s₂ H₂) elt te)
  (hs : ∀ v, foldedSetIterable iter X.env v = pure v := by intro _; rfl) : PE X (.ListComp elt [⟨.Name x px, iter, ifs, 0⟩] scope pos) (tComp wi tc te) := by
 intro pins s σ H Q I h
 rw [eval_ListComp]
 refine wpAny_comprehension_free (use := none) rfl hs K.clos K.kind K.names (thn (hi pins s σ H _ I h) fun xv s₁ h₁ => thn h₁ fun itv s₂ h₂ => ?_)
 obtain ⟨it, fp, tn, J, H₂, e, I₂, T, st₂, f₂, R⟩ := h₂
 subst e
 refine comp_block hc hN K ht he I₂ T st₂ f₂ R ?_
 intro D C H s4 m hn hCL hC0 hCc hCsz I4 q
 refine ⟨m, hn, fun h' hsb => ⟨.ref D, H, ?_, rfl, q⟩⟩
 refine I4.turned (it := C) (t' := s4.toks) (fun b o hb e => (hsb.2 b hb).trans e) hC0 hCL (.inr (Nat.le_trans I₂.sz hCsz)) hCc fun p hp z => ?_
 exact absurd (Nat.lt_of_lt_of_le (Heap.lt_size (I₂.pin p hp).1) (by rw [z]; exact hCsz)) (Nat.lt_irrefl _)
end
def Its (x : Str) : It := ⟨fun i _ => i < x.cps.size, fun i H v H' => H' = H ∧ ∃ c, x.cps[i]? = some c ∧ v = .str ⟨#[c]⟩, fun i _ => x.cps.size ≤ i⟩
section
variable {X : Cx}
inductive Ty where
 | non | bl | int | str | lst | tup | dct
 deriving DecidableEq
def tyName : Ty → String
 | .non => "NoneType" | .bl => "bool" | .int => "int" | .str => "str" | .lst => "list" | .tup => "tuple" | .dct => "dict"
def tyH : HO → Option Ty
 | .lst _ => some .lst
 | .frz _ (.lst _) => some .lst
 | .tup _ => some .tup
 | .dK _ => some .dct
 | .dT _ => some .dct
 | _ => none
def tyN (H : Hp) : V → Option Ty
 | .non => some .non
 | .bl _ => some .bl
 | .int _ => some .int
 | .str _ => some .str
 | .ref a => (H a).bind tyH
 | _ => none
theorem tyOf_of {K : PySem.W.Frag} {H : Hp} {x : V} {n : Ty} (h : tyN H x = some n) : TyOf K H x (.type (tyName n)) := by
 cases x with
 | non => cases h; exact .non
 | bl b => cases h; exact .bl b
 | int i => cases h; exact .int i
 | str z => cases h; exact .str z
 | ref a =>
  have h : (H a).bind tyH = some n := h
  cases e : H a with
  | none => rw [e] at h; cases h
  | some o =>
   rw [e] at h
   have h : tyH o = some n := h
   cases o with
   | lst xs => cases h; exact .lst e
   | tup xs => cases h; exact .tup e
   | dK kvs => cases h; exact .dK e
   | dT kvs => cases h; exact .dT e
   | frz ob u =>
    cases u with
    | lst xs => cases h; exact .frz e
    | _ => cases h
   | _ => cases h
 | byt b => cases h
 | flt b => cases h
 | ty n => cases h
def isIn : Ty → Ty → Bool
 | .bl, .int => true
 | a, b => decide (a = b)
theorem kit_all (K : PySem.W.Frag) (n T : Ty) : PySem.W.kitOne K (.type (tyName n)) (.type (tyName T)) = some (isIn n T) := by
 cases n <;> cases T <;> with_unfolding_all rfl
theorem call_isinst : CallR X (.builtin "isinstance") (fun xs H Q => ∃ x T n, xs = [x, .ty (tyName T)] ∧ tyN H x = some n ∧ Q (.bl (isIn n T)) H) := by
 intro pins s σ H xs us Q I r h
 obtain ⟨x, T, n, rfl, hn, q⟩ := h
 obtain ⟨u, w', rfl, rx, rT⟩ := vals2 r
 cases (show w' = Value.type (tyName T) from rT)
 exact isinst_ok I rx (tyOf_of hn) (kit_all X.K n T) fun tk => ⟨.bl (isIn n T), H, I.tok tk, rfl, q⟩
theorem op_fdivB : OpR X (binaryOp .FloorDiv) (rI (fun _ j => 0 < j ∧ j < 18446744073709551616) fun i j => .int (i / j)) := opI fun i j _ _ _ _ _ hc q => by
 have h1 : (0 : Int) < j := hc.1
 have h2 : j < 18446744073709551616 := hc.2
 refine floordiv_int (by omega) (by rw [Int.fdiv_eq_ediv_of_nonneg i (by omega)]; exact q) (.inl (PyProof.noPylong_of_log2 ?_))
 have h3 : j.natAbs < 2 ^ 64 := by
  have : (2 : Nat) ^ 64 = 18446744073709551616 := by decide
  omega
 exact Nat.lt_of_lt_of_le ((Nat.log2_lt (by omega)).mpr h3) (by decide)
end
end L2
set_option Elab.async false
set_option linter.all false
set_option maxRecDepth 100000
set_option maxHeartbeats 4000000
namespace L2
open PySem PySem.Spec PyProof.Rows
structure JE (X : Cx) (e : Expr) (t : TE) : Prop where
 h : PE X e t
structure JT (X : Cx) (e : Expr) (t : TT) : Prop where
 h : PT X e t
structure JW (X : Cx) (e : Expr) (t : TT) : Prop where
 h : PW X e t
structure JA (X : Cx) (es : List Expr) (t : TA) : Prop where
 h : PA X es t
structure JS (X : Cx) (st : Stmt) (t : TS) : Prop where
 h : PS X st t
structure JB (X : Cx) (st : List Stmt) (t : TS) : Prop where
 h : PSs X st t
structure JG (X : Cx) (e : Expr) (t : TG) : Prop where
 h : PG X e t
structure JI (X : Cx) (tg e : Expr) (t : TI) : Prop where
 h : PI X tg e t
structure JF (X : Cx) (ifs : List Expr) (t : TT) : Prop where
 h : PIfs X ifs t
structure JO (X : Cx) (e : Option Expr) (t : TO) : Prop where
 h : PO X e t
section
variable {X : Cx} {a b c e o i : Expr} {es : List Expr} {ta tb tc te : TE} {tA tB' : TT} {t : TA} {pos : Pos} {rest : List Expr}
theorem jv (i : Nat) {x : Str} {pos : Pos} (hN : X.N[i]? = some x := by rfl) (hv : Vis X.env.scope x := by first | exact Or.inl rfl | exact Or.inr (Or.inl rfl) | exact Or.inr (Or.inr rfl)) (hd : (x == ("__debug__" : Str)) = false := by decide)
  (hcd : (x == ("__classdict__" : Str)) = false := by decide) : JE X (.Name x pos) (tVar i) := ⟨pe_var hN hv hd hcd⟩
theorem je_int {i j pos} : JE X (.Constant (.int i) j pos) (tC (.int i)) := ⟨pe_int⟩
theorem je_bl {b j pos} : JE X (.Constant (.bool b) j pos) (tC (.bl b)) := ⟨pe_bl⟩
theorem je_non {j pos} : JE X (.Constant .none j pos) (tC .non) := ⟨pe_non⟩
theorem je_str {x j pos} : JE X (.Constant (.str x) j pos) (tC (.str x)) := ⟨pe_str⟩
theorem je_glob {x : Str} {v : V} {u : Value} (hg : Gl X x) (hm : X.mg x = some u) (r : RelV v u) (hd : (x == ("__debug__" : Str)) = false := by decide) : JE X (.Name x pos) (tC v) := ⟨pe_glob hg hm r hd⟩
theorem je_bltn {x : Str} {v : V} {u : Value} (hg : Gl X x) (hm : X.mg x = none) (hv : bootBuiltins x = some u) (r : RelV v u) (hn : x ≠ "__name__" := by decide) (hd : (x == ("__debug__" : Str)) = false := by decide) : JE X (.Name x pos) (tC v) := ⟨pe_bltn hg hm hv r hn hd⟩
theorem je_op {op : Operator} {r : R2} (ho : OpR X (binaryOp op) r) (ha : JE X a ta) (hb : JE X b tb) : JE X (.BinOp a op b pos) (tOp r ta tb) := ⟨pe_op ho ha.h hb.h⟩
theorem je_un {op : UnaryOp} {r : V → Hp → VK → Prop} (ho : UnR X (unaryOp op) r) (ha : JE X a ta) : JE X (.UnaryOp op a pos) (tUn r ta) := ⟨pe_un ho ha.h⟩
theorem je_cmp {op : CmpOp} {r : R2} (ho : OpR X (compareOp op) r) (ha : JE X a ta) (hb : JE X b tb) (hm : behindInMarks op b = false) : JE X (.Compare a [op] [b] pos) (tOp r ta tb) := ⟨pe_cmpR ho ha.h hb.h hm⟩
theorem jt_cmp {op : CmpOp} {r : R2} (ho : OpR X (compareOp op) r) (ha : JE X a ta) (hb : JE X b tb) (hm : behindInMarks op b = false) : JT X (.Compare a [op] [b] pos) (tTest (tOp r ta tb)) := ⟨pt_cmpR ho ha.h hb.h hm⟩
theorem je_one {op} {t : TE} (h : JE X a t) : JE X (.BoolOp op [a] pos) t := ⟨pe_one h.h⟩
theorem je_or (ha : JE X a ta) (hb : JE X (.BoolOp .Or (b :: rest) pos) tb) : JE X (.BoolOp .Or (a :: b :: rest) pos) (tOrV ta tb) := ⟨pe_or ha.h hb.h⟩
theorem jw_pt {t : TT} (h : JW X e t) : JT X e t := ⟨h.h.pt⟩
theorem jw_and1 (ha : JT X a tA) : JW X (.BoolOp .And [a] pos) tA := ⟨pw_and1 ha.h⟩
theorem jw_or1 (ha : JT X a tA) : JW X (.BoolOp .Or [a] pos) tA := ⟨pw_or1 ha.h⟩
theorem jw_and (ha : JT X a tA) (hb : JW X (.BoolOp .And (b :: rest) pos) tB') : JW X (.BoolOp .And (a :: b :: rest) pos) (tAnd tA tB') := ⟨pw_and ha.h hb.h⟩
theorem jw_or (ha : JT X a tA) (hb : JW X (.BoolOp .Or (b :: rest) pos) tB') : JW X (.BoolOp .Or (a :: b :: rest) pos) (tOr tA tB') := ⟨pw_or ha.h hb.h⟩
theorem jt_not (ha : JT X a tA) : JT X (.UnaryOp .Not a pos) (tNot tA) := ⟨pt_not ha.h⟩
def plainTest : Expr → Bool
 | .Name _ _ => true | .Call _ _ _ _ => true | .Subscript _ _ _ => true | .Attribute _ _ _ => true | .IfExp _ _ _ _ => false | _ => false
theorem plain_test {env : Env} (h : plainTest e = true) : ∀ whole, isTrue e env whole = (do let v ← whole; standAt e.pos; holding [v] (truthy v)) := by
 cases e <;> first | (intro _; rfl) | exact absurd h Bool.false_ne_true
theorem jt_val {t : TE} (h : JE X e t) (he : plainTest e = true := by rfl) : JT X e (tB t) := ⟨pt_val h.h (plain_test he)⟩
theorem je_if (hc : JT X c tA) (ha : JE X a ta) (hb : JE X b tb) : JE X (.IfExp c a b pos) (tIf tA ta tb) := ⟨pe_ifExp hc.h ha.h hb.h⟩
theorem ja_nil : JA X [] tNil := ⟨pa_nil⟩
theorem ja_cons (ha : JE X e te) (hr : JA X es t) (hs : noStar e = true := by rfl) : JA X (e :: es) (tCons te t) := ⟨qa_cons ha.h hr.h hs⟩
theorem je_tup {x1} (h : JA X es t) : JE X (.Tuple es x1 pos) (tTup t) := ⟨pe_tup h.h⟩
theorem je_lst (h : JA X es t) : JE X (.List es pos) (tLst t) := ⟨pe_lst h.h⟩
theorem je_dnewK : JE X (.Dict [] [] pos) tDNewK := ⟨pe_dnewK⟩
theorem je_dnewT : JE X (.Dict [] [] pos) tDNewT := ⟨pe_dnewT⟩
theorem je_call {CX : CXT} {k : Nat} {f : Addr} {fd : FuncData} {ps : List Str} {sp : Sp} {dvs : List V} {ds : List Value} {E : XK} {x : Str} {p : Pos} (F : FnOk X.prog X.w X.K X.mg X.base CX k f fd ps sp) (hr : Room k X.A) (hg : Gl X x) (hm : X.mg x = some (.ref f)) (hk : PySem.W.keepIn X.K (.ref f) = true) (hb : Binds X.K fd ps ds) (hd : Vals dvs ds) (hx : Passes CX X E)
  (ha : JA X (e :: es) t) (hdb : (x == ("__debug__" : Str)) = false := by decide) (hs : noStar e = true := by rfl) (hall : es.all noStar = true := by rfl) : JE X (.Call (.Name x p) (e :: es) [] pos) (tCall sp dvs E t) := ⟨qe_call F hr hg hm hk hb hd hx ha.h hdb hs hall⟩
theorem je_callB {id : String} {r : List V → Hp → VK → Prop} {x : Str} {p : Pos} (hc : CallR X (.builtin id) r) (hg : Gl X x) (hm : X.mg x = none) (hv : bootBuiltins x = some (.builtin id)) (ha : JA X (e :: es) t) (hn : x ≠ "__name__" := by decide) (hdb : (x == ("__debug__" : Str)) = false := by decide)
  (hs : noStar e = true := by rfl) (hall : es.all noStar = true := by rfl) : JE X (.Call (.Name x p) (e :: es) [] pos) (tCB r t) := ⟨qe_callB hc hg hm hv ha.h hn hdb hs hall⟩
theorem je_callTy {T : String} {r : List V → Hp → VK → Prop} {x : Str} {p : Pos} (hc : CallR X (.type T) r) (hg : Gl X x) (hm : X.mg x = none) (hv : bootBuiltins x = some (.type T)) (ha : JA X (e :: es) t) (hn : x ≠ "__name__" := by decide) (hdb : (x == ("__debug__" : Str)) = false := by decide)
  (hs : noStar e = true := by rfl) (hall : es.all noStar = true := by rfl) : JE X (.Call (.Name x p) (e :: es) [] pos) (tCB r t) := ⟨qe_callTy hc hg hm hv ha.h hn hdb hs hall⟩
theorem je_ix {r : R2} (hr : IxR X r) (ha : JE X a ta) (hb : JE X b tb) (hs : PlainIx b) : JE X (.Subscript a b pos) (tOp r ta tb) := ⟨pe_ix hr ha.h hb.h hs⟩
theorem jo_none : JO X none tNoPart := ⟨po_none⟩
theorem jo_some (h : JE X e te) : JO X (some e) (tPart te) := ⟨po_some h.h⟩
theorem je_slice {lo hi : Option Expr} {tl th : TO} {p2 : Pos} {r : V → Option Int → Option Int → Hp → VK → Prop} (hr : SlR X r) (he : JE X e te) (hl : JO X lo tl) (hu : JO X hi th) : JE X (.Subscript e (.Slice lo hi none p2) pos) (tSl r te tl th) := ⟨pe_slice hr he.h hl.h hu.h⟩
theorem jf_nil : JF X [] tYes := ⟨pifs_nil⟩
theorem jf_one {t : TT} (h : JT X c t) : JF X [c] t := ⟨pifs_one h.h⟩
theorem je_comp {elt iter : Expr} {x : Str} {px : Pos} {ifs : List Expr} {scope : Scope} {cl : List (Str × Addr)} {wi : TI} {tc : TT}
  (hc : X.calm = true) (hN : (x :: X.N).Nodup) (K : CompOk X x scope cl) (hi : JI X (.Name x px) iter wi)
  (ht : ∀ fp C s₂ H₂, JF (cxComp X x scope cl fp C s₂ H₂) ifs tc) (he : ∀ fp C s₂ H₂, JE (cxComp X x scope cl fp C s₂ H₂) elt te)
  (hs : ∀ v, foldedSetIterable iter X.env v = pure v := by intro _; rfl) : JE X (.ListComp elt [⟨.Name x px, iter, ifs, 0⟩] scope pos) (tComp wi tc te) :=
 ⟨pe_comp hc hN K hi.h (fun fp C s₂ H₂ => (ht fp C s₂ H₂).h) (fun fp C s₂ H₂ => (he fp C s₂ H₂).h) hs⟩
variable {tg : Expr}
theorem ji_list (h : JE X e te) : JI X tg e (iList X.K te) := ⟨pi_list h.h⟩
theorem ji_tup (h : JE X e te) : JI X tg e (iTup X.K te) := ⟨pi_tup h.h⟩
theorem ji_range1 {p : Pos} (hg : Gl X "range") (hm : X.mg "range" = none) (ha : JA X [a] t) (hs : noStar a = true := by rfl) : JI X tg (.Call (.Name "range" p) [a] [] pos) (iRng1 t) := ⟨pi_range1 hg hm ha.h (star_cons hs)⟩
theorem jg_name {i : Nat} {x : Str} (hN : X.N.Nodup) (hi : X.N[i]? = some x) (hx : Loc X.env.scope x) (hf : X.fn x = true ∨ X.env.scope.names.lookup x = some .local := by first | exact .inl rfl | exact .inr rfl | assumption) : JG X (.Name x pos) (gName i) := ⟨pg_name hN hi hx hf⟩
theorem jg_sub {t : TSet} {to ti : TE} (ho : JE X o to) (hi : JE X i ti) (hs : PSet X t)
  (ha : ∀ v, assign (.Subscript o i pos) X.env v = (do
   let ov ← holding [v] (eval o X.env)
   let iv ← holding [v, ov] (eval i X.env)
   standAt pos
   holding [v, ov, iv] (setItem ov iv v)
   release [v, ov, iv] []) := by intro _; rfl) : JG X (.Subscript o i pos) (gSub to ti t) := ⟨pg_sub ho.h hi.h hs ha⟩
end
section
variable {X : Cx} {st : Stmt} {sts : List Stmt} {t u : TS} {e c : Expr} {te : TE} {tc : TT} {pos : Pos}
theorem jb_nil : JB X [] tNext := ⟨pss_nil⟩
theorem jb_cons (h1 : JS X st t) (h2 : JB X sts u) : JB X (st :: sts) (tSeq t u) := ⟨pss_cons h1.h h2.h⟩
theorem jb_one (h1 : JS X st t) : JB X [st] t := ⟨pss_one h1.h⟩
theorem js_expr (he : JE X e te) (hs : swapsWith e none pos.line X.env = pure false := by rfl) : JS X (.Expr e pos) (tDrop te) := ⟨ps_expr he.h hs⟩
theorem js_ret (he : JE X e te) : JS X (.Return (some e) pos) (tRet te) := ⟨ps_ret he.h⟩
theorem js_if {a b : List Stmt} (hc : JT X c tc) (ha : JB X a t) (hb : JB X b u) : JS X (.If c a b pos) (tIfS tc t u) := ⟨ps_if hc.h ha.h hb.h⟩
theorem js_set {i : Nat} {x : Str} {pos' : Pos} (hN : X.N.Nodup) (hi : X.N[i]? = some x) (hx : Loc X.env.scope x) (he : JE X e te) (hs : swapsWith e (some (.Name x pos')) pos.line X.env = pure false := by rfl) (hf : X.fn x = true ∨ X.env.scope.names.lookup x = some .local := by first | exact .inl rfl | exact .inr rfl | assumption) :
  JS X (.Assign [.Name x pos'] e pos) (tAsg te (gName i)) := ⟨ps_set hN hi hx he.h hs hf⟩
theorem js_asg {tg : Expr} {g : TG} (he : JE X e te) (hg : JG X tg g) (hs : swapsWithSole [tg] e pos.line X.env = pure false := by rfl) (hw : swappedStores [tg] e X.env = pure none := by rfl)
  (h1 : (assignEach [tg] X.env).map (·.2) = [assign tg X.env] := by rfl) : JS X (.Assign [tg] e pos) (tAsg te g) := ⟨ps_asg he.h hg.h hs hw h1⟩
theorem js_for {tg iter : Expr} {body : List Stmt} {wi : TI} {g : TG} {tb : TS} (hp : PassesOwn (model X.prog X.w) X.A X.env X.xe) (hc : X.calm = true) (hi : JI X tg iter wi) (hg : JG X tg g) (hb : JB X body tb)
  (hs : ∀ x, foldedSetIterable iter X.env x = pure x := by intro _; rfl) : JS X (.For tg iter body [] pos) (tFor wi g tb) := ⟨ps_for hp hc hi.h hg.h hb.h hs⟩
end
section
variable {P : Program} {w : World} {K : PySem.W.Frag} {mg : Str → Option Value} {base : Heap}
theorem Fun.okJ {x qual : Str} {st : Stmt} {f : Addr} {fd : FuncData} {N ps : List Str} {k : Nat} {sp : Sp} (F : Fun K x qual st f fd) (S : FnScope N ps (defScope st)) (len : ∀ vs H Q E, sp vs H Q E → vs.length = ps.length)
  (hbody : ∀ (cdv : Value) (A : Around) (outer : List Env) (s : Shared) (H : Hp) (vs : List V) (Q : VK) (E : XK), Room k (A.deeper (envOfC qual (defScope st) s.heap.objs.size f cdv)) → sp vs H Q E →
   ∃ t, JB (cxOf CX0 P w K mg base N qual (defScope st) f cdv A outer s H E).nox (defBody st) t ∧ t { nx := fun _ H' => Q .non H', rt := Q } (start N vs) H) : FnOk P w K mg base CX0 (k + 1) f fd ps sp :=
 F.ok S len fun cdv A outer s H vs Q E hr h => let ⟨t, ht, q⟩ := hbody cdv A outer s H vs Q E hr h; ⟨t, ht.h, q⟩
end
end L2
set_option Elab.async false
set_option linter.all false
set_option maxRecDepth 100000
set_option maxHeartbeats 4000000
namespace L2
open PySem PySem.Spec PyProof.Rows
theorem closure_ok {env : Env} : ∀ (names : List (Str × NameKind)) (acc : List (Str × Addr)), (∀ y ∈ names, y.2 = .free → ∃ c, env.cells.lookup y.1 = some c) → (∀ y c, acc.lookup y = some c → env.cells.lookup y = some c) →
  ∃ cl, (forIn names acc fun x r => (do
    if x.2 == NameKind.free then do
     let c ← cellOf env x.1
     pure (ForInStep.yield ((x.1, c) :: r))
    else pure (ForInStep.yield r) : Sem (ForInStep (List (Str × Addr))))) = pure cl ∧ (∀ y c, cl.lookup y = some c → env.cells.lookup y = some c) ∧ (∀ y ∈ names, y.2 = .free → ∃ c, cl.lookup y.1 = some c) ∧ ∀ y c, acc.lookup y = some c → ∃ c', cl.lookup y = some c'
 | [], acc, _, ha => ⟨acc, rfl, ha, fun y hy => absurd hy (by simp), fun y c h => ⟨c, h⟩⟩
 | (n, k) :: r, acc, hf, ha => by
  cases hk : (k == NameKind.free) with
  | false =>
   obtain ⟨cl, e, h1, h2, h3⟩ := closure_ok r acc (fun y hy => hf y (List.mem_cons_of_mem _ hy)) ha
   refine ⟨cl, ?_, h1, fun y hy hy2 => ?_, h3⟩
   ·rw [List.forIn_cons]
    simp only [hk, Bool.false_eq_true, if_false]
    exact e
   ·rcases List.mem_cons.mp hy with rfl | hy
    ·have : k = .free := hy2
     rw [this] at hk
     exact absurd hk (by decide)
    ·exact h2 y hy hy2
  | true =>
   have ek : k = .free := by simpa using hk
   obtain ⟨c, hc⟩ := hf (n, k) List.mem_cons_self ek
   have hc : env.cells.lookup n = some c := hc
   have ha' : ∀ y c', ((n, c) :: acc).lookup y = some c' → env.cells.lookup y = some c' := fun y c' h => by
    rw [List.lookup_cons] at h
    cases hy : y == n with
    | true =>
     rw [hy] at h
     have : y = n := by simpa using hy
     subst this
     rw [hc]; exact h
    | false =>
     rw [hy] at h
     exact ha y c' h
   obtain ⟨cl, e, h1, h2, h3⟩ := closure_ok r ((n, c) :: acc) (fun y hy => hf y (List.mem_cons_of_mem _ hy)) ha'
   have hco : cellOf env n = pure c := by unfold cellOf; rw [hc]
   refine ⟨cl, ?_, h1, fun y hy hy2 => ?_, fun y c' h => ?_⟩
   ·rw [List.forIn_cons]
    simp only [hk, if_true, hco]
    exact e
   ·rcases List.mem_cons.mp hy with rfl | hy
    ·exact h3 n c (by simp [List.lookup_cons])
    ·exact h2 y hy hy2
   ·cases hy : y == n with
    | true => exact h3 y c (by simp [List.lookup_cons, hy])
    | false => exact h3 y c' (by simp [List.lookup_cons, hy, h])
def compChkF (x : Str) (scope : Scope) (N : List Str) (sc : Scope) : Bool :=
 scope.names.all (fun y => decide (y.2 ≠ .cell) && (decide (y.2 ≠ .free) || decide (sc.names.lookup y.1 = some .cell)) && (decide (y.2 ≠ .local) || (decide (scope.names.lookup y.1 = some .local) && decide (y.1 ∉ N)))) && decide (scope.kind = .function) && decide (scope.names.lookup x = some .local)
theorem comp_okF {X : Cx} {x : Str} {scope sc : Scope} {N : List Str} {L : Nat} (hN : X.N = N) (hsc : X.env.scope = sc) (hce : X.env.cells = cellsFrom L sc.names []) (h : compChkF x scope N sc = true) : ∃ cl, CompOk X x scope cl := by
 subst hN hsc
 unfold compChkF at h
 rw [Bool.and_eq_true, Bool.and_eq_true, List.all_eq_true] at h
 obtain ⟨⟨h1, h2⟩, h3⟩ := h
 have get : ∀ y ∈ scope.names, y.2 ≠ .cell ∧ (y.2 = .free → X.env.scope.names.lookup y.1 = some .cell) ∧ (y.2 = .local → scope.names.lookup y.1 = some .local ∧ y.1 ∉ X.N) := fun y hy => by
  have q := h1 y hy
  rw [Bool.and_eq_true, Bool.and_eq_true, Bool.or_eq_true, Bool.or_eq_true, Bool.and_eq_true] at q
  obtain ⟨⟨q1, q2⟩, q3⟩ := q
  refine ⟨of_decide_eq_true q1, fun e => ?_, fun e => ?_⟩
  ·rcases q2 with q2 | q2
   ·exact absurd e (of_decide_eq_true q2)
   ·exact of_decide_eq_true q2
  ·rcases q3 with q3 | ⟨q3, q4⟩
   ·exact absurd e (of_decide_eq_true q3)
   ·exact ⟨of_decide_eq_true q3, of_decide_eq_true q4⟩
 obtain ⟨cl, e, k1, k2, _⟩ := closure_ok (env := X.env) scope.names [] (fun y hy hf => by rw [hce]; exact cell_has ((get y hy).2.1 hf)) (fun y c z => by simp at z)
 refine ⟨cl, ⟨?_, fun y hy => (get y hy).1, of_decide_eq_true h2, fun y hy q => ((get y hy).2.2 q).1, of_decide_eq_true h3, fun y hy q => ((get y hy).2.2 q).2, fun y hy q => ⟨?_, .inl ((get y hy).2.1 q), k2 y hy q⟩, k1⟩⟩
 ·unfold closureFor
  have e' := congrArg (fun m : Sem (List (Str × Addr)) => m >>= fun cs => (pure cs : Sem (List (Str × Addr)))) e
  simp only [pure_bind] at e'
  exact e'
 ·show X.env.scope.names.lookup y.1 ≠ some .local
  rw [(get y hy).2.1 q]
  decide
theorem je_compF {X : Cx} {elt iter : Expr} {x : Str} {px pos : Pos} {ifs : List Expr} {scope : Scope} {wi : TI} {tc : TT} {te : TE}
  (hc : X.calm = true) (hN : (x :: X.N).Nodup) (K : ∃ cl, CompOk X x scope cl) (hi : JI X (.Name x px) iter wi)
  (ht : ∀ cl fp C s₂ H₂, JF (cxComp X x scope cl fp C s₂ H₂) ifs tc) (he : ∀ cl fp C s₂ H₂, JE (cxComp X x scope cl fp C s₂ H₂) elt te)
  (hs : ∀ v, foldedSetIterable iter X.env v = pure v := by intro _; rfl) : JE X (.ListComp elt [⟨.Name x px, iter, ifs, 0⟩] scope pos) (tComp wi tc te) :=
 let ⟨cl, K⟩ := K
 je_comp hc hN K hi (ht cl) (he cl) hs
section
variable {X : Cx} {o e : Expr} {es : List Expr} {to : TE} {t : TA} {name : Str} {apos cpos : Pos} {T id : String} {r : V → List V → Hp → VK → Prop}
theorem je_bm0 (pa : PlainAttrs T) (slot : Slot T name id) (hty : typeOf (.builtin id) = pure (.type "method_descriptor")) (hm : MtR X id r) (ho : JE X o to)
  (hbase : attributeBase o name X.env (eval o X.env) = eval o X.env := by rfl) (hline : (apos.endLine == cpos.line) = true := by rfl) : JE X (.Call (.Attribute o name apos) [] [] cpos) (tBM0 X.K T r to) := ⟨pe_bm0 pa slot hty hm ho.h hbase hline⟩
theorem je_bm (pa : PlainAttrs T) (slot : Slot T name id) (hty : typeOf (.builtin id) = pure (.type "method_descriptor")) (hm : MtR X id r) (ho : JE X o to) (ha : JA X (e :: es) t)
  (hbase : attributeBase o name X.env (eval o X.env) = eval o X.env := by rfl)
  (hfew : ((backTo cpos (starEach (e :: es) X.env)).all (fun x => !x.1) && (backToKw cpos (keywordEach [] X.env)).all (fun x => x.1.isSome)
   && decide ((e :: es).length + ([] : List Keyword).length + (if ([] : List Keyword).isEmpty then 0 else 1) < 30)) = true := by rfl)
  (hline : (apos.endLine == cpos.line) = true := by rfl) (hs : noStar e = true := by rfl) (hall : es.all noStar = true := by rfl) :
  JE X (.Call (.Attribute o name apos) (e :: es) [] cpos) (tBM X.K T r to t) := ⟨pe_bm pa slot hty hm ho.h ha.h hbase hfew hline (star_cons hs) (star_any hall)⟩
end
section
variable {X : Cx} {pos : Pos}
theorem je_dget {o i : Expr} {td ty : TE} (hu : X.A.units + 1 < cLine) (ho : JE X o td) (hi : JE X i ty) (hs : NoSl i) : JE X (.Subscript o i pos) (tDGet td ty) := ⟨pe_dget hu ho.h hi.h hs⟩
theorem m2_of {o e f : Expr} {m : Str} {apos cpos : Pos} (hb : attributeBase o m X.env (eval o X.env) = eval o X.env) (hl : (apos.endLine == cpos.line) = true) (he : noStar e = true) (hf : noStar f = true) : M2 X o m apos e f cpos := by
 have e1 : starEach [e, f] X.env = [(false, eval e X.env), (false, eval f X.env)] := by
  rw [star_cons he, star_cons hf]
  rfl
 refine ⟨hb, ?_, hl, ?_⟩
 ·rw [e1]; rfl
 ·rw [e1]; rfl
theorem je_dget2 {o e f : Expr} {td ty tx : TE} {apos cpos : Pos} (hu : X.A.units + 1 < cLine) (ho : JE X o td) (he : JE X e ty) (hf : JE X f tx) (hb : attributeBase o "get" X.env (eval o X.env) = eval o X.env := by rfl) (hl : (apos.endLine == cpos.line) = true := by rfl)
  (h1 : noStar e = true := by rfl) (h2 : noStar f = true := by rfl) : JE X (.Call (.Attribute o "get" apos) [e, f] [] cpos) (tDGet2 td ty tx) := ⟨pe_dget2 hu ho.h he.h hf.h (m2_of hb hl h1 h2)⟩
end
end L2
set_option Elab.async false
set_option linter.all false
set_option maxRecDepth 100000
set_option maxHeartbeats 4000000
namespace L2
open PySem PySem.Spec PyProof.Rows
section
variable {X : Cx} {o i value : Expr} {td ty tv : TE} {pos pos' : Pos}
theorem js_dput (hu : X.A.units + 1 < cLine) (ho : JE X o td) (hi : JE X i ty) (hv : JE X value tv) (hs : swapsWith value (some (.Subscript o i pos')) pos.line X.env = pure false := by rfl) :
  JS X (.Assign [.Subscript o i pos'] value pos) (sDPut td ty tv) := ⟨ps_dput hu ho.h hi.h hv.h hs⟩
end
end L2
set_option Elab.async false
set_option linter.all false
set_option maxRecDepth 100000
set_option maxHeartbeats 4000000
namespace L2
open PySem PySem.Spec PyProof.Rows
section
variable {X : Cx}
def rCatTA (K : PySem.W.Frag) : R2 := fun x y H Q => ∃ a b xs ys, x = .ref a ∧ y = .ref b ∧ SqT K H a xs ∧ SqT K H b ys ∧ xs.length + ys.length ≤ sizeLine ∧
 (xs = [] → Q (.ref b) H) ∧ (xs ≠ [] → ys = [] → Q (.ref a) H) ∧ (xs ≠ [] → ys ≠ [] → ∀ p, H p = none → Q (.ref p) (upd H p (.tup (xs ++ ys))))
theorem op_catTA : OpR X (binaryOp .Add) (rCatTA X.K) := by
 intro pins s σ H x y v u Q I rx ry h
 obtain ⟨a, b, xs, ys, rfl, rfl, ha, hb, hz, q0, q1, q2⟩ := h
 by_cases hx : xs = []
 ·cases rx
  cases ry
  obtain ⟨its, r1, p1, _⟩ := I.tuple ha
  obtain ⟨its2, r2, p2, _⟩ := I.tuple hb
  have e := r1.nil_iff.mpr hx
  subst e
  obtain ⟨⟨cls, dd, data, sl⟩, ho, hc, n, hd⟩ := id p1
  obtain ⟨⟨cls2, dd2, data2, sl2⟩, ho2, hc2, n2, hd2⟩ := id p2
  simp only at hc hd hc2 hd2
  subst hc hd hc2 hd2
  exact concat_meets ⟨_, ho, rfl⟩ ⟨_, ho2, rfl⟩ noFill_tuple_add seq_tuple_add PySem.F.slot_tuple_add PySem.F.entry_tuple_add (PySem.F.args_tuple_add_2 _ _)
   (tuple_addW0 a b _ its2.toArray n n2 dd dd2 sl sl2 rfl) ⟨ho, ho2, ⟨.ref b, H, I, rfl, q0 hx⟩⟩
 ·exact op_catT pins s σ H (.ref a) (.ref b) v u Q I rx ry ⟨a, b, xs, ys, rfl, rfl, ha, hb, hx, hz, q1 hx, q2 hx⟩
end
end L2
set_option Elab.async false
set_option linter.all false
set_option maxRecDepth 100000
set_option maxHeartbeats 4000000
set_option Elab.async false
set_option linter.all false
set_option maxRecDepth 100000
set_option maxHeartbeats 4000000
set_option Elab.async false
set_option linter.all false
set_option maxRecDepth 100000
set_option maxHeartbeats 4000000
namespace L2
open PySem PySem.Spec PyProof.Rows
abbrev Cx.at_ (X : Cx) (k : Nat) : Cx := { X with N := X.N.set k "?" }
def NoAt (k : Nat) (σ : St) : Prop := ∀ v, σ[k]? ≠ some (some v)
section
variable {X : Cx} {pins : List (Addr × Obj)} {σ : St} {H : Hp} {s : Shared} {k : Nat} {e : Expr} {te : TE} {st : Stmt} {t : TS}
theorem ok_at (ok : X.Ok) : (X.at_ k).Ok := by
 obtain ⟨h1, h2, h3, h4, h5, h6, h7, h8, h9, h10, h11, h12, h13, h14, h15, h16, h17, h18⟩ := ok
 exact ⟨h1, h2, h3, h4, h5, h6, h7, h8, h9, h10, h11, h12, h13, h14, h15, h16, h17, h18⟩
theorem ok_of_at (ok : (X.at_ k).Ok) : X.Ok := by
 obtain ⟨h1, h2, h3, h4, h5, h6, h7, h8, h9, h10, h11, h12, h13, h14, h15, h16, h17, h18⟩ := ok
 exact ⟨h1, h2, h3, h4, h5, h6, h7, h8, h9, h10, h11, h12, h13, h14, h15, h16, h17, h18⟩
theorem inv_at (n : NoAt k σ) (I : Inv X pins σ H s) : Inv (X.at_ k) pins σ H s := by
 obtain ⟨m, hm, hl⟩ := I.loc
 refine ⟨ok_at I.ok, I.os, I.bare, I.base, ⟨m, hm, fun i x v e1 e2 e3 => ?_⟩, I.cell, I.free, I.freeC, I.pin, I.hok, ?_⟩
 ·by_cases hi : k = i
  ·subst hi; exact absurd e2 (n v)
  ·have e1 : (X.N.set k "?")[i]? = some x := e1
   rw [List.getElem?_set_ne hi] at e1
   exact hl i x v e1 e2 e3
 ·show σ.length = (X.N.set k "?").length
  rw [List.length_set]
  exact I.len
theorem inv_of_at (n : NoAt k σ) (I : Inv (X.at_ k) pins σ H s) : Inv X pins σ H s := by
 obtain ⟨m, hm, hl⟩ := I.loc
 refine ⟨ok_of_at I.ok, I.os, I.bare, I.base, ⟨m, hm, fun i x v e1 e2 e3 => ?_⟩, I.cell, I.free, I.freeC, I.pin, I.hok, ?_⟩
 ·by_cases hi : k = i
  ·subst hi; exact absurd e2 (n v)
  ·refine hl i x v ?_ e2 e3
   show (X.N.set k "?")[i]? = some x
   rw [List.getElem?_set_ne hi]
   exact e1
 ·have := I.len
  rw [this]
  show (X.N.set k "?").length = _
  rw [List.length_set]
theorem js_fg (k : Nat) (h : JS X st t) : JS X st (fun D σ H => t D (σ.set k none) H) :=
 ⟨fun pins s σ H D I q => h.h pins s (σ.set k none) H D (I.weak (by rw [List.length_set]) fun i v e => by
  by_cases hi : k = i
  ·subst hi
   rw [List.getElem?_set_self'] at e
   cases hk : σ[k]? with
   | none => rw [hk] at e; cases e
   | some x => rw [hk] at e; cases e
  ·rw [List.getElem?_set_ne hi] at e
   exact e) q⟩
end
end L2
set_option Elab.async false
set_option linter.all false
set_option maxRecDepth 100000
set_option maxHeartbeats 4000000
namespace L2
open PySem PySem.Spec PyProof.Rows
section
variable {X : Cx}
theorem js_setC {i : Nat} {y x : Str} {py px pos spos : Pos} {elt iter : Expr} {ifs : List Expr} {scope : Scope} {cl : List (Str × Addr)} {wi : TI} {tc : TT} {te : TE}
  (hNd : X.N.Nodup) (hi : X.N[i]? = some y) (hy : Loc X.env.scope y) (hc : X.calm = true) (hN : (x :: X.N).Nodup) (K : CompOk X x scope cl) (hI : JI X (.Name x px) iter wi)
  (ht : ∀ fp C s₂ H₂, JF (cxComp X x scope cl fp C s₂ H₂) ifs tc) (he : ∀ fp C s₂ H₂, JE (cxComp X x scope cl fp C s₂ H₂) elt te)
  (hs : ∀ v, foldedSetIterable iter X.env v = pure v := by intro _; rfl)
  (hsw : swapsWith (.ListComp elt [⟨.Name x px, iter, ifs, 0⟩] scope pos) (some (.Name y py)) spos.line X.env = pure true := by rfl)
  (hf : X.fn y = true ∨ X.env.scope.names.lookup y = some .local := by first | exact .inl rfl | exact .inr rfl | assumption) :
  JS X (.Assign [.Name y py] (.ListComp elt [⟨.Name x px, iter, ifs, 0⟩] scope pos) spos) (tAsg (tComp wi tc te) (gName i)) := by
 refine ⟨fun pins s σ H D I h => ?_⟩
 rw [exec_Assign_Name_used _ _ _ _ hsw]
 refine wpAny_bind (wpAny_standAt (wpAny_bind (wpAny_bind (wpAny_comprehension_free (use := some (assign (.Name y py) X.env)) rfl hs K.clos K.kind K.names (thn (hI.h pins s σ H _ I h) fun xv s₁ h₁ => thn h₁ fun itv s₂ h₂ => ?_)))))
 obtain ⟨it, fp, tn, J, H₂, e, I₂, T, st₂, f₂, R⟩ := h₂
 subst e
 refine comp_block (Q := fun x H1 => gName i x σ H1 D.nx) hc hN K (fun fp C s₂ H₂ => (ht fp C s₂ H₂).h) (fun fp C s₂ H₂ => (he fp C s₂ H₂).h) I₂ T st₂ f₂ R ?_
 intro D' C H' s4 m hn hCL hC0 hCc hCsz I4 q
 refine wpAny_assign_Name (store_ok2 I4 hNd hi hy (v := .ref D') rfl (fun s5 I5 hsb => ?_) hf)
 obtain ⟨b, hsb, hb⟩ := hsb
 have hbC : C ≠ b := by
  rcases hb with rfl | hb
  ·exact hCL
  ·exact fun z => hCc _ _ hb z.symm
 refine ⟨m, hn.at' fun o e => (hsb.2 C hbC).trans e, fun h' hsb' => wpAny_pure (wpAny_pure ?_)⟩
 refine ⟨_, H', ?_, q⟩
 refine I5.turned (it := C) (t' := s5.toks) (fun b o hb e => (hsb'.2 b hb).trans e) hC0 hCL (.inr (Nat.le_trans I₂.sz hCsz)) hCc fun p hp z => ?_
 exact absurd (Nat.lt_of_lt_of_le (Heap.lt_size (I₂.pin p hp).1) (by rw [z]; exact hCsz)) (Nat.lt_irrefl _)
theorem js_drop {st : Stmt} {t : TS} (k : Nat) (h : JS (X.at_ k) st t) : JS X st (fun D σ H => NoAt k σ ∧ t { nx := fun σ' H' => NoAt k σ' ∧ D.nx σ' H', rt := D.rt, bk := fun σ' H' => NoAt k σ' ∧ D.bk σ' H', ct := fun σ' H' => NoAt k σ' ∧ D.ct σ' H' } σ H) :=
 ⟨fun pins s σ H D I q => thn (h.h pins s σ H _ (inv_at q.1 I) q.2) fun f s1 z => by
  cases f with
  | next => obtain ⟨σ', H', I', n, z⟩ := z; exact ⟨σ', H', inv_of_at n I', z⟩
  | brk => obtain ⟨σ', H', I', n, z⟩ := z; exact ⟨σ', H', inv_of_at n I', z⟩
  | cont => obtain ⟨σ', H', I', n, z⟩ := z; exact ⟨σ', H', inv_of_at n I', z⟩
  | ret u =>
   obtain ⟨v, σ', H', I', r, z⟩ := z
   have n : NoAt k (σ'.set k none) := fun v e => by
    rw [List.getElem?_set_self'] at e
    cases hk : σ'[k]? with
    | none => rw [hk] at e; cases e
    | some x => rw [hk] at e; cases e
   refine ⟨v, σ'.set k none, H', inv_of_at n (I'.weak (by rw [List.length_set]) fun i v e => ?_), r, z⟩
   by_cases hi : k = i
   ·subst hi; exact absurd e (n v)
   ·rw [List.getElem?_set_ne hi] at e
    exact e⟩
end
end L2
set_option Elab.async false
set_option linter.all false
set_option maxRecDepth 100000
set_option maxHeartbeats 4000000
namespace PySem
open Builtin
theorem vw_noFill_tuple_mul : fillsNumberSlot (.type "tuple") "mul" = pure false := fillsNumberSlot_seq (id := "tuple.__mul__") (r := some (.builtin "tuple.__rmul__")) F.slot_tuple_mul.lookup (by decide +kernel) F.slot_tuple_rmul.lookup (by decide +kernel)
theorem vw_repeat_tuple : seqRepeat? (.type "tuple") = pure (some (.builtin "tuple.__mul__")) := by
 unfold seqRepeat?
 rw [seqSlot_of (T := "tuple") (name := "__mul__") (id := "tuple.__mul__") F.slot_tuple_mul.lookup (by decide +kernel), seqSlot_of (T := "tuple") (name := "__rmul__") (id := "tuple.__rmul__") F.slot_tuple_rmul.lookup (by decide +kernel)]; rfl
theorem vw_rmul_tuple (a : Int) (t : Tok) (l : Addr) (items : Array Value) (n : Nat) (dd : Option Addr) (sl : Array (Option Value)) : Meets (Builtin.«int.__rmul__» ⟨[.int a t, .ref l], []⟩) (fun _ R s => s.heap.get? l = some ⟨.type "tuple", dd, .seq items n, sl⟩ ∧ R (.ok (.ret Value.notImplemented)) s) :=
 .of_wp fun prog w A R s h => by obtain ⟨hp, g, d, tk, os⟩ := s; obtain ⟨hl, h⟩ := h; wp_walk using wpAny_load hl; exact ⟨_, rfl, h⟩
theorem vw_mul_one (l : Addr) (items : Array Value) (n : Nat) (dd : Option Addr) (sl : Array (Option Value)) (u : Tok) : Meets (Builtin.«tuple.__mul__» ⟨[.ref l, .int 1 u], []⟩) (fun _ R s => s.heap.get? l = some ⟨.type "tuple", dd, .seq items n, sl⟩ ∧ R (.ok (.ret (.ref l))) s) :=
 .of_wp fun prog w A R s h => by
  obtain ⟨hp, g, d, tk, os⟩ := s
  obtain ⟨hl, h⟩ := h
  unfold Builtin.«tuple.__mul__»
  wp_walk using wpAny_load hl
  exact ⟨_, rfl, h⟩
theorem vw_mul_zero (l : Addr) (items : Array Value) (n : Nat) (dd : Option Addr) (sl : Array (Option Value)) (u : Tok) (he : items.isEmpty = false) : Meets (Builtin.«tuple.__mul__» ⟨[.ref l, .int 0 u], []⟩) (fun _ R s => s.heap.get? l = some ⟨.type "tuple", dd, .seq items n, sl⟩ ∧ R (.ok (.ret (.ref s.heap.objs.size))) { s with heap := s.heap.push { cls := .type "tuple", data := .seq #[] } }) :=
 .of_wp fun prog w A R s h => by
  obtain ⟨hp, g, d, tk, os⟩ := s
  obtain ⟨hl, h⟩ := h
  unfold Builtin.«tuple.__mul__»
  wp_walk using wpAny_load hl
  exact ⟨_, rfl, h⟩
theorem vw_mul_more (l : Addr) (items : Array Value) (n : Nat) (dd : Option Addr) (sl : Array (Option Value)) (x : Int) (u : Tok) (he : items.isEmpty = false) (h2 : 2 ≤ x) (h3 : x < 64) (hs : items.size = 1) (hsz : ((List.replicate x.toNat items).foldl (fun a b => a ++ b) #[]).size ≤ sizeLine) : Meets (Builtin.«tuple.__mul__» ⟨[.ref l, .int x u], []⟩) (fun _ R s => s.heap.get? l = some ⟨.type "tuple", dd, .seq items n, sl⟩ ∧ R (.ok (.ret (.ref s.heap.objs.size))) { s with heap := s.heap.push { cls := .type "tuple", data := .seq ((List.replicate x.toNat items).foldl (fun a b => a ++ b) #[]) } }) :=
 .of_wp fun prog w A R s h => by
  obtain ⟨hp, g, d, tk, os⟩ := s
  obtain ⟨hl, h⟩ := h
  have e1 : (decide (x < -(2 ^ 63)) || decide (x ≥ 2 ^ 63)) = false := by
   rw [decide_eq_false (by omega), decide_eq_false (by omega)]; rfl
  have e2 : (x == 1) = false := by simpa using (show ¬ x = 1 by omega)
  have e3 : decide (x ≤ 0) = false := decide_eq_false (by omega)
  unfold Builtin.«tuple.__mul__»
  have e4 : Builtin.Tuple.tupleTooMany (items.size * x) = false := by
   rw [hs]
   unfold Builtin.Tuple.tupleTooMany
   have hsl : (64 : Nat) ≤ sizeLine := by decide
   exact decide_eq_false (by omega)
  wp_walk using wpAny_load hl
  refine wpAny_ite_false (by rw [e1]; rfl) ?_
  wp_walk using wpAny_load hl
  refine wpAny_ite_false (decide_eq_false (by rw [hs]; omega)) ?_
  wp_walk using wpAny_load hl
  refine wpAny_ite_false (by rw [e4]; rfl) ?_
  wp_walk using wpAny_load hl
  exact ⟨_, rfl, h⟩
end PySem
namespace L2
open PySem PySem.Spec PyProof.Rows
def rRepT : R2 := fun x y H Q => ∃ l k z, x = .ref l ∧ y = .int k ∧ H l = some (.tup [z]) ∧ 0 ≤ k ∧ k < 64 ∧ (k = 1 → Q (.ref l) H) ∧ (k ≠ 1 → ∀ p, H p = none → Q (.ref p) (upd H p (.tup (List.replicate k.toNat z))))
theorem fold_one (u : Value) : ∀ (k : Nat) (a : Array Value), (List.replicate k #[u]).foldl (fun a b => a ++ b) a = (a.toList ++ List.replicate k u).toArray
 | 0, a => by simp
 | k + 1, a => by
  rw [List.replicate_succ, List.foldl_cons, fold_one u k]
  apply Array.toList_inj.mp
  simp [List.replicate_succ]
theorem vals_rep {z : V} {u : Value} (r : RelV z u) : ∀ k : Nat, Vals (List.replicate k z) (List.replicate k u)
 | 0 => .nil
 | k + 1 => .cons r (vals_rep r k)
section
variable {X : Cx}
theorem op_repT : OpR X (binaryOp .Mult) rRepT := by
 intro pins s σ H x y v u Q I rx ry h
 obtain ⟨l, k, z, rfl, rfl, hH, h0, h64, q1, q2⟩ := h
 cases rx
 obtain ⟨t, rfl⟩ := ry
 obtain ⟨hz, its, r, p⟩ := (show ObjOk X.prog X.w H s.heap l (.tup [z]) from I.hok l _ hH)
 obtain ⟨u, rfl, ru⟩ := r.one
 obtain ⟨⟨cls, dd, data, sl⟩, ho, hc, n, hd⟩ := p.is
 simp only at hc hd
 subst hc hd
 have hsl : (64 : Nat) ≤ sizeLine := by decide
 refine wpAny_binaryOp_repeat_ref (T := "tuple") (U := "int") (by decide) ⟨_, ho, rfl⟩ (fun s' => typeIs_int s' k t) vw_noFill_tuple_mul F.fills_int_mul F.slot_int_rmul vw_repeat_tuple F.slot_int_index.lookup
  (call_meets F.slot_int_rmul (typeIs_int s k t) F.entry_int_rmul (F.args_int_rmul_2 _ _) (vw_rmul_tuple k t l _ n dd sl) ⟨ho, rfl, ⟨_, ho, rfl⟩, ?_⟩)
 by_cases h1 : k = 1
 ·subst h1
  exact call_meets F.slot_tuple_mul ⟨_, ho, rfl⟩ F.entry_tuple_mul (F.args_tuple_mul_2 _ _) (vw_mul_one l _ n dd sl t) ⟨ho, ⟨.ref l, H, I, rfl, q1 rfl⟩⟩
 ·by_cases h2 : k = 0
  ·subst h2
   refine call_meets F.slot_tuple_mul ⟨_, ho, rfl⟩ F.entry_tuple_mul (F.args_tuple_mul_2 _ _) (vw_mul_zero l _ n dd sl t rfl) ⟨ho, ?_⟩
   refine ⟨.ref s.heap.objs.size, _, I.laid (t' := s.toks) (o := .tup []) (fun b ob e => Heap.get?_push_of_some _ e) (Nat.le_refl _) ?_, rfl, q2 (by decide) _ I.fresh⟩
   exact ⟨Nat.zero_le _, [], .nil, IsTupN.new _ _⟩
  ·have e : (List.replicate k.toNat [u].toArray).foldl (fun a b => a ++ b) #[] = (List.replicate k.toNat u).toArray := by
    have := fold_one u k.toNat #[]
    simpa using this
   refine call_meets F.slot_tuple_mul ⟨_, ho, rfl⟩ F.entry_tuple_mul (F.args_tuple_mul_2 _ _) (vw_mul_more l _ n dd sl k t rfl (by omega) h64 rfl (by rw [e, List.size_toArray, List.length_replicate]; omega)) ⟨ho, ?_⟩
   rw [e]
   refine ⟨.ref s.heap.objs.size, _, I.laid (t' := s.toks) (o := .tup (List.replicate k.toNat z)) (fun b ob e => Heap.get?_push_of_some _ e) (Nat.le_refl _) ?_, rfl, q2 h1 _ I.fresh⟩
   exact ⟨by rw [List.length_replicate]; omega, _, vals_rep ru _, IsTupN.new _ _⟩
end
end L2
set_option Elab.async false
set_option linter.all false
set_option maxRecDepth 100000
set_option maxHeartbeats 4000000
namespace L2
open PySem PySem.Spec PyProof.Rows
theorem sameNew {H : Hp} {p : Addr} (h : H p = none) (o : HO) : Same H (upd H p o) := fun b u q => by rw [upd_ne (ne_of_none q h)]; exact q
section
variable {X : Cx}
def rRepU : R2 := fun x y H Q => ∃ l k z, x = .ref l ∧ y = .int k ∧ H l = some (.tup [z]) ∧ 0 ≤ k ∧ k < 64 ∧ ∀ r H', Same H H' → H' r = some (.tup (List.replicate k.toNat z)) → (H r = none ∨ r = l) → Q (.ref r) H'
theorem op_repU : OpR X (binaryOp .Mult) rRepU := by
 intro pins s σ H x y v u Q I rx ry h
 obtain ⟨l, k, z, e1, e2, hH, h0, h64, q⟩ := h
 exact op_repT pins s σ H x y v u Q I rx ry ⟨l, k, z, e1, e2, hH, h0, h64, fun h1 => q l H (Same.refl H) (by subst h1; exact hH) (.inr rfl), fun _ p hp => q p _ (sameNew hp _) upd_same (.inl hp)⟩
def rCatU : R2 := fun x y H Q => ∃ a b xs ys, x = .ref a ∧ y = .ref b ∧ H a = some (.tup xs) ∧ H b = some (.tup ys) ∧ xs.length + ys.length ≤ sizeLine ∧ ∀ r H', Same H H' → H' r = some (.tup (xs ++ ys)) → (H r = none ∨ r = a ∨ r = b) → Q (.ref r) H'
theorem op_catU : OpR X (binaryOp .Add) rCatU := by
 intro pins s σ H x y v u Q I rx ry h
 obtain ⟨a, b, xs, ys, e1, e2, ha, hb, hz, q⟩ := h
 refine op_catTA pins s σ H x y v u Q I rx ry ⟨a, b, xs, ys, e1, e2, SqT.of ha, SqT.of hb, hz, fun h => q b H (Same.refl H) (by rw [h]; exact hb) (.inr (.inr rfl)), fun _ h => q a H (Same.refl H) (by rw [h, List.append_nil]; exact ha) (.inr (.inl rfl)), fun _ _ p hp => q p _ (sameNew hp _) upd_same (.inl hp)⟩
end
end L2
set_option Elab.async false
set_option linter.all false
set_option maxRecDepth 100000
set_option maxHeartbeats 4000000
set_option Elab.async false
set_option linter.all false
set_option maxRecDepth 100000
set_option maxHeartbeats 4000000
set_option Elab.async false
set_option linter.all false
set_option maxRecDepth 100000
set_option maxHeartbeats 4000000
namespace L2
open PySem PySem.Spec PyProof.Rows
abbrev PairsAt (H : Hp) : List Addr → List (Key × V) → Prop := Paired fun a p => H a = some (.tup [kV p.1, p.2])
end L2
set_option Elab.async false
set_option linter.all false
set_option maxRecDepth 100000
set_option maxHeartbeats 4000000
namespace L2
open PySem PySem.W PyProof.Rows
def kAll {α : Type} (n : Nat) (P : α → Prop) : KasT α → Prop
 | .ret a => P a
 | .ask i j k => i < n ∧ j < n ∧ ∀ b, kAll n P (k b)
def kRun {α : Type} (lt : Nat → Nat → Bool) : KasT α → α
 | .ret a => a
 | .ask i j k => kRun lt (k (lt i j))
theorem kAll_bind {α β : Type} {n : Nat} {P : α → Prop} {R : β → Prop} {f : α → KasT β} : ∀ (t : KasT α), kAll n P t → (∀ a, P a → kAll n R (f a)) → kAll n R (t.bind f)
 | .ret a, h, hf => hf a h
 | .ask i j k, h, hf => ⟨h.1, h.2.1, fun b => kAll_bind (k b) (h.2.2 b) hf⟩
theorem kAll_run {α : Type} {n : Nat} {P : α → Prop} {lt : Nat → Nat → Bool} : ∀ (t : KasT α), kAll n P t → P (kRun lt t)
 | .ret a, h => h
 | .ask i j k, h => kAll_run (k (lt i j)) (h.2.2 _)
theorem kWp {α : Type} {n : Nat} {P : α → Prop} {lt : Nat → Nat → Bool} {cmp : Nat → Nat → (Bool → Shared → Prop) → Shared → Prop} {J : Shared → Prop} (hc : ∀ i j C s, i < n → j < n → J s → (∀ s', J s' → C (lt i j) s') → cmp i j C s) :
  ∀ (t : KasT α) {Q : α → Shared → Prop} {s : Shared}, kAll n P t → J s → (∀ s', J s' → P (kRun lt t) → Q (kRun lt t) s') → t.kasWp cmp Q s
 | .ret a, Q, s, h, hj, hq => hq s hj h
 | .ask i j k, Q, s, h, hj, hq => hc i j _ s h.1 h.2.1 hj fun s' hj' => kWp hc (k (lt i j)) (h.2.2 _) hj' hq
def Ord (n : Nat) (p : Array Nat) : Prop := p.toList.Perm (List.range n)
theorem Ord.lt {n : Nat} {p : Array Nat} (h : Ord n p) (h0 : 0 < n) (i : Nat) : p.getD i 0 < n := by
 by_cases hi : i < p.size
 ·have e : p.getD i 0 = p[i] := by simp [Array.getD, hi]
  rw [e]
  have hm : p[i] ∈ p.toList := by simp
  exact List.mem_range.mp (h.mem_iff.mp hm)
 ·have e : p.getD i 0 = 0 := by simp [Array.getD, hi]
  rw [e]
  exact h0
theorem Ord.size {n : Nat} {p : Array Nat} (h : Ord n p) : p.size = n := by
 have := h.length_eq
 rw [List.length_range, Array.length_toList] at this
 exact this
theorem Ord.rev {n : Nat} {p : Array Nat} (h : Ord n p) (i j : Nat) : Ord n (kas_rev p i j) := (Array.Perm.toList (mirror_perm p i j _)).trans h
theorem Ord.bubble {n : Nat} {p : Array Nat} (h : Ord n p) (i j : Nat) : Ord n (bubble p i j) := (Array.Perm.toList (bubble_perm p i j)).trans h
section
variable {n : Nat} (h0 : 0 < n)
include h0
theorem asc_all {p : Array Nat} (h : Ord n p) : ∀ f m, kAll n (fun _ => True) (kas_asc p f m)
 | 0, m => trivial
 | f + 1, m => ⟨h.lt h0 _, h.lt h0 _, fun b => by
  cases b with
  | true => exact trivial
  | false => exact asc_all h f (m + 1)⟩
theorem desc_all : ∀ f (p : Array Nat) m q, Ord n p → kAll n (fun r => Ord n r.1) (kas_desc f p m q)
 | 0, p, m, q, h => h
 | f + 1, p, m, q, h => ⟨h.lt h0 _, h.lt h0 _, fun b => by
  cases b with
  | true =>
   show kAll n _ (if q > 0 then _ else _)
   split
   ·exact desc_all f _ _ _ (h.rev _ _)
   ·exact desc_all f _ _ _ h
  | false =>
   refine ⟨h.lt h0 _, h.lt h0 _, fun b => ?_⟩
   cases b with
   | true => exact h
   | false => exact desc_all f _ _ _ h⟩
theorem tail3_all {p : Array Nat} (m r : Nat) (h : Ord n p) : kAll n (fun r => Ord n r.2) (kas_tail3 m r p) :=
 kAll_bind _ (asc_all h0 (h.rev 0 m) _ _) fun _ _ => h.rev 0 m
theorem descPart_all {p : Array Nat} (m r : Nat) (h : Ord n p) : kAll n (fun r => Ord n r.2) (kas_descPart m r p) :=
 kAll_bind _ (desc_all h0 _ _ _ _ h) fun x hx => by
  split
  ·exact tail3_all h0 _ _ (hx.rev _ _)
  ·exact tail3_all h0 _ _ hx
theorem count_all {p : Array Nat} (r : Nat) (h : Ord n p) : kAll n (fun r => Ord n r.2) (kas_count r p) :=
 kAll_bind _ (asc_all h0 h _ _) fun x _ => by
  split
  ·exact h
  ·split
   ·refine ⟨h.lt h0 _, h.lt h0 _, fun b => ?_⟩
    cases b with
    | true => exact h
    | false => exact descPart_all h0 _ _ (h.rev _ _)
   ·exact descPart_all h0 _ _ h
theorem place_all {p : Array Nat} (k : Nat) (h : Ord n p) : ∀ f l r, kAll n (fun _ => True) (kas_place p k f l r)
 | 0, l, r => trivial
 | f + 1, l, r => by
  unfold kas_place
  split
  ·exact trivial
  ·refine ⟨h.lt h0 _, h.lt h0 _, fun b => ?_⟩
   cases b with
   | true => exact place_all k h f _ _
   | false => exact place_all k h f _ _
theorem bin_all : ∀ f (p : Array Nat) k, Ord n p → kAll n (Ord n) (kas_bin f p k)
 | 0, p, k, h => h
 | f + 1, p, k, h => kAll_bind _ (place_all h0 k h _ _ _) fun l _ => bin_all f _ _ (h.bubble _ _)
theorem sort_all : kAll n (Ord n) (kas_sort n) :=
 kAll_bind _ (count_all h0 n (show Ord n (List.toArray (List.range n)) from List.Perm.refl _)) fun r hr => by
  split
  ·exact bin_all h0 _ _ _ hr
  ·exact hr
end
def outOf (lt : Nat → Nat → Bool) (vs : List Value) : List Value := (kRun lt (kas_sort vs.length)).toList.map fun i => vs.getD i Value.none
def ordV (lt : Nat → Nat → Bool) (ys : List V) : List V := (kRun lt (kas_sort ys.length)).toList.map fun i => ys.getD i .non
theorem run0 (lt : Nat → Nat → Bool) : (kRun lt (kas_sort 0)).toList = [] := rfl
theorem outOf_small {lt : Nat → Nat → Bool} {vs : List Value} (h : vs.length < 2) : outOf lt vs = vs := by
 match vs, h with
 | [], _ => rfl
 | [v], _ => rfl
theorem kRun_ord (lt : Nat → Nat → Bool) (n : Nat) (h : 0 < n) : Ord n (kRun lt (kas_sort n)) := kAll_run _ (sort_all h)
theorem outOf_length (lt : Nat → Nat → Bool) (vs : List Value) : (outOf lt vs).length = vs.length := by
 by_cases h : vs.length < 2
 ·rw [outOf_small h]
 ·unfold outOf
  rw [List.length_map, Array.length_toList, (kRun_ord lt vs.length (by omega)).size]
def midHeap (h : Heap) (a : Addr) (vs : List Value) : Heap := ((h.update a (Obj.mapSeq fun _ => (#[] : Array Value))).push (seqObj "tuple" vs.toArray 0)).push (seqObj "list" #[] 0)
theorem mid_at {h : Heap} {a : Addr} {vs us : List Value} {n : Nat} (e : h.get? a = some (seqObj "list" us.toArray n)) : ∃ k, (h.update a (Obj.mapSeq fun _ => (#[] : Array Value))).get? a = some (seqObj "list" #[] k) ∧ (midHeap h a vs).get? a = some (seqObj "list" #[] k) :=
 ⟨_, get?_update_seq e fun _ => #[], Heap.get?_push_of_some _ (Heap.get?_push_of_some _ (get?_update_seq e fun _ => #[]))⟩
theorem mid_keep {h : Heap} {a b : Addr} {vs : List Value} {o : Obj} (e : h.get? b = some o) (n : b ≠ a) : (midHeap h a vs).get? b = some o :=
 Heap.get?_push_of_some _ (Heap.get?_push_of_some _ ((Heap.get?_update_ne _ _ _ _ n).trans e))
theorem list_sort_raw {P' : Program} {w : World} {A : Around} {E : Value → Shared → Prop} {s : Shared} {a : Addr} {vs : List Value} {n : Nat} {κ : SortKind} {lt : Nat → Nat → Bool} {R : PySem.Fin → Shared → Prop} (ea : s.heap.get? a = some (seqObj "list" vs.toArray n)) (few : vs.length < 64)
  (hk : 2 ≤ vs.length → ∀ Q : SortKind → Shared → Prop, Q κ { s with heap := midHeap s.heap a vs } → wpAny (model P' w) A (keyKind' vs.toArray) Q (fun _ _ => False) { s with heap := midHeap s.heap a vs })
  (hc : ∀ i j, i < vs.length → j < vs.length → ∀ Q : Bool → Shared → Prop, Q (lt i j) { s with heap := midHeap s.heap a vs } → wpAny (model P' w) A (keyLt' κ (vs.getD i Value.none) (vs.getD j Value.none)) Q (fun _ _ => False) { s with heap := midHeap s.heap a vs })
  (done : R (.done (.ret .none)) { s with heap := sortedHeap s.heap a vs (outOf lt vs).toArray }) : wpAny (model P' w) A (Builtin.«list.sort» ⟨[.ref a], []⟩) R E s := by
 obtain ⟨k0, e1, e2⟩ := mid_at (vs := vs) ea
 have zl : vs.length ≤ sizeLine := by rw [sizeLine_eq]; omega
 have zo : (outOf lt vs).toArray.size ≤ sizeLine := by rw [List.size_toArray, outOf_length]; exact zl
 rw [list_sort_plain]
 refine wpAny_bind (listItems_at ea rfl (wpAny_bind (listUpdate_at ea rfl (wpAny_bind (seqEpoch_at e1 rfl (wpAny_bind (wpAny_newTuple (wpAny_bind (wpAny_newList (wpAny_holding ?_) (Nat.zero_le _))) zl)))) (by rw [List.size_toArray]; exact zl) (Nat.zero_le _))))
 show wpAny (model P' w) A _ R E { s with heap := midHeap s.heap a vs }
 dsimp only
 have rest : ∀ st' : SortSt, (arrOf st').map (·.2) = (outOf lt vs).toArray → failedOf st' = none → wpAny (model P' w) A (do
   let after ← seqEpoch a
   Builtin.List.listUpdate (.ref a) fun _ => (arrOf st').map (·.2)
   if let some e := failedOf st' then rule "list.sort.comparison-raised"; throw e
   if (after != k0) = true then rule "list.sort.modified"; raiseError "ValueError" "list modified during sort"
   ret .none) R E { s with heap := midHeap s.heap a vs } := fun st' q1 q2 => by
  rw [q1, q2]
  refine wpAny_bind (seqEpoch_at e2 rfl (wpAny_bind (listUpdate_at e2 rfl ?_ (Nat.zero_le _) (Nat.le_succ_of_le zo))))
  rw [show (k0 != k0) = false by simp]
  exact wpAny_pure done
 have sz : vs.toArray.size = vs.length := List.size_toArray
 by_cases h2 : vs.length < 2
 ·rw [sz, if_pos h2, if_pos h2]
  refine wpAny_bind (wpAny_pure (wpAny_bind (wpAny_pure (rest _ ?_ rfl))))
  rw [outOf_small h2]
  show (vs.toArray.zip vs.toArray).map (·.2) = vs.toArray
  apply Array.toList_inj.mp
  simp
  exact List.map_snd_zip (Nat.le_refl _)
 ·rw [sz, if_neg h2, if_neg h2]
  refine wpAny_bind (wpAny_mono (hk (by omega) (fun c s' => c = κ ∧ s' = { s with heap := midHeap s.heap a vs }) ⟨rfl, rfl⟩) (fun c s0 hs => ?_) fun _ _ x => x.elim)
  obtain ⟨rfl, rfl⟩ := hs
  refine wpAny_bind (wpAny_mono (kat_run (Q := fun st' s' => s' = { s with heap := midHeap s.heap a vs } ∧ (arrOf st').map (·.2) = (outOf lt vs).toArray ∧ failedOf st' = none)
   (G := fun p s' => s' = { s with heap := midHeap s.heap a vs } ∧ p = kRun lt (kas_sort vs.length)) rfl (by omega) few (fun p' st' s' a1 a2 a3 a4 => ⟨a4.1, ?_, a3⟩)
   (kWp (n := vs.length) (P := Ord vs.length) (lt := lt) (J := fun s' => s' = { s with heap := midHeap s.heap a vs }) (fun i j C s' hi hj e hC => ?_) _ (sort_all (by omega)) rfl fun s' e _ => ⟨e, rfl⟩)) ?_ fun _ _ e => e)
  ·rw [kat_snds rfl a2, a4.2]
   rfl
  ·subst e
   exact hc i j hi hj _ (hC _ rfl)
  ·rintro ⟨⟨⟩, st'⟩ s' ⟨rfl, q3, q4⟩
   exact rest st' q3 q4
def gotHeap (h : Heap) (vs : List Value) : Heap := ((h.push (seqObj "list" #[] 0)).update h.objs.size (Obj.mapSeq (· ++ vs.toArray))).push (seqObj "list" vs.toArray 0)
theorem got_size (h : Heap) (vs : List Value) : ((h.push (seqObj "list" #[] 0)).update h.objs.size (Obj.mapSeq (· ++ vs.toArray))).objs.size = h.objs.size + 1 := (Heap.size_update ..).trans (size_push' ..)
theorem got_at (h : Heap) (vs : List Value) : (gotHeap h vs).get? (h.objs.size + 1) = some (seqObj "list" vs.toArray 0) := by
 have q := Heap.get?_push_size ((h.push (seqObj "list" #[] 0)).update h.objs.size (Obj.mapSeq (· ++ vs.toArray))) (o := seqObj "list" vs.toArray 0) rfl
 rw [got_size] at q
 exact q
theorem got_keep {h : Heap} {vs : List Value} {b : Addr} {o : Obj} (e : h.get? b = some o) : (gotHeap h vs).get? b = some o :=
 Heap.get?_push_of_some _ ((Heap.get?_update_ne _ _ _ _ (Nat.ne_of_lt (Heap.lt_size e))).trans (Heap.get?_push_of_some _ e))
section
variable {X : Cx}
def Srt (X : Cx) (H : Hp) (ys : List V) (lt : Nat → Nat → Bool) : Prop := ∀ (pins : List (Addr × Obj)) (σ : St) (s : Shared) (its : List Value) (A : Around), A.units ≤ X.A.units + 2 → Inv X pins σ H s → Vals ys its →
 ∃ κ : SortKind, (2 ≤ ys.length → ∀ Q : SortKind → Shared → Prop, Q κ s → wpAny (model X.prog X.w) A (keyKind' its.toArray) Q (fun _ _ => False) s) ∧
  ∀ i j, i < ys.length → j < ys.length → ∀ Q : Bool → Shared → Prop, Q (lt i j) s → wpAny (model X.prog X.w) A (keyLt' κ (its.getD i Value.none) (its.getD j Value.none)) Q (fun _ _ => False) s
theorem vals_getD {ys : List V} {its : List Value} (r : Vals ys its) (i : Nat) : RelV (ys.getD i .non) (its.getD i Value.none) := by
 induction r generalizing i with
 | nil => exact rfl
 | cons a b ih =>
  cases i with
  | zero => exact a
  | succ i => exact ih i
theorem vals_map {ys : List V} {its : List Value} (r : Vals ys its) : ∀ l : List Nat, Vals (l.map fun i => ys.getD i .non) (l.map fun i => its.getD i Value.none)
 | [] => .nil
 | i :: l => .cons (vals_getD r i) (vals_map r l)
theorem ordV_length (lt : Nat → Nat → Bool) (ys : List V) : (ordV lt ys).length = ys.length := by
 unfold ordV
 rw [List.length_map, Array.length_toList]
 by_cases h : 0 < ys.length
 ·exact (kRun_ord lt ys.length h).size
 ·have e : ys.length = 0 := by omega
  rw [e]
  rfl
theorem call_sorted : CallR X (.builtin "sorted") (fun xs H Q => ∃ l ys lt, xs = [.ref l] ∧ SqL X.K H l ys ∧ ys.length < 64 ∧ Srt X H ys lt ∧ ∀ p, H p = none → Q (.ref p) (upd H p (.lst (ordV lt ys)))) := by
 intro pins s σ H xs us Q I r h
 obtain ⟨l, ys, lt, rfl, hl, h64, hs, q⟩ := h
 obtain ⟨u, rfl, ru⟩ := r.one
 cases ru
 obtain ⟨vs, rv, pl, _⟩ := I.list hl
 have hlen := rv.length
 have h64' : vs.length < 64 := by omega
 have zl : vs.length ≤ sizeLine := by rw [sizeLine_eq]; omega
 have up : ∀ {b : Addr} {o : Obj}, s.heap.get? b = some o → b ≠ s.heap.objs.size + 1 := fun e => Nat.ne_of_lt (Nat.lt_succ_of_lt (Heap.lt_size e))
 have k1 : ∀ b o, s.heap.get? b = some o → (midHeap (gotHeap s.heap vs) (s.heap.objs.size + 1) vs).get? b = some o := fun b o e => mid_keep (got_keep e) (up e)
 obtain ⟨κ, hk, hc⟩ := hs pins σ _ vs X.A.in1.in1 (Nat.le_refl _) (I.kept (t' := s.toks) k1) rv
 obtain ⟨k0, _, e2⟩ := mid_at (vs := vs) (got_at s.heap vs)
 have e3 : ∃ c, (sortedHeap (gotHeap s.heap vs) (s.heap.objs.size + 1) vs (outOf lt vs).toArray).get? (s.heap.objs.size + 1) = some (seqObj "list" (outOf lt vs).toArray c) := ⟨_, get?_update_seq e2 fun _ => (outOf lt vs).toArray⟩
 obtain ⟨c, e3⟩ := e3
 have k2 : ∀ b o, s.heap.get? b = some o → (sortedHeap (gotHeap s.heap vs) (s.heap.objs.size + 1) vs (outOf lt vs).toArray).get? b = some o := fun b o e => (Heap.get?_update_ne _ _ _ _ (up e)).trans (k1 b o e)
 refine Calls.call_function_entry kind_sorted plain_sorted entry_sorted (args_sorted1 _) (?_ : wpAny _ _ (Builtin.«sorted» _) _ _ _)
 unfold Builtin.«sorted»
 refine wpAny_bind (m := checkCount "sorted" 1 1 _) (wpAny_pure (wpAny_bind (collect_list pl.isList (wpAny_bind (wpAny_newList ?_ zl)) zl)))
 show wpAny _ _ _ _ _ { s with heap := gotHeap s.heap vs }
 rw [got_size]
 refine wpAny_bind (wpAny_holding (wpAny_call_entry slot_list_sort ⟨_, got_at s.heap vs, rfl⟩ entry_list_sort ?inner (args_list_sort _)))
 refine list_sort_raw (s := { s with heap := gotHeap s.heap vs }) (κ := κ) (lt := lt) (got_at s.heap vs) h64' (fun h2 Q' hq => hk (by omega) Q' hq) (fun i j hi hj Q' hq => hc i j (by omega) (by omega) Q' hq) ⟨_, rfl, wpAny_pure ⟨_, rfl, ?_⟩⟩
 refine ⟨.ref (s.heap.objs.size + 1), _, I.laid (t' := s.toks) (o := .lst (ordV lt ys)) k2 (Nat.le_succ _) ?_, rfl, q _ (I.hok.fresh (Nat.le_succ _))⟩
 refine ⟨by rw [ordV_length, sizeLine_eq]; omega, outOf lt vs, c, ?_, e3⟩
 unfold ordV outOf
 rw [hlen]
 exact vals_map rv _
end
end L2
set_option Elab.async false
set_option linter.all false
set_option maxRecDepth 100000
set_option maxHeartbeats 4000000
namespace HT
open PySem PyProof.Rows
inductive TxtsAre : List Value → List Str → Prop
 | nil : TxtsAre [] []
 | cons (z : Str) (t : Tok) {vs : List Value} {zs : List Str} : TxtsAre vs zs → TxtsAre (.str z t :: vs) (z :: zs)
theorem TxtsAre.length {vs : List Value} {zs : List Str} (h : TxtsAre vs zs) : vs.length = zs.length := by
 induction h with
 | nil => rfl
 | cons z t h ih => rw [List.length_cons, List.length_cons, ih]
def lexS : List Str → List Str → Bool
 | [], [] => false
 | [], _ :: _ => true
 | _ :: _, [] => false
 | x :: xs, y :: ys => if x = y then lexS xs ys else decide (x.cps.toList < y.cps.toList)
theorem lexS_cons (x y : Str) (xs ys : List Str) : lexS (x :: xs) (y :: ys) = if x = y then lexS xs ys else decide (x.cps.toList < y.cps.toList) := rfl
section
open PySem.SeqAt
open PySem.AutoSeq1 (wpAny_loadPart')
open PySem.MeetsSeq PySem.MeetsSeq2 PySem.MeetsSeq3
theorem tuple_lt_strs (l b : Addr) (items items2 : Array Value) (n n2 : Nat) (dd dd2 : Option Addr) (sl sl2 : Array (Option Value)) (ns ms : List Str) (hi : TxtsAre items.toList ns) (hj : TxtsAre items2.toList ms) :
  Meets (Builtin.«tuple.__lt__» ⟨[.ref l, .ref b], []⟩)
   (fun _ R s => s.heap.get? l = some { cls := .type "tuple", dict := dd, data := .seq items n, slots := sl } ∧ s.heap.get? b = some { cls := .type "tuple", dict := dd2, data := .seq items2 n2, slots := sl2 } ∧
    R (.ok (.ret (.bool (lexS ns ms)))) s) :=
 .of_wp fun prog w A R s hh => by
  obtain ⟨hp, g, d, tk, os⟩ := s
  obtain ⟨hl, hb, h⟩ := hh
  have sub := AutoSeq1.sub_tuple_tuple
  have z1 : items.size = ns.length := by rw [← hi.length]; simp
  have z2 : items2.size = ms.length := by rw [← hj.length]; simp
  wp_walk using wpAny_loadPart' hl, wpAny_loadPart' hb, wpAny_forIn_list _ (fun rest b s' => b.1 = none ∧ s' = ⟨hp, g, d, tk, os⟩ ∧ ∃ (vs ws : List Value) (ns' ms' : List Str), rest = vs.zip ws ∧
   TxtsAre vs ns' ∧ TxtsAre ws ms' ∧ ns'.length + items2.size = ms'.length + items.size ∧ R (.ok (.ret (.bool (lexS ns' ms')))) ⟨hp, g, d, tk, os⟩) _
  case turn =>
   rintro ⟨y, x⟩ rest b s' ⟨hb', rfl, vs, ws, ns', ms', hz, hvi, hwi, hlen, hR⟩
   cases hvi with
   | nil => rw [List.zip_nil_left] at hz; cases hz
   | cons a t hvi' =>
    cases hwi with
    | nil => rw [List.zip_nil_right] at hz; cases hz
    | cons c u hwi' =>
     rw [List.zip_cons_cons] at hz
     injection hz with hyx hrest
     injection hyx with hy hx
     subst hy hx
     rw [lexS_cons] at hR
     simp only [List.length_cons] at hlen
     have he : ∀ (E : Value → Shared → Prop) (Q : Bool → Shared → Prop), Q (decide (a = c)) ⟨hp, g, d, tk, os⟩ → wpAny (model prog w) A.in1 (eqBool (.str a t) (.str c u)) Q E ⟨hp, g, d, tk, os⟩ := fun E Q hq => wpAny_eqBool_str hq
     refine wpAny_bind (he _ _ ?_)
     by_cases hac : a = c
     ·rw [decide_eq_true hac]
      rw [if_pos hac] at hR
      wp_walk
      exact ⟨rfl, rfl, _, _, _, _, hrest, hvi', hwi', by omega, hR⟩
     ·rw [decide_eq_false hac]
      rw [if_neg hac] at hR
      have hri : ∀ (E : Value → Shared → Prop) (Q : Value → Shared → Prop), Q (.bool (decide (a.cps.toList < c.cps.toList))) ⟨hp, g, d, tk, os⟩ → wpAny (model prog w) A.in1 (richCompare .Lt (.str a t) (.str c u)) Q E ⟨hp, g, d, tk, os⟩ :=
       fun E Q hq => (PyProof.Rows.lt_str hq : wpAny (model prog w) A.in1 (compareOp .Lt (.str a t) (.str c u)) Q E ⟨hp, g, d, tk, os⟩)
      wp_walk using hri
      exact ⟨_, rfl, (by simpa using hR)⟩
  case fin =>
   rintro ⟨b1, b2⟩ s' ⟨hb', rfl, vs, ws, ns', ms', hz, hvi, hwi, hlen, hR⟩
   simp only at hb'
   subst hb'
   have hv : lexS ns' ms' = decide (items.size < items2.size) := by
    cases hvi with
    | nil =>
     cases hwi with
     | nil =>
      simp only [List.length_nil] at hlen
      exact (decide_eq_false (by omega)).symm
     | cons c u hw =>
      simp only [List.length_nil, List.length_cons] at hlen
      exact (decide_eq_true (by omega)).symm
    | cons a t hv =>
     cases hwi with
     | nil =>
      simp only [List.length_nil, List.length_cons] at hlen
      exact (decide_eq_false (by omega)).symm
     | cons c u hw =>
      rw [List.zip_cons_cons] at hz
      cases hz
   rw [hv] at hR
   wp_walk
   exact ⟨_, rfl, (by simpa [Builtin.Tuple.tupleCompareSizes] using hR)⟩
  case h =>
   exact ⟨rfl, rfl, items.toList, items2.toList, ns, ms, rfl, hi, hj, by omega, h⟩
end
section
theorem lt_tupStrs {prog : Program} {w : World} {A : Around} {E : Value → Shared → Prop} {s : Shared} {l b : Addr} {items items2 : Array Value} {ns ms : List Str} {Q : Value → Shared → Prop} (hl : IsTup s.heap l items) (hb : IsTup s.heap b items2) (hi : TxtsAre items.toList ns) (hj : TxtsAre items2.toList ms)
  (hu : A.units < cLine) (h : Q (.bool (lexS ns ms)) s) : wpAny (model prog w) A (compareOp .Lt (.ref l) (.ref b)) Q E s := by
 obtain ⟨⟨c1, dd, d1, sl⟩, ho, q1, n, q2⟩ := hl
 obtain ⟨⟨c2, dd2, d2, sl2⟩, ho2, q3, n2, q4⟩ := hb
 simp only at q1 q2 q3 q4
 subst q1 q2 q3 q4
 exact richCompare_meets_room (op := .Lt) ⟨_, ho, rfl⟩ ⟨_, ho2, rfl⟩ PySem.F.slot_tuple_lt PySem.F.entry_tuple_lt (PySem.F.args_tuple_lt_2 _ _) (tuple_lt_strs l b items items2 n n2 dd dd2 sl sl2 ns ms hi hj)
  ⟨ho, ho2, show Value.bool (lexS ns ms) ≠ Value.notImplemented ∧ Q (.bool (lexS ns ms)) s from ⟨(fun x => nomatch x), h⟩⟩ hu
end
end HT
namespace L2
open PySem PySem.W PyProof.Rows
theorem txts_of {zs : List Str} {its : List Value} (r : Vals (zs.map V.str) its) : HT.TxtsAre its zs := by
 induction zs generalizing its with
 | nil => cases r; exact .nil
 | cons z zs ih =>
  rw [List.map_cons] at r
  cases r with
  | cons a b =>
   obtain ⟨t, rfl⟩ := a
   exact .cons z t (ih b)
def ltP (x y : List Str × Int) : Bool := if x.1 = y.1 then decide (x.2 < y.2) else HT.lexS x.1 y.1
def PairAt (H : Hp) (v : V) (c : List Str × Int) : Prop := ∃ a kb, v = .ref a ∧ H a = some (.tup [.ref kb, .int c.2]) ∧ H kb = some (.tup (c.1.map V.str))
theorem keyStr (k : List Str) : (k.map (Sum.inr : Str → Key)).map kV = k.map V.str := by
 rw [List.map_map]
 rfl
theorem key_inj {k k' : List Str} : (k.map (Sum.inr : Str → Key) = k'.map Sum.inr) ↔ k = k' := by
 constructor
 ·intro h
  induction k generalizing k' with
  | nil => cases k' with
   | nil => rfl
   | cons _ _ => cases h
  | cons x k ih => cases k' with
   | nil => cases h
   | cons y k' =>
    rw [List.map_cons, List.map_cons] at h
    injection h with h1 h2
    rw [ih h2, Sum.inr.inj h1]
 ·rintro rfl; rfl
theorem pair_obj {X : Cx} {pins : List (Addr × Obj)} {σ : St} {H : Hp} {s : Shared} {v : V} {u : Value} {c : List Str × Int} (I : Inv X pins σ H s) (h : PairAt H v c) (r : RelV v u) :
  ∃ a kb o n t, u = .ref a ∧ s.heap.get? a = some o ∧ o.cls = .type "tuple" ∧ o.data = .seq #[.ref kb, .int c.2 t] n ∧ H kb = some (.tup (c.1.map V.str)) := by
 obtain ⟨a, kb, rfl, h1, h2⟩ := h
 cases (show u = Value.ref a from r)
 obtain ⟨_, its, rv, o, e1, e2, ⟨n, e3⟩, _⟩ := (show ObjOk X.prog X.w H s.heap a (.tup [.ref kb, .int c.2]) from I.hok a _ h1)
 obtain ⟨u1, u2, rfl, r1, r2⟩ := vals2 rv
 cases (show u1 = Value.ref kb from r1)
 obtain ⟨t, rfl⟩ := r2
 exact ⟨a, kb, o, n, t, rfl, e1, e2, e3, h2⟩
theorem srt_pairs {X : Cx} {H : Hp} {ys : List V} (hu : X.A.units + 2 < cLine) (cs : Nat → List Str × Int) (hy : ∀ i, i < ys.length → PairAt H (ys.getD i .non) (cs i)) : Srt X H ys (fun i j => ltP (cs i) (cs j)) := by
 intro pins σ s its A hA I r
 have hu' : A.units < cLine := by omega
 have all : ∀ v ∈ ys, ∃ c, PairAt H v c := fun v hv => by
  obtain ⟨i, hi, e⟩ := List.getElem_of_mem hv
  have q := hy i hi
  have eg : ys.getD i .non = v := by simp [List.getD, hi, e]
  rw [eg] at q
  exact ⟨_, q⟩
 have tups : ∀ {ys : List V} {its : List Value}, Vals ys its → (∀ v ∈ ys, ∃ c, PairAt H v c) → ∃ fs, KatTups s.heap its fs ∧ fs.length = its.length ∧ ∀ f ∈ fs, Looks (model X.prog X.w) s.heap (typeOf f) (.type "tuple") := by
  intro ys its r
  induction r with
  | nil => exact fun _ => ⟨[], .nil, rfl, fun f hf => nomatch hf⟩
  | @cons y u ys its ry _ ih =>
   intro hall
   obtain ⟨fs, k1, k2, k3⟩ := ih fun v hv => hall v (List.mem_cons_of_mem _ hv)
   obtain ⟨c, hc⟩ := hall y List.mem_cons_self
   obtain ⟨a, kb, o, n, t, rfl, e1, e2, e3, e4⟩ := pair_obj I hc ry
   obtain ⟨_, its2, _, o2, f1, f2, _, _⟩ := (show ObjOk X.prog X.w H s.heap kb (.tup (c.1.map V.str)) from I.hok kb _ e4)
   refine ⟨.ref kb :: fs, .cons e1 e2 e3 rfl k1, by rw [List.length_cons, List.length_cons, k2], fun f hf => ?_⟩
   rcases List.mem_cons.mp hf with rfl | hf
   ·rw [← f2]
    exact (show Looks (model X.prog X.w) s.heap (typeOf (.ref kb)) o2.cls from (Looks.ld f1).andThen .now)
   ·exact k3 f hf
 have hlen := r.length
 refine ⟨tuples' false, fun h2 Q hq => ?_, fun i j hi hj Q hq => ?_⟩
 ·obtain ⟨fs, k1, k2, k3⟩ := tups r all
  exact kat_kind (T := .type "tuple") k1 (by omega) k3 rfl hq
 ·have hq : Q (ltP (cs i) (cs j)) s := hq
  obtain ⟨a, ka, oa, na, ta, ea, a1, a2, a3, a4⟩ := pair_obj I (hy i hi) (vals_getD r i)
  obtain ⟨b, kb, ob, nb, tb, eb, b1, b2, b3, b4⟩ := pair_obj I (hy j hj) (vals_getD r j)
  rw [ea, eb]
  refine kat_lt a1 a3 b1 b3 ?_
  have ka1 := key_of I.hok (ks := (cs i).1.map Sum.inr) (by rw [keyStr]; exact a4)
  have kb1 := key_of I.hok (ks := (cs j).1.map Sum.inr) (by rw [keyStr]; exact b4)
  refine kat_cons (wpAny_eqBool_tuple (knd := mixKind X.prog X.w) hu' ka1 kb1 ?_)
  by_cases hk : (cs i).1 = (cs j).1
  ·rw [decide_eq_true (key_inj.mpr hk)]
   refine kat_yes (kat_cons (wpAny_eqBool_int ?_))
   have hl : ltP (cs i) (cs j) = decide ((cs i).2 < (cs j).2) := if_pos hk
   rw [hl] at hq
   by_cases hn : (cs i).2 = (cs j).2
   ·rw [show ((cs i).2 == (cs j).2) = true by simpa using hn]
    refine kat_yes (kat_nil ?_)
    rw [hn, decide_eq_false (Int.lt_irrefl _)] at hq
    exact hq
   ·rw [show ((cs i).2 == (cs j).2) = false by simpa using hn]
    refine kat_no (kat_one _ _ (PyProof.Rows.lt_int ?_))
    exact hq
  ·rw [decide_eq_false (fun e => hk (key_inj.mp e))]
   have hl : ltP (cs i) (cs j) = HT.lexS (cs i).1 (cs j).1 := if_neg hk
   rw [hl] at hq
   obtain ⟨_, ia, ra, pa⟩ := (show ObjOk X.prog X.w H s.heap ka (.tup ((cs i).1.map V.str)) from I.hok ka _ a4)
   obtain ⟨_, ib, rb, pb⟩ := (show ObjOk X.prog X.w H s.heap kb (.tup ((cs j).1.map V.str)) from I.hok kb _ b4)
   refine kat_no (kat_one _ _ (HT.lt_tupStrs pa.is pb.is (txts_of ra) (txts_of rb) hu' ?_))
   exact hq
end L2
set_option Elab.async false
set_option linter.all false
set_option maxRecDepth 100000
set_option maxHeartbeats 4000000
namespace L2
open PySem PySem.W PyProof.Rows
def ltSI (x y : Str × Int) : Bool := if x.1 = y.1 then decide (x.2 < y.2) else decide (x.1.cps.toList < y.1.cps.toList)
def SIAt (H : Hp) (v : V) (c : Str × Int) : Prop := ∃ a, v = .ref a ∧ H a = some (.tup [.str c.1, .int c.2])
theorem si_obj {X : Cx} {pins : List (Addr × Obj)} {σ : St} {H : Hp} {s : Shared} {v : V} {u : Value} {c : Str × Int} (I : Inv X pins σ H s) (h : SIAt H v c) (r : RelV v u) :
  ∃ a o n t t', u = .ref a ∧ s.heap.get? a = some o ∧ o.cls = .type "tuple" ∧ o.data = .seq #[.str c.1 t', .int c.2 t] n := by
 obtain ⟨a, rfl, h1⟩ := h
 cases (show u = Value.ref a from r)
 obtain ⟨_, its, rv, o, e1, e2, ⟨n, e3⟩, _⟩ := (show ObjOk X.prog X.w H s.heap a (.tup [.str c.1, .int c.2]) from I.hok a _ h1)
 obtain ⟨u1, u2, rfl, r1, r2⟩ := vals2 rv
 obtain ⟨t', rfl⟩ := r1
 obtain ⟨t, rfl⟩ := r2
 exact ⟨a, o, n, t, t', rfl, e1, e2, e3⟩
theorem srt_si {X : Cx} {H : Hp} {ys : List V} (cs : Nat → Str × Int) (hy : ∀ i, i < ys.length → SIAt H (ys.getD i .non) (cs i)) : Srt X H ys (fun i j => ltSI (cs i) (cs j)) := by
 intro pins σ s its A hA I r
 have all : ∀ v ∈ ys, ∃ c, SIAt H v c := fun v hv => by
  obtain ⟨i, hi, e⟩ := List.getElem_of_mem hv
  have q := hy i hi
  have eg : ys.getD i .non = v := by simp [List.getD, hi, e]
  rw [eg] at q
  exact ⟨_, q⟩
 have tups : ∀ {ys : List V} {its : List Value}, Vals ys its → (∀ v ∈ ys, ∃ c, SIAt H v c) → ∃ fs, KatTups s.heap its fs ∧ fs.length = its.length ∧ ∀ f ∈ fs, Looks (model X.prog X.w) s.heap (typeOf f) (.type "str") := by
  intro ys its r
  induction r with
  | nil => exact fun _ => ⟨[], .nil, rfl, fun f hf => nomatch hf⟩
  | @cons y u ys its ry _ ih =>
   intro hall
   obtain ⟨fs, k1, k2, k3⟩ := ih fun v hv => hall v (List.mem_cons_of_mem _ hv)
   obtain ⟨c, hc⟩ := hall y List.mem_cons_self
   obtain ⟨a, o, n, t, t', rfl, e1, e2, e3⟩ := si_obj I hc ry
   refine ⟨.str c.1 t' :: fs, .cons e1 e2 e3 rfl k1, by rw [List.length_cons, List.length_cons, k2], fun f hf => ?_⟩
   rcases List.mem_cons.mp hf with rfl | hf
   ·exact .now
   ·exact k3 f hf
 have hlen := r.length
 refine ⟨tuples' true, fun h2 Q hq => ?_, fun i j hi hj Q hq => ?_⟩
 ·obtain ⟨fs, k1, k2, k3⟩ := tups r all
  exact kat_kind (T := .type "str") k1 (by omega) k3 rfl hq
 ·have hq : Q (ltSI (cs i) (cs j)) s := hq
  obtain ⟨a, oa, na, ta, ta', ea, a1, a2, a3⟩ := si_obj I (hy i hi) (vals_getD r i)
  obtain ⟨b, ob, nb, tb, tb', eb, b1, b2, b3⟩ := si_obj I (hy j hj) (vals_getD r j)
  rw [ea, eb]
  refine kat_lt a1 a3 b1 b3 ?_
  refine kat_cons (wpAny_eqBool_str ?_)
  by_cases hk : (cs i).1 = (cs j).1
  ·rw [decide_eq_true hk]
   refine kat_yes (kat_cons (wpAny_eqBool_int ?_))
   have hl : ltSI (cs i) (cs j) = decide ((cs i).2 < (cs j).2) := if_pos hk
   rw [hl] at hq
   by_cases hn : (cs i).2 = (cs j).2
   ·rw [show ((cs i).2 == (cs j).2) = true by simpa using hn]
    refine kat_yes (kat_nil ?_)
    rw [hn, decide_eq_false (Int.lt_irrefl _)] at hq
    exact hq
   ·rw [show ((cs i).2 == (cs j).2) = false by simpa using hn]
    refine kat_no (kat_one _ _ (PyProof.Rows.lt_int ?_))
    exact hq
  ·rw [decide_eq_false hk]
   have hl : ltSI (cs i) (cs j) = decide ((cs i).1.cps.toList < (cs j).1.cps.toList) := if_neg hk
   rw [hl] at hq
   exact kat_no (kas_lt_str hq)
end L2
set_option Elab.async false
set_option linter.all false
set_option maxRecDepth 100000
set_option maxHeartbeats 4000000
namespace L2
open PySem PySem.W PyProof.Rows
def layT (H : Hp) (f : Addr → Option (List V)) : Hp := fun b => match f b with
 | some xs => some (.tup xs)
 | none => H b
theorem layT_some {H : Hp} {f : Addr → Option (List V)} {b : Addr} {xs : List V} (e : f b = some xs) : layT H f b = some (.tup xs) := by unfold layT; rw [e]
theorem layT_none {H : Hp} {f : Addr → Option (List V)} {b : Addr} (e : f b = none) : layT H f b = H b := by unfold layT; rw [e]
theorem layT_keep {H : Hp} {f : Addr → Option (List V)} (hf : ∀ b xs, f b = some xs → H b = none) {b : Addr} {o : HO} (e : H b = some o) : layT H f b = some o := by
 cases z : f b with
 | none => rw [layT_none z]; exact e
 | some xs => rw [hf b xs z] at e; cases e
section
variable {X : Cx} {pins : List (Addr × Obj)} {σ : St} {H : Hp} {s : Shared} {h' : Heap}
theorem Inv.tups {f : Addr → Option (List V)} {t' : Nat} (I : Inv X pins σ H s) (k : ∀ b u, s.heap.get? b = some u → h'.get? b = some u)
  (hf : ∀ b xs, f b = some xs → s.heap.objs.size ≤ b ∧ xs.length ≤ sizeLine ∧ ∃ its : List Value, Vals xs its ∧ IsTupN h' b its.toArray) : Inv X pins σ (layT H f) { s with heap := h', toks := t' } := by
 have fr : ∀ b xs, f b = some xs → H b = none := fun b xs e => I.hok.fresh (hf b xs e).1
 have nf : ∀ {b : Addr} {o : Obj}, s.heap.get? b = some o → f b = none := fun {b o} e => by
  cases z : f b with
  | none => rfl
  | some xs => exact absurd (Heap.lt_size e) (Nat.not_lt.mpr (hf b xs z).1)
 refine I.un ⟨fun b o q _ _ _ => k b o q, fun b o q _ _ _ => ⟨o.slots, k b o q⟩, fun b o q n _ => by rw [layT_none (nf q)]; exact n, fun b o q _ => ⟨o, k b o q⟩, fun b xs q => layT_keep fr q, fun b o u q => layT_keep fr q, fun b ps q => ⟨#[], by rw [layT_keep fr q]; simp⟩⟩ fun b u e => ?_
 cases z : f b with
 | some xs =>
  rw [layT_some z] at e
  cases e
  obtain ⟨_, h2, its, h3, h4⟩ := hf b xs z
  exact ⟨h2, its, h3, h4⟩
 | none =>
  rw [layT_none z] at e
  exact (I.hok b u e).stay (fun c v _ q => k c v q) (fun c q => layT_keep fr q) fun c xs q => layT_keep fr q
end
section
variable {X : Cx}
theorem sorted_rest {pins : List (Addr × Obj)} {σ : St} {H : Hp} {s : Shared} {A : Around} {ys : List V} {vs : List Value} {lt : Nat → Nat → Bool} {Z : PySem.Fin → Shared → Prop} {E : Value → Shared → Prop} (hA : A.in1.units ≤ X.A.units + 2) (I : Inv X pins σ H s) (rv : Vals ys vs) (h64 : ys.length < 64) (hs : Srt X H ys lt)
  (fin : ∀ p s', H p = none → Inv X pins σ (upd H p (.lst (ordV lt ys))) s' → Z (.done (.ret (.ref p))) s') :
  wpAny (model X.prog X.w) A (newList vs >>= fun l => holding [l] (call (.builtin "list.sort") [l] []) >>= fun _ => ret l) Z E s := by
 have hlen := rv.length
 have h64' : vs.length < 64 := by omega
 have zl : vs.length ≤ sizeLine := by rw [sizeLine_eq]; omega
 refine wpAny_bind (wpAny_newList ?_ zl)
 have ga : (s.heap.push (seqObj "list" vs.toArray 0)).get? s.heap.objs.size = some (seqObj "list" vs.toArray 0) := Heap.get?_push_size _ rfl
 have up : ∀ {b : Addr} {o : Obj}, s.heap.get? b = some o → b ≠ s.heap.objs.size := fun e => Nat.ne_of_lt (Heap.lt_size e)
 have k1 : ∀ b o, s.heap.get? b = some o → (midHeap (s.heap.push (seqObj "list" vs.toArray 0)) s.heap.objs.size vs).get? b = some o := fun b o e => mid_keep (Heap.get?_push_of_some _ e) (up e)
 obtain ⟨κ, hk, hc⟩ := hs pins σ _ vs A.in1 hA (I.kept (t' := s.toks) k1) rv
 obtain ⟨k0, _, e2⟩ := mid_at (vs := vs) ga
 have e3 : ∃ c, (sortedHeap (s.heap.push (seqObj "list" vs.toArray 0)) s.heap.objs.size vs (outOf lt vs).toArray).get? s.heap.objs.size = some (seqObj "list" (outOf lt vs).toArray c) := ⟨_, get?_update_seq e2 fun _ => (outOf lt vs).toArray⟩
 obtain ⟨c, e3⟩ := e3
 have k2 : ∀ b o, s.heap.get? b = some o → (sortedHeap (s.heap.push (seqObj "list" vs.toArray 0)) s.heap.objs.size vs (outOf lt vs).toArray).get? b = some o := fun b o e => (Heap.get?_update_ne _ _ _ _ (up e)).trans (k1 b o e)
 refine wpAny_bind (wpAny_holding (wpAny_call_entry slot_list_sort ⟨_, ga, rfl⟩ entry_list_sort ?inner (args_list_sort _)))
 refine list_sort_raw (s := { s with heap := s.heap.push (seqObj "list" vs.toArray 0) }) (κ := κ) (lt := lt) ga h64' (fun h2 Q' hq => hk (by omega) Q' hq) (fun i j hi hj Q' hq => hc i j (by omega) (by omega) Q' hq) ⟨_, rfl, wpAny_pure ?_⟩
 refine fin _ _ (I.hok.fresh (Nat.le_refl _)) (I.laid (t' := s.toks) (o := .lst (ordV lt ys)) k2 (Nat.le_refl _) ?_)
 refine ⟨by rw [ordV_length, sizeLine_eq]; omega, outOf lt vs, c, ?_, e3⟩
 unfold ordV outOf
 rw [hlen]
 exact vals_map rv _
abbrev isItems (v d : Addr) : Heap → Prop := fun h => h.IsItemsView v d
def mkF (as : List Addr) (kvs : List (Key × V)) : Addr → Option (List V) := fun b => ((as.zip kvs).find? fun p => p.1 == b).map fun p => [kV p.2.1, p.2.2]
theorem find_zip {as : List Addr} {kvs : List (Key × V)} (nd : as.Nodup) {j : Nat} {a : Addr} {p : Key × V} (ha : as[j]? = some a) (hp : kvs[j]? = some p) : (as.zip kvs).find? (fun q => q.1 == a) = some (a, p) := by
 induction as generalizing kvs j with
 | nil => cases ha
 | cons x as ih =>
  cases kvs with
  | nil => cases hp
  | cons y kvs =>
   rw [List.nodup_cons] at nd
   rw [List.zip_cons_cons, List.find?_cons]
   cases j with
   | zero => cases ha; cases hp; simp
   | succ j =>
    have ha : as[j]? = some a := ha
    have ne : (x == a) = false := beq_false_of_ne fun e => nd.1 (e ▸ List.mem_of_getElem? ha)
    rw [ne]
    exact ih nd.2 ha hp
theorem find_zip_inv {as : List Addr} {kvs : List (Key × V)} {b : Addr} {q : Addr × (Key × V)} (h : (as.zip kvs).find? (fun q => q.1 == b) = some q) : q.1 = b ∧ ∃ j : Nat, as[j]? = some b ∧ kvs[j]? = some q.2 := by
 have h1 := List.find?_some h
 have h1 : q.1 = b := eq_of_beq h1
 have h2 := List.mem_of_find?_eq_some h
 obtain ⟨j, hj⟩ := List.mem_iff_getElem?.mp h2
 rw [List.getElem?_zip_eq_some] at hj
 exact ⟨h1, j, by rw [← h1]; exact hj.1, hj.2⟩
theorem paired_of {H : Hp} : ∀ {as : List Addr} {kvs : List (Key × V)}, as.length = kvs.length → (∀ (j : Nat) (a : Addr) (p : Key × V), as[j]? = some a → kvs[j]? = some p → H a = some (.tup [kV p.1, p.2])) → PairsAt H as kvs
 | [], [], _, _ => .nil
 | [], _ :: _, h, _ => nomatch h
 | _ :: _, [], h, _ => nomatch h
 | a :: as, p :: kvs, h, k => .cons (k 0 a p rfl rfl) (paired_of (Nat.succ.inj h) fun j a' p' h1 h2 => k (j + 1) a' p' h1 h2)
theorem relV_key {P : Program} {w : World} {k : Key} {u : Value} (h : (mixKind P w).is k u = true) : RelV (kV k) u := by
 rcases keyIs_shape h with ⟨i, t, rfl, rfl⟩ | ⟨x, t, rfl, rfl⟩ | ⟨rfl, rfl⟩
 ·exact ⟨t, rfl⟩
 ·exact ⟨t, rfl⟩
 ·exact rfl
theorem kv_get {kvs : List (Key × V)} {vs : List (Key × Value)} (r : KV kvs vs) : ∀ {j : Nat} {p : Key × V} {q : Key × Value}, kvs[j]? = some p → vs[j]? = some q → p.1 = q.1 ∧ RelV p.2 q.2 := by
 induction r with
 | nil => intro j p q h; cases h
 | cons h _ ih =>
  intro j p q h1 h2
  cases j with
  | zero => cases h1; cases h2; exact h
  | succ j => exact ih (j := j) h1 h2
theorem call_sortedI (hc : X.calm = true) : CallR X (.builtin "sorted") (fun xs H Q => ∃ v d kvs lt, xs = [.ref v] ∧ H v = some (.ext (isItems v d)) ∧ H d = some (.dK kvs) ∧ kvs.length < 64 ∧
  ∀ as H1, Same H H1 → PairsAt H1 as kvs → (∀ a ∈ as, H a = none) → (∀ a, H a = none → H1 a ≠ none → a ∈ as) → Srt X H1 (List.map V.ref as) lt ∧ ∀ p, H1 p = none → Q (.ref p) (upd H1 p (.lst (ordV lt (List.map V.ref as))))) := by
 intro pins s σ H xs us Q I r h
 obtain ⟨v, d, kvs, lt, rfl, hv, hd, h64, hq⟩ := h
 obtain ⟨u, rfl, ru⟩ := r.one
 cases ru
 obtain ⟨z, hS, vs, rel, dd⟩ := dk_of I.hok hd
 obtain ⟨hview, _, _⟩ := (show ObjOk X.prog X.w H s.heap v (.ext (isItems v d)) from I.hok v _ hv)
 obtain ⟨ep, da⟩ := dd.dictAt
 have hl : kvs.length = vs.length := rel.length
 refine Calls.call_function_entry kind_sorted plain_sorted entry_sorted (args_sorted1 _) (?_ : wpAny _ _ (Builtin.«sorted» _) _ _ _)
 unfold Builtin.«sorted»
 refine wpAny_bind (m := checkCount "sorted" 1 1 _) (wpAny_pure (wpAny_bind (kdx_collect (knd := mixKind X.prog X.w) (by simp [I.ok.hd hc]) hview da (by rw [← hl]; exact z) fun h' tk as keep hlen G => ?_)))
 have nd : as.Nodup := G.rise.imp fun h => Nat.ne_of_lt h
 have hlen' : as.length = kvs.length := hlen.trans hl.symm
 have up : ∀ a ∈ as, s.heap.objs.size ≤ a := fun a ha => Nat.le_of_lt (G.above a ha)
 have I1 : Inv X pins σ (layT H (mkF as kvs)) { s with heap := h', toks := tk } := I.tups keep fun b xs e => by
  unfold mkF at e
  cases z : (as.zip kvs).find? fun p => p.1 == b with
  | none => rw [z] at e; cases e
  | some q =>
   rw [z] at e
   cases e
   obtain ⟨e1, j, e2, e3⟩ := find_zip_inv z
   obtain ⟨key, k, x, g1, g2, g3⟩ := G.pairs j b e2
   obtain ⟨r1, r2⟩ := kv_get rel e3 g1
   have r1 : q.2.1 = k := r1
   refine ⟨up b (List.mem_of_getElem? e2), by show 2 ≤ sizeLine; decide, [key, x], .cons (by rw [r1]; exact relV_key g2) (.cons r2 .nil), ⟨_, g3, rfl, ⟨_, rfl⟩, rfl⟩⟩
 have fr : ∀ b xs, mkF as kvs b = some xs → H b = none := fun b xs e => by
  unfold mkF at e
  cases z : (as.zip kvs).find? fun p => p.1 == b with
  | none => rw [z] at e; cases e
  | some q =>
   obtain ⟨_, j, e2, _⟩ := find_zip_inv z
   exact I.hok.fresh (up b (List.mem_of_getElem? e2))
 obtain ⟨hs, q⟩ := hq as (layT H (mkF as kvs)) (fun b o e => layT_keep fr e) (paired_of hlen' fun j a p h1 h2 => layT_some (by unfold mkF; rw [find_zip nd h1 h2]; rfl)) (fun a ha => I.hok.fresh (up a ha)) fun a n1 n2 => by
  cases z : mkF as kvs a with
  | none => rw [layT_none z] at n2; exact absurd n1 n2
  | some xs =>
   unfold mkF at z
   cases y : (as.zip kvs).find? fun p => p.1 == a with
   | none => rw [y] at z; cases z
   | some q =>
    obtain ⟨_, j, e2, _⟩ := find_zip_inv y
    exact List.mem_of_getElem? e2
 have rv : Vals (as.map V.ref) (as.map Value.ref) := by
  clear nd hlen' up I1 fr hs q hlen G hq
  induction as with
  | nil => exact .nil
  | cons a as ih => exact .cons rfl ih
 exact sorted_rest (Nat.le_refl _) I1 rv (by rw [List.length_map]; omega) hs fun p s' hp I' => ⟨_, rfl, .ref p, _, I', rfl, q p hp⟩
end
end L2
set_option Elab.async false
set_option linter.all false
set_option maxRecDepth 100000
set_option maxHeartbeats 4000000
set_option Elab.async false
set_option linter.all false
set_option maxRecDepth 100000
set_option maxHeartbeats 4000000
namespace PySem.W
open PySem PySem.Calls PyProof.Rows PyProof.V PySem.Spec
def RawD (h : Heap) (d : Addr) (es : Array DictEntry) (ep : Nat) : Prop := ∃ o, h.get? d = some o ∧ o.ExactDict ∧ o.data = .dict es ep
theorem RawD.at {h h' : Heap} {d : Addr} {es : Array DictEntry} {ep : Nat} (x : RawD h d es ep) (k : ∀ o, h.get? d = some o → h'.get? d = some o) : RawD h' d es ep := let ⟨o, e, r⟩ := x; ⟨o, k o e, r⟩
abbrev RIt (h : Heap) (it d : Addr) (i n ep : Nat) (x0 ok ov : Value) (f : Bool) : Prop := h.get? it = some { cls := .type "dict_itemiterator", dict := none, data := .fields #[x0, .bool f, .ref d, .int i 0, .int n 0, .int ep 0, ok, ov], slots := #[] }
def RSt (h : Heap) (it d S : Addr) (i n ep : Nat) : Prop := ∃ x0 ok ov f, RIt h it d i n ep x0 ok ov f ∧ ((x0 = .none ∧ f = false) ∨ ∃ a oa, x0 = rawInt (a : Nat) ∧ h.get? a = some oa ∧ a ≠ it ∧ a ≠ S)
theorem RSt.keep {h h' : Heap} {it d S : Addr} {i n ep : Nat} (x : RSt h it d S i n ep) (k : ∀ b o, b ≠ S → h.get? b = some o → h'.get? b = some o) (ne : it ≠ S) : RSt h' it d S i n ep := by
 obtain ⟨x0, ok, ov, f, e, r⟩ := x
 refine ⟨x0, ok, ov, f, k _ _ ne e, r.imp id ?_⟩
 rintro ⟨a, oa, r1, r2, r3, r4⟩
 exact ⟨a, oa, r1, k _ _ r4 r2, r3, r4⟩
section
variable {prog : Program} {w : World} {A : Around} {E : Value → Shared → Prop} {s : Shared}
theorem raw_next {it d S : Addr} {i n ep : Nat} {es : Array DictEntry} {Q : Option Value → Shared → Prop} (hh : A.handled = none) (hst : RSt s.heap it d S i n ep) (hS : S < s.heap.objs.size) (hD : RawD s.heap d es ep) (hn : es.size = n)
  (hItem : ∀ e h', es[i]? = some e → RSt h' it d S (i + 1) n ep → h'.get? s.heap.objs.size = some { cls := .type "tuple", data := .seq #[e.key, e.val] } → h'.objs.size = s.heap.objs.size + 1 → (∀ b o, b ≠ it → s.heap.get? b = some o → h'.get? b = some o) → Q (some (.ref s.heap.objs.size)) { s with heap := h' })
  (hEnd : es[i]? = none → ∀ h', (∀ b o, b ≠ it → s.heap.get? b = some o → h'.get? b = some o) → Q none { s with heap := h' }) : wpAny (model prog w) A (pyNext (.ref it)) Q E s := by
 obtain ⟨hp, g, dr, tk, os⟩ := s
 obtain ⟨od, d1, d2, d3⟩ := hD
 obtain ⟨x0, ok, ov, f, hit, hx0⟩ := hst
 subst hn
 have hT : Shared.TypeIs ⟨hp, g, dr, tk, os⟩ (.ref it) "dict_itemiterator" := ⟨_, hit, rfl⟩
 have hown : Builtin.Dict_items.ownsTuple "dict_itemiterator" = true := by decide
 unfold pyNext
 refine wpAny_bind (wpAny_attempt (wpAny_callSpecial?_slot (name := Str.ofString "__next__") hT PySem.F.slot_dict_itemiterator_next (wpAny_call_entry PySem.F.slot_dict_itemiterator_next hT PySem.F.entry_dict_itemiterator_next (wpAny_bind (wpAny_pure ?_)) (PySem.F.args_dict_itemiterator_next_1 _))))
 refine wpAny_bind (wpAny_bind (wpAny_bind (wpAny_typeNameOfWhole_itemiter hT (wpAny_pure ?_))))
 refine wpAny_bind (wpAny_fieldsOf hit rfl ?_)
 (simp only [hown, if_true]; show wpAny _ _ (if (Value.ref d == Value.none) = true then _ else _) _ _ _; rw [if_neg (show ¬ ((Value.ref d == Value.none) = true) from Bool.false_ne_true)])
 refine wpAny_bind (wpAny_pure (wpAny_bind (wpAny_dictEntries d1 d3 ?_)))
 (rw [if_neg (by simp)]; refine wpAny_bind (wpAny_pure (wpAny_bind (wpAny_dictEpoch d1 d3 ?_))); rw [if_neg (by simp)]; refine wpAny_pure ?_)
 cases hx : es[i]? with
 | none =>
  (simp only [show ¬ ((i : Int) < 0) from by omega, if_false, Int.toNat_natCast, hx]; refine wpAny_bind (wpAny_bind (wpAny_typeNameOfWhole_itemiter hT (wpAny_pure ?_))))
  (show wpAny _ _ (setField (.ref it) 2 .none >>= _) _ _ _; refine wpAny_bind (wpAny_setField hit rfl (by simp) ?_))
  (show wpAny _ _ (newExc (.type "StopIteration") [] >>= _) _ _ _; refine wpAny_bind ?_; simp only [newExc, newTuple]; refine wpAny_bind (wpAny_newObj_type ?_ (by size_fits)))
  refine wpAny_bind (m := firstArgMember _ _) (wpAny_of_eq (a := Value.none) (by first | rfl | (simp only [firstArgMember]; rfl)) (wpAny_newObj_type ?_ (by size_fits)))
  (simp only [raiseNew]; refine wpAny_bind (wpAny_handled ?_); rw [show A.in1.handled = none from hh]; refine wpAny_bind (wpAny_pure (wpAny_throw ?_)))
  (refine wpAny_bind (wpAny_isInstance (T := "StopIteration") (b := true) ⟨_, Heap.get?_push_size _ rfl, rfl⟩ isSubtype_stop ?_))
  exact wpAny_pure (hEnd hx _ fun b o nb e => (((Heap.SameBut.update ..).extBut.push _).push _) b o nb e)
 | some e =>
  have hil : it < hp.objs.size := Heap.lt_size hit
  (simp only [show ¬ ((i : Int) < 0) from by omega, if_false, Int.toNat_natCast, hx]; refine wpAny_bind (wpAny_bind (wpAny_typeNameOfWhole_itemiter hT (wpAny_pure ?_))))
  (refine wpAny_bind (wpAny_isOneOf_itemiter hT ?_); show wpAny _ _ (setField (.ref it) 3 (rawInt ((i : Int) + 1)) >>= _) _ _ ⟨hp, g, dr, tk, os⟩)
  refine wpAny_bind (wpAny_setField_rec hit (by simp) fun h₁ he₁ hs₁ => ?_)
  have hs₁ : Heap.SameBut it hp h₁ := hs₁
  have he₁ : RIt h₁ it d (i + 1) es.size ep x0 ok ov f := by
   have z : ((i + 1 : Nat) : Int) = (i : Int) + 1 := by omega
   (unfold RIt; rw [z]; simpa [rawInt] using he₁)
  have hT₁ : Shared.TypeIs ⟨h₁, g, dr, tk, os⟩ (.ref it) "dict_itemiterator" := ⟨_, he₁, rfl⟩
  refine wpAny_bind (wpAny_holding (wpAny_bind (wpAny_isOneOf_itemiter hT₁ (wpAny_bind (wpAny_isOneOf_itemiter hT₁ ?_)))))
  (show wpAny _ _ (Builtin.Dict_items.pairFromOwner (.ref it) 6 e.key e.val) _ _ ⟨h₁, g, dr, tk, os⟩; unfold Builtin.Dict_items.pairFromOwner; refine wpAny_bind (wpAny_newTuple ?_))
  obtain ⟨h₂, eh₂⟩ : ∃ h₂, h₂ = h₁.push { cls := .type "tuple", data := .seq #[e.key, e.val] } := ⟨_, rfl⟩
  have z1 : h₁.objs.size = hp.objs.size := hs₁.1
  have he₂ : RIt h₂ it d (i + 1) es.size ep x0 ok ov f := by rw [eh₂]; exact Heap.get?_push_of_some _ he₁
  have t2 : h₂.get? hp.objs.size = some { cls := .type "tuple", data := .seq #[e.key, e.val] } := by rw [eh₂, ← z1]; exact Heap.get?_push_size _ rfl
  have z2 : h₂.objs.size = hp.objs.size + 1 := by rw [eh₂, Heap.size_push, z1]
  have k2 : ∀ b o, b ≠ it → hp.get? b = some o → h₂.get? b = some o := fun b o nb q => by rw [eh₂]; exact Heap.get?_push_of_some _ (hs₁.extBut b o nb q)
  have fin : ∀ h3 : Heap, Heap.SameBut it h₂ h3 → RSt h3 it d S (i + 1) es.size ep → Q (some (.ref hp.objs.size)) ⟨h3, g, dr, tk, os⟩ := fun h3 sb r => hItem e h3 hx r (sb.extBut _ _ (Nat.ne_of_gt hil) t2) (by show h3.objs.size = hp.objs.size + 1; rw [sb.1, z2]) fun b o nb q => sb.extBut b o nb (k2 b o nb q)
  (show wpAny _ _ (Builtin.Dict_items.ownedTupleIsFree (.ref it) >>= _) _ _ ⟨h₁.push { cls := .type "tuple", data := .seq #[e.key, e.val] }, g, dr, tk, os⟩; rw [← eh₂])
  clear eh₂ he₁ hT₁
  (refine wpAny_bind ?_; unfold Builtin.Dict_items.ownedTupleIsFree; refine wpAny_bind (wpAny_field he₂ rfl (x := x0) rfl ?_))
  rcases hx0 with ⟨rfl, rfl⟩ | ⟨a, oa, rfl, ha, nai, naS⟩
  ·(refine wpAny_pure ?_; simp only [if_true])
   refine wpAny_bind (wpAny_field he₂ rfl (x := ok) rfl (wpAny_bind (wpAny_field he₂ rfl (x := ov) rfl ?_)))
   refine wpAny_bind (wpAny_setField_rec he₂ (by simp) fun h3 e3 s3 => ?_)
   refine wpAny_bind (wpAny_setField_rec e3 (by simp) fun h4 e4 s4 => ?_)
   refine wpAny_bind (wpAny_setField_rec e4 (by simp) fun h5 e5 s5 => ?_)
   refine wpAny_bind (wpAny_setField_rec e5 (by simp) fun h6 e6 s6 => ?_)
   have sb : Heap.SameBut it h₂ h6 := ((Heap.SameBut.trans s3 s4).trans s5).trans s6
   have r6 : RIt h6 it d (i + 1) es.size ep (rawInt (h₁.objs.size : Nat)) e.key e.val false := e6
   have a6 : h6.get? h₁.objs.size = some { cls := .type "tuple", data := .seq #[e.key, e.val] } := by rw [z1]; exact sb.extBut _ _ (Nat.ne_of_gt hil) t2
   have rs : RSt h6 it d S (i + 1) es.size ep := ⟨_, _, _, _, r6, .inr ⟨_, _, rfl, a6, by rw [z1]; exact Nat.ne_of_gt hil, by rw [z1]; exact Nat.ne_of_gt hS⟩⟩
   have q6 := fin h6 sb rs
   rw [← z1] at q6
   exact wpAny_bind (wpAny_letGo (wpAny_pure (wpAny_pure ⟨_, rfl, wpAny_pure q6⟩)))
  ·have a2 : h₂.get? a = some oa := k2 a oa nai ha
   have rs : ∀ h3 fl, Heap.SameBut it h₂ h3 → RIt h3 it d (i + 1) es.size ep (rawInt (a : Nat)) ok ov fl → RSt h3 it d S (i + 1) es.size ep := fun h3 fl sb r => ⟨_, _, _, _, r, .inr ⟨a, oa, rfl, sb.extBut a oa nai a2, nai, naS⟩⟩
   (show wpAny _ _ (loadIfAlive ((a : Int).toNat) >>= _) _ _ _; rw [Int.toNat_natCast])
   (refine wpAny_bind (kdx_alive a2 ?_); simp only [Option.isNone_some, Bool.false_eq_true, if_false]; refine wpAny_bind (wpAny_field he₂ rfl (x := .bool f) rfl ?_))
   cases f with
   | true =>
    (rw [if_neg (show ¬ ((Value.bool true != Value.bool true) = true) from Bool.false_ne_true)]; refine wpAny_pure ?_; simp only [Bool.false_eq_true, if_false])
    have q6 := fin h₂ (Heap.SameBut.refl _ _) (rs h₂ true (Heap.SameBut.refl _ _) he₂)
    rw [← z1] at q6
    exact wpAny_pure (wpAny_pure ⟨_, rfl, wpAny_pure q6⟩)
   | false =>
    (rw [if_pos (show (Value.bool false != Value.bool true) = true from rfl)]; refine wpAny_bind (wpAny_setField_rec he₂ (by simp) fun h3 e3 s3 => ?_))
    have q6 := fin h3 s3 (rs h3 true s3 e3)
    rw [← z1] at q6
    (refine wpAny_pure ?_; simp only [Bool.false_eq_true, if_false])
    exact wpAny_pure (wpAny_pure ⟨_, rfl, wpAny_pure q6⟩)
structure RawG (es : Array DictEntry) (lo : Addr) (h : Heap) (as : List Addr) : Prop where
 rise : as.Pairwise (· < ·)
 above : ∀ a ∈ as, lo < a
 pairs : ∀ (j : Nat) (a : Addr), as[j]? = some a → ∃ e, es[j]? = some e ∧ h.get? a = some { cls := .type "tuple", data := .seq #[e.key, e.val] }
theorem RawG.there {es : Array DictEntry} {lo : Addr} {h : Heap} {as : List Addr} (g : RawG es lo h as) {a : Addr} (ha : a ∈ as) : a < h.objs.size := by
 obtain ⟨j, hj⟩ := List.mem_iff_getElem?.mp ha
 obtain ⟨e, _, q⟩ := g.pairs j a hj
 exact Heap.lt_size q
theorem RawG.snoc {es : Array DictEntry} {lo : Addr} {h h' : Heap} {as : List Addr} {e : DictEntry} {p : Addr} (g : RawG es lo h as) (k : ∀ b o, lo < b → h.get? b = some o → h'.get? b = some o) (hp : h.objs.size = p) (hlo : lo < p) (he : es[as.length]? = some e) (ht : h'.get? p = some { cls := .type "tuple", data := .seq #[e.key, e.val] }) : RawG es lo h' (as ++ [p]) where
 rise := List.pairwise_append.mpr ⟨g.rise, List.pairwise_singleton _ _, fun a ha b hb => by
  cases List.mem_singleton.mp hb
  rw [← hp]
  exact g.there ha⟩
 above := fun a ha => by
  rcases List.mem_append.mp ha with ha | ha
  ·exact g.above a ha
  ·cases List.mem_singleton.mp ha; exact hlo
 pairs := fun j a hj => by
  by_cases h1 : j < as.length
  ·rw [List.getElem?_append_left h1] at hj
   obtain ⟨e', q1, q2⟩ := g.pairs j a hj
   exact ⟨e', q1, k a _ (g.above a (List.mem_of_getElem? hj)) q2⟩
  ·rw [List.getElem?_append_right (by omega)] at hj
   by_cases h2 : j = as.length
   ·subst h2
    rw [Nat.sub_self] at hj
    cases hj
    exact ⟨e, he, ht⟩
   ·have : j - as.length = (j - as.length - 1) + 1 := by omega
    rw [this] at hj
    cases hj
theorem raw_loop {R : Result → Shared → Prop} {S I d : Addr} {es : Array DictEntry} {ep : Nat} {h₁ : Heap} {res : Value} (hh : A.handled = none) (hSI : S < I) (hSd : d ≠ S) (hId : d ≠ I) (hz : es.size ≤ sizeLine)
  (hR : ∀ h' tk acc c as, (∀ b o, b ≠ S → b ≠ I → h₁.get? b = some o → h'.get? b = some o) → h'.get? S = some { cls := .type "list", dict := none, data := .seq acc c, slots := #[] } → as.length = es.size → RawG es I h' as → acc.toList = as.map Value.ref → R (.ok (.ret res)) { s with heap := h', toks := tk }) :
  ∀ (k : Nat) (h : Heap) (tk c : Nat) (acc : Array Value) (as : List Addr), as.length + k = es.size → RSt h I d S as.length es.size ep → RawD h d es ep → (∀ b o, b ≠ S → b ≠ I → h₁.get? b = some o → h.get? b = some o) →
   h.get? S = some { cls := .type "list", dict := none, data := .seq acc c, slots := #[] } → acc.toList = as.map Value.ref → RawG es I h as → I < h.objs.size →
   codeAny (model prog w) A (.builtin "list.extend.loop" ⟨[.ref S, .ref I, res], []⟩) R { s with heap := h, toks := tk } := by
 have ne : S ≠ I := Nat.ne_of_lt hSI
 intro k
 induction k with
 | zero =>
  intro h tk c acc as hk hst hD keep hS hacc hG hIs
  (refine codeAny_builtin PySem.F.entry_extend_loop ?_; rw [Around.under_plainId PySem.F.plain_extend_loop _])
  (show wpAny _ A.in1 (pyNext (.ref I) >>= _) _ _ _; refine wpAny_bind (raw_next (s := { s with heap := h, toks := tk }) (A := A.in1) hh hst (Heap.lt_size hS) hD rfl (fun e h' hx => ?_) fun _ h' kp => ?_))
  ·rw [Array.getElem?_eq_none (by omega)] at hx; cases hx
  ·exact wpAny_pure (hR h' tk acc c as (fun b o h1 h2 e => kp b o h2 (keep b o h1 h2 e)) (kp S _ ne hS) (by omega) ⟨hG.rise, hG.above, fun j a hj => let ⟨e, q1, q2⟩ := hG.pairs j a hj; ⟨e, q1, kp a _ (Nat.ne_of_gt (hG.above a (List.mem_of_getElem? hj))) q2⟩⟩ hacc)
 | succ k ih =>
  intro h tk c acc as hk hst hD keep hS hacc hG hIs
  have hsz : acc.size = as.length := by rw [← Array.length_toList, hacc, List.length_map]
  (refine codeAny_builtin PySem.F.entry_extend_loop ?_; rw [Around.under_plainId PySem.F.plain_extend_loop _])
  (show wpAny _ A.in1 (pyNext (.ref I) >>= _) _ _ _; refine wpAny_bind (raw_next (s := { s with heap := h, toks := tk }) (A := A.in1) hh hst (Heap.lt_size hS) hD rfl (fun e h' hx hst' ht hz' kp => ?_) fun hx => ?_))
  ·have hx : es[as.length]? = some e := hx
   have ht : h'.get? h.objs.size = some { cls := .type "tuple", data := .seq #[e.key, e.val] } := ht
   have kp : ∀ b o, b ≠ I → h.get? b = some o → h'.get? b = some o := kp
   have hS' := kp S _ ne hS
   have hSl : S < h.objs.size := Heap.lt_size hS
   have up : ∀ b o, b ≠ S → h'.get? b = some o → (h'.update S (Obj.mapSeq (·.push (Value.ref h.objs.size)))).get? b = some o := fun b o nb e => (Heap.get?_update_other _ _ (Ne.symm nb)).trans e
   have up2 : ∀ b o, b ≠ S → b ≠ I → h.get? b = some o → (h'.update S (Obj.mapSeq (·.push (Value.ref h.objs.size)))).get? b = some o := fun b o n1 n2 e => up b o n1 (kp b o n2 e)
   have ht' := up _ _ (Nat.ne_of_gt hSl) ht
   have hG' : RawG es I (h'.update S (Obj.mapSeq (·.push (Value.ref h.objs.size)))) (as ++ [h.objs.size]) := hG.snoc (fun b o lb e => up2 b o (Nat.ne_of_gt (Nat.lt_trans hSI lb)) (Nat.ne_of_gt lb) e) rfl hIs hx ht'
   have hl : (as ++ [h.objs.size]).length = as.length + 1 := by rw [List.length_append, List.length_singleton]
   have step := ih _ tk _ (acc.push (Value.ref h.objs.size)) (as ++ [h.objs.size]) (by rw [hl]; omega) (by rw [hl]; exact hst'.keep up (Ne.symm ne)) (hD.at fun o e => up2 d o hSd hId e) (fun b o h1 h2 e => up2 b o h1 h2 (keep b o h1 h2 e)) (Heap.get?_update_self _ hS' rfl) (by rw [Array.toList_push, hacc, List.map_append]; rfl) hG' (Nat.lt_trans hIs (Heap.lt_size ht'))
   (show wpAny _ A.in1 (updateSeq S (·.push (Value.ref h.objs.size)) >>= _) _ _ _; refine wpAny_bind ?_)
   exact wpAny_updateSeq hS' rfl (wpAny_pure ⟨plainId_quiet PySem.F.plain_extend_loop _, step⟩) (by rw [hsz]; omega) (by show (acc.push (Value.ref h.objs.size)).size ≤ sizeLine + 1; rw [Array.size_push, hsz]; omega)
  ·have : as.length < es.size := by omega
   rw [Array.getElem?_eq_getElem this] at hx
   cases hx
end
end PySem.W
set_option Elab.async false
set_option linter.all false
set_option maxRecDepth 100000
set_option maxHeartbeats 4000000
namespace PySem.W
open PySem PySem.Calls PyProof.Rows PyProof.V PySem.Spec
section
variable {prog : Program} {w : World} {A : Around} {E : Value → Shared → Prop} {s : Shared} {v d : Addr} {es : Array DictEntry} {ep : Nat}
theorem raw_iter {Q : Value → Shared → Prop} (hv : s.heap.IsItemsView v d) (hD : RawD s.heap d es ep) (hQ : ∀ h' : Heap, (∀ b o, s.heap.get? b = some o → h'.get? b = some o) → h'.objs.size = s.heap.objs.size + 1 → RIt h' s.heap.objs.size d 0 es.size ep .none .none .none false → Q (.ref s.heap.objs.size) { s with heap := h' }) :
  wpAny (model prog w) A (pyIter (.ref v)) Q E s := by
 obtain ⟨ov, v1, v2, v3⟩ := id hv
 obtain ⟨od, d1, d2, d3⟩ := hD
 have hown : Builtin.Dict_items.ownsTuple "dict_itemiterator" = true := by decide
 refine wpAny_pyIter_slot hv.typeIs PySem.F.slot_dict_items_iter (wpAny_call_entry PySem.F.slot_dict_items_iter hv.typeIs PySem.F.entry_dict_items_iter ?_ (PySem.F.args_dict_items_iter_1 _))
 (unfold Builtin.«dict_items.__iter__»; refine wpAny_bind (wpAny_pure (wpAny_bind ?_)); unfold Builtin.Dict_items.dictOf; refine wpAny_bind (wpAny_field v1 v3 (x := .ref d) rfl (wpAny_pure (wpAny_bind ?_))))
 (unfold Builtin.Dict_items.newIterator; refine wpAny_bind (wpAny_dictEntries d1 d3 (wpAny_bind (wpAny_dictEpoch d1 d3 ?_))); simp only [hown, if_true])
 refine wpAny_newObj_type (wpAny_pure ⟨_, rfl, "dict_itemiterator", _, ⟨_, Heap.get?_push_size _ rfl, rfl⟩, PySem.F.slot_dict_itemiterator_next.lookup, ?_⟩) (by simp only [sizeOk, Builtin.Dict_items.ownedTupleFields, List.size_toArray, List.length_append, List.length_cons, List.length_nil, sizeLine_eq]; omega)
 exact hQ _ (fun b o e => Heap.get?_push_of_some _ e) (Heap.size_push _ _) (by
  have e := Heap.get?_push_size (o := { cls := .type "dict_itemiterator", data := .fields #[.none, .bool false, .ref d, .int 0 0, .int es.size 0, .int ep 0, .none, .none] }) s.heap rfl
  simpa [RIt, rawInt, Builtin.Dict_items.ownedTupleFields] using e)
theorem raw_extend {R : Result → Shared → Prop} {S : Addr} {res : Value} {c₀ : Nat} (hh : A.handled = none) (hv : s.heap.IsItemsView v d) (hD : RawD s.heap d es ep) (hSv : S ≠ v) (hSd : d ≠ S) (hS : s.heap.get? S = some { cls := .type "list", data := .seq #[] c₀ }) (hz : es.size ≤ sizeLine)
  (hR : ∀ h' tk acc c as, (∀ b o, b ≠ S → s.heap.get? b = some o → h'.get? b = some o) → h'.get? S = some { cls := .type "list", dict := none, data := .seq acc c, slots := #[] } → as.length = es.size → RawG es s.heap.objs.size h' as → acc.toList = as.map Value.ref → R (.ok (.ret res)) { s with heap := h', toks := tk }) :
  wpAny (model prog w) A.in1 (Builtin.List.listExtendWith (.ref S) (.ref v) res) (fun fin s' => match fin with | .done f => R (.ok f) s' | .again c' => c'.quiet = true ∧ codeAny (model prog w) A c' R s') (fun e s' => R (.error e) s') s := by
 have hSI : S < s.heap.objs.size := Heap.lt_size hS
 have hdI : d < s.heap.objs.size := let ⟨_, e, _⟩ := hD; Heap.lt_size e
 unfold Builtin.List.listExtendWith
 refine wpAny_bind (wpAny_typeOf (T := "dict_items") hv.typeIs ?_)
 have f1 : Builtin.List.listSameRef (.ref S) (.ref v) = false := by simp [Builtin.List.listSameRef, hSv]
 have f2 : (Value.type "dict_items" == Value.type "list") = false := by decide
 have f3 : (Value.type "dict_items" == Value.type "tuple") = false := by decide
 (simp only [f1, f2, f3, Bool.or_false, Bool.false_eq_true, if_false]; refine wpAny_bind (raw_iter hv hD fun h1 k1 z1 r1 => ?_))
 have key : ∀ (h : Heap) (c₁ tk : Nat), (∀ b o, b ≠ S → h1.get? b = some o → h.get? b = some o) → h.get? S = some { cls := .type "list", data := .seq #[] c₁ } → codeAny (model prog w) A (.builtin "list.extend.loop" ⟨[.ref S, .ref s.heap.objs.size, res], []⟩) R { s with heap := h, toks := tk } := by
  intro h c₁ tk hk hS1
  have hI := hk _ _ (Nat.ne_of_gt hSI) r1
  refine raw_loop (h₁ := s.heap) (s := s) hh hSI hSd (Nat.ne_of_lt hdI) hz (fun h' tk' acc c as kk hS' hl hG hacc => hR h' tk' acc c as (fun b o nb e => kk b o nb (Nat.ne_of_lt (Heap.lt_size e)) e) hS' hl hG hacc) es.size h tk c₁ #[] [] (Nat.zero_add _) ⟨_, _, _, _, hI, .inl ⟨rfl, rfl⟩⟩ (hD.at fun o e => hk d o hSd (k1 d o e)) (fun b o nb _ e => hk b o nb (k1 b o e)) hS1 rfl ⟨.nil, (fun _ z => nomatch z), (fun j a z => by simp at z)⟩ (Heap.lt_size hI)
 have hS1 := k1 _ _ hS
 refine wpAny_bind (wpAny_holding (kdx_hint (let ⟨o, ho, hc, _⟩ := hv; ⟨o, k1 _ _ ho, hc⟩) ?_))
 refine wpAny_ite_split (fun _ => ?_) (fun _ => wpAny_pure ⟨plainId_quiet PySem.F.plain_extend_loop _, key _ c₀ _ (fun b o _ e => e) hS1⟩)
 (refine wpAny_bind (wpAny_rule (wpAny_bind ?_)); show wpAny _ _ (updateSeq S (·.push .none) >>= fun _ => updateSeq S (·.pop)) _ _ _; refine wpAny_bind (wpAny_updateSeq hS1 rfl ?_))
 have hS2 := Heap.get?_update_self (Obj.mapSeq (·.push Value.none)) hS1 rfl
 refine wpAny_updateSeq (hz := by seq_fits) hS2 rfl (wpAny_pure ⟨plainId_quiet PySem.F.plain_extend_loop _, key _ _ _ (fun b o nb e => ?_) (Heap.get?_update_self (Obj.mapSeq (·.pop)) hS2 rfl)⟩)
 exact (Heap.get?_update_other _ _ (Ne.symm nb)).trans ((Heap.get?_update_other _ _ (Ne.symm nb)).trans e)
theorem RawG.low {lo lo' : Addr} {h : Heap} {as : List Addr} (g : RawG es lo h as) (hl : lo' ≤ lo) : RawG es lo' h as := ⟨g.rise, fun a ha => Nat.lt_of_le_of_lt hl (g.above a ha), g.pairs⟩
theorem raw_collect {R : List Value → Shared → Prop} (hh : A.handled = none) (hv : s.heap.IsItemsView v d) (hD : RawD s.heap d es ep) (hz : es.size ≤ sizeLine)
  (hR : ∀ (h' : Heap) (tk : Nat) (as : List Addr), (∀ b o, s.heap.get? b = some o → h'.get? b = some o) → as.length = es.size → RawG es s.heap.objs.size h' as → R (as.map Value.ref) { s with heap := h', toks := tk }) : wpAny (model prog w) A (collect (.ref v)) R E s := by
 have hvl : v < s.heap.objs.size := let ⟨_, ho, _⟩ := hv; Heap.lt_size ho
 have hdl : d < s.heap.objs.size := let ⟨_, e, _⟩ := hD; Heap.lt_size e
 (unfold collect; refine wpAny_bind (wpAny_runValue (codeAny_builtin entry_proto_collect' ?_)); rw [Around.under_plainId PySem.F.plain_proto_collect _])
 (show wpAny _ A.in1 (newList [] >>= fun l => again (.builtin "list.__iadd__" ⟨[l, .ref v], []⟩)) _ _ s; refine wpAny_bind (wpAny_newObj_type (wpAny_pure ⟨plainId_quiet PySem.F.plain_list_iadd _, codeAny_builtin entry_list_iadd' ?_⟩)))
 rw [Around.under_plainId PySem.F.plain_list_iadd _]
 have up : ∀ b o, s.heap.get? b = some o → (s.heap.push { cls := .type "list", data := .seq ([] : List Value).toArray }).get? b = some o := fun b o e => Heap.get?_push_of_some _ e
 have hS1 : (s.heap.push { cls := .type "list", data := .seq ([] : List Value).toArray }).get? s.heap.objs.size = some { cls := .type "list", data := .seq #[] } := Heap.get?_push_size _ rfl
 show wpAny _ A.in1 (Builtin.List.listExtendWith (.ref s.heap.objs.size) (.ref v) (.ref s.heap.objs.size)) _ _ _
 have key := raw_extend (prog := prog) (w := w) (A := A) (s := { s with heap := s.heap.push { cls := .type "list", data := .seq ([] : List Value).toArray } }) (es := es) (ep := ep) (res := .ref s.heap.objs.size)
  (R := fun (q : Result) (s' : Shared) => ∃ (h' : Heap) (tk : Nat) (acc : Array Value) (c : Nat) (as : List Addr), q = .ok (.ret (.ref s.heap.objs.size)) ∧ s' = { s with heap := h', toks := tk } ∧ (∀ b o, s.heap.get? b = some o → h'.get? b = some o) ∧ h'.get? s.heap.objs.size = some { cls := .type "list", dict := none, data := .seq acc c, slots := #[] } ∧ as.length = es.size ∧ RawG es s.heap.objs.size h' as ∧ acc.toList = as.map Value.ref)
  hh (let ⟨o, ho, x⟩ := hv; ⟨o, up _ _ ho, x⟩) (hD.at fun o e => up d o e) (Nat.ne_of_gt hvl) (Nat.ne_of_lt hdl) hS1 hz fun h' tk acc c as hk hS' hl hG hacc => ⟨h', tk, acc, c, as, rfl, rfl, fun b o e => hk b o (Nat.ne_of_lt (Heap.lt_size e)) (up b o e), hS', hl, hG.low (by show s.heap.objs.size ≤ (s.heap.push _).objs.size; rw [Heap.size_push]; exact Nat.le_succ _), hacc⟩
 refine wpAny_mono key (fun fin s' x => ?_) fun e s' x => ?_
 ·have last : ∀ (h' : Heap) (tk : Nat) (acc : Array Value) (c : Nat) (as : List Addr), (∀ b o, s.heap.get? b = some o → h'.get? b = some o) → h'.get? s.heap.objs.size = some { cls := .type "list", dict := none, data := .seq acc c, slots := #[] } → as.length = es.size → RawG es s.heap.objs.size h' as → acc.toList = as.map Value.ref → R acc.toList { s with heap := h', toks := tk } := fun h' tk acc c as y1 _ y3 y4 y5 => by
   rw [y5]; exact hR h' tk as y1 y3 y4
  cases fin with
  | done f =>
   obtain ⟨h', tk, acc, c, as, e, rfl, y1, y2, y3, y4, y5⟩ := x
   cases e
   (show wpAny _ A (load s.heap.objs.size >>= _) _ _ _; exact wpAny_bind (wpAny_load y2 (wpAny_pure (last h' tk acc c as y1 y2 y3 y4 y5))))
  | again c1 =>
   refine ⟨x.1, codeAny_mono x.2 ?_⟩
   rintro q s2 ⟨h', tk, acc, c, as, rfl, rfl, y1, y2, y3, y4, y5⟩
   (show wpAny _ A (load s.heap.objs.size >>= _) _ _ _; exact wpAny_bind (wpAny_load y2 (wpAny_pure (last h' tk acc c as y1 y2 y3 y4 y5))))
 ·obtain ⟨_, _, _, _, _, z, _⟩ := x
  cases z
end
end PySem.W
set_option Elab.async false
set_option linter.all false
set_option maxRecDepth 100000
set_option maxHeartbeats 4000000
namespace L2
open PySem PySem.W PyProof.Rows
section
variable {α : Type} {as : List Addr} {ps : List α}
theorem zip_at (nd : as.Nodup) {j : Nat} {a : Addr} {p : α} (ha : as[j]? = some a) (hp : ps[j]? = some p) : (as.zip ps).find? (fun q => q.1 == a) = some (a, p) := by
 induction as generalizing ps j with
 | nil => cases ha
 | cons x as ih =>
  cases ps with
  | nil => cases hp
  | cons y ps =>
   have nd := List.nodup_cons.mp nd
   rw [List.zip_cons_cons, List.find?_cons]
   cases j with
   | zero => cases ha; cases hp; simp
   | succ j =>
    have ha : as[j]? = some a := ha
    rw [show (x == a) = false from beq_false_of_ne fun e => nd.1 (e ▸ List.mem_of_getElem? ha)]
    exact ih nd.2 ha hp
theorem zip_of {b : Addr} {q : Addr × α} (h : (as.zip ps).find? (fun q => q.1 == b) = some q) : ∃ j : Nat, as[j]? = some b ∧ ps[j]? = some q.2 := by
 have h0 := List.find?_some h
 have h1 : q.1 = b := eq_of_beq h0
 obtain ⟨j, hj⟩ := List.mem_iff_getElem?.mp (List.mem_of_find?_eq_some h)
 rw [List.getElem?_zip_eq_some] at hj
 exact ⟨j, by rw [← h1]; exact hj.1, hj.2⟩
end
inductive TPs (H : Hp) : List Addr → List (List Key × V) → Prop
 | nil : TPs H [] []
 | cons {a b : Addr} {k : List Key} {v : V} {as : List Addr} {kvs : List (List Key × V)} (h1 : H a = some (.tup [.ref b, v])) (h2 : H b = some (.tup (k.map kV))) (r : TPs H as kvs) : TPs H (a :: as) ((k, v) :: kvs)
def mkT (as : List Addr) (ps : List (Addr × V)) : Addr → Option (List V) := fun b => ((as.zip ps).find? fun p => p.1 == b).map fun p => [.ref p.2.1, p.2.2]
theorem tps_of {H : Hp} : ∀ {as : List Addr} {kvs : List (List Key × V)}, as.length = kvs.length → (∀ (j : Nat) (a : Addr) (p : List Key × V), as[j]? = some a → kvs[j]? = some p → ∃ b, H a = some (.tup [.ref b, p.2]) ∧ H b = some (.tup (p.1.map kV))) → TPs H as kvs
 | [], [], _, _ => .nil
 | [], _ :: _, h, _ => nomatch h
 | _ :: _, [], h, _ => nomatch h
 | a :: as, p :: kvs, h, k => let ⟨b, e1, e2⟩ := k 0 a p rfl rfl; .cons e1 e2 (tps_of (Nat.succ.inj h) fun j a' p' h1 h2 => k (j + 1) a' p' h1 h2)
theorem kt_raw {H : Hp} {kvs : List (List Key × V)} {xs : List (List Key × Addr × Value)} (r : KT H kvs xs) : ∃ ps : List (Addr × V), ps.length = kvs.length ∧ ∀ j : Nat, ∀ p ∈ ps[j]?, ∃ k u, kvs[j]? = some (k, p.2) ∧ xs[j]? = some (k, p.1, u) ∧ H p.1 = some (.tup (k.map kV)) ∧ RelV p.2 u := by
 induction r with
 | nil => exact ⟨[], rfl, fun j p h => by cases h⟩
 | @cons p q l1 l2 h r ih =>
  obtain ⟨ps, e, f⟩ := ih
  obtain ⟨k, v⟩ := p
  obtain ⟨k', b, u⟩ := q
  obtain ⟨z1, z2, z3⟩ := h
  cases (show k = k' from z1)
  refine ⟨(b, v) :: ps, by rw [List.length_cons, List.length_cons, e], fun j p hp => ?_⟩
  cases j with
  | zero => cases hp; exact ⟨k, u, rfl, rfl, z2, z3⟩
  | succ j => exact f j p hp
section
variable {X : Cx}
theorem meets_items {prog : Program} {w : World} (d : Addr) (hd : (d == sysModules) = false) : MeetsIn prog w (Builtin.«dict.items» ⟨[.ref d], []⟩) (fun _ R s => s.TypeIs (.ref d) "dict" ∧ R (.ok (.ret (.ref s.heap.objs.size))) { s with heap := s.heap.push { cls := .type "dict_items", data := .fields #[.ref d] } }) :=
 .of_wp fun A R s ⟨hT, h⟩ => by
  (unfold Builtin.«dict.items»; refine wpAny_bind ?_; unfold Builtin.Dict.noArgs; refine wpAny_bind (wpAny_notOrdered_dict hT ?_))
  (show wpAny _ _ (pure d) _ _ s; refine wpAny_pure ?_; show wpAny _ _ (Builtin.Dict.showsAll d >>= _) _ _ s; unfold Builtin.Dict.showsAll)
  (rw [if_neg (by rw [hd]; exact Bool.false_ne_true)]; exact wpAny_bind (wpAny_pure (wpAny_bind (wpAny_newObj_type (wpAny_pure ⟨_, rfl, h⟩)))))
def rItemsT : V → List V → Hp → VK → Prop := fun x vs H Q => ∃ d kvs, x = .ref d ∧ vs = [] ∧ H d = some (.dT kvs) ∧ ∀ v, H v = none → Q (.ref v) (upd H v (.ext (isItems v d)))
theorem mt_itemsT : MtR X "dict.items" rItemsT := by
 intro pins s σ H x xs v us Q I rx rv h
 obtain ⟨d, kvs, rfl, rfl, hd, q⟩ := h
 cases (show v = Value.ref d from rx)
 cases rv
 obtain ⟨z, hS, ys, rel, dd⟩ := dt_of I.hok hd
 refine call_meetsIn F.slot_dict_items dd.typeIs F.entry_dict_items (F.args_dict_items_1 _) (meets_items d hS) ⟨dd.typeIs, ?_⟩
 refine ⟨.ref s.heap.objs.size, _, I.laid (t' := s.toks) (o := .ext (isItems s.heap.objs.size d)) (fun b o e => Heap.get?_push_of_some _ e) (Nat.le_refl _) ⟨⟨_, Heap.get?_push_size _ rfl, rfl, rfl⟩, ⟨_, Heap.get?_push_size _ rfl⟩, ?_⟩, rfl, q _ (I.hok.fresh (Nat.le_refl _))⟩
 rintro h1 h2 ⟨o, e1, e2⟩ e
 exact ⟨o, e o e1, e2⟩
theorem call_sortedT (hc : X.calm = true) : CallR X (.builtin "sorted") (fun xs H Q => ∃ v d kvs lt, xs = [.ref v] ∧ H v = some (.ext (isItems v d)) ∧ H d = some (.dT kvs) ∧ kvs.length < 64 ∧
  ∀ as H1, Same H H1 → TPs H1 as kvs → (∀ a ∈ as, H a = none) → (∀ a, H a = none → H1 a ≠ none → a ∈ as) → Srt X H1 (List.map V.ref as) lt ∧ ∀ p, H1 p = none → Q (.ref p) (upd H1 p (.lst (ordV lt (List.map V.ref as))))) := by
 intro pins s σ H xs us Q I r h
 obtain ⟨v, d, kvs, lt, rfl, hv, hd, h64, hq⟩ := h
 obtain ⟨u, rfl, ru⟩ := r.one
 cases ru
 obtain ⟨z, hS, ys, rel, dd⟩ := dt_of I.hok hd
 obtain ⟨hview, _, _⟩ := (show ObjOk X.prog X.w H s.heap v (.ext (isItems v d)) from I.hok v _ hv)
 obtain ⟨od, es, ep, d1, d2, d3, d4, _, _⟩ := dd
 obtain ⟨ps, pl, pf⟩ := kt_raw rel
 have hl : kvs.length = ys.length := Paired.length rel
 have hes : es.size = kvs.length := by rw [size_of_entries d4, hl]
 refine Calls.call_function_entry kind_sorted plain_sorted entry_sorted (args_sorted1 _) (?_ : wpAny _ _ (Builtin.«sorted» _) _ _ _)
 unfold Builtin.«sorted»
 refine wpAny_bind (m := checkCount "sorted" 1 1 _) (wpAny_pure (wpAny_bind (raw_collect (by simp [I.ok.hd hc]) hview ⟨od, d1, d2, d3⟩ (by rw [hes]; exact z) fun h' tk as keep hlen G => ?_)))
 have nd : as.Nodup := G.rise.imp fun h => Nat.ne_of_lt h
 have hlen' : as.length = kvs.length := hlen.trans hes
 have up : ∀ a ∈ as, s.heap.objs.size ≤ a := fun a ha => Nat.le_of_lt (G.above a ha)
 have inv : ∀ b xs, mkT as ps b = some xs → ∃ (j : Nat) (p : Addr × V), as[j]? = some b ∧ ps[j]? = some p ∧ xs = [.ref p.1, p.2] := fun b xs e => by
  unfold mkT at e
  cases y : (as.zip ps).find? fun p => p.1 == b with
  | none => rw [y] at e; cases e
  | some q =>
   rw [y] at e
   cases e
   obtain ⟨j, e1, e2⟩ := zip_of y
   exact ⟨j, q.2, e1, e2, rfl⟩
 have I1 : Inv X pins σ (layT H (mkT as ps)) { s with heap := h', toks := tk } := I.tups keep fun b xs e => by
  obtain ⟨j, p, e1, e2, rfl⟩ := inv b xs e
  obtain ⟨k, u, f1, f2, f3, f4⟩ := pf j p e2
  obtain ⟨en, g1, g2⟩ := G.pairs j b e1
  have g3 : es[j]? = some (entryOfKey (tupleKind (mixKind X.prog X.w)) (k, p.1, u)) := by rw [entry_at d4, f2]; rfl
  rw [g3] at g1
  cases g1
  exact ⟨up b (List.mem_of_getElem? e1), by show 2 ≤ sizeLine; decide, [.ref p.1, u], .cons rfl (.cons f4 .nil), ⟨_, g2, rfl, ⟨_, rfl⟩, rfl⟩⟩
 have fr : ∀ b xs, mkT as ps b = some xs → H b = none := fun b xs e => by
  obtain ⟨j, p, e1, _⟩ := inv b xs e
  exact I.hok.fresh (up b (List.mem_of_getElem? e1))
 obtain ⟨hs, q⟩ := hq as (layT H (mkT as ps)) (fun b o e => layT_keep fr e) (tps_of hlen' fun j a p h1 h2 => by
   obtain ⟨p', hp'⟩ : ∃ p', ps[j]? = some p' := ⟨ps[j]'(by rw [pl]; exact (List.getElem?_eq_some_iff.1 h2).1), List.getElem?_eq_getElem _⟩
   obtain ⟨k, u, f1, f2, f3, f4⟩ := pf j p' hp'
   rw [h2] at f1
   cases f1
   exact ⟨p'.1, layT_some (by unfold mkT; rw [zip_at nd h1 hp']; rfl), layT_keep fr f3⟩) (fun a ha => I.hok.fresh (up a ha)) fun a n1 n2 => by
  cases y : mkT as ps a with
  | none => rw [layT_none y] at n2; exact absurd n1 n2
  | some xs => obtain ⟨j, p, e1, _⟩ := inv a xs y; exact List.mem_of_getElem? e1
 have rv : Vals (as.map V.ref) (as.map Value.ref) := by
  clear nd hlen' up I1 fr hs q hlen G hq inv
  induction as with
  | nil => exact .nil
  | cons a as ih => exact .cons rfl ih
 exact sorted_rest (Nat.le_refl _) I1 rv (by rw [List.length_map]; omega) hs fun p s' hp I' => ⟨_, rfl, .ref p, _, I', rfl, q p hp⟩
end
end L2
set_option Elab.async false
set_option linter.all false
set_option maxRecDepth 100000
set_option maxHeartbeats 4000000
namespace L2
open PySem PySem.W PySem.Spec PyProof.Rows
def mergeT (kvs more : List (List Key × V)) : List (List Key × V) := more.foldl (fun acc kv => putK acc kv.1 kv.2) kvs
abbrev TKs (H : Hp) : List (V × V) → List (List Key × V) → Prop := Paired fun p q => (∃ b, p.1 = .ref b ∧ H b = some (.tup (q.1.map kV))) ∧ p.2 = q.2
section
variable {X : Cx} {pins : List (Addr × Obj)} {σ : St} {d : Addr} {E : Value → Shared → Prop}
theorem store_all (hu : X.A.units + 1 < cLine) {Q : PUnit → Shared → Prop} : ∀ {ps : List (V × V)} {kvs : List (List Key × V)} {vs : List (Value × Value)} {acc : List (List Key × V)} {H : Hp} {s : Shared}, TKs H ps kvs → VV ps vs → Inv X pins σ H s → H d = some (.dT acc) → acc.length + kvs.length ≤ 15 →
  (∀ s', Inv X pins σ (upd H d (.dT (mergeT acc kvs))) s' → Q PUnit.unit s') → wpAny (model X.prog X.w) X.A (storeAll d vs) Q E s := by
 intro ps
 induction ps with
 | nil =>
  intro kvs vs acc H s tk rv I hd hl q
  cases tk
  cases rv
  have e : upd H d (.dT acc) = H := by
   funext b
   by_cases e : b = d
   ·subst e; rw [upd_same, hd]
   ·rw [upd_ne e]
  (unfold storeAll; rw [List.forIn_nil])
  exact wpAny_pure (q s (by show Inv X pins σ (upd H d (.dT acc)) s; rw [e]; exact I))
 | cons p ps ih =>
  intro kvs vs acc H s tk rv I hd hl fin
  cases tk with
  | @cons _ q _ kvs h tk =>
  obtain ⟨⟨b, e1, e2⟩, e3⟩ := h
  obtain ⟨x, y⟩ := p
  obtain ⟨k, v⟩ := q
  cases (show x = V.ref b from e1)
  obtain rfl : v = y := (show y = v from e3).symm
  cases rv with
  | @cons _ w2 _ ws r rv =>
   obtain ⟨u, u2⟩ := w2
   obtain ⟨r1, r2⟩ := r
   cases (show u = Value.ref b from r1)
   rw [List.length_cons] at hl
   obtain ⟨z, hS, xs, rel, dd⟩ := dt_of I.hok hd
   have hz : xs.length ≤ sizeLine := by rw [← Paired.length rel]; exact z
   have hp := length_putK acc k v
   have hp' : (putK acc k v).length ≤ sizeLine := Nat.le_trans hp (Nat.le_trans (show acc.length + 1 ≤ 15 by omega) (by decide))
   (unfold storeAll; rw [List.forIn_cons])
   refine wpAny_bind (wpAny_bind (wpAny_dictSet_heap (knd := tupleKind (mixKind X.prog X.w)) (show (tupleKind (mixKind X.prog X.w)).room X.A from Nat.lt_of_succ_lt hu) (key_of I.hok e2) dd (fun h' dd' hs => wpAny_pure ?_) hz))
   obtain ⟨o, es, ep, hq, h2, h3, h4, _, h5⟩ := dd'
   have keepT : ∀ c ys, H c = some (.tup ys) → upd H d (.dT (putK acc k v)) c = some (.tup ys) := fun c ys ec => by rw [upd_ne (ne_of ec hd (fun z => nomatch z))]; exact ec
   have I' := d_write (t' := s.toks + (tupleKind (mixKind X.prog X.w)).draws k) I (by rw [hd]; exact True.intro) hs ⟨o, hq⟩ (show ObjOk X.prog X.w (upd H d (.dT (putK acc k v))) h' d (.dT (putK acc k v)) from ⟨hp', hS, _, (rel.put k e2 r2).keeps keepT, o, es, ep, hq, h2, h3, h4, h5⟩)
   refine ih (acc := putK acc k v) (Paired.mapP tk fun _ _ z => ⟨let ⟨b', z1, z2⟩ := z.1; ⟨b', z1, keepT _ _ z2⟩, z.2⟩) rv I' upd_same (by omega) fun s' I2 => fin s' ?_
   rw [upd_upd] at I2
   exact I2
end
def tDispT (trs : List (TE × TE)) : TE := fun σ H Q => ∀ p, H p = none → tPairs trs σ (upd H p (.dT [])) fun ps H2 => H2 p = some (.dT []) ∧ ∃ kvs : List (List Key × V), TKs H2 ps kvs ∧ kvs.length ≤ 15 ∧ Q (.ref p) (upd H2 p (.dT (mergeT [] kvs)))
theorem pe_dispT {X : Cx} {pos : Pos} {keys : List (Option Expr)} {values : List Expr} {trs : List (TE × TE)} (hu : X.A.units + 1 < cLine) (h : PPs X pos keys values trs) (hall : keys.all (·.isSome) = true) (hl : keys.length = values.length) (h0 : keys ≠ []) (h15 : keys.length ≤ 15) : PE X (.Dict keys values pos) (tDispT trs) := by
 intro pins s σ H Q I q
 have hn := I.hok.fresh (Nat.le_refl s.heap.objs.size)
 have I1 := I.laid (a := s.heap.objs.size) (o := .dT []) (h' := s.heap.push { cls := .type "dict", data := .dict #[] }) (t' := s.toks) (fun _ _ q => Heap.get?_push_of_some _ q) (Nat.le_refl _) (dt_empty s.heap I.big)
 refine wpAny_Dict_any hall hl h0 h15 (thn (h pins _ σ _ _ I1 (q _ hn)) ?_)
 rintro ws s2 ⟨ps, H2, I2, rel, e, kvs, tk, lk, q2⟩
 exact store_all hu tk rel I2 e (by show 0 + kvs.length ≤ 15; omega) fun s' I' => ⟨.ref s.heap.objs.size, _, I', rfl, q2⟩
end L2
set_option Elab.async false
set_option linter.all false
set_option maxRecDepth 100000
set_option maxHeartbeats 4000000
namespace L2
open PySem PySem.W PySem.Spec PyProof.Rows
section
variable {X : Cx}
theorem op_eqTK (hu : X.A.units < cLine) : OpR X (compareOp .Eq) (fun x y H Q => ∃ (a b : Addr) (ks js : List Key), x = .ref a ∧ y = .ref b ∧ H a = some (.tup (ks.map kV)) ∧ H b = some (.tup (js.map kV)) ∧ Q (.bl (decide (ks = js))) H) := by
 intro pins s σ H x y v u Q I rx ry h
 obtain ⟨a, b, ks, js, rfl, rfl, ha, hb, q⟩ := h
 cases (show v = Value.ref a from rx)
 cases (show u = Value.ref b from ry)
 have ka := key_of I.hok ha
 have kb := key_of I.hok hb
 exact wpAny_richCompare_same_room (op := .Eq) (IsTupleKey.typeIs ka) (IsTupleKey.typeIs kb) F.slot_tuple_eq (wpAny_call_entry F.slot_tuple_eq (IsTupleKey.typeIs ka) F.entry_tuple_eq (tuple_eq_tree ka kb ⟨_, rfl, (fun e => nomatch e), ⟨.bl (decide (ks = js)), H, I, rfl, q⟩⟩) (F.args_tuple_eq_2 _ _)) hu
def keyB (k : Key) : Value → Bool
 | .none => decide (k = .inl none)
 | .int i _ => decide (k = .inl (some i))
 | .str z _ => decide (k = .inr z)
 | _ => false
def cntK (k : Key) (ks : List Key) : Nat := ks.countP fun j => decide (j = k)
def rCount : V → List V → Hp → VK → Prop := fun x vs H Q => ∃ (l : Addr) (ks : List Key) (k : Key), x = .ref l ∧ vs = [kV k] ∧ H l = some (.lst (ks.map kV)) ∧ Q (.int (cntK k ks : Nat)) H
theorem keyB_is {j k : Key} {y : Value} (h : RelV (kV j) y) : keyB k y = decide (j = k) := by
 have c : ∀ {p q : Prop} [Decidable p] [Decidable q], (p ↔ q) → decide p = decide q := fun h => decide_eq_decide.2 h
 rcases j with (_ | i) | z
 ·cases (show y = Value.none from h)
  exact c ⟨fun e => e.symm, fun e => e.symm⟩
 ·obtain ⟨t, rfl⟩ := (show ∃ t, y = Value.int i t from h)
  exact c ⟨fun e => e.symm, fun e => e.symm⟩
 ·obtain ⟨t, rfl⟩ := (show ∃ t, y = Value.str z t from h)
  exact c ⟨fun e => e.symm, fun e => e.symm⟩
theorem eqAt_key {A : Around} {s : Shared} {j k : Key} {y x : Value} (hy : RelV (kV j) y) (hx : RelV (kV k) x) : SeqAt.EqAt A s y x (keyB k y) := by
 intro prog w E Q h
 rw [keyB_is hy] at h
 exact (mixKind prog w).eqBool (kV_is hy) (kV_is hx) h
theorem count_keys {k : Key} : ∀ {ks : List Key} {its : List Value}, Vals (ks.map kV) its → its.countP (keyB k) = cntK k ks := by
 intro ks
 induction ks with
 | nil => intro its r; cases r; rfl
 | cons j ks ih =>
  intro its r
  rw [List.map_cons] at r
  cases r with
  | @cons _ u _ its h r =>
   show _ = (j :: ks).countP fun j => decide (j = k)
   rw [List.countP_cons, List.countP_cons, ih r, keyB_is h]
   rfl
theorem vals_mem {xs : List V} {its : List Value} (r : Vals xs its) {u : Value} (h : u ∈ its) : ∃ x ∈ xs, RelV x u := by
 induction r with
 | nil => cases h
 | cons a _ ih =>
  rcases List.mem_cons.mp h with rfl | h
  ·exact ⟨_, List.mem_cons_self, a⟩
  ·obtain ⟨x, h1, h2⟩ := ih h
   exact ⟨x, List.mem_cons_of_mem _ h1, h2⟩
theorem mt_count : MtR X "list.count" rCount := by
 intro pins s σ H x vs v us Q I rx rv h
 obtain ⟨l, ks, k, rfl, rfl, hH, q⟩ := h
 cases (show v = Value.ref l from rx)
 obtain ⟨u, rfl, ru⟩ := rv.one
 obtain ⟨z, its, n, r, hl, e⟩ := I.lstM hH
 refine call_meets F.slot_list_count ⟨_, e, rfl⟩ F.entry_list_count (F.args_list_count_2 _ _) (SeqAt.list_countAt l its.toArray n none #[] u (keyB k)) ⟨e, fun y hy => ?_, ⟨.int (cntK k ks : Nat), H, I.tok _, ⟨s.toks, ?_⟩, q⟩⟩
 ·obtain ⟨x', hx', rx'⟩ := vals_mem r (u := y) (by simpa using hy)
  obtain ⟨j, _, rfl⟩ := List.mem_map.mp hx'
  exact eqAt_key rx' ru
 ·rw [List.toList_toArray, count_keys r]
end
end L2
set_option Elab.async false
set_option linter.all false
set_option maxRecDepth 100000
set_option maxHeartbeats 4000000
namespace CL
open PySem PySem.Spec L2
open PyProof.Rows hiding St
inductive PV where
 | non | bl (b : Bool) | int (i : Int) | str (x : Str) | ty (n : String) | tup (xs : List PV) | kt (xs : List PV) | fz (xs : List PV) | vw (d : Addr) | ref (a : Addr)
def imm : HO → Bool
 | .tup _ => true
 | .frz _ (.dK _) => false
 | .frz _ (.dT _) => false
 | .frz _ _ => true
 | .ext _ => true
 | _ => false
def Imm (H H' : Hp) : Prop := ∀ a o, imm o = true → H a = some o → H' a = some o
theorem Imm.new {H : Hp} {p : Addr} (hp : H p = none) (o : HO) : Imm H (upd H p o) := fun a u _ e => by
 rw [upd_ne (ne_of_none e hp)]; exact e
theorem Imm.mut {H : Hp} {p : Addr} {u : HO} (hp : H p = some u) (hu : imm u = false) (o : HO) : Imm H (upd H p o) := fun a v i e => by
 have : a ≠ p := by
  intro z; subst z; rw [hp] at e; cases e; rw [hu] at i; cases i
 rw [upd_ne this]; exact e
def Fz (K : PySem.W.Frag) (H : Hp) (a : Addr) (xs : List V) : Prop :=
 (∃ o, H a = some (.frz o (.lst xs))) ∨
  ∃ (o : Obj) (its : Array Value) (n : Nat), K.lookup a = some o ∧ o.cls = .type "list" ∧ o.dict = none ∧ o.data = .seq its n ∧ its.size ≤ sizeLine ∧ Vals xs its.toList
theorem Fz.sq {K : PySem.W.Frag} {H : Hp} {a : Addr} {xs : List V} (h : Fz K H a xs) : SqL K H a xs := by
 rcases h with ⟨o, h⟩ | h
 ·exact .inl (.inr ⟨o, h⟩)
 ·exact .inr h
theorem Fz.imm {K : PySem.W.Frag} {H H' : Hp} {a : Addr} {xs : List V} (h : Fz K H a xs) (k : Imm H H') : Fz K H' a xs := by
 rcases h with ⟨o, h⟩ | h
 ·exact .inl ⟨o, k _ _ rfl h⟩
 ·exact .inr h
theorem SqT.imm {K : PySem.W.Frag} {H H' : Hp} {a : Addr} {xs : List V} (h : SqT K H a xs) (k : Imm H H') : SqT K H' a xs := by
 rcases h with (h | ⟨o, h⟩) | h
 ·exact .inl (.inl (k _ _ rfl h))
 ·exact .inl (.inr ⟨o, k _ _ rfl h⟩)
 ·exact .inr h
mutual
inductive Rep (K : PySem.W.Frag) (H : Hp) : V → PV → Prop
 | non : Rep K H .non .non
 | bl (b : Bool) : Rep K H (.bl b) (.bl b)
 | int (i : Int) : Rep K H (.int i) (.int i)
 | str (x : Str) : Rep K H (.str x) (.str x)
 | ty (n : String) : Rep K H (.ty n) (.ty n)
 | ref (a : Addr) : Rep K H (.ref a) (.ref a)
 | tup {a : Addr} {vs : List V} {ts : List PV} (h : H a = some (.tup vs)) (r : Reps K H vs ts) : Rep K H (.ref a) (.tup ts)
 | kt {a : Addr} {vs : List V} {ts : List PV} (h : SqT K H a vs) (r : Reps K H vs ts) : Rep K H (.ref a) (.kt ts)
 | fz {a : Addr} {vs : List V} {ts : List PV} (h : Fz K H a vs) (r : Reps K H vs ts) : Rep K H (.ref a) (.fz ts)
 | vw {a d : Addr} (h : H a = some (.ext (isItems a d))) : Rep K H (.ref a) (.vw d)
inductive Reps (K : PySem.W.Frag) (H : Hp) : List V → List PV → Prop
 | nil : Reps K H [] []
 | cons {v : V} {t : PV} {vs : List V} {ts : List PV} (h : Rep K H v t) (r : Reps K H vs ts) : Reps K H (v :: vs) (t :: ts)
end
section
variable {K : PySem.W.Frag} {H H' H1 H2 : Hp}
mutual
theorem Rep.imm {v : V} {t : PV} (k : Imm H H') : Rep K H v t → Rep K H' v t
 | .non => .non
 | .bl b => .bl b
 | .int i => .int i
 | .str x => .str x
 | .ty n => .ty n
 | .ref a => .ref a
 | .tup h r => .tup (k _ _ rfl h) (Reps.imm k r)
 | .kt h r => .kt (SqT.imm h k) (Reps.imm k r)
 | .fz h r => .fz (Fz.imm h k) (Reps.imm k r)
 | .vw h => .vw (k _ _ rfl h)
theorem Reps.imm {vs : List V} {ts : List PV} (k : Imm H H') : Reps K H vs ts → Reps K H' vs ts
 | .nil => .nil
 | .cons h r => .cons (Rep.imm k h) (Reps.imm k r)
end
theorem Reps.len {vs : List V} {ts : List PV} : Reps K H vs ts → vs.length = ts.length
 | .nil => rfl
 | .cons _ r => congrArg (· + 1) r.len
theorem Reps.get {vs : List V} {ts : List PV} {i : Nat} {t : PV} : Reps K H vs ts → ts[i]? = some t → ∃ v, vs[i]? = some v ∧ Rep K H v t
 | .nil, e => by cases e
 | .cons h r, e => by
  cases i with
  | zero => cases e; exact ⟨_, rfl, h⟩
  | succ i => exact r.get (i := i) e
theorem Reps.append {vs us : List V} {ts ss : List PV} : Reps K H vs ts → Reps K H us ss → Reps K H (vs ++ us) (ts ++ ss)
 | .nil, r => r
 | .cons h t, r => .cons h (t.append r)
theorem Reps.take {vs : List V} {ts : List PV} : ∀ (n : Nat), Reps K H vs ts → Reps K H (vs.take n) (ts.take n)
 | 0, _ => .nil
 | _ + 1, .nil => .nil
 | n + 1, .cons h r => .cons h (r.take n)
theorem Reps.drop {vs : List V} {ts : List PV} : ∀ (n : Nat), Reps K H vs ts → Reps K H (vs.drop n) (ts.drop n)
 | 0, r => r
 | _ + 1, .nil => .nil
 | n + 1, .cons _ r => r.drop n
theorem Reps.set {vs : List V} {ts : List PV} {v : V} {t : PV} (h : Rep K H v t) : ∀ (n : Nat), Reps K H vs ts → Reps K H (vs.set n v) (ts.set n t)
 | _, .nil => .nil
 | 0, .cons _ r => .cons h r
 | n + 1, .cons g r => .cons g (r.set h n)
end
inductive CO where
 | lst (xs : List PV)
 | dK (kvs : List (Key × PV))
 | fK (kvs : List (Key × PV))
 | dT (kvs : List (List Key × PV))
 | ins (c dx : Addr) (fs : List (Str × PV))
abbrev CH := Addr → Option CO
def updC (C : CH) (a : Addr) (o : CO) : CH := fun b => if b = a then some o else C b
theorem updC_same {C : CH} {a : Addr} {o : CO} : updC C a o a = some o := if_pos rfl
theorem updC_ne {C : CH} {a b : Addr} {o : CO} (h : b ≠ a) : updC C a o b = C b := if_neg h
abbrev FP {κ : Type} (K : PySem.W.Frag) (H : Hp) : List (κ × V) → List (κ × PV) → Prop := Paired fun p q => p.1 = q.1 ∧ Rep K H p.2 q.2
abbrev KP (K : PySem.W.Frag) (H : Hp) : List (Key × V) → List (Key × PV) → Prop := Paired fun p q => p.1 = q.1 ∧ Rep K H p.2 q.2
def ORel (K : PySem.W.Frag) (H : Hp) (a : Addr) : CO → Prop
 | .lst ts => ∃ vs, H a = some (.lst vs) ∧ Reps K H vs ts
 | .dK kvs => ∃ vs, H a = some (.dK vs) ∧ KP K H vs kvs
 | .fK kvs => ∃ o vs, H a = some (.frz o (.dK vs)) ∧ KP K H vs kvs
 | .dT kvs => ∃ vs, H a = some (.dT vs) ∧ FP K H vs kvs
 | .ins c dx fs => ∃ gs, H a = some (.ins c dx gs) ∧ FP K H gs fs
def HRel (K : PySem.W.Frag) (H : Hp) (C : CH) : Prop := ∀ a o, C a = some o → ORel K H a o
def still : Option CO → Bool
 | none => true
 | some (.fK _) => true
 | _ => false
def Fw (H : Hp) (C : CH) (H' : Hp) (C' : CH) : Prop := ∀ a, still (C a) = true → H a ≠ none → C' a = C a ∧ H' a = H a
section
variable {K : PySem.W.Frag} {H H' H1 H2 : Hp} {C C' C1 C2 : CH}
theorem Fw.refl : Fw H C H C := fun _ _ _ => ⟨rfl, rfl⟩
theorem Fw.trans (f : Fw H C H1 C1) (g : Fw H1 C1 H2 C2) : Fw H C H2 C2 := fun a h n => by
 obtain ⟨c, e⟩ := f a h n
 obtain ⟨c', e'⟩ := g a (by rw [c]; exact h) (by rw [e]; exact n)
 exact ⟨c'.trans c, e'.trans e⟩
theorem ORel.mut {a : Addr} {o : CO} (h : ORel K H a o) : ∃ u, H a = some u ∧ imm u = false := by
 cases o with
 | lst ts => obtain ⟨vs, e, _⟩ := h; exact ⟨_, e, rfl⟩
 | dK ts => obtain ⟨vs, e, _⟩ := h; exact ⟨_, e, rfl⟩
 | fK ts => obtain ⟨o, vs, e, _⟩ := h; exact ⟨_, e, rfl⟩
 | dT ts => obtain ⟨vs, e, _⟩ := h; exact ⟨_, e, rfl⟩
 | ins c dx fs => obtain ⟨vs, e, _⟩ := h; exact ⟨_, e, rfl⟩
theorem HRel.hid (h : HRel K H C) {a : Addr} {o : HO} (i : imm o = true) (e : H a = some o) : C a = none := by
 cases c : C a with
 | none => rfl
 | some u =>
  obtain ⟨v, e', i'⟩ := (h a u c).mut
  rw [e] at e'; cases e'; rw [i] at i'; cases i'
theorem HRel.fresh (h : HRel K H C) {a : Addr} (e : H a = none) : C a = none := by
 cases c : C a with
 | none => rfl
 | some u =>
  obtain ⟨v, e', i'⟩ := (h a u c).mut
  rw [e] at e'; cases e'
theorem Fw.imm (f : Fw H C H' C') (h : HRel K H C) : Imm H H' := fun a o i e => by
 rw [(f a (by rw [h.hid i e]; rfl) (by rw [e]; exact fun z => nomatch z)).2]; exact e
theorem ORel.imm {a : Addr} {o : CO} (h : ORel K H a o) (k : Imm H H') (e : H' a = H a) : ORel K H' a o := by
 cases o with
 | lst ts => obtain ⟨vs, q, r⟩ := h; exact ⟨vs, e.trans q, r.imm k⟩
 | dK ts => obtain ⟨vs, q, r⟩ := h; exact ⟨vs, e.trans q, Paired.mapP r fun _ _ z => ⟨z.1, z.2.imm k⟩⟩
 | fK ts => obtain ⟨o, vs, q, r⟩ := h; exact ⟨o, vs, e.trans q, Paired.mapP r fun _ _ z => ⟨z.1, z.2.imm k⟩⟩
 | dT ts => obtain ⟨vs, q, r⟩ := h; exact ⟨vs, e.trans q, Paired.mapP r fun _ _ z => ⟨z.1, z.2.imm k⟩⟩
 | ins c dx fs => obtain ⟨vs, q, r⟩ := h; exact ⟨vs, e.trans q, Paired.mapP r fun _ _ z => ⟨z.1, z.2.imm k⟩⟩
theorem HRel.new (h : HRel K H C) {p : Addr} (hp : H p = none) (o : HO) : HRel K (upd H p o) C := fun a u c => by
 obtain ⟨v, e, _⟩ := (h a u c).mut
 exact (h a u c).imm (Imm.new hp o) (upd_ne (ne_of_none e hp))
theorem Fw.new {p : Addr} (hp : H p = none) (o : HO) : Fw H C (upd H p o) C := fun a c n => ⟨rfl, upd_ne fun z => n (z ▸ hp)⟩
theorem HRel.lay (h : HRel K H C) {p : Addr} (hp : H p = none) {o : HO} {u : CO} (r : ORel K (upd H p o) p u) : HRel K (upd H p o) (updC C p u) := fun a v c => by
 by_cases e : a = p
 ·subst e; rw [updC_same] at c; cases c; exact r
 ·rw [updC_ne e] at c; exact h.new hp o a v c
theorem Fw.lay {p : Addr} (hp : H p = none) (o : HO) (u : CO) : Fw H C (upd H p o) (updC C p u) := fun a c n => by
 have e : a ≠ p := fun z => n (z ▸ hp)
 exact ⟨updC_ne e, upd_ne e⟩
theorem HRel.put (h : HRel K H C) {p : Addr} {o₀ : HO} (hp : H p = some o₀) (hi : imm o₀ = false) {o : HO} {u : CO} (r : ORel K (upd H p o) p u) : HRel K (upd H p o) (updC C p u) := fun a v c => by
 by_cases e : a = p
 ·subst e; rw [updC_same] at c; cases c; exact r
 ·rw [updC_ne e] at c; exact (h a v c).imm (Imm.mut hp hi o) (upd_ne e)
theorem Fw.put {p : Addr} {u₀ : CO} (hp : C p = some u₀) (o : HO) (u : CO) (hs : still (some u₀) = false := by rfl) : Fw H C (upd H p o) (updC C p u) := fun a c n => by
 have e : a ≠ p := fun z => by subst z; rw [hp, hs] at c; cases c
 exact ⟨updC_ne e, upd_ne e⟩
end
abbrev CSt := List (Option PV)
abbrev K1 := PV → CH → Prop
def RepO (K : PySem.W.Frag) (H : Hp) : Option V → Option PV → Prop
 | _, none => True
 | some v, some t => Rep K H v t
 | none, some _ => False
def SRel (K : PySem.W.Frag) (H : Hp) : St → CSt → Prop := Paired (RepO K H)
section
variable {K : PySem.W.Frag} {H H' : Hp} {C C' : CH}
theorem RepO.imm {v : Option V} {t : Option PV} (k : Imm H H') (h : RepO K H v t) : RepO K H' v t := by
 cases t with
 | none => cases v <;> trivial
 | some t => cases v with
  | none => exact h
  | some v => exact Rep.imm k h
theorem SRel.imm {σ : St} {ρ : CSt} (s : SRel K H σ ρ) (k : Imm H H') : SRel K H' σ ρ := Paired.mapP s fun _ _ => RepO.imm k
theorem SRel.get {σ : St} {ρ : CSt} {i : Nat} {t : PV} (s : SRel K H σ ρ) (e : ρ[i]? = some (some t)) : ∃ v, σ[i]? = some (some v) ∧ Rep K H v t := by
 induction s generalizing i with
 | nil => cases e
 | @cons a b l₁ l₂ h r ih =>
  cases i with
  | zero =>
   cases e
   cases a with
   | none => exact h.elim
   | some v => exact ⟨v, rfl, h⟩
  | succ i => exact ih (i := i) e
theorem SRel.set {σ : St} {ρ : CSt} {v : V} {t : PV} (s : SRel K H σ ρ) (h : Rep K H v t) (i : Nat) : SRel K H (σ.set i (some v)) (ρ.set i (some t)) := by
 induction s generalizing i with
 | nil => exact .nil
 | cons h' r ih =>
  cases i with
  | zero => exact .cons h r
  | succ i => exact .cons h' (ih i)
end
def lift {α β : Type} (K : PySem.W.Frag) (rel : Hp → α → β → Prop) (c : CSt → CH → (β → CH → Prop) → Prop) : St → Hp → (α → Hp → Prop) → Prop := fun σ H Q =>
 ∃ ρ C R, SRel K H σ ρ ∧ HRel K H C ∧ c ρ C R ∧ ∀ v H' t C', R t C' → rel H' v t → HRel K H' C' → Fw H C H' C' → Q v H'
abbrev TCE := CSt → CH → K1 → Prop
abbrev TCT := CSt → CH → (Bool → CH → Prop) → Prop
abbrev TCA := CSt → CH → (List PV → CH → Prop) → Prop
abbrev relT : Hp → Bool → Bool → Prop := fun _ a b => a = b
structure CEnds where
 nx : CSt → CH → Prop
 rt : K1
 bk : CSt → CH → Prop := fun _ _ => False
 ct : CSt → CH → Prop := fun _ _ => False
abbrev TCS := CEnds → CSt → CH → Prop
structure ERel (K : PySem.W.Frag) (H : Hp) (C : CH) (E : CEnds) (D : Ends) : Prop where
 nx : ∀ σ' H' ρ' C', E.nx ρ' C' → SRel K H' σ' ρ' → HRel K H' C' → Fw H C H' C' → D.nx σ' H'
 rt : ∀ v H' t C', E.rt t C' → Rep K H' v t → HRel K H' C' → Fw H C H' C' → D.rt v H'
 bk : ∀ σ' H' ρ' C', E.bk ρ' C' → SRel K H' σ' ρ' → HRel K H' C' → Fw H C H' C' → D.bk σ' H'
 ct : ∀ σ' H' ρ' C', E.ct ρ' C' → SRel K H' σ' ρ' → HRel K H' C' → Fw H C H' C' → D.ct σ' H'
theorem ERel.fw {K : PySem.W.Frag} {H H1 : Hp} {C C1 : CH} {E : CEnds} {D : Ends} (e : ERel K H C E D) (f : Fw H C H1 C1) : ERel K H1 C1 E D :=
 ⟨fun σ' H' ρ' C' h s r g => e.nx σ' H' ρ' C' h s r (f.trans g), fun v H' t C' h s r g => e.rt v H' t C' h s r (f.trans g), fun σ' H' ρ' C' h s r g => e.bk σ' H' ρ' C' h s r (f.trans g), fun σ' H' ρ' C' h s r g => e.ct σ' H' ρ' C' h s r (f.trans g)⟩
def liftS (K : PySem.W.Frag) (c : TCS) : TS := fun D σ H => ∃ ρ C E, SRel K H σ ρ ∧ HRel K H C ∧ c E ρ C ∧ ERel K H C E D
structure CE (X : Cx) (e : Expr) (c : TCE) : Prop where
 h : JE X e (lift X.K (Rep X.K) c)
structure CT (X : Cx) (e : Expr) (c : TCT) : Prop where
 h : JT X e (lift X.K relT c)
structure CW (X : Cx) (e : Expr) (c : TCT) : Prop where
 h : JW X e (lift X.K relT c)
structure CA (X : Cx) (es : List Expr) (c : TCA) : Prop where
 h : JA X es (lift X.K (Reps X.K) c)
structure CS (X : Cx) (st : Stmt) (c : TCS) : Prop where
 h : JS X st (liftS X.K c)
structure CB (X : Cx) (st : List Stmt) (c : TCS) : Prop where
 h : JB X st (liftS X.K c)
end CL
set_option Elab.async false
set_option linter.all false
set_option maxRecDepth 100000
set_option maxHeartbeats 4000000
namespace CL
open PySem PySem.Spec L2
open PyProof.Rows hiding St
section
variable {X : Cx} {a b c e o i : Expr} {es : List Expr} {pos : Pos} {rest : List Expr} {st : Stmt} {sts : List Stmt}
theorem JE.weak {t t' : TE} (h : JE X e t) (w : ∀ σ H Q, t' σ H Q → t σ H Q) : JE X e t' := ⟨fun pins s σ H Q I q => h.h pins s σ H Q I (w σ H Q q)⟩
theorem JT.weak {t t' : TT} (h : JT X e t) (w : ∀ σ H Q, t' σ H Q → t σ H Q) : JT X e t' := ⟨fun pins s σ H Q I q => h.h pins s σ H Q I (w σ H Q q)⟩
theorem JW.weak {t t' : TT} (h : JW X e t) (w : ∀ σ H Q, t' σ H Q → t σ H Q) : JW X e t' := ⟨fun wh pins s σ H Q I q => h.h wh pins s σ H Q I (w σ H Q q)⟩
theorem JA.weak {t t' : TA} (h : JA X es t) (w : ∀ σ H Q, t' σ H Q → t σ H Q) : JA X es t' := ⟨fun p pins s σ H Q I q => h.h p pins s σ H Q I (w σ H Q q)⟩
theorem JS.weak {t t' : TS} (h : JS X st t) (w : ∀ D σ H, t' D σ H → t D σ H) : JS X st t' := ⟨fun pins s σ H D I q => h.h pins s σ H D I (w D σ H q)⟩
theorem JB.weak {t t' : TS} (h : JB X sts t) (w : ∀ D σ H, t' D σ H → t D σ H) : JB X sts t' := ⟨fun pins s σ H D I q => h.h pins s σ H D I (w D σ H q)⟩
def cVar (i : Nat) : TCE := fun ρ C Q => match ρ[i]? with
 | some (some t) => Q t C
 | _ => False
def cC (t : PV) : TCE := fun _ C Q => Q t C
theorem cv (i : Nat) {x : Str} {pos : Pos} (hN : X.N[i]? = some x := by rfl) (hv : Vis X.env.scope x := by first | exact Or.inl rfl | exact Or.inr (Or.inl rfl) | exact Or.inr (Or.inr rfl)) (hd : (x == ("__debug__" : Str)) = false := by decide)
  (hcd : (x == ("__classdict__" : Str)) = false := by decide) : CE X (.Name x pos) (cVar i) := ⟨JE.weak (jv i hN hv hd hcd) fun σ H Q ⟨ρ, C, R, s, h, q, f⟩ => by
 unfold cVar at q
 split at q
 ·next t e =>
  obtain ⟨v, ev, r⟩ := s.get e
  exact ⟨v, ev, f v H t C q r h Fw.refl⟩
 ·exact q.elim⟩
theorem ce_c {v : V} {t : PV} (h : JE X e (tC v)) (r : ∀ H, Rep X.K H v t) : CE X e (cC t) := ⟨JE.weak h fun σ H Q ⟨ρ, C, R, s, h, q, f⟩ => f v H t C q (r H) h Fw.refl⟩
theorem ce_int {i j pos} : CE X (.Constant (.int i) j pos) (cC (.int i)) := ce_c je_int fun _ => .int i
theorem ce_bl {b j pos} : CE X (.Constant (.bool b) j pos) (cC (.bl b)) := ce_c je_bl fun _ => .bl b
theorem ce_non {j pos} : CE X (.Constant .none j pos) (cC .non) := ce_c je_non fun _ => .non
theorem ce_str {x j pos} : CE X (.Constant (.str x) j pos) (cC (.str x)) := ce_c je_str fun _ => .str x
theorem ce_glob {x : Str} {v : V} {u : Value} {t : PV} (hg : Gl X x) (hm : X.mg x = some u) (r : RelV v u) (q : ∀ H, Rep X.K H v t) (hd : (x == ("__debug__" : Str)) = false := by decide) : CE X (.Name x pos) (cC t) := ce_c (je_glob hg hm r hd) q
theorem ce_ty {x : Str} {n : String} (hg : Gl X x) (hm : X.mg x = none) (hv : bootBuiltins x = some (.type n)) (hn : x ≠ "__name__" := by decide) (hd : (x == ("__debug__" : Str)) = false := by decide) : CE X (.Name x pos) (cC (.ty n)) := ce_c (je_bltn (v := .ty n) hg hm hv rfl hn hd) fun _ => .ty n
abbrev R2C := PV → PV → CH → K1 → Prop
def Cop (K : PySem.W.Frag) (r : R2) (cr : R2C) : Prop := ∀ x y px py H C Q R, Rep K H x px → Rep K H y py → HRel K H C → cr px py C R → (∀ v H' t C', R t C' → Rep K H' v t → HRel K H' C' → Fw H C H' C' → Q v H') → r x y H Q
def cOp (cr : R2C) (ca cb : TCE) : TCE := fun ρ C Q => ca ρ C fun x C1 => cb ρ C1 fun y C2 => cr x y C2 Q
theorem lift_op {K : PySem.W.Frag} {r : R2} {cr : R2C} {ca cb : TCE} (hr : Cop K r cr) {σ : St} {H : Hp} {Q : VK} (h : lift K (Rep K) (cOp cr ca cb) σ H Q) : tOp r (lift K (Rep K) ca) (lift K (Rep K) cb) σ H Q := by
 obtain ⟨ρ, C, R, s, h, q, f⟩ := h
 exact ⟨ρ, C, _, s, h, q, fun x H1 px C1 q1 rx h1 f1 => ⟨ρ, C1, _, s.imm (f1.imm h), h1, q1, fun y H2 py C2 q2 ry h2 f2 =>
  hr x y px py H2 C2 Q R (rx.imm (f2.imm h1)) ry h2 q2 fun v H' t C' q' r' h' f' => f v H' t C' q' r' h' (f1.trans (f2.trans f'))⟩⟩
theorem ce_op {op : Operator} {r : R2} {cr : R2C} {ca cb : TCE} (ho : OpR X (binaryOp op) r) (hr : Cop X.K r cr) (ha : CE X a ca) (hb : CE X b cb) : CE X (.BinOp a op b pos) (cOp cr ca cb) := ⟨JE.weak (je_op ho ha.h hb.h) fun _ _ _ h => lift_op hr h⟩
theorem ce_cmp {op : CmpOp} {r : R2} {cr : R2C} {ca cb : TCE} (ho : OpR X (compareOp op) r) (hr : Cop X.K r cr) (ha : CE X a ca) (hb : CE X b cb) (hm : behindInMarks op b = false) : CE X (.Compare a [op] [b] pos) (cOp cr ca cb) := ⟨JE.weak (je_cmp ho ha.h hb.h hm) fun _ _ _ h => lift_op hr h⟩
def onBl (k : Bool → CH → Prop) : PV → CH → Prop
 | .bl b, C => k b C
 | _, _ => False
def cTest (c : TCE) : TCT := fun ρ C Q => c ρ C (onBl Q)
theorem bl_of {K : PySem.W.Frag} {H : Hp} {C : CH} {v : V} {t : PV} {Q : Bool → CH → Prop} (q : onBl Q t C) (r : Rep K H v t) : ∃ b, t = .bl b ∧ v = .bl b ∧ Q b C := by
 cases t with
 | bl b => cases r; exact ⟨b, rfl, rfl, q⟩
 | _ => exact q.elim
theorem lift_test {K : PySem.W.Frag} {c : TCE} {σ : St} {H : Hp} {Q : Bool → Hp → Prop} (h : lift K relT (cTest c) σ H Q) : tTest (lift K (Rep K) c) σ H Q := by
 obtain ⟨ρ, C, R, s, h, q, f⟩ := h
 exact ⟨ρ, C, _, s, h, q, fun x H1 px C1 q1 rx h1 f1 => by
  obtain ⟨b, rfl, rfl, q2⟩ := bl_of q1 rx
  exact ⟨b, rfl, f b H1 b C1 q2 rfl h1 f1⟩⟩
theorem ct_cmp {op : CmpOp} {r : R2} {cr : R2C} {ca cb : TCE} (ho : OpR X (compareOp op) r) (hr : Cop X.K r cr) (ha : CE X a ca) (hb : CE X b cb) (hm : behindInMarks op b = false) : CT X (.Compare a [op] [b] pos) (cTest (cOp cr ca cb)) :=
 ⟨JT.weak (jt_cmp ho ha.h hb.h hm) fun σ H Q h => by
  obtain ⟨ρ, C, R, s, h, q, f⟩ := h
  refine lift_op hr (Q := fun x H' => IBl Q x H') ⟨ρ, C, _, s, h, q, fun x H1 px C1 q1 rx h1 f1 => ?_⟩
  obtain ⟨b, rfl, rfl, q2⟩ := bl_of q1 rx
  exact ⟨b, rfl, f b H1 b C1 q2 rfl h1 f1⟩⟩
theorem ct_val {c : TCE} (h : CE X e c) (he : plainTest e = true := by rfl) : CT X e (cTest c) := ⟨JT.weak (jt_val h.h he) fun _ _ _ h => lift_test h⟩
def cUn (cr : PV → CH → K1 → Prop) (ca : TCE) : TCE := fun ρ C Q => ca ρ C fun x C1 => cr x C1 Q
def Cun (K : PySem.W.Frag) (r : V → Hp → VK → Prop) (cr : PV → CH → K1 → Prop) : Prop := ∀ x px H C Q R, Rep K H x px → HRel K H C → cr px C R → (∀ v H' t C', R t C' → Rep K H' v t → HRel K H' C' → Fw H C H' C' → Q v H') → r x H Q
theorem ce_un {op : UnaryOp} {r : V → Hp → VK → Prop} {cr : PV → CH → K1 → Prop} {ca : TCE} (ho : UnR X (unaryOp op) r) (hr : Cun X.K r cr) (ha : CE X a ca) : CE X (.UnaryOp op a pos) (cUn cr ca) := ⟨JE.weak (je_un ho ha.h) fun σ H Q ⟨ρ, C, R, s, h, q, f⟩ =>
 ⟨ρ, C, _, s, h, q, fun x H1 px C1 q1 rx h1 f1 => hr x px H1 C1 Q R rx h1 q1 fun v H' t C' q' r' h' f' => f v H' t C' q' r' h' (f1.trans f')⟩⟩
def cAnd (t u : TCT) : TCT := fun ρ C Q => t ρ C fun b C1 => if b = true then u ρ C1 Q else Q false C1
def cOr (t u : TCT) : TCT := fun ρ C Q => t ρ C fun b C1 => if b = true then Q true C1 else u ρ C1 Q
def cNot (t : TCT) : TCT := fun ρ C Q => t ρ C fun b C1 => Q (!b) C1
theorem cw_pt {t : TCT} (h : CW X e t) : CT X e t := ⟨jw_pt h.h⟩
theorem cw_and1 {t : TCT} (h : CT X a t) : CW X (.BoolOp .And [a] pos) t := ⟨jw_and1 h.h⟩
theorem cw_or1 {t : TCT} (h : CT X a t) : CW X (.BoolOp .Or [a] pos) t := ⟨jw_or1 h.h⟩
theorem cw_and {t u : TCT} (ha : CT X a t) (hb : CW X (.BoolOp .And (b :: rest) pos) u) : CW X (.BoolOp .And (a :: b :: rest) pos) (cAnd t u) := ⟨JW.weak (jw_and ha.h hb.h) fun σ H Q ⟨ρ, C, R, s, h, q, f⟩ =>
 ⟨ρ, C, _, s, h, q, fun x H1 y C1 q1 e h1 f1 => by
  cases e
  cases x with
  | true => exact ⟨ρ, C1, R, s.imm (f1.imm h), h1, q1, fun v H' t C' q' r' h' f' => f v H' t C' q' r' h' (f1.trans f')⟩
  | false => exact f false H1 false C1 q1 rfl h1 f1⟩⟩
theorem cw_or {t u : TCT} (ha : CT X a t) (hb : CW X (.BoolOp .Or (b :: rest) pos) u) : CW X (.BoolOp .Or (a :: b :: rest) pos) (cOr t u) := ⟨JW.weak (jw_or ha.h hb.h) fun σ H Q ⟨ρ, C, R, s, h, q, f⟩ =>
 ⟨ρ, C, _, s, h, q, fun x H1 y C1 q1 e h1 f1 => by
  cases e
  cases x with
  | true => exact f true H1 true C1 q1 rfl h1 f1
  | false => exact ⟨ρ, C1, R, s.imm (f1.imm h), h1, q1, fun v H' t C' q' r' h' f' => f v H' t C' q' r' h' (f1.trans f')⟩⟩⟩
theorem ct_not {t : TCT} (ha : CT X a t) : CT X (.UnaryOp .Not a pos) (cNot t) := ⟨JT.weak (jt_not ha.h) fun σ H Q ⟨ρ, C, R, s, h, q, f⟩ =>
 ⟨ρ, C, _, s, h, q, fun x H1 y C1 q1 e h1 f1 => by cases e; exact f _ H1 _ C1 q1 rfl h1 f1⟩⟩
def cOrV (ca cb : TCE) : TCE := fun ρ C Q => ca ρ C (onBl fun b C1 => if b = true then Q (.bl true) C1 else cb ρ C1 Q)
theorem ce_one {op} {c : TCE} (h : CE X a c) : CE X (.BoolOp op [a] pos) c := ⟨je_one h.h⟩
theorem ce_or {ca cb : TCE} (ha : CE X a ca) (hb : CE X (.BoolOp .Or (b :: rest) pos) cb) : CE X (.BoolOp .Or (a :: b :: rest) pos) (cOrV ca cb) := ⟨JE.weak (je_or ha.h hb.h) fun σ H Q ⟨ρ, C, R, s, h, q, f⟩ =>
 ⟨ρ, C, _, s, h, q, fun x H1 px C1 q1 rx h1 f1 => by
  obtain ⟨b, rfl, rfl, q2⟩ := bl_of q1 rx
  refine ⟨b, rfl, ?_⟩
  cases b with
  | true => exact f _ H1 _ C1 q2 (.bl true) h1 f1
  | false => exact ⟨ρ, C1, R, s.imm (f1.imm h), h1, q2, fun v H' t C' q' r' h' f' => f v H' t C' q' r' h' (f1.trans f')⟩⟩⟩
def cIf (t : TCT) (ca cb : TCE) : TCE := fun ρ C Q => t ρ C fun b C1 => if b = true then ca ρ C1 Q else cb ρ C1 Q
theorem ce_if {t : TCT} {ca cb : TCE} (hc : CT X c t) (ha : CE X a ca) (hb : CE X b cb) : CE X (.IfExp c a b pos) (cIf t ca cb) := ⟨JE.weak (je_if hc.h ha.h hb.h) fun σ H Q ⟨ρ, C, R, s, h, q, f⟩ =>
 ⟨ρ, C, _, s, h, q, fun x H1 y C1 q1 e h1 f1 => by
  cases e
  cases x with
  | true => exact ⟨ρ, C1, R, s.imm (f1.imm h), h1, q1, fun v H' t C' q' r' h' f' => f v H' t C' q' r' h' (f1.trans f')⟩
  | false => exact ⟨ρ, C1, R, s.imm (f1.imm h), h1, q1, fun v H' t C' q' r' h' f' => f v H' t C' q' r' h' (f1.trans f')⟩⟩⟩
def cNil : TCA := fun _ C Q => Q [] C
def cCons (ca : TCE) (cr : TCA) : TCA := fun ρ C Q => ca ρ C fun x C1 => cr ρ C1 fun xs C2 => Q (x :: xs) C2
theorem ca_nil : CA X [] cNil := ⟨JA.weak ja_nil fun σ H Q ⟨ρ, C, R, s, h, q, f⟩ => f [] H [] C q .nil h Fw.refl⟩
theorem ca_cons {ca : TCE} {cr : TCA} (ha : CE X e ca) (hr : CA X es cr) (hs : noStar e = true := by rfl) : CA X (e :: es) (cCons ca cr) := ⟨JA.weak (ja_cons ha.h hr.h hs) fun σ H Q ⟨ρ, C, R, s, h, q, f⟩ =>
 ⟨ρ, C, _, s, h, q, fun x H1 px C1 q1 rx h1 f1 => ⟨ρ, C1, _, s.imm (f1.imm h), h1, q1, fun xs H2 ps C2 q2 rs h2 f2 => f (x :: xs) H2 (px :: ps) C2 q2 (.cons (rx.imm (f2.imm h1)) rs) h2 (f1.trans f2)⟩⟩⟩
def cTup (ca : TCA) : TCE := fun ρ C Q => ca ρ C fun xs C1 => xs.length ≤ sizeLine ∧ Q (.tup xs) C1
def cLst (ca : TCA) : TCE := fun ρ C Q => ca ρ C fun xs C1 => xs.length ≤ sizeLine ∧ ∀ p, C1 p = none → Q (.ref p) (updC C1 p (.lst xs))
theorem ce_tup {x1} {ca : TCA} (h : CA X es ca) : CE X (.Tuple es x1 pos) (cTup ca) := ⟨JE.weak (je_tup h.h) fun σ H Q ⟨ρ, C, R, s, h, q, f⟩ =>
 ⟨ρ, C, _, s, h, q, fun xs H1 ps C1 q1 rs h1 f1 => ⟨by rw [rs.len]; exact q1.1, fun p hp => f (.ref p) _ (.tup ps) C1 q1.2 (.tup upd_same (rs.imm (Imm.new hp _))) (h1.new hp _) (f1.trans (Fw.new hp _))⟩⟩⟩
theorem ce_lst {ca : TCA} (h : CA X es ca) : CE X (.List es pos) (cLst ca) := ⟨JE.weak (je_lst h.h) fun σ H Q ⟨ρ, C, R, s, h, q, f⟩ =>
 ⟨ρ, C, _, s, h, q, fun xs H1 ps C1 q1 rs h1 f1 => ⟨by rw [rs.len]; exact q1.1, fun p hp => f (.ref p) _ (.ref p) _ (q1.2 p (h1.fresh hp)) (.ref p) (h1.lay hp ⟨xs, upd_same, rs.imm (Imm.new hp _)⟩) (f1.trans (Fw.lay hp _ _))⟩⟩⟩
def cDNew : TCE := fun _ C Q => ∀ p, C p = none → Q (.ref p) (updC C p (.dK []))
theorem ce_dnew : CE X (.Dict [] [] pos) cDNew := ⟨JE.weak je_dnewK fun σ H Q ⟨ρ, C, R, s, h, q, f⟩ => fun p hp => f (.ref p) _ (.ref p) _ (q p (h.fresh hp)) (.ref p) (h.lay hp ⟨[], upd_same, .nil⟩) (Fw.lay hp _ _)⟩
abbrev GC := List PV → CH → K1 → Prop
def spC (K : PySem.W.Frag) (G : GC) : Sp := fun vs H Q _ => ∃ ts C R, Reps K H vs ts ∧ HRel K H C ∧ G ts C R ∧ ∀ v H' t C', R t C' → Rep K H' v t → HRel K H' C' → Fw H C H' C' → Q v H'
def cCall (G : GC) (ca : TCA) : TCE := fun ρ C Q => ca ρ C fun xs C1 => G xs C1 Q
theorem ce_call {CX : CXT} {k : Nat} {f : Addr} {fd : FuncData} {ps : List Str} {G : GC} {E : XK} {x : Str} {p : Pos} {ca : TCA} (F : FnOk X.prog X.w X.K X.mg X.base CX k f fd ps (spC X.K G)) (hr : Room k X.A) (hg : Gl X x) (hm : X.mg x = some (.ref f)) (hk : PySem.W.keepIn X.K (.ref f) = true) (hb : Binds X.K fd ps []) (hx : Passes CX X E)
  (ha : CA X (e :: es) ca) (hdb : (x == ("__debug__" : Str)) = false := by decide) (hs : noStar e = true := by rfl) (hall : es.all noStar = true := by rfl) : CE X (.Call (.Name x p) (e :: es) [] pos) (cCall G ca) :=
 ⟨JE.weak (je_call (dvs := []) (E := E) F hr hg hm hk hb .nil hx ha.h hdb hs hall) fun σ H Q ⟨ρ, C, R, s, h, q, f⟩ =>
  ⟨ρ, C, _, s, h, q, fun xs H1 ts C1 q1 rs h1 f1 => ⟨ts, C1, R, by rw [List.append_nil]; exact rs, h1, q1, fun v H' t C' q' r' h' f' => f v H' t C' q' r' h' (f1.trans f')⟩⟩⟩
def Cbi (K : PySem.W.Frag) (r : List V → Hp → VK → Prop) (cr : GC) : Prop := ∀ xs ps H C Q R, Reps K H xs ps → HRel K H C → cr ps C R → (∀ v H' t C', R t C' → Rep K H' v t → HRel K H' C' → Fw H C H' C' → Q v H') → r xs H Q
theorem ce_callB {id : String} {r : List V → Hp → VK → Prop} {cr : GC} {x : Str} {p : Pos} {ca : TCA} (hc : CallR X (.builtin id) r) (hr : Cbi X.K r cr) (hg : Gl X x) (hm : X.mg x = none) (hv : bootBuiltins x = some (.builtin id)) (ha : CA X (e :: es) ca) (hn : x ≠ "__name__" := by decide) (hdb : (x == ("__debug__" : Str)) = false := by decide)
  (hs : noStar e = true := by rfl) (hall : es.all noStar = true := by rfl) : CE X (.Call (.Name x p) (e :: es) [] pos) (cCall cr ca) := ⟨JE.weak (je_callB hc hg hm hv ha.h hn hdb hs hall) fun σ H Q ⟨ρ, C, R, s, h, q, f⟩ =>
  ⟨ρ, C, _, s, h, q, fun xs H1 ts C1 q1 rs h1 f1 => hr xs ts H1 C1 Q R rs h1 q1 fun v H' t C' q' r' h' f' => f v H' t C' q' r' h' (f1.trans f')⟩⟩
theorem ce_callTy {T : String} {r : List V → Hp → VK → Prop} {cr : GC} {x : Str} {p : Pos} {ca : TCA} (hc : CallR X (.type T) r) (hr : Cbi X.K r cr) (hg : Gl X x) (hm : X.mg x = none) (hv : bootBuiltins x = some (.type T)) (ha : CA X (e :: es) ca) (hn : x ≠ "__name__" := by decide) (hdb : (x == ("__debug__" : Str)) = false := by decide)
  (hs : noStar e = true := by rfl) (hall : es.all noStar = true := by rfl) : CE X (.Call (.Name x p) (e :: es) [] pos) (cCall cr ca) := ⟨JE.weak (je_callTy hc hg hm hv ha.h hn hdb hs hall) fun σ H Q ⟨ρ, C, R, s, h, q, f⟩ =>
  ⟨ρ, C, _, s, h, q, fun xs H1 ts C1 q1 rs h1 f1 => hr xs ts H1 C1 Q R rs h1 q1 fun v H' t C' q' r' h' f' => f v H' t C' q' r' h' (f1.trans f')⟩⟩
theorem ce_ix {r : R2} {cr : R2C} {ca cb : TCE} (ho : IxR X r) (hr : Cop X.K r cr) (ha : CE X a ca) (hb : CE X b cb) (hs : PlainIx b) : CE X (.Subscript a b pos) (cOp cr ca cb) := ⟨JE.weak (je_ix ho ha.h hb.h hs) fun _ _ _ h => lift_op hr h⟩
end
end CL
set_option Elab.async false
set_option linter.all false
set_option maxRecDepth 100000
set_option maxHeartbeats 4000000
namespace CL
open PySem PySem.Spec L2
open PyProof.Rows hiding St
section
variable {X : Cx} {a b c e o i : Expr} {es : List Expr} {pos : Pos} {rest : List Expr} {st : Stmt} {sts : List Stmt}
def cNext : TCS := fun E ρ C => E.nx ρ C
def cSeq (t u : TCS) : TCS := fun E ρ C => t { E with nx := u E } ρ C
theorem cb_nil : CB X [] cNext := ⟨JB.weak jb_nil fun D σ H ⟨ρ, C, E, s, h, q, f⟩ => f.nx σ H ρ C q s h Fw.refl⟩
theorem cb_one {t : TCS} (h : CS X st t) : CB X [st] t := ⟨jb_one h.h⟩
theorem cb_cons {t u : TCS} (h1 : CS X st t) (h2 : CB X sts u) : CB X (st :: sts) (cSeq t u) := ⟨JB.weak (jb_cons h1.h h2.h) fun D σ H ⟨ρ, C, E, s, h, q, f⟩ =>
 ⟨ρ, C, _, s, h, q, ⟨fun σ' H' ρ' C' n s' h' f' => ⟨ρ', C', E, s', h', n, f.fw f'⟩, f.rt, f.bk, f.ct⟩⟩⟩
def cDrop (ce : TCE) : TCS := fun E ρ C => ce ρ C fun _ C1 => E.nx ρ C1
theorem cs_expr {ce : TCE} (he : CE X e ce) (hs : swapsWith e none pos.line X.env = pure false := by rfl) : CS X (.Expr e pos) (cDrop ce) := ⟨JS.weak (js_expr he.h hs) fun D σ H ⟨ρ, C, E, s, h, q, f⟩ =>
 ⟨ρ, C, _, s, h, q, fun x H1 px C1 q1 rx h1 f1 => f.nx σ H1 ρ C1 q1 (s.imm (f1.imm h)) h1 f1⟩⟩
def cRet (ce : TCE) : TCS := fun E ρ C => ce ρ C E.rt
theorem cs_ret {ce : TCE} (he : CE X e ce) : CS X (.Return (some e) pos) (cRet ce) := ⟨JS.weak (js_ret he.h) fun D σ H ⟨ρ, C, E, s, h, q, f⟩ =>
 ⟨ρ, C, _, s, h, q, fun x H1 px C1 q1 rx h1 f1 => f.rt x H1 px C1 q1 rx h1 f1⟩⟩
def cIfS (t : TCT) (u v : TCS) : TCS := fun E ρ C => t ρ C fun b C1 => if b = true then u E ρ C1 else v E ρ C1
theorem cs_if {x y : List Stmt} {t : TCT} {u v : TCS} (hc : CT X c t) (ha : CB X x u) (hb : CB X y v) : CS X (.If c x y pos) (cIfS t u v) := ⟨JS.weak (js_if hc.h ha.h hb.h) fun D σ H ⟨ρ, C, E, s, h, q, f⟩ =>
 ⟨ρ, C, _, s, h, q, fun x H1 y C1 q1 e h1 f1 => by
  cases e
  cases x with
  | true => exact ⟨ρ, C1, E, s.imm (f1.imm h), h1, q1, f.fw f1⟩
  | false => exact ⟨ρ, C1, E, s.imm (f1.imm h), h1, q1, f.fw f1⟩⟩⟩
def cSet (i : Nat) (ce : TCE) : TCS := fun E ρ C => ce ρ C fun t C1 => E.nx (ρ.set i (some t)) C1
theorem cs_set {i : Nat} {x : Str} {pos' : Pos} {ce : TCE} (hN : X.N.Nodup) (hi : X.N[i]? = some x) (hx : Loc X.env.scope x) (he : CE X e ce) (hs : swapsWith e (some (.Name x pos')) pos.line X.env = pure false := by rfl) (hf : X.fn x = true ∨ X.env.scope.names.lookup x = some .local := by first | exact .inl rfl | exact .inr rfl | assumption) :
  CS X (.Assign [.Name x pos'] e pos) (cSet i ce) := ⟨JS.weak (js_set hN hi hx he.h hs hf) fun D σ H ⟨ρ, C, E, s, h, q, f⟩ =>
 ⟨ρ, C, _, s, h, q, fun x H1 px C1 q1 rx h1 f1 => f.nx _ H1 _ C1 q1 ((s.imm (f1.imm h)).set rx i) h1 f1⟩⟩
abbrev TCG := PV → CSt → CH → (CSt → CH → Prop) → Prop
def liftGt (K : PySem.W.Frag) (c : TCG) : TG := fun v σ H Q => ∃ t ρ C R, Rep K H v t ∧ SRel K H σ ρ ∧ HRel K H C ∧ c t ρ C R ∧ ∀ σ' H' ρ' C', R ρ' C' → SRel K H' σ' ρ' → HRel K H' C' → Fw H C H' C' → Q σ' H'
structure CG (X : Cx) (e : Expr) (c : TCG) : Prop where
 h : JG X e (liftGt X.K c)
theorem JG.weak {t t' : TG} (h : JG X e t) (w : ∀ v σ H Q, t' v σ H Q → t v σ H Q) : JG X e t' := ⟨fun pins s σ H v u Q I r q => h.h pins s σ H v u Q I r (w v σ H Q q)⟩
def dName (i : Nat) : TCG := fun t ρ C Q => Q (ρ.set i (some t)) C
theorem cg_name {i : Nat} {x : Str} (hN : X.N.Nodup) (hi : X.N[i]? = some x) (hx : Loc X.env.scope x) (hf : X.fn x = true ∨ X.env.scope.names.lookup x = some .local := by first | exact .inl rfl | exact .inr rfl | assumption) : CG X (.Name x pos) (dName i) :=
 ⟨JG.weak (jg_name hN hi hx hf) fun v σ H Q ⟨t, ρ, C, R, r, s, h, q, f⟩ => f _ H _ C q (s.set r i) h Fw.refl⟩
def cAsg (ce : TCE) (g : TCG) : TCS := fun E ρ C => ce ρ C fun t C1 => g t ρ C1 E.nx
theorem cs_asg {tg : Expr} {ce : TCE} {g : TCG} (he : CE X e ce) (hg : CG X tg g) (hs : swapsWithSole [tg] e pos.line X.env = pure false := by rfl) (hw : swappedStores [tg] e X.env = pure none := by rfl)
  (h1 : (assignEach [tg] X.env).map (·.2) = [assign tg X.env] := by rfl) : CS X (.Assign [tg] e pos) (cAsg ce g) := ⟨JS.weak (js_asg he.h hg.h hs hw h1) fun D σ H ⟨ρ, C, E, s, h, q, f⟩ =>
 ⟨ρ, C, _, s, h, q, fun x H1 px C1 q1 rx h1 f1 => ⟨px, ρ, C1, E.nx, rx, s.imm (f1.imm h), h1, q1, fun σ' H' ρ' C' q' s' h' f' => f.nx σ' H' ρ' C' q' s' h' (f1.trans f')⟩⟩⟩
@[irreducible] def cSetL : PV → PV → PV → CH → (CH → Prop) → Prop := fun o i v C Q => match o, i with
 | .ref p, .int k => match C p with
  | some (.lst xs) => match ixN xs.length k with
   | some j => Q (updC C p (.lst (xs.set j v)))
   | none => False
  | _ => False
 | _, _ => False
def dSub (co ci : TCE) (u : PV → PV → PV → CH → (CH → Prop) → Prop) : TCG := fun t ρ C Q => co ρ C fun o C1 => ci ρ C1 fun i C2 => u o i t C2 fun C3 => Q ρ C3
theorem cg_subL {co ci : TCE} (ho : CE X o co) (hi : CE X i ci)
  (ha : ∀ v, assign (.Subscript o i pos) X.env v = (do
   let ov ← holding [v] (eval o X.env)
   let iv ← holding [v, ov] (eval i X.env)
   standAt pos
   holding [v, ov, iv] (setItem ov iv v)
   release [v, ov, iv] []) := by intro _; rfl) : CG X (.Subscript o i pos) (dSub co ci cSetL) := ⟨JG.weak (jg_sub ho.h hi.h set_list ha) fun v σ H Q ⟨t, ρ, C, R, r, s, h, q, f⟩ =>
 ⟨ρ, C, _, s, h, q, fun x H1 px C1 q1 rx h1 f1 => ⟨ρ, C1, _, s.imm (f1.imm h), h1, q1, fun y H2 py C2 q2 ry h2 f2 => by
  have r2 := r.imm ((f1.trans f2).imm h)
  have s2 := s.imm ((f1.trans f2).imm h)
  unfold cSetL at q2
  split at q2
  ·next p k =>
   split at q2
   ·next xs e =>
    split at q2
    ·next j ej =>
     obtain ⟨vs, ev, rv⟩ := h2 p _ e
     have rx2 := rx.imm (f2.imm h1)
     cases rx2
     cases ry
     refine ⟨p, vs, k, j, rfl, rfl, ev, by rw [rv.len]; exact ej, ?_⟩
     exact f σ _ ρ _ q2 (s2.imm (Imm.mut ev rfl _)) (h2.put ev rfl ⟨_, upd_same, (rv.set r2 j).imm (Imm.mut ev rfl _)⟩) (f1.trans (f2.trans (Fw.put e _ _)))
    ·exact q2.elim
   ·exact q2.elim
  ·exact q2.elim⟩⟩⟩
def cWalk (g : TCG) (u : TCS) (E : CEnds) : List PV → CSt → CH → Prop
 | [], ρ, C => E.nx ρ C
 | x :: r, ρ, C => g x ρ C fun ρ1 C1 => u { nx := cWalk g u E r, ct := cWalk g u E r, bk := E.nx, rt := E.rt } ρ1 C1
structure ItOk (K : PySem.W.Frag) (H : Hp) (J : It) (ps : List PV) : Prop where
 go : ∀ i H', i < ps.length → Imm H H' → J.go i H'
 yl : ∀ i H' x H'', Imm H H' → J.yld i H' x H'' → H'' = H' ∧ ∀ t, ps[i]? = some t → Rep K H' x t
 st : ∀ H', Imm H H' → J.stop ps.length H'
theorem walk_it {K : PySem.W.Frag} {H : Hp} {C : CH} {σ : St} {ρ : CSt} {J : It} {ps : List PV} {g : TCG} {u : TCS} {E : CEnds} {D : Ends} (j : ItOk K H J ps) (s : SRel K H σ ρ) (h : HRel K H C) (q : cWalk g u E ps ρ C) (f : ERel K H C E D) :
  ∃ W : Nat → Nat → St → Hp → Prop, (∃ m, W 0 m σ H) ∧ ∀ i m σ H, W i m σ H →
   (J.stop i H ∧ D.nx σ H) ∨ (J.go i H ∧ ∃ N : St → Hp → Prop, (∀ σ' H', N σ' H' → ∃ m', m' < m ∧ W (i + 1) m' σ' H') ∧ ∀ x H', J.yld i H x H' → liftGt K g x σ H' fun σ2 H2 => liftS K u { D with nx := N, ct := N, bk := D.nx } σ2 H2) := by
 refine ⟨fun i m σ' H' => m = ps.length - i ∧ i ≤ ps.length ∧ ∃ ρ' C', SRel K H' σ' ρ' ∧ HRel K H' C' ∧ Fw H C H' C' ∧ cWalk g u E (ps.drop i) ρ' C', ⟨ps.length, rfl, Nat.zero_le _, ρ, C, s, h, Fw.refl, q⟩, ?_⟩
 rintro i m σ1 H1 ⟨rfl, hi, ρ1, C1, s1, h1, f1, q1⟩
 have k1 := f1.imm h
 by_cases hlt : i < ps.length
 ·refine .inr ⟨j.go i H1 hlt k1, fun σ' H' => ∃ ρ' C', SRel K H' σ' ρ' ∧ HRel K H' C' ∧ Fw H C H' C' ∧ cWalk g u E (ps.drop (i + 1)) ρ' C', fun σ' H' z => ⟨ps.length - (i + 1), by omega, rfl, hlt, z⟩, fun x H2 y => ?_⟩
  obtain ⟨rfl, y⟩ := j.yl i H1 x H2 k1 y
  rw [List.drop_eq_getElem_cons hlt] at q1
  exact ⟨ps[i], ρ1, C1, _, y _ (List.getElem?_eq_getElem hlt), s1, h1, q1, fun σ' H' ρ' C' q' s' h' f' => ⟨ρ', C', _, s', h', q', ⟨fun σ3 H3 ρ3 C3 q3 s3 h3 f3 => ⟨ρ3, C3, s3, h3, f1.trans (f'.trans f3), q3⟩, fun v H3 t C3 q3 r3 h3 f3 => f.rt v H3 t C3 q3 r3 h3 (f1.trans (f'.trans f3)),
   fun σ3 H3 ρ3 C3 q3 s3 h3 f3 => f.nx σ3 H3 ρ3 C3 q3 s3 h3 (f1.trans (f'.trans f3)), fun σ3 H3 ρ3 C3 q3 s3 h3 f3 => ⟨ρ3, C3, s3, h3, f1.trans (f'.trans f3), q3⟩⟩⟩⟩
 ·have e : i = ps.length := by omega
  subst e
  rw [List.drop_length] at q1
  exact .inl ⟨j.st H1 k1, f.nx σ1 H1 ρ1 C1 q1 s1 h1 f1⟩
theorem it_tup {K : PySem.W.Frag} {H : Hp} {a : Addr} {vs : List V} {ts : List PV} (h : SqT K H a vs) (r : Reps K H vs ts) : ItOk K H (Itt K a) ts where
 go := fun i H' l k => ⟨vs, vs[i]'(by rw [r.len]; exact l), SqT.imm h k, List.getElem?_eq_getElem _⟩
 yl := fun i H' x H'' k y => ⟨y.1, fun t e => by
  obtain ⟨v, ev, rv⟩ := (r.imm k).get e
  have := y.2 vs (SqT.imm h k)
  rw [ev] at this; cases this; exact rv⟩
 st := fun H' k => ⟨vs, SqT.imm h k, by rw [r.len]; exact Nat.le_refl _⟩
theorem it_fz {K : PySem.W.Frag} {H : Hp} {a : Addr} {vs : List V} {ts : List PV} (h : Fz K H a vs) (r : Reps K H vs ts) : ItOk K H (Itl K a) ts where
 go := fun i H' l k => ⟨vs, vs[i]'(by rw [r.len]; exact l), (h.imm k).sq, List.getElem?_eq_getElem _⟩
 yl := fun i H' x H'' k y => ⟨y.1, fun t e => by
  obtain ⟨v, ev, rv⟩ := (r.imm k).get e
  have := y.2 vs (h.imm k).sq
  rw [ev] at this; cases this; exact rv⟩
 st := fun H' k => ⟨vs, (h.imm k).sq, by rw [r.len]; exact Nat.le_refl _⟩
theorem it_rng {K : PySem.W.Frag} {H : Hp} {n : Nat} : ItOk K H (Itr 0 n) ((List.range n).map fun k => PV.int (k : Nat)) where
 go := fun i H' l k => by rw [List.length_map, List.length_range] at l; exact l
 yl := fun i H' x H'' k y => ⟨y.1, fun t e => by
  rw [y.2]
  rw [List.getElem?_map] at e
  cases z : (List.range n)[i]? with
  | none => rw [z] at e; cases e
  | some w =>
   rw [z] at e
   cases e
   have := List.getElem?_eq_some_iff.mp z
   obtain ⟨l, e⟩ := this
   rw [List.getElem_range] at e
   subst e
   rw [Int.zero_add]
   exact .int _⟩
 st := fun H' k => by rw [List.length_map, List.length_range]; exact Nat.le_refl _
@[irreducible] def cForT (ce : TCE) (g : TCG) (u : TCS) : TCS := fun E ρ C => ce ρ C fun t C1 => match t with
 | .tup xs => cWalk g u E xs ρ C1
 | .kt xs => cWalk g u E xs ρ C1
 | _ => False
theorem cs_forT {tg iter : Expr} {body : List Stmt} {ce : TCE} {g : TCG} {u : TCS} (hp : PassesOwn (model X.prog X.w) X.A X.env X.xe) (hc : X.calm = true) (hi : CE X iter ce) (hg : CG X tg g) (hb : CB X body u)
  (hs : ∀ x, foldedSetIterable iter X.env x = pure x := by intro _; rfl) : CS X (.For tg iter body [] pos) (cForT ce g u) := ⟨JS.weak (js_for hp hc (ji_tup hi.h) hg.h hb.h hs) fun D σ H ⟨ρ, C, E, s, h, q, f⟩ => by
 unfold cForT at q
 exact ⟨ρ, C, _, s, h, q, fun x H1 px C1 q1 rx h1 f1 => by
  cases rx with
  | @tup a vs ts e r => exact ⟨a, rfl, ⟨vs, SqT.of e⟩, walk_it (it_tup (SqT.of e) r) (s.imm (f1.imm h)) h1 q1 (f.fw f1)⟩
  | @kt a vs ts e r => exact ⟨a, rfl, ⟨vs, e⟩, walk_it (it_tup e r) (s.imm (f1.imm h)) h1 q1 (f.fw f1)⟩
  | _ => exact q1.elim⟩⟩
def cForR (ca : TCA) (g : TCG) (u : TCS) : TCS := fun E ρ C => ca ρ C fun ts C1 => match ts with
 | [.int j] => -(2 ^ 62) ≤ j ∧ j < 2 ^ 62 ∧ cWalk g u E ((List.range j.toNat).map fun k => PV.int (k : Nat)) ρ C1
 | _ => False
theorem cs_forR {tg : Expr} {body : List Stmt} {ca : TCA} {g : TCG} {u : TCS} {p pos2 : Pos} (hp : PassesOwn (model X.prog X.w) X.A X.env X.xe) (hc : X.calm = true) (hgl : Gl X "range") (hm : X.mg "range" = none) (ha : CA X [a] ca) (hg : CG X tg g) (hb : CB X body u)
  (hst : noStar a = true := by rfl) (hs : ∀ x, foldedSetIterable (.Call (.Name "range" p) [a] [] pos2) X.env x = pure x := by intro _; rfl) : CS X (.For tg (.Call (.Name "range" p) [a] [] pos2) body [] pos) (cForR ca g u) := ⟨JS.weak (js_for hp hc (ji_range1 hgl hm ha.h hst) hg.h hb.h hs) fun D σ H ⟨ρ, C, E, s, h, q, f⟩ =>
 ⟨ρ, C, _, s, h, q, fun xs H1 ts C1 q1 rs h1 f1 => by
  split at q1
  ·next j =>
   cases rs with
   | cons r0 r =>
    cases r
    cases r0
    exact ⟨j, rfl, q1.1, q1.2.1, walk_it it_rng (s.imm (f1.imm h)) h1 q1.2.2 (f.fw f1)⟩
  ·exact q1.elim⟩⟩
def cWalkL (a : Addr) (g : TCG) (u : TCS) (E : CEnds) : Nat → Nat → CSt → CH → Prop
 | 0, _, _, _ => False
 | n + 1, i, ρ, C => match C a with
  | some (.lst xs) => match xs[i]? with
   | some x => g x ρ C fun ρ1 C1 => u { nx := cWalkL a g u E n (i + 1), ct := cWalkL a g u E n (i + 1), bk := E.nx, rt := E.rt } ρ1 C1
   | none => E.nx ρ C
  | _ => False
def cForL (ce : TCE) (g : TCG) (u : TCS) : TCS := fun E ρ C => ce ρ C fun t C1 => match t with
 | .ref a => ∃ n, cWalkL a g u E n 0 ρ C1
 | .fz xs => cWalk g u E xs ρ C1
 | _ => False
theorem cs_forL {tg iter : Expr} {body : List Stmt} {ce : TCE} {g : TCG} {u : TCS} (hp : PassesOwn (model X.prog X.w) X.A X.env X.xe) (hc : X.calm = true) (hi : CE X iter ce) (hg : CG X tg g) (hb : CB X body u)
  (hs : ∀ x, foldedSetIterable iter X.env x = pure x := by intro _; rfl) : CS X (.For tg iter body [] pos) (cForL ce g u) := ⟨JS.weak (js_for hp hc (ji_list hi.h) hg.h hb.h hs) fun D σ H ⟨ρ, C, E, s, h, q, f⟩ =>
 ⟨ρ, C, _, s, h, q, fun x H1 px C1 q1 rx h1 f1 => by
  cases rx with
  | @fz a vs ts e r => exact ⟨a, rfl, ⟨vs, e.sq⟩, walk_it (it_fz e r) (s.imm (f1.imm h)) h1 q1 (f.fw f1)⟩
  | ref a =>
   obtain ⟨n, q1⟩ := q1
   have ex : ∃ ys, SqL X.K H1 a ys := by
    cases n with
    | zero => exact q1.elim
    | succ n =>
     unfold cWalkL at q1
     split at q1
     ·next xs e => obtain ⟨vs, ev, _⟩ := h1 a _ e; exact ⟨vs, SqL.of ev⟩
     ·exact q1.elim
   refine ⟨a, rfl, ex, fun i m σ' H' => ∃ ρ' C', SRel X.K H' σ' ρ' ∧ HRel X.K H' C' ∧ Fw H1 C1 H' C' ∧ cWalkL a g u E m i ρ' C', ⟨n, ρ, C1, s.imm (f1.imm h), h1, Fw.refl, q1⟩, ?_⟩
   rintro i m σ2 H2 ⟨ρ2, C2, s2, h2, f2, q2⟩
   cases m with
   | zero => exact q2.elim
   | succ m =>
    unfold cWalkL at q2
    split at q2
    ·next xs e =>
     obtain ⟨vs, ev, rv⟩ := h2 a _ e
     split at q2
     ·next x ex =>
      obtain ⟨v, ev', rx⟩ := rv.get ex
      refine .inr ⟨⟨vs, v, SqL.of ev, ev'⟩, fun σ' H' => ∃ ρ' C', SRel X.K H' σ' ρ' ∧ HRel X.K H' C' ∧ Fw H1 C1 H' C' ∧ cWalkL a g u E m (i + 1) ρ' C', fun σ' H' z => ⟨m, Nat.lt_succ_self m, z⟩, fun y H3 hy => ?_⟩
      obtain ⟨rfl, hy⟩ := hy
      have := hy vs (SqL.of ev)
      rw [ev'] at this; cases this
      exact ⟨x, ρ2, C2, _, rx, s2, h2, q2, fun σ' H' ρ' C' q' s' h' f' => ⟨ρ', C', _, s', h', q', ⟨fun σ3 H3 ρ3 C3 q3 s3 h3 f3 => ⟨ρ3, C3, s3, h3, f2.trans (f'.trans f3), q3⟩, fun v H3 t C3 q3 r3 h3 f3 => f.rt v H3 t C3 q3 r3 h3 (f1.trans (f2.trans (f'.trans f3))),
       fun σ3 H3 ρ3 C3 q3 s3 h3 f3 => f.nx σ3 H3 ρ3 C3 q3 s3 h3 (f1.trans (f2.trans (f'.trans f3))), fun σ3 H3 ρ3 C3 q3 s3 h3 f3 => ⟨ρ3, C3, s3, h3, f2.trans (f'.trans f3), q3⟩⟩⟩⟩
     ·next ex =>
      refine .inl ⟨⟨vs, SqL.of ev, ?_⟩, f.nx σ2 H2 ρ2 C2 q2 s2 h2 (f1.trans f2)⟩
      rw [rv.len]
      exact List.getElem?_eq_none_iff.mp ex
    ·exact q2.elim
  | _ => exact q1.elim⟩⟩
def cCompW (t : TCT) (c : TCE) (ρ : CSt) (Q : K1) : List PV → List PV → CH → Prop
 | [], acc, C => ∀ p, C p = none → Q (.ref p) (updC C p (.lst acc))
 | x :: r, acc, C => t (some x :: ρ) C fun b C1 => if b = true then c (some x :: ρ) C1 fun y C2 => acc.length < sizeLine ∧ cCompW t c ρ Q r (acc ++ [y]) C2 else cCompW t c ρ Q r acc C1
structure CF (X : Cx) (ifs : List Expr) (c : TCT) : Prop where
 h : JF X ifs (lift X.K relT c)
def cYes : TCT := fun _ C Q => Q true C
theorem JF.weak {ifs : List Expr} {t t' : TT} (h : JF X ifs t) (w : ∀ σ H Q, t' σ H Q → t σ H Q) : JF X ifs t' := ⟨fun pins s σ H Q I q => h.h pins s σ H Q I (w σ H Q q)⟩
theorem cf_nil : CF X [] cYes := ⟨JF.weak jf_nil fun σ H Q ⟨ρ, C, R, s, h, q, f⟩ => f true H true C q rfl h Fw.refl⟩
theorem cf_one {t : TCT} (h : CT X c t) : CF X [c] t := ⟨jf_one h.h⟩
theorem comp_it {K : PySem.W.Frag} {H H0 : Hp} {C C0 : CH} {σ : St} {ρ : CSt} {J : It} {ps : List PV} {t : TCT} {c : TCE} {R : K1} {Q : VK} (j : ItOk K H J ps) (s : SRel K H σ ρ) (h : HRel K H C) (q : cCompW t c ρ R ps [] C)
  (h0 : HRel K H0 C0) (f0 : Fw H0 C0 H C) (f : ∀ v H' p C', R p C' → Rep K H' v p → HRel K H' C' → Fw H0 C0 H' C' → Q v H') {D : Addr} (hD : H D = none) :
  ∃ W : Nat → Nat → List V → Hp → Prop, (∃ m, W 0 m [] (upd H D (.lst []))) ∧ ∀ i m ys H, W i m ys H →
   (J.stop i H ∧ Q (.ref D) H) ∨ (J.go i H ∧ ∀ x H', J.yld i H x H' → lift K relT t (some x :: σ) H' fun b H2 =>
    if b = true then lift K (Rep K) c (some x :: σ) H2 fun y H3 => H3 D = some (.lst ys) ∧ ys.length < sizeLine ∧ ∃ m', m' < m ∧ W (i + 1) m' (ys ++ [y]) (upd H3 D (.lst (ys ++ [y])))
    else ∃ m', m' < m ∧ W (i + 1) m' ys H2) := by
 have fD : ∀ {H' : Hp} {C' : CH}, Fw H C H' C' → True := fun _ => trivial
 refine ⟨fun i m ys H' => m = ps.length - i ∧ i ≤ ps.length ∧ ∃ acc C', H' D = some (.lst ys) ∧ C' D = none ∧ Reps K H' ys acc ∧ HRel K H' C' ∧ Fw H C H' C' ∧ cCompW t c ρ R (ps.drop i) acc C',
  ⟨ps.length, rfl, Nat.zero_le _, [], C, upd_same, h.fresh hD, .nil, h.new hD _, Fw.new hD _, q⟩, ?_⟩
 rintro i m ys H1 ⟨rfl, hi, acc, C1, e1, n1, r1, h1, f1, q1⟩
 have k1 : Imm H H1 := f1.imm h
 by_cases hlt : i < ps.length
 ·refine .inr ⟨j.go i H1 hlt k1, fun x H2 y => ?_⟩
  obtain ⟨rfl, y⟩ := j.yl i H1 x H2 k1 y
  have rx := y _ (List.getElem?_eq_getElem hlt)
  rw [List.drop_eq_getElem_cons hlt] at q1
  refine ⟨some ps[i] :: ρ, C1, _, .cons rx (s.imm k1), h1, q1, fun b H3 b' C3 q3 e h3 f3 => ?_⟩
  cases e
  obtain ⟨n3, e3⟩ := f3 D (by rw [n1]; rfl) (by rw [e1]; exact fun z => nomatch z)
  rw [e1] at e3
  rw [n1] at n3
  have k3 := f3.imm h1
  cases b with
  | true =>
   rw [if_pos rfl] at q3 ⊢
   refine ⟨some ps[i] :: ρ, C3, _, .cons (rx.imm k3) ((s.imm k1).imm k3), h3, q3, fun v H4 p C4 q4 r4 h4 f4 => ?_⟩
   obtain ⟨n4, e4⟩ := f4 D (by rw [n3]; rfl) (by rw [e3]; exact fun z => nomatch z)
   rw [e3] at e4
   rw [n3] at n4
   have k4 := f4.imm h3
   have m4 : Imm H4 (upd H4 D (.lst (ys ++ [v]))) := Imm.mut e4 rfl _
   refine ⟨e4, by rw [r1.len]; exact q4.1, ps.length - (i + 1), by omega, rfl, hlt, acc ++ [p], C4, upd_same, n4, ?_, ?_, ?_, q4.2⟩
   ·exact (((r1.imm k3).imm k4).append (.cons r4 .nil)).imm m4
   ·intro a o ca
    have ne : a ≠ D := fun z => by subst z; rw [n4] at ca; cases ca
    exact (h4 a o ca).imm m4 (upd_ne ne)
   ·intro a ca na
    have ne : a ≠ D := fun z => na (z ▸ hD)
    obtain ⟨x1, x2⟩ := (f1.trans (f3.trans f4)) a ca na
    exact ⟨x1, (upd_ne ne).trans x2⟩
  | false =>
   rw [if_neg Bool.false_ne_true] at q3 ⊢
   exact ⟨ps.length - (i + 1), by omega, rfl, hlt, acc, C3, e3, n3, r1.imm k3, h3, f1.trans f3, q3⟩
 ·have e : i = ps.length := by omega
  subst e
  rw [List.drop_length] at q1
  refine .inl ⟨j.st H1 k1, f (.ref D) H1 (.ref D) _ (q1 D n1) (.ref D) ?_ ?_⟩
  ·intro a o ca
   by_cases z : a = D
   ·subst z; rw [updC_same] at ca; cases ca; exact ⟨ys, e1, r1⟩
   ·rw [updC_ne z] at ca; exact h1 a o ca
  ·intro a ca na
   obtain ⟨x1, x2⟩ := f0 a ca na
   have na' : H a ≠ none := by rw [x2]; exact na
   have ne : a ≠ D := fun z => na' (z ▸ hD)
   obtain ⟨y1, y2⟩ := f1 a (by rw [x1]; exact ca) na'
   exact ⟨(updC_ne ne).trans (y1.trans x1), y2.trans x2⟩
structure CI (X : Cx) (tg it : Expr) (wi : TI) (c : CSt → CH → (List PV → CH → Prop) → Prop) : Prop where
 j : JI X tg it wi
 w : ∀ σ H ρ C R Q, SRel X.K H σ ρ → HRel X.K H C → c ρ C R → (∀ J H' ps C', R ps C' → ItOk X.K H' J ps → HRel X.K H' C' → Fw H C H' C' → Q J H') → wi σ H Q
def cItT (ce : TCE) : CSt → CH → (List PV → CH → Prop) → Prop := fun ρ C Q => ce ρ C fun t C1 => match t with
 | .tup xs => Q xs C1
 | .kt xs => Q xs C1
 | _ => False
theorem ci_tup {tg : Expr} {ce : TCE} (h : CE X e ce) : CI X tg e (iTup X.K (lift X.K (Rep X.K) ce)) (cItT ce) := ⟨ji_tup h.h, fun σ H ρ C R Q s h q f => ⟨ρ, C, _, s, h, q, fun x H1 px C1 q1 rx h1 f1 => by
  cases rx with
  | @tup a vs ts e r => exact ⟨a, rfl, ⟨vs, SqT.of e⟩, f _ H1 ts C1 q1 (it_tup (SqT.of e) r) h1 f1⟩
  | @kt a vs ts e r => exact ⟨a, rfl, ⟨vs, e⟩, f _ H1 ts C1 q1 (it_tup e r) h1 f1⟩
  | _ => exact q1.elim⟩⟩
def cItR (ca : TCA) : CSt → CH → (List PV → CH → Prop) → Prop := fun ρ C Q => ca ρ C fun ts C1 => match ts with
 | [.int j] => -(2 ^ 62) ≤ j ∧ j < 2 ^ 62 ∧ Q ((List.range j.toNat).map fun k => PV.int (k : Nat)) C1
 | _ => False
theorem ci_rng {tg : Expr} {ca : TCA} {p pos2 : Pos} (hgl : Gl X "range") (hm : X.mg "range" = none) (ha : CA X [a] ca) (hst : noStar a = true := by rfl) : CI X tg (.Call (.Name "range" p) [a] [] pos2) (iRng1 (lift X.K (Reps X.K) ca)) (cItR ca) := ⟨ji_range1 hgl hm ha.h hst, fun σ H ρ C R Q s h q f => ⟨ρ, C, _, s, h, q, fun xs H1 ts C1 q1 rs h1 f1 => by
  split at q1
  ·next j =>
   cases rs with
   | cons r0 r =>
    cases r
    cases r0
    exact ⟨j, rfl, q1.1, q1.2.1, f _ H1 _ C1 q1.2.2 it_rng h1 f1⟩
  ·exact q1.elim⟩⟩
def cComp (ci : CSt → CH → (List PV → CH → Prop) → Prop) (t : TCT) (c : TCE) : TCE := fun ρ C Q => ci ρ C fun ps C1 => cCompW t c ρ Q ps [] C1
theorem lift_comp {wi : TI} {tg it : Expr} {ci : CSt → CH → (List PV → CH → Prop) → Prop} {t : TCT} {c : TCE} (hi : CI X tg it wi ci) {σ : St} {H : Hp} {Q : VK} (h : lift X.K (Rep X.K) (cComp ci t c) σ H Q) : tComp wi (lift X.K relT t) (lift X.K (Rep X.K) c) σ H Q := by
 obtain ⟨ρ, C, R, s, h, q, f⟩ := h
 exact hi.w σ H ρ C _ _ s h q fun J H' ps C' q' j h' f' D hD => comp_it j (s.imm (f'.imm h)) h' q' h f' f hD
theorem ce_comp {elt iter : Expr} {x : Str} {px : Pos} {ifs : List Expr} {scope : Scope} {wi : TI} {ci : CSt → CH → (List PV → CH → Prop) → Prop} {t : TCT} {c : TCE}
  (hc : X.calm = true) (hN : (x :: X.N).Nodup) (K : ∃ cl, CompOk X x scope cl) (hi : CI X (.Name x px) iter wi ci)
  (ht : ∀ cl fp C s₂ H₂, CF (cxComp X x scope cl fp C s₂ H₂) ifs t) (he : ∀ cl fp C s₂ H₂, CE (cxComp X x scope cl fp C s₂ H₂) elt c)
  (hs : ∀ v, foldedSetIterable iter X.env v = pure v := by intro _; rfl) : CE X (.ListComp elt [⟨.Name x px, iter, ifs, 0⟩] scope pos) (cComp ci t c) :=
 ⟨JE.weak (je_compF hc hN K hi.j (fun cl fp C s₂ H₂ => (ht cl fp C s₂ H₂).h) (fun cl fp C s₂ H₂ => (he cl fp C s₂ H₂).h) hs) fun _ _ _ h => lift_comp hi h⟩
end
end CL
set_option Elab.async false
set_option linter.all false
set_option maxRecDepth 100000
set_option maxHeartbeats 4000000
namespace CL
open PySem PySem.Spec L2
open PyProof.Rows hiding St
def startC (N : List Str) (ts : List PV) : CSt := ts.map some ++ List.replicate (N.length - ts.length) none
theorem srel_none {K : PySem.W.Frag} {H : Hp} : ∀ n, SRel K H (List.replicate n none) (List.replicate n none)
 | 0 => .nil
 | n + 1 => .cons trivial (srel_none n)
theorem srel_app {K : PySem.W.Frag} {H : Hp} {σ : St} {ρ : CSt} (s : SRel K H σ ρ) : ∀ {vs : List V} {ts : List PV}, Reps K H vs ts → SRel K H (vs.map some ++ σ) (ts.map some ++ ρ)
 | _, _, .nil => s
 | _, _, .cons h r => .cons h (srel_app s r)
theorem srel_start {K : PySem.W.Frag} {H : Hp} {N : List Str} {vs : List V} {ts : List PV} (r : Reps K H vs ts) : SRel K H (L2.start N vs) (startC N ts) := by
 unfold L2.start startC
 rw [r.len]
 exact srel_app (srel_none _) r
section
variable {P : Program} {w : World} {K : PySem.W.Frag} {mg : Str → Option Value} {base : Heap}
theorem Fun.okC {x qual : Str} {st : Stmt} {f : Addr} {fd : FuncData} {N ps : List Str} {k : Nat} {G : GC} (F : Fun K x qual st f fd) (S : FnScope N ps (defScope st)) (len : ∀ ts C R, G ts C R → ts.length = ps.length)
  (hbody : ∀ (cdv : Value) (A : Around) (outer : List Env) (s : Shared) (H : Hp) (E : XK), Room k (A.deeper (envOfC qual (defScope st) s.heap.objs.size f cdv)) →
   ∃ c, CB (cxOf CX0 P w K mg base N qual (defScope st) f cdv A outer s H E).nox (defBody st) c ∧ ∀ ts C R, G ts C R → c { nx := fun _ C' => R .non C', rt := R } (startC N ts) C) : FnOk P w K mg base CX0 (k + 1) f fd ps (spC K G) := by
 refine F.okJ S ?_ ?_
 ·rintro vs H Q E ⟨ts, C, R, r, h, g, f⟩
  rw [r.len]; exact len ts C R g
 ·rintro cdv A outer s H vs Q E hr ⟨ts, C, R, r, h, g, f⟩
  obtain ⟨c, hc, q⟩ := hbody cdv A outer s H E hr
  refine ⟨_, hc.h, startC N ts, C, _, srel_start r, h, q ts C R g, ⟨fun σ' H' ρ' C' q' s' h' f' => f .non H' .non C' q' .non h' f', f, fun _ _ _ _ q' _ _ _ => q'.elim, fun _ _ _ _ q' _ _ _ => q'.elim⟩⟩
end
section
variable {X : Cx} {a b c e o i : Expr} {es : List Expr} {pos : Pos}
@[irreducible] def cI (g : Int → Int → PV) : R2C := fun x y C Q => match x, y with
 | .int i, .int j => Q (g i j) C
 | _, _ => False
def cIc (P : Int → Int → Prop) (g : Int → Int → PV) : R2C := fun x y C Q => match x, y with
 | .int i, .int j => P i j ∧ Q (g i j) C
 | _, _ => False
theorem cop_I {K : PySem.W.Frag} {g : Int → Int → V} {g' : Int → Int → PV} (hg : ∀ i j H, Rep K H (g i j) (g' i j)) : Cop K (rI0 g) (cI g') := fun x y px py H C Q R rx ry h q f => by
 unfold cI at q
 split at q
 ·cases rx; cases ry
  exact ⟨_, _, rfl, rfl, f _ H _ C q (hg _ _ _) h Fw.refl⟩
 ·exact q.elim
theorem cop_Ic {K : PySem.W.Frag} {P : Int → Int → Prop} {g : Int → Int → V} {g' : Int → Int → PV} (hg : ∀ i j H, Rep K H (g i j) (g' i j)) : Cop K (rI P g) (cIc P g') := fun x y px py H C Q R rx ry h q f => by
 unfold cIc at q
 split at q
 ·cases rx; cases ry
  exact ⟨_, _, rfl, rfl, q.1, f _ H _ C q.2 (hg _ _ _) h Fw.refl⟩
 ·exact q.elim
theorem cop_sub {K : PySem.W.Frag} : Cop K (rI0 fun i j => .int (i - j)) (cI fun i j => .int (i - j)) := cop_I fun _ _ _ => .int _
theorem cop_mul {K : PySem.W.Frag} : Cop K (rI CMul fun i j => .int (i * j)) (cIc CMul fun i j => .int (i * j)) := cop_Ic fun _ _ _ => .int _
theorem cop_fdiv {K : PySem.W.Frag} : Cop K (rI (fun _ j => 0 < j ∧ j < 18446744073709551616) fun i j => .int (i / j)) (cIc (fun _ j => 0 < j ∧ j < 18446744073709551616) fun i j => .int (i / j)) := cop_Ic fun _ _ _ => .int _
theorem cop_mod {K : PySem.W.Frag} : Cop K (rI (fun _ j => 0 < j) fun i j => .int (i % j)) (cIc (fun _ j => 0 < j) fun i j => .int (i % j)) := cop_Ic fun _ _ _ => .int _
theorem cop_pow {K : PySem.W.Frag} : Cop K (rI CPow fun i j => .int (i ^ j.toNat)) (cIc CPow fun i j => .int (i ^ j.toNat)) := cop_Ic fun _ _ _ => .int _
theorem cop_lt {K : PySem.W.Frag} : Cop K (rI0 fun i j => .bl (decide (i < j))) (cI fun i j => .bl (decide (i < j))) := cop_I fun _ _ _ => .bl _
theorem cop_gt {K : PySem.W.Frag} : Cop K (rI0 fun i j => .bl (decide (j < i))) (cI fun i j => .bl (decide (j < i))) := cop_I fun _ _ _ => .bl _
def cNeg : PV → CH → K1 → Prop := fun x C Q => match x with
 | .int i => Q (.int (-i)) C
 | _ => False
theorem cun_neg {K : PySem.W.Frag} : Cun K (rU fun i => .int (-i)) cNeg := fun x px H C Q R rx h q f => by
 unfold cNeg at q
 split at q
 ·cases rx; exact ⟨_, rfl, f _ H _ C q (.int _) h Fw.refl⟩
 ·exact q.elim
theorem fw_same {H H' : Hp} {C : CH} (s : Same H H') : Fw H C H' C := fun a c n => ⟨rfl, by
 cases e : H a with
 | none => exact absurd e n
 | some o => exact s a o e⟩
theorem hrel_same {K : PySem.W.Frag} {H H' : Hp} {C : CH} (h : HRel K H C) (s : Same H H') : HRel K H' C := fun a o c => by
 obtain ⟨u, e, _⟩ := (h a o c).mut
 exact (h a o c).imm (fun b v _ e => s b v e) ((s a u e).trans e.symm)
@[irreducible] def cAdd : R2C := fun x y C Q => match x, y with
 | .int i, .int j => Q (.int (i + j)) C
 | .str i, .str j => i.length + j.length ≤ sizeLine ∧ Q (.str (i ++ j)) C
 | .tup xs, .tup ys => xs.length + ys.length ≤ sizeLine ∧ Q (.tup (xs ++ ys)) C
 | .ref a, .ref b => match C a, C b with
  | some (.lst xs), some (.lst ys) => xs.length + ys.length ≤ sizeLine ∧ ∀ p, C p = none → Q (.ref p) (updC C p (.lst (xs ++ ys)))
  | _, _ => False
 | _, _ => False
abbrev rAddC : R2 := fun x y H Q => rI0 (fun i j => .int (i + j)) x y H Q ∨ ((∃ i j, x = .str i ∧ y = .str j ∧ i.length + j.length ≤ sizeLine ∧ Q (.str (i ++ j)) H) ∨ (rCatU x y H Q ∨ rCat x y H Q))
theorem op_addC : OpR X (binaryOp .Add) rAddC := OpR.or op_add (OpR.or op_add_str (OpR.or op_catU op_cat))
theorem cop_add {K : PySem.W.Frag} : Cop K rAddC cAdd := fun x y px py H C Q R rx ry h q f => by
 unfold cAdd at q
 split at q
 ·cases rx; cases ry
  exact .inl ⟨_, _, rfl, rfl, f _ H _ C q (.int _) h Fw.refl⟩
 ·cases rx; cases ry
  exact .inr (.inl ⟨_, _, rfl, rfl, q.1, f _ H _ C q.2 (.str _) h Fw.refl⟩)
 ·cases rx with
  | tup e r => cases ry with
   | tup e' r' =>
    refine .inr (.inr (.inl ⟨_, _, _, _, rfl, rfl, e, e', by rw [r.len, r'.len]; exact q.1, fun z H' s hz _ => ?_⟩))
    exact f _ H' _ C q.2 (.tup hz ((r.append r').imm fun b v _ e => s b v e)) (hrel_same h s) (fw_same s)
 ·split at q
  ·next xs ys e1 e2 =>
   obtain ⟨vs, ev, rv⟩ := h _ _ e1
   obtain ⟨us, eu, ru⟩ := h _ _ e2
   cases rx; cases ry
   refine .inr (.inr (.inr ⟨_, _, _, _, rfl, rfl, ev, eu, by rw [rv.len, ru.len]; exact q.1, fun p hp => ?_⟩))
   exact f _ _ _ _ (q.2 p (h.fresh hp)) (.ref p) (h.lay hp ⟨_, upd_same, (rv.append ru).imm (Imm.new hp _)⟩) (Fw.lay hp _ _)
  ·exact q.elim
 ·exact q.elim
def sEq : PV → PV → Option Bool
 | .non, .non => some true | .non, .int _ => some false | .int _, .non => some false | .non, .bl _ => some false | .bl _, .non => some false | .non, .str _ => some false | .str _, .non => some false
 | .int i, .int j => some (decide (i = j)) | .bl b, .bl c => some (decide (b = c)) | .str x, .str y => some (decide (x = y))
 | .int _, .str _ => some false | .str _, .int _ => some false | .bl _, .str _ => some false | .str _, .bl _ => some false
 | _, _ => none
@[irreducible] def cEq (k : Bool → Bool) : R2C := fun x y C Q => match sEq x y with
 | some b => Q (.bl (k b)) C
 | none => False
theorem sEq_rep {K : PySem.W.Frag} {H : Hp} {x y : V} {px py : PV} {b : Bool} (rx : Rep K H x px) (ry : Rep K H y py) (e : sEq px py = some b) : scal x y = true ∧ decide (x = y) = b := by
 cases rx <;> cases ry <;> cases e <;> exact ⟨rfl, by simp⟩
theorem cop_eq {K : PySem.W.Frag} : Cop K rEq (cEq id) := fun x y px py H C Q R rx ry h q f => by
 unfold cEq at q
 split at q
 ·next b e =>
  obtain ⟨h1, h2⟩ := sEq_rep rx ry e
  refine ⟨h1, ?_⟩
  rw [h2]
  exact f _ H _ C q (.bl _) h Fw.refl
 ·exact q.elim
theorem cop_ne {K : PySem.W.Frag} : Cop K rNe (cEq not) := fun x y px py H C Q R rx ry h q f => by
 unfold cEq at q
 split at q
 ·next b e =>
  obtain ⟨h1, h2⟩ := sEq_rep rx ry e
  refine ⟨h1, ?_⟩
  rw [h2]
  exact f _ H _ C q (.bl _) h Fw.refl
 ·exact q.elim
def isNo : PV → Bool
 | .non => true
 | _ => false
def cIs (k : Bool → Bool) : R2C := fun x y C Q => match y with
 | .non => Q (.bl (k (isNo x))) C
 | _ => False
theorem isNo_rep {K : PySem.W.Frag} {H : Hp} {x : V} {px : PV} (r : Rep K H x px) : decide (x = .non) = isNo px := by
 cases r <;> simp [isNo]
theorem cop_isN {K : PySem.W.Frag} : Cop K (fun x y H Q => y = .non ∧ Q (.bl (decide (x = .non))) H) (cIs id) := fun x y px py H C Q R rx ry h q f => by
 cases ry with
 | non => exact ⟨rfl, by rw [isNo_rep rx]; exact f _ H _ C q (.bl _) h Fw.refl⟩
 | _ => exact q.elim
def cAt (xs : List PV) (i : Int) (C : CH) (Q : K1) : Prop := match atI xs i with
 | some v => Q v C
 | none => False
@[irreducible] def cIx : R2C := fun x y C Q => match x, y with
 | .tup xs, .int i => cAt xs i C Q
 | .kt xs, .int i => cAt xs i C Q
 | .fz xs, .int i => cAt xs i C Q
 | .ref a, .int i => match C a with
  | some (.lst xs) => cAt xs i C Q
  | _ => False
 | .str z, .int i => z.length ≤ sizeLine ∧ match atI z.cps.toList i with
  | some c => Q (.str ⟨#[c]⟩) C
  | none => False
 | _, _ => False
theorem Reps.at {K : PySem.W.Frag} {H : Hp} {vs : List V} {ts : List PV} {i : Int} {t : PV} (r : Reps K H vs ts) (e : atI ts i = some t) : ∃ v, atI vs i = some v ∧ Rep K H v t := by
 unfold atI at e ⊢
 rw [r.len]
 cases z : ixN ts.length i with
 | none => rw [z] at e; cases e
 | some j =>
  rw [z] at e
  exact r.get e
theorem cAt_of {K : PySem.W.Frag} {H : Hp} {C : CH} {vs : List V} {ts : List PV} {i : Int} {R : K1} (r : Reps K H vs ts) (q : cAt ts i C R) : ∃ v t, atI vs i = some v ∧ Rep K H v t ∧ R t C := by
 unfold cAt at q
 split at q
 ·next t e =>
  obtain ⟨v, e', r'⟩ := r.at e
  exact ⟨v, t, e', r', q⟩
 ·exact q.elim
theorem cop_ix {K : PySem.W.Frag} : Cop K (rIx K) cIx := fun x y px py H C Q R rx ry h q f => by
 unfold cIx at q
 split at q
 ·cases ry
  cases rx with
  | tup e r =>
   obtain ⟨v, t, e', r', q⟩ := cAt_of r q
   exact .inr (.inl ⟨_, _, _, v, rfl, rfl, SqT.of e, e', f _ H _ C q r' h Fw.refl⟩)
 ·cases ry
  cases rx with
  | kt e r =>
   obtain ⟨v, t, e', r', q⟩ := cAt_of r q
   exact .inr (.inl ⟨_, _, _, v, rfl, rfl, e, e', f _ H _ C q r' h Fw.refl⟩)
 ·cases ry
  cases rx with
  | fz e r =>
   obtain ⟨v, t, e', r', q⟩ := cAt_of r q
   exact .inl ⟨_, _, _, v, rfl, rfl, e.sq, e', f _ H _ C q r' h Fw.refl⟩
 ·cases ry
  split at q
  ·next xs e =>
   obtain ⟨vs, ev, rv⟩ := h _ _ e
   cases rx
   obtain ⟨v, t, e', r', q⟩ := cAt_of rv q
   exact .inl ⟨_, _, _, v, rfl, rfl, SqL.of ev, e', f _ H _ C q r' h Fw.refl⟩
  ·exact q.elim
 ·cases ry; cases rx
  obtain ⟨q1, q2⟩ := q
  split at q2
  ·next c e => exact .inr (.inr ⟨_, _, c, rfl, rfl, q1, e, f _ H _ C q2 (.str _) h Fw.refl⟩)
  ·exact q2.elim
 ·exact q.elim
theorem ix_seqC : IxR X (rIx X.K) := ix_seq
@[irreducible] def cLen : GC := fun ts C Q => match ts with
 | [.tup xs] => Q (.int xs.length) C
 | [.kt xs] => Q (.int xs.length) C
 | [.fz xs] => Q (.int xs.length) C
 | [.ref a] => match C a with
  | some (.lst xs) => Q (.int xs.length) C
  | some (.dK kvs) => Q (.int kvs.length) C
  | _ => False
 | [.str z] => z.length ≤ sizeLine ∧ Q (.int z.length) C
 | _ => False
abbrev rLenC (K : PySem.W.Frag) : List V → Hp → VK → Prop := fun xs H Q => (∃ p ys, xs = [.ref p] ∧ (SqL K H p ys ∨ SqT K H p ys) ∧ Q (.int ys.length) H) ∨ ((∃ a kvs, xs = [V.ref a] ∧ H a = some (.dK kvs) ∧ Q (.int kvs.length) H) ∨ ∃ z, xs = [.str z] ∧ z.length ≤ sizeLine ∧ Q (.int z.length) H)
theorem call_lenC : CallR X (.builtin "len") (rLenC X.K) := CallR.or call_len_seq (CallR.or call_lenD call_len_str)
theorem rep_one {K : PySem.W.Frag} {H : Hp} {xs : List V} {t : PV} (r : Reps K H xs [t]) : ∃ v, xs = [v] ∧ Rep K H v t := by
 cases r with
 | cons h r => cases r; exact ⟨_, rfl, h⟩
theorem rep_two {K : PySem.W.Frag} {H : Hp} {xs : List V} {t u : PV} (r : Reps K H xs [t, u]) : ∃ v w, xs = [v, w] ∧ Rep K H v t ∧ Rep K H w u := by
 cases r with
 | cons h r => obtain ⟨w, rfl, h'⟩ := rep_one r; exact ⟨_, w, rfl, h, h'⟩
theorem cbi_len {K : PySem.W.Frag} : Cbi K (rLenC K) cLen := fun xs ps H C Q R rs h q f => by
 unfold cLen at q
 split at q
 ·obtain ⟨v, rfl, r⟩ := rep_one rs
  cases r with
  | tup e r => exact .inl ⟨_, _, rfl, .inr (SqT.of e), f _ H _ C (by rw [r.len]; exact q) (.int _) h Fw.refl⟩
 ·obtain ⟨v, rfl, r⟩ := rep_one rs
  cases r with
  | kt e r => exact .inl ⟨_, _, rfl, .inr e, f _ H _ C (by rw [r.len]; exact q) (.int _) h Fw.refl⟩
 ·obtain ⟨v, rfl, r⟩ := rep_one rs
  cases r with
  | fz e r => exact .inl ⟨_, _, rfl, .inl e.sq, f _ H _ C (by rw [r.len]; exact q) (.int _) h Fw.refl⟩
 ·obtain ⟨v, rfl, r⟩ := rep_one rs
  split at q
  ·next xs e =>
   obtain ⟨vs, ev, rv⟩ := h _ _ e
   cases r
   exact .inl ⟨_, _, rfl, .inl (SqL.of ev), f _ H _ C (by rw [rv.len]; exact q) (.int _) h Fw.refl⟩
  ·next kvs e =>
   obtain ⟨vs, ev, rv⟩ := h _ _ e
   cases r
   exact .inr (.inl ⟨_, _, rfl, ev, f _ H _ C (by rw [Paired.length rv]; exact q) (.int _) h Fw.refl⟩)
  ·exact q.elim
 ·obtain ⟨v, rfl, r⟩ := rep_one rs
  cases r
  exact .inr (.inr ⟨_, rfl, q.1, f _ H _ C q.2 (.int _) h Fw.refl⟩)
 ·exact q.elim
def tyP (C : CH) : PV → Option Ty
 | .non => some .non
 | .bl _ => some .bl
 | .int _ => some .int
 | .str _ => some .str
 | .tup _ => some .tup
 | .ref a => match C a with
  | some (.lst _) => some .lst
  | some (.dK _) => some .dct
  | _ => none
 | _ => none
theorem tyP_rep {K : PySem.W.Frag} {H : Hp} {C : CH} {x : V} {t : PV} {n : Ty} (r : Rep K H x t) (h : HRel K H C) (e : tyP C t = some n) : tyN H x = some n := by
 cases r with
 | tup e' _ => cases e; show (H _).bind tyH = _; rw [e']; rfl
 | ref a =>
  unfold tyP at e
  dsimp only at e
  split at e
  ·next xs c => cases e; obtain ⟨vs, ev, _⟩ := h _ _ c; show (H _).bind tyH = _; rw [ev]; rfl
  ·next xs c => cases e; obtain ⟨vs, ev, _⟩ := h _ _ c; show (H _).bind tyH = _; rw [ev]; rfl
  ·cases e
 | kt _ _ => cases e
 | fz _ _ => cases e
 | ty _ => cases e
 | vw _ => cases e
 | _ => cases e; rfl
def tyOfName (n : String) : Option Ty := [Ty.non, .bl, .int, .str, .lst, .tup, .dct].find? fun t => tyName t == n
theorem tyOfName_is {n : String} {t : Ty} (h : tyOfName n = some t) : n = tyName t := by
 have := List.find?_some h
 exact (eq_of_beq this).symm
@[irreducible] def cIsi : GC := fun ts C Q => match ts with
 | [x, .ty n] => match tyOfName n, tyP C x with
  | some T, some k => Q (.bl (isIn k T)) C
  | _, _ => False
 | _ => False
theorem cbi_isi {K : PySem.W.Frag} : Cbi K (fun xs H Q => ∃ x T n, xs = [x, .ty (tyName T)] ∧ tyN H x = some n ∧ Q (.bl (isIn n T)) H) cIsi := fun xs ps H C Q R rs h q f => by
 unfold cIsi at q
 split at q
 ·split at q
  ·next T k e1 e2 =>
   obtain ⟨v, w, rfl, r1, r2⟩ := rep_two rs
   cases r2
   rw [tyOfName_is e1]
   exact ⟨v, T, k, rfl, tyP_rep r1 h e2, f _ H _ C q (.bl _) h Fw.refl⟩
  ·exact q.elim
 ·exact q.elim
def cAbs : GC := fun ts C Q => match ts with
 | [.int i] => Q (.int (if i < 0 then -i else i)) C
 | _ => False
theorem cbi_abs {K : PySem.W.Frag} : Cbi K (fun xs H Q => ∃ i, xs = [.int i] ∧ Q (.int (if i < 0 then -i else i)) H) cAbs := fun xs ps H C Q R rs h q f => by
 unfold cAbs at q
 split at q
 ·obtain ⟨v, rfl, r⟩ := rep_one rs
  cases r
  exact ⟨_, rfl, f _ H _ C q (.int _) h Fw.refl⟩
 ·exact q.elim
@[irreducible] def cTupOf : GC := fun ts C Q => match ts with
 | [.tup xs] => Q (.tup xs) C
 | [.ref a] => match C a with
  | some (.lst xs) => Q (.tup xs) C
  | _ => False
 | _ => False
theorem cbi_tup {K : PySem.W.Frag} : Cbi K (fun xs H Q => ∃ p ys, xs = [.ref p] ∧ ((SqL K H p ys ∧ ∀ l, H l = none → Q (.ref l) (upd H l (.tup ys))) ∨ (SqT K H p ys ∧ Q (.ref p) H))) cTupOf := fun xs ps H C Q R rs h q f => by
 unfold cTupOf at q
 split at q
 ·obtain ⟨v, rfl, r⟩ := rep_one rs
  cases r with
  | tup e r => exact ⟨_, _, rfl, .inr ⟨SqT.of e, f _ H _ C q (.tup e r) h Fw.refl⟩⟩
 ·obtain ⟨v, rfl, r⟩ := rep_one rs
  split at q
  ·next xs e =>
   obtain ⟨vs, ev, rv⟩ := h _ _ e
   cases r
   exact ⟨_, _, rfl, .inl ⟨SqL.of ev, fun l hl => f _ _ _ C q (.tup upd_same (rv.imm (Imm.new hl _))) (h.new hl _) (Fw.new hl _)⟩⟩
  ·exact q.elim
 ·exact q.elim
def blsOf : List PV → Option (List Bool)
 | [] => some []
 | .bl b :: r => (blsOf r).map (b :: ·)
 | _ => none
@[irreducible] def cAll : GC := fun ts C Q => match ts with
 | [.ref a] => match C a with
  | some (.lst xs) => match blsOf xs with
   | some bs => Q (.bl (bs.all id)) C
   | none => False
  | _ => False
 | _ => False
def isL (x : PV) (C : CH) : Prop := match x with
 | .ref a => match C a with
  | some (.lst _) => True
  | _ => False
 | _ => False
def cBM (cr : PV → List PV → CH → K1 → Prop) (co : TCE) (ca : TCA) : TCE := fun ρ C Q => co ρ C fun x C1 => isL x C1 ∧ ca ρ C1 fun xs C2 => cr x xs C2 Q
def Cmt (K : PySem.W.Frag) (r : V → List V → Hp → VK → Prop) (cr : PV → List PV → CH → K1 → Prop) : Prop := ∀ x px xs ps H C Q R, Rep K H x px → Reps K H xs ps → HRel K H C → cr px ps C R → (∀ v H' t C', R t C' → Rep K H' v t → HRel K H' C' → Fw H C H' C' → Q v H') → r x xs H Q
theorem isL_ty {K : PySem.W.Frag} {H : Hp} {C : CH} {x : V} {t : PV} (l : isL t C) (r : Rep K H x t) (h : HRel K H C) : tyV K "list" x H := by
 unfold isL at l
 split at l
 ·split at l
  ·next e => obtain ⟨vs, ev, _⟩ := h _ _ e; cases r; exact .inl ⟨rfl, vs, SqL.of ev⟩
  ·exact l.elim
 ·exact l.elim
theorem ce_bm {name : Str} {id : String} {apos cpos : Pos} {r : V → List V → Hp → VK → Prop} {cr : PV → List PV → CH → K1 → Prop} {co : TCE} {ca : TCA} (pa : PlainAttrs "list") (slot : Slot "list" name id) (hty : typeOf (.builtin id) = pure (.type "method_descriptor")) (hm : MtR X id r) (hr : Cmt X.K r cr) (ho : CE X o co) (ha : CA X (e :: es) ca)
  (hbase : attributeBase o name X.env (eval o X.env) = eval o X.env := by rfl)
  (hfew : ((backTo cpos (starEach (e :: es) X.env)).all (fun x => !x.1) && (backToKw cpos (keywordEach [] X.env)).all (fun x => x.1.isSome)
   && decide ((e :: es).length + ([] : List Keyword).length + (if ([] : List Keyword).isEmpty then 0 else 1) < 30)) = true := by rfl)
  (hline : (apos.endLine == cpos.line) = true := by rfl) (hs : noStar e = true := by rfl) (hall : es.all noStar = true := by rfl) :
  CE X (.Call (.Attribute o name apos) (e :: es) [] cpos) (cBM cr co ca) := ⟨JE.weak (je_bm pa slot hty hm ho.h ha.h hbase hfew hline hs hall) fun σ H Q ⟨ρ, C, R, s, h, q, f⟩ =>
 ⟨ρ, C, _, s, h, q, fun x H1 px C1 q1 rx h1 f1 => ⟨isL_ty q1.1 rx h1, ρ, C1, _, s.imm (f1.imm h), h1, q1.2, fun xs H2 ps C2 q2 rs h2 f2 =>
  hr x px xs ps H2 C2 Q R (rx.imm (f2.imm h1)) rs h2 q2 fun v H' t C' q' r' h' f' => f v H' t C' q' r' h' (f1.trans (f2.trans f'))⟩⟩⟩
@[irreducible] def cAppend : PV → List PV → CH → K1 → Prop := fun x ts C Q => match x, ts with
 | .ref a, [y] => match C a with
  | some (.lst xs) => xs.length < sizeLine ∧ Q .non (updC C a (.lst (xs ++ [y])))
  | _ => False
 | _, _ => False
theorem cmt_append {K : PySem.W.Frag} : Cmt K rAppend cAppend := fun x px xs ps H C Q R rx rs h q f => by
 unfold cAppend at q
 split at q
 ·split at q
  ·next ys e =>
   obtain ⟨vs, ev, rv⟩ := h _ _ e
   obtain ⟨v, rfl, r⟩ := rep_one rs
   cases rx
   exact ⟨_, vs, v, rfl, rfl, ev, by rw [rv.len]; exact q.1, f _ _ _ _ q.2 .non (h.put ev rfl ⟨_, upd_same, (rv.append (.cons r .nil)).imm (Imm.mut ev rfl _)⟩) (Fw.put e _ _)⟩
  ·exact q.elim
 ·exact q.elim
end
end CL
set_option Elab.async false
set_option linter.all false
set_option maxRecDepth 100000
set_option maxHeartbeats 4000000
namespace CL
open PySem PySem.Spec L2
open PyProof.Rows hiding St
def keyOf : PV → Option Key
 | .non => some (.inl none)
 | .int i => some (.inl (some i))
 | .str x => some (.inr x)
 | _ => none
def keyPV : Key → PV
 | .inl none => .non
 | .inl (some i) => .int i
 | .inr x => .str x
theorem keyOf_rep {K : PySem.W.Frag} {H : Hp} {v : V} {t : PV} {k : Key} (r : Rep K H v t) (e : keyOf t = some k) : v = kV k := by
 cases r <;> cases e <;> rfl
def valP (kvs : List (Key × PV)) (k : Key) : Option PV := (kvs.find? fun kv => decide (kv.1 = k)).map (·.2)
def putP (kvs : List (Key × PV)) (k : Key) (v : PV) : List (Key × PV) := if (kvs.any fun kv => decide (kv.1 = k)) = true then kvs.map fun kv => if kv.1 = k then (kv.1, v) else kv else kvs ++ [(k, v)]
def mergeP (kvs more : List (Key × PV)) : List (Key × PV) := more.foldl (fun acc kv => putP acc kv.1 kv.2) kvs
section
variable {K : PySem.W.Frag} {H : Hp} {vs : List (Key × V)} {kvs : List (Key × PV)}
theorem KP.val (r : KP K H vs kvs) (k : Key) : (∃ v t, valV vs k = some v ∧ valP kvs k = some t ∧ Rep K H v t) ∨ (valV vs k = none ∧ valP kvs k = none) := by
 induction r with
 | nil => exact .inr ⟨rfl, rfl⟩
 | @cons p q l1 l2 h r ih =>
  unfold valV valP
  rw [List.find?_cons, List.find?_cons, h.1]
  by_cases e : q.1 = k
  ·rw [decide_eq_true e]
   exact .inl ⟨p.2, q.2, rfl, rfl, h.2⟩
  ·rw [decide_eq_false e]
   exact ih
theorem KP.any (r : KP K H vs kvs) (k : Key) : (vs.any fun kv => decide (kv.1 = k)) = (kvs.any fun kv => decide (kv.1 = k)) := by
 induction r with
 | nil => rfl
 | @cons p q l1 l2 h r ih => rw [List.any_cons, List.any_cons, h.1, ih]
theorem KP.put (r : KP K H vs kvs) (k : Key) {v : V} {t : PV} (h : Rep K H v t) : KP K H (putK vs k v) (putP kvs k t) := by
 unfold putK putP
 rw [r.any k]
 have upd : KP K H (vs.map fun kv => if kv.1 = k then (kv.1, v) else kv) (kvs.map fun kv => if kv.1 = k then (kv.1, t) else kv) := by
  induction r with
  | nil => exact .nil
  | @cons p q l1 l2 h' r ih =>
   refine .cons ?_ ih
   dsimp only
   by_cases e : q.1 = k
   ·rw [if_pos (h'.1.trans e), if_pos e]; exact ⟨h'.1, h⟩
   ·rw [if_neg (fun z => e (h'.1.symm.trans z)), if_neg e]; exact h'
 split
 ·exact upd
 ·exact Paired.snoc r ⟨rfl, h⟩
theorem KP.merge {ws : List (Key × V)} {more : List (Key × PV)} (r : KP K H vs kvs) (m : KP K H ws more) : KP K H (mergeK vs ws) (mergeP kvs more) := by
 induction m generalizing vs kvs with
 | nil => exact r
 | @cons p q l1 l2 h _ ih =>
  have e : p.1 = q.1 := h.1
  show KP K H (mergeK (putK vs p.1 p.2) l1) (mergeP (putP kvs q.1 q.2) l2)
  rw [e]
  exact ih (r.put q.1 h.2)
end
def dOf : Option CO → Option (List (Key × PV))
 | some (.dK kvs) => some kvs
 | some (.fK kvs) => some kvs
 | _ => none
theorem dOf_rd {K : PySem.W.Frag} {H : Hp} {C : CH} {a : Addr} {kvs : List (Key × PV)} (h : HRel K H C) (e : dOf (C a) = some kvs) : ∃ vs, Rd H a (.dK vs) ∧ KP K H vs kvs := by
 cases c : C a with
 | none => rw [c] at e; cases e
 | some o =>
  rw [c] at e
  cases o with
  | lst xs => cases e
  | dT l => cases e
  | ins c dx fs => cases e
  | dK l => cases e; obtain ⟨vs, q, r⟩ := h a _ c; exact ⟨vs, .inl q, r⟩
  | fK l => cases e; obtain ⟨o, vs, q, r⟩ := h a _ c; exact ⟨vs, .inr ⟨o, q⟩, r⟩
section
variable {X : Cx} {a b c e o i f : Expr} {es : List Expr} {pos : Pos} {value : Expr}
@[irreducible] def cDIx : R2C := fun x y C Q => match x with
 | .ref a => match dOf (C a), keyOf y with
  | some kvs, some k => match valP kvs k with
   | some v => Q v C
   | none => False
  | _, _ => False
 | _ => False
theorem dget_of {K : PySem.W.Frag} {H : Hp} {C : CH} {a : Addr} {y : V} {py : PV} {kvs : List (Key × PV)} {k : Key} (h : HRel K H C) (e1 : dOf (C a) = some kvs) (ry : Rep K H y py) (e2 : keyOf py = some k) :
  (∃ v t, DGet H a y (some v) ∧ valP kvs k = some t ∧ Rep K H v t) ∨ (DGet H a y none ∧ valP kvs k = none) := by
 obtain ⟨vs, q, r⟩ := dOf_rd h e1
 have ey := keyOf_rep ry e2
 subst ey
 rcases r.val k with ⟨v, t, h1, h2, h3⟩ | ⟨h1, h2⟩
 ·exact .inl ⟨v, t, .inl ⟨vs, k, q, rfl, h1.symm⟩, h2, h3⟩
 ·exact .inr ⟨.inl ⟨vs, k, q, rfl, h1.symm⟩, h2⟩
theorem ce_dix {co ci : TCE} (hu : X.A.units + 1 < cLine) (ho : CE X o co) (hi : CE X i ci) (hs : NoSl i) : CE X (.Subscript o i pos) (cOp cDIx co ci) := ⟨JE.weak (je_dget hu ho.h hi.h hs) fun σ H Q ⟨ρ, C, R, s, h, q, f⟩ =>
 ⟨ρ, C, _, s, h, q, fun x H1 px C1 q1 rx h1 f1 => ⟨ρ, C1, _, s.imm (f1.imm h), h1, q1, fun y H2 py C2 q2 ry h2 f2 => by
  unfold cDIx at q2
  split at q2
  ·next a =>
   split at q2
   ·next kvs k e1 e2 =>
    split at q2
    ·next t e3 =>
     have rx2 := rx.imm (f2.imm h1)
     cases rx2
     rcases dget_of h2 e1 ry e2 with ⟨v, t', g, e4, r⟩ | ⟨_, e4⟩
     ·rw [e3] at e4
      cases e4
      exact ⟨a, v, rfl, g, f v H2 t C2 q2 r h2 (f1.trans f2)⟩
     ·rw [e3] at e4; cases e4
    ·exact q2.elim
   ·exact q2.elim
  ·exact q2.elim⟩⟩⟩
def isDk (x : PV) (C : CH) : Prop := match x with
 | .ref a => match C a with
  | some (.dK _) => True
  | _ => False
 | _ => False
@[irreducible] def cGetD : PV → PV → PV → CH → K1 → Prop := fun x y z C Q => match x with
 | .ref a => match dOf (C a), keyOf y with
  | some kvs, some k => Q ((valP kvs k).getD z) C
  | _, _ => False
 | _ => False
def cDGet2 (co ck cz : TCE) : TCE := fun ρ C Q => co ρ C fun x C1 => isDk x C1 ∧ ck ρ C1 fun y C2 => cz ρ C2 fun z C3 => cGetD x y z C3 Q
theorem isDk_of {K : PySem.W.Frag} {H : Hp} {C : CH} {x : V} {t : PV} (d : isDk t C) (r : Rep K H x t) (h : HRel K H C) : ∃ a kvs, x = .ref a ∧ t = .ref a ∧ H a = some (.dK kvs) := by
 unfold isDk at d
 split at d
 ·split at d
  ·next e => obtain ⟨vs, ev, _⟩ := h _ _ e; cases r; exact ⟨_, vs, rfl, rfl, ev⟩
  ·exact d.elim
 ·exact d.elim
theorem ce_dget2 {co ck cz : TCE} {apos cpos : Pos} (hu : X.A.units + 1 < cLine) (ho : CE X o co) (he : CE X e ck) (hf : CE X f cz) (hb : attributeBase o "get" X.env (eval o X.env) = eval o X.env := by rfl) (hl : (apos.endLine == cpos.line) = true := by rfl)
  (h1 : noStar e = true := by rfl) (h2 : noStar f = true := by rfl) : CE X (.Call (.Attribute o "get" apos) [e, f] [] cpos) (cDGet2 co ck cz) := ⟨JE.weak (je_dget2 hu ho.h he.h hf.h hb hl h1 h2) fun σ H Q ⟨ρ, C, R, s, h, q, f⟩ =>
 ⟨ρ, C, _, s, h, q, fun x H1 px C1 q1 rx h1 f1 => by
  obtain ⟨a, kvs, rfl, rfl, e1⟩ := isDk_of q1.1 rx h1
  refine ⟨a, rfl, .inl ⟨kvs, .inl e1⟩, ρ, C1, _, s.imm (f1.imm h), h1, q1.2, fun y H2 py C2 q2 ry h2 f2 => ⟨ρ, C2, _, (s.imm (f1.imm h)).imm (f2.imm h1), h2, q2, fun z H3 pz C3 q3 rz h3 f3 => ?_⟩⟩
  unfold cGetD at q3
  dsimp only at q3
  split at q3
  ·next kvs' k d1 d2 =>
   rcases dget_of h3 d1 (ry.imm (f3.imm h2)) d2 with ⟨v, t', g, e4, r⟩ | ⟨g, e4⟩
   ·rw [e4] at q3
    exact ⟨some v, g, f v H3 t' C3 q3 r h3 (f1.trans (f2.trans f3))⟩
   ·rw [e4] at q3
    exact ⟨none, g, f z H3 pz C3 q3 rz h3 (f1.trans (f2.trans f3))⟩
  ·exact q3.elim⟩⟩
@[irreducible] def cPutD : PV → PV → PV → CH → (CH → Prop) → Prop := fun x y v C Q => match x with
 | .ref a => match C a, keyOf y with
  | some (.dK kvs), some k => kvs.length < sizeLine ∧ Q (updC C a (.dK (putP kvs k v)))
  | _, _ => False
 | _ => False
def cDPut (co ck cv : TCE) : TCS := fun E ρ C => cv ρ C fun v C1 => co ρ C1 fun x C2 => ck ρ C2 fun y C3 => cPutD x y v C3 fun C4 => E.nx ρ C4
theorem cs_dput {pos' : Pos} {co ck cv : TCE} (hu : X.A.units + 1 < cLine) (ho : CE X o co) (hi : CE X i ck) (hv : CE X value cv) (hs : swapsWith value (some (.Subscript o i pos')) pos.line X.env = pure false := by rfl) :
  CS X (.Assign [.Subscript o i pos'] value pos) (cDPut co ck cv) := ⟨JS.weak (js_dput hu ho.h hi.h hv.h hs) fun D σ H ⟨ρ, C, E, s, h, q, f⟩ =>
 ⟨ρ, C, _, s, h, q, fun v H1 pv C1 q1 rv h1 f1 => ⟨ρ, C1, _, s.imm (f1.imm h), h1, q1, fun x H2 px C2 q2 rx h2 f2 => ⟨ρ, C2, _, (s.imm (f1.imm h)).imm (f2.imm h1), h2, q2, fun y H3 py C3 q3 ry h3 f3 => by
  have s3 := ((s.imm (f1.imm h)).imm (f2.imm h1)).imm (f3.imm h2)
  have rv3 := rv.imm ((f2.trans f3).imm h1)
  unfold cPutD at q3
  split at q3
  ·next a =>
   split at q3
   ·next kvs k e1 e2 =>
    have rx3 := rx.imm (f3.imm h2)
    cases rx3
    obtain ⟨vs, ev, r⟩ := h3 a _ e1
    have ey := keyOf_rep ry e2
    subst ey
    have hl : vs.length = kvs.length := Paired.length r
    have m : Imm H3 (upd H3 a (.dK (putK vs k v))) := Imm.mut ev rfl _
    refine ⟨a, _, rfl, DPut.k ev (by rw [hl]; exact q3.1), f.nx σ _ ρ _ q3.2 (s3.imm m) (h3.put ev rfl ⟨_, upd_same, Paired.mapP (r.put k rv3) fun _ _ z => ⟨z.1, z.2.imm m⟩⟩) (f1.trans (f2.trans (f3.trans (Fw.put e1 _ _))))⟩
   ·exact q3.elim
  ·exact q3.elim⟩⟩⟩⟩
def pairsOf : List PV → Option (List (Key × PV))
 | [] => some []
 | .tup [k, v] :: r => match keyOf k, pairsOf r with
  | some k, some ps => some ((k, v) :: ps)
  | _, _ => none
 | _ => none
@[irreducible] def cDictOf : GC := fun ts C Q => match ts with
 | [.tup xs] => match pairsOf xs with
  | some ps => ps.length ≤ sizeLine ∧ ∀ p, C p = none → Q (.ref p) (updC C p (.dK (mergeP [] ps)))
  | none => False
 | _ => False
@[irreducible] def cUpdP : PV → List PV → CH → K1 → Prop := fun x ts C Q => match x, ts with
 | .ref a, [.tup xs] => match C a, pairsOf xs with
  | some (.dK kvs), some ps => kvs.length + ps.length ≤ sizeLine ∧ Q .non (updC C a (.dK (mergeP kvs ps)))
  | _, _ => False
 | _, _ => False
@[irreducible] def cItems (co : TCE) : TCE := fun ρ C Q => co ρ C fun x C1 => match x with
 | .ref a => match C1 a with
  | some (.dK _) => Q (.vw a) C1
  | _ => False
 | _ => False
end
end CL
set_option Elab.async false
set_option linter.all false
set_option maxRecDepth 100000
set_option maxHeartbeats 4000000
namespace CL
open PySem PySem.Spec L2 PySem.W
open PyProof.Rows hiding St
def siPV (c : Str × Int) : PV := .tup [.str c.1, .int c.2]
def siOf : List PV → Option (List (Str × Int))
 | [] => some []
 | .tup [.str x, .int i] :: r => (siOf r).map ((x, i) :: ·)
 | _ => none
def siK : List (Key × PV) → Option (List (Str × Int))
 | [] => some []
 | (.inr x, .int i) :: r => (siK r).map ((x, i) :: ·)
 | _ => none
def siLt (cs : List (Str × Int)) : Nat → Nat → Bool := fun i j => ltSI (cs.getD i ("", 0)) (cs.getD j ("", 0))
def ordC (cs : List (Str × Int)) : List (Str × Int) := (kRun (siLt cs) (kas_sort cs.length)).toList.map fun i => cs.getD i ("", 0)
theorem siOf_map : ∀ cs : List (Str × Int), siOf (cs.map siPV) = some cs
 | [] => rfl
 | c :: cs => by
  show (siOf (cs.map siPV)).map _ = _
  rw [siOf_map cs]; rfl
theorem siOf_eq {ts : List PV} {cs : List (Str × Int)} (e : siOf ts = some cs) : ts = cs.map siPV := by
 induction ts generalizing cs with
 | nil => cases e; rfl
 | cons t ts ih =>
  unfold siOf at e
  split at e
  ·rename_i h; cases h
  ·rename_i x i r h
   cases h
   cases z : siOf ts with
   | none => rw [z] at e; cases e
   | some ds =>
    rw [z] at e
    cases e
    rw [ih z]; rfl
  ·cases e
theorem siK_eq {ts : List (Key × PV)} {cs : List (Str × Int)} (e : siK ts = some cs) : ts = cs.map fun c => (Sum.inr c.1, PV.int c.2) := by
 induction ts generalizing cs with
 | nil => cases e; rfl
 | cons t ts ih =>
  unfold siK at e
  split at e
  ·rename_i h; cases h
  ·rename_i x i r h
   cases h
   cases z : siK ts with
   | none => rw [z] at e; cases e
   | some ds =>
    rw [z] at e
    cases e
    rw [ih z]; rfl
  ·cases e
section
variable {K : PySem.W.Frag} {H : Hp} {X : Cx}
theorem si_at {ys : List V} {cs : List (Str × Int)} (r : Reps K H ys (cs.map siPV)) : ∀ i, i < ys.length → SIAt H (ys.getD i .non) (cs.getD i ("", 0)) := by
 induction cs generalizing ys with
 | nil => cases r; intro i hi; exact absurd hi (Nat.not_lt_zero i)
 | cons c cs ih =>
  cases r with
  | @cons v _ vs _ h r =>
   intro i hi
   cases i with
   | zero =>
    cases h with
    | tup e r1 =>
     obtain ⟨v1, v2, rfl, r2, r3⟩ := rep_two r1
     cases r2; cases r3
     exact ⟨_, rfl, e⟩
   | succ i => exact ih r i (Nat.lt_of_succ_lt_succ hi)
theorem Reps.getD {ys : List V} {ts : List PV} (r : Reps K H ys ts) {d : PV} : ∀ i, i < ys.length → Rep K H (ys.getD i .non) (ts.getD i d) := by
 induction ts generalizing ys with
 | nil => cases r; intro i hi; exact absurd hi (Nat.not_lt_zero i)
 | cons c cs ih =>
  cases r with
  | @cons v _ vs _ h r =>
   intro i hi
   cases i with
   | zero => exact h
   | succ i => exact ih r i (Nat.lt_of_succ_lt_succ hi)
theorem ord_rep {ys : List V} {cs : List (Str × Int)} (lt : Nat → Nat → Bool) (r : Reps K H ys (cs.map siPV)) : Reps K H (ordV lt ys) (((kRun lt (kas_sort cs.length)).toList.map fun i => cs.getD i ("", 0)).map siPV) := by
 have hl : ys.length = cs.length := by rw [r.len, List.length_map]
 unfold ordV
 rw [hl]
 have mem : ∀ i ∈ (kRun lt (kas_sort cs.length)).toList, i < ys.length := by
  intro i hi
  by_cases h : 0 < cs.length
  ·have := (kRun_ord lt cs.length h).mem_iff.mp hi
   rw [hl]; exact List.mem_range.mp this
  ·have e : cs.length = 0 := by omega
   rw [e] at hi
   rw [run0] at hi
   cases hi
 generalize (kRun lt (kas_sort cs.length)).toList = l at mem ⊢
 induction l with
 | nil => exact .nil
 | cons i l ih =>
  refine .cons ?_ (ih fun j hj => mem j (List.mem_cons_of_mem _ hj))
  have h1 := r.getD (d := siPV ("", 0)) i (mem i List.mem_cons_self)
  have h2 : (cs.map siPV).getD i (siPV ("", 0)) = siPV (cs.getD i ("", 0)) := by
   rw [List.getD_eq_getElem?_getD, List.getElem?_map, List.getD_eq_getElem?_getD]
   cases cs[i]? <;> rfl
  rw [h2] at h1
  exact h1
@[irreducible] def cSorted : GC := fun ts C Q => match ts with
 | [.ref a] => match C a with
  | some (.lst xs) => match siOf xs with
   | some cs => cs.length < 64 ∧ ∀ p, C p = none → Q (.ref p) (updC C p (.lst ((ordC cs).map siPV)))
   | none => False
  | _ => False
 | [.vw a] => match C a with
  | some (.dK kvs) => match siK kvs with
   | some cs => cs.length < 64 ∧ ∀ p, C p = none → Q (.ref p) (updC C p (.lst ((ordC cs).map siPV)))
   | none => False
  | _ => False
 | _ => False
abbrev rSorted (X : Cx) : List V → Hp → VK → Prop := fun xs H Q => (∃ l ys lt, xs = [.ref l] ∧ SqL X.K H l ys ∧ ys.length < 64 ∧ Srt X H ys lt ∧ ∀ p, H p = none → Q (.ref p) (upd H p (.lst (ordV lt ys)))) ∨
 (∃ v d kvs lt, xs = [.ref v] ∧ H v = some (.ext (isItems v d)) ∧ H d = some (.dK kvs) ∧ kvs.length < 64 ∧
  ∀ as H1, Same H H1 → PairsAt H1 as kvs → (∀ a ∈ as, H a = none) → (∀ a, H a = none → H1 a ≠ none → a ∈ as) → Srt X H1 (List.map V.ref as) lt ∧ ∀ p, H1 p = none → Q (.ref p) (upd H1 p (.lst (ordV lt (List.map V.ref as)))))
theorem call_sortedC (hc : X.calm = true) : CallR X (.builtin "sorted") (rSorted X) := CallR.or call_sorted (call_sortedI hc)
theorem cbi_sorted : Cbi X.K (rSorted X) cSorted := fun xs ts H C Q R rs h q f => by
 unfold cSorted at q
 split at q
 ·obtain ⟨v, rfl, r⟩ := rep_one rs
  split at q
  ·next xs e =>
   split at q
   ·next cs e2 =>
    have ex := siOf_eq e2
    subst ex
    obtain ⟨vs, ev, rv⟩ := h _ _ e
    cases r
    have hl : vs.length = cs.length := by rw [rv.len, List.length_map]
    refine .inl ⟨_, vs, siLt cs, rfl, SqL.of ev, by rw [hl]; exact q.1, srt_si _ (si_at rv), fun p hp => ?_⟩
    exact f _ _ _ _ (q.2 p (h.fresh hp)) (.ref p) (h.lay hp ⟨_, upd_same, (ord_rep (siLt cs) rv).imm (Imm.new hp _)⟩) (Fw.lay hp _ _)
   ·exact q.elim
  ·exact q.elim
 ·obtain ⟨v, rfl, r⟩ := rep_one rs
  split at q
  ·next kvs e =>
   split at q
   ·next cs e2 =>
    have ex := siK_eq e2
    subst ex
    obtain ⟨vs, ev, rv⟩ := h _ _ e
    cases r with
    | vw hv =>
     have hl : vs.length = cs.length := by rw [Paired.length rv, List.length_map]
     refine .inr ⟨_, _, vs, siLt cs, rfl, hv, ev, by rw [hl]; exact q.1, fun as H1 sm pa fr on => ?_⟩
     have rr : Reps X.K H1 (List.map V.ref as) (cs.map siPV) := by
      clear hl fr on q e ev e2
      induction cs generalizing vs as with
      | nil => cases rv; cases pa; exact .nil
      | cons c cs ih =>
       cases rv with
       | @cons p q l1 l2 h' rv =>
        cases pa with
        | @cons a _ l _ e1 pa =>
         obtain ⟨k, v'⟩ := p
         obtain ⟨e3, e4⟩ := h'
         cases e3
         cases e4
         exact .cons (.tup e1 (.cons (.str _) (.cons (.int _) .nil))) (ih (vs := l1) rv l pa)
     refine ⟨srt_si _ (si_at rr), fun p hp => ?_⟩
     have h1 := hrel_same h sm
     exact f _ _ _ _ (q.2 p (h1.fresh hp)) (.ref p) (h1.lay hp ⟨_, upd_same, (ord_rep (siLt cs) rr).imm (Imm.new hp _)⟩) ((fw_same sm).trans (Fw.lay hp _ _))
   ·exact q.elim
  ·exact q.elim
 ·exact q.elim
end
section
variable {X : Cx} {pos : Pos}
@[irreducible] def cCompD (ce : TCE) (t : TCT) (c : TCE) : TCE := fun ρ C Q => ce ρ C fun x C1 => match x with
 | .ref d => match C1 d with
  | some (.dK kvs) => cCompW t c ρ (fun v C2 => C2 d = some (.fK kvs) ∧ Q v (updC C2 d (.dK kvs))) (kvs.map fun p => keyPV p.1) [] (updC C1 d (.fK kvs))
  | _ => False
 | _ => False
end
end CL
set_option Elab.async false
set_option linter.all false
set_option maxRecDepth 100000
set_option maxHeartbeats 4000000
namespace CL
open PySem PySem.Spec L2 PySem.W
open PyProof.Rows hiding St
section
variable {X : Cx} {a b c e o i f : Expr} {es : List Expr} {pos : Pos} {value : Expr}
abbrev relO : Hp → Option Int → Option Int → Prop := fun _ a b => a = b
abbrev TCO := CSt → CH → (Option Int → CH → Prop) → Prop
structure CPt (X : Cx) (e : Option Expr) (c : TCO) : Prop where
 h : JO X e (lift X.K relO c)
theorem JO.weak {e : Option Expr} {t t' : TO} (h : JO X e t) (w : ∀ σ H Q, t' σ H Q → t σ H Q) : JO X e t' := ⟨fun pins s σ H Q I q => h.h pins s σ H Q I (w σ H Q q)⟩
def cNoPart : TCO := fun _ C Q => Q none C
def cPart (ce : TCE) : TCO := fun ρ C Q => ce ρ C fun t C1 => match t with
 | .int i => Q (some i) C1
 | _ => False
theorem co_none : CPt X none cNoPart := ⟨JO.weak jo_none fun σ H Q ⟨ρ, C, R, s, h, q, f⟩ => f none H none C q rfl h Fw.refl⟩
theorem co_some {ce : TCE} (h : CE X e ce) : CPt X (some e) (cPart ce) := ⟨JO.weak (jo_some h.h) fun σ H Q ⟨ρ, C, R, s, h, q, f⟩ => ⟨ρ, C, _, s, h, q, fun x H1 px C1 q1 rx h1 f1 => by
 split at q1
 ·cases rx; exact ⟨_, rfl, f _ H1 _ C1 q1 rfl h1 f1⟩
 ·exact q1.elim⟩⟩
def cutP (xs : List PV) (lo hi : Option Int) : List PV := (xs.drop (HT.sIx xs.length 0 lo)).take (HT.sIx xs.length xs.length hi - HT.sIx xs.length 0 lo)
theorem Reps.cut {K : PySem.W.Frag} {H : Hp} {vs : List V} {ts : List PV} (r : Reps K H vs ts) (lo hi : Option Int) : Reps K H (cutV vs lo hi) (cutP ts lo hi) := by
 unfold cutV cutP
 rw [r.len]
 exact (r.drop _).take _
@[irreducible] def cSlL : PV → Option Int → Option Int → CH → K1 → Prop := fun x lo hi C Q => match x with
 | .ref a => match C a with
  | some (.lst xs) => ∀ p, C p = none → Q (.ref p) (updC C p (.lst (cutP xs lo hi)))
  | _ => False
 | _ => False
def cSl (cr : PV → Option Int → Option Int → CH → K1 → Prop) (ce : TCE) (cl ch : TCO) : TCE := fun ρ C Q => ce ρ C fun x C1 => cl ρ C1 fun l C2 => ch ρ C2 fun u C3 => cr x l u C3 Q
theorem ce_slL {lo hi : Option Expr} {ce : TCE} {cl ch : TCO} {p2 : Pos} (he : CE X e ce) (hl : CPt X lo cl) (hu : CPt X hi ch) : CE X (.Subscript e (.Slice lo hi none p2) pos) (cSl cSlL ce cl ch) := ⟨JE.weak (je_slice sl_list he.h hl.h hu.h) fun σ H Q ⟨ρ, C, R, s, h, q, f⟩ =>
 ⟨ρ, C, _, s, h, q, fun x H1 px C1 q1 rx h1 f1 => ⟨ρ, C1, _, s.imm (f1.imm h), h1, q1, fun l H2 l' C2 q2 e2 h2 f2 => ⟨ρ, C2, _, (s.imm (f1.imm h)).imm (f2.imm h1), h2, q2, fun u H3 u' C3 q3 e3 h3 f3 => by
  cases e2; cases e3
  unfold cSlL at q3
  split at q3
  ·split at q3
   ·next xs e =>
    obtain ⟨vs, ev, r⟩ := h3 _ _ e
    have rx3 := rx.imm ((f2.trans f3).imm h1)
    cases rx3
    exact ⟨_, vs, rfl, SqL.of ev, fun p hp => f _ _ _ _ (q3 p (h3.fresh hp)) (.ref p) (h3.lay hp ⟨_, upd_same, (r.cut l u).imm (Imm.new hp _)⟩) (f1.trans (f2.trans (f3.trans (Fw.lay hp _ _))))⟩
   ·exact q3.elim
  ·exact q3.elim⟩⟩⟩⟩
theorem cs_setC {i : Nat} {y x : Str} {py px pos spos : Pos} {elt iter : Expr} {ifs : List Expr} {scope : Scope} {wi : TI} {ci : CSt → CH → (List PV → CH → Prop) → Prop} {t : TCT} {c : TCE}
  (hNd : X.N.Nodup) (hi : X.N[i]? = some y) (hy : Loc X.env.scope y) (hc : X.calm = true) (hN : (x :: X.N).Nodup) (K : ∃ cl, CompOk X x scope cl) (hI : CI X (.Name x px) iter wi ci)
  (ht : ∀ cl fp C s₂ H₂, CF (cxComp X x scope cl fp C s₂ H₂) ifs t) (he : ∀ cl fp C s₂ H₂, CE (cxComp X x scope cl fp C s₂ H₂) elt c)
  (hs : ∀ v, foldedSetIterable iter X.env v = pure v := by intro _; rfl)
  (hsw : swapsWith (.ListComp elt [⟨.Name x px, iter, ifs, 0⟩] scope pos) (some (.Name y py)) spos.line X.env = pure true := by rfl)
  (hf : X.fn y = true ∨ X.env.scope.names.lookup y = some .local := by first | exact .inl rfl | exact .inr rfl | assumption) :
  CS X (.Assign [.Name y py] (.ListComp elt [⟨.Name x px, iter, ifs, 0⟩] scope pos) spos) (cSet i (cComp ci t c)) := by
 obtain ⟨cl, K⟩ := K
 refine ⟨JS.weak (js_setC (te := lift X.K (Rep X.K) c) (tc := lift X.K relT t) hNd hi hy hc hN K hI.j (fun fp C s₂ H₂ => (ht cl fp C s₂ H₂).h) (fun fp C s₂ H₂ => (he cl fp C s₂ H₂).h) hs hsw hf) fun D σ H ⟨ρ, C, E, s, h, q, f⟩ => ?_⟩
 exact lift_comp (Q := fun x H' => D.nx (σ.set i (some x)) H') hI ⟨ρ, C, _, s, h, q, fun x H1 px C1 q1 rx h1 f1 => f.nx _ H1 _ C1 q1 ((s.imm (f1.imm h)).set rx i) h1 f1⟩
theorem noAt_set (k : Nat) (σ : St) : NoAt k (σ.set k none) := fun v e => by
 rw [List.getElem?_set_self'] at e
 cases hk : σ[k]? with
 | none => rw [hk] at e; cases e
 | some x => rw [hk] at e; cases e
theorem SRel.unset {K : PySem.W.Frag} {H : Hp} {σ : St} {ρ : CSt} (s : SRel K H σ ρ) (k : Nat) : SRel K H (σ.set k none) (ρ.set k none) := by
 induction s generalizing k with
 | nil => exact .nil
 | cons h' r ih =>
  cases k with
  | zero => exact .cons trivial r
  | succ k => exact .cons h' (ih k)
def cCompS (S : CH → Prop) (t : TCT) (c : TCE) (ρ : CSt) (Q : K1) : List PV → List PV → CH → Prop
 | [], acc, C => S C ∧ ∀ p, C p = none → Q (.ref p) (updC C p (.lst acc))
 | x :: r, acc, C => S C ∧ t (some x :: ρ) C fun b C1 => if b = true then c (some x :: ρ) C1 fun y C2 => acc.length < sizeLine ∧ cCompS S t c ρ Q r (acc ++ [y]) C2 else cCompS S t c ρ Q r acc C1
structure ItS (K : PySem.W.Frag) (S : CH → Prop) (J : It) (ps : List PV) : Prop where
 go : ∀ i H' C', i < ps.length → HRel K H' C' → S C' → J.go i H'
 yl : ∀ i H' C' x H'', HRel K H' C' → S C' → J.yld i H' x H'' → H'' = H' ∧ ∀ t, ps[i]? = some t → Rep K H' x t
 st : ∀ H' C', HRel K H' C' → S C' → J.stop ps.length H'
theorem comp_S {K : PySem.W.Frag} {H H0 : Hp} {C C0 : CH} {σ : St} {ρ : CSt} {J : It} {ps : List PV} {t : TCT} {c : TCE} {R : K1} {Q : VK} {S : CH → Prop} (j : ItS K S J ps) (s : SRel K H σ ρ) (h : HRel K H C) (q : cCompS S t c ρ R ps [] C)
  (h0 : HRel K H0 C0) (f0 : Fw H0 C0 H C) (f : ∀ v H' p C', R p C' → Rep K H' v p → HRel K H' C' → Fw H0 C0 H' C' → Q v H') {D : Addr} (hD : H D = none) :
  ∃ W : Nat → Nat → List V → Hp → Prop, (∃ m, W 0 m [] (upd H D (.lst []))) ∧ ∀ i m ys H, W i m ys H →
   (J.stop i H ∧ Q (.ref D) H) ∨ (J.go i H ∧ ∀ x H', J.yld i H x H' → lift K relT t (some x :: σ) H' fun b H2 =>
    if b = true then lift K (Rep K) c (some x :: σ) H2 fun y H3 => H3 D = some (.lst ys) ∧ ys.length < sizeLine ∧ ∃ m', m' < m ∧ W (i + 1) m' (ys ++ [y]) (upd H3 D (.lst (ys ++ [y])))
    else ∃ m', m' < m ∧ W (i + 1) m' ys H2) := by
 have fD : ∀ {H' : Hp} {C' : CH}, Fw H C H' C' → True := fun _ => trivial
 refine ⟨fun i m ys H' => m = ps.length - i ∧ i ≤ ps.length ∧ ∃ acc C', H' D = some (.lst ys) ∧ C' D = none ∧ Reps K H' ys acc ∧ HRel K H' C' ∧ Fw H C H' C' ∧ cCompS S t c ρ R (ps.drop i) acc C',
  ⟨ps.length, rfl, Nat.zero_le _, [], C, upd_same, h.fresh hD, .nil, h.new hD _, Fw.new hD _, q⟩, ?_⟩
 rintro i m ys H1 ⟨rfl, hi, acc, C1, e1, n1, r1, h1, f1, q1⟩
 have k1 : Imm H H1 := f1.imm h
 have q0 : S C1 := by
  cases z : ps.drop i with
  | nil => rw [z] at q1; exact q1.1
  | cons x r => rw [z] at q1; exact q1.1
 by_cases hlt : i < ps.length
 ·refine .inr ⟨j.go i H1 C1 hlt h1 q0, fun x H2 y => ?_⟩
  obtain ⟨rfl, y⟩ := j.yl i H1 C1 x H2 h1 q0 y
  have rx := y _ (List.getElem?_eq_getElem hlt)
  rw [List.drop_eq_getElem_cons hlt] at q1
  replace q1 := q1.2
  refine ⟨some ps[i] :: ρ, C1, _, .cons rx (s.imm k1), h1, q1, fun b H3 b' C3 q3 e h3 f3 => ?_⟩
  cases e
  obtain ⟨n3, e3⟩ := f3 D (by rw [n1]; rfl) (by rw [e1]; exact fun z => nomatch z)
  rw [e1] at e3
  rw [n1] at n3
  have k3 := f3.imm h1
  cases b with
  | true =>
   rw [if_pos rfl] at q3 ⊢
   refine ⟨some ps[i] :: ρ, C3, _, .cons (rx.imm k3) ((s.imm k1).imm k3), h3, q3, fun v H4 p C4 q4 r4 h4 f4 => ?_⟩
   obtain ⟨n4, e4⟩ := f4 D (by rw [n3]; rfl) (by rw [e3]; exact fun z => nomatch z)
   rw [e3] at e4
   rw [n3] at n4
   have k4 := f4.imm h3
   have m4 : Imm H4 (upd H4 D (.lst (ys ++ [v]))) := Imm.mut e4 rfl _
   refine ⟨e4, by rw [r1.len]; exact q4.1, ps.length - (i + 1), by omega, rfl, hlt, acc ++ [p], C4, upd_same, n4, ?_, ?_, ?_, q4.2⟩
   ·exact (((r1.imm k3).imm k4).append (.cons r4 .nil)).imm m4
   ·intro a o ca
    have ne : a ≠ D := fun z => by subst z; rw [n4] at ca; cases ca
    exact (h4 a o ca).imm m4 (upd_ne ne)
   ·intro a ca na
    have ne : a ≠ D := fun z => na (z ▸ hD)
    obtain ⟨x1, x2⟩ := (f1.trans (f3.trans f4)) a ca na
    exact ⟨x1, (upd_ne ne).trans x2⟩
  | false =>
   rw [if_neg Bool.false_ne_true] at q3 ⊢
   exact ⟨ps.length - (i + 1), by omega, rfl, hlt, acc, C3, e3, n3, r1.imm k3, h3, f1.trans f3, q3⟩
 ·have e : i = ps.length := by omega
  subst e
  rw [List.drop_length] at q1
  replace q1 := q1.2
  refine .inl ⟨j.st H1 C1 h1 q0, f (.ref D) H1 (.ref D) _ (q1 D n1) (.ref D) ?_ ?_⟩
  ·intro a o ca
   by_cases z : a = D
   ·subst z; rw [updC_same] at ca; cases ca; exact ⟨ys, e1, r1⟩
   ·rw [updC_ne z] at ca; exact h1 a o ca
  ·intro a ca na
   obtain ⟨x1, x2⟩ := f0 a ca na
   have na' : H a ≠ none := by rw [x2]; exact na
   have ne : a ≠ D := fun z => na' (z ▸ hD)
   obtain ⟨y1, y2⟩ := f1 a (by rw [x1]; exact ca) na'
   exact ⟨(updC_ne ne).trans (y1.trans x1), y2.trans x2⟩
theorem it_lst {K : PySem.W.Frag} {a : Addr} {xs : List PV} : ItS K (fun C => C a = some (.lst xs)) (Itl K a) xs where
 go := fun i H' C' l h s => by
  obtain ⟨vs, e, r⟩ := h a _ s
  obtain ⟨v, ev, _⟩ := r.get (List.getElem?_eq_getElem l)
  exact ⟨vs, v, SqL.of e, ev⟩
 yl := fun i H' C' x H'' h s y => ⟨y.1, fun t et => by
  obtain ⟨vs, e, r⟩ := h a _ s
  obtain ⟨v, ev, rv⟩ := r.get et
  have := y.2 vs (SqL.of e)
  rw [ev] at this; cases this; exact rv⟩
 st := fun H' C' h s => by
  obtain ⟨vs, e, r⟩ := h a _ s
  exact ⟨vs, SqL.of e, by rw [r.len]; exact Nat.le_refl _⟩
@[irreducible] def cCompL (ce : TCE) (t : TCT) (c : TCE) : TCE := fun ρ C Q => ce ρ C fun x C1 => match x with
 | .ref a => match C1 a with
  | some (.lst xs) => cCompS (fun C => C a = some (.lst xs)) t c ρ Q xs [] C1
  | _ => False
 | _ => False
theorem ce_compL {elt iter : Expr} {x : Str} {px : Pos} {ifs : List Expr} {scope : Scope} {ce : TCE} {t : TCT} {c : TCE}
  (hc : X.calm = true) (hN : (x :: X.N).Nodup) (K : ∃ cl, CompOk X x scope cl) (hi : CE X iter ce)
  (ht : ∀ cl fp C s₂ H₂, CF (cxComp X x scope cl fp C s₂ H₂) ifs t) (he : ∀ cl fp C s₂ H₂, CE (cxComp X x scope cl fp C s₂ H₂) elt c)
  (hs : ∀ v, foldedSetIterable iter X.env v = pure v := by intro _; rfl) : CE X (.ListComp elt [⟨.Name x px, iter, ifs, 0⟩] scope pos) (cCompL ce t c) :=
 ⟨JE.weak (je_compF (te := lift X.K (Rep X.K) c) (tc := lift X.K relT t) hc hN K (ji_list hi.h) (fun cl fp C s₂ H₂ => (ht cl fp C s₂ H₂).h) (fun cl fp C s₂ H₂ => (he cl fp C s₂ H₂).h) hs) fun σ H Q ⟨ρ, C, R, s, h, q, f⟩ => by
  unfold cCompL at q
  exact ⟨ρ, C, _, s, h, q, fun xv H1 px C1 q1 rx h1 f1 => by
   split at q1
   ·next a =>
    split at q1
    ·next xs e =>
     obtain ⟨vs, ev, r⟩ := h1 a _ e
     cases rx
     exact ⟨a, rfl, ⟨vs, SqL.of ev⟩, fun D hD => comp_S (Q := Q) it_lst (s.imm (f1.imm h)) h1 q1 h f1 f hD⟩
    ·exact q1.elim
   ·exact q1.elim⟩⟩
end
end CL
set_option Elab.async false
set_option linter.all false
set_option maxRecDepth 100000
set_option maxHeartbeats 4000000
namespace CL
open PySem PySem.Spec L2 PySem.W
open PyProof.Rows hiding St
section
variable {C : CH} {a p : Addr} {xs ys : List PV} {i : Int} {v : PV} {Q : K1}
theorem ix_l (h : C a = some (.lst xs)) (e : atI xs i = some v) (q : Q v C) : cIx (.ref a) (.int i) C Q := by
 unfold cIx
 show (match C a with | some (.lst xs) => cAt xs i C Q | _ => False)
 rw [h]
 show cAt xs i C Q
 unfold cAt
 rw [e]
 exact q
theorem ix_f (e : atI xs i = some v) (q : Q v C) : cIx (.fz xs) (.int i) C Q := by
 unfold cIx
 show cAt xs i C Q
 unfold cAt
 rw [e]
 exact q
theorem ix_t (e : atI xs i = some v) (q : Q v C) : cIx (.tup xs) (.int i) C Q := by
 unfold cIx
 show cAt xs i C Q
 unfold cAt
 rw [e]
 exact q
theorem setL {k : Int} {j : Nat} {Q : CH → Prop} (h : C p = some (.lst xs)) (e : ixN xs.length k = some j) (q : Q (updC C p (.lst (xs.set j v)))) : cSetL (.ref p) (.int k) v C Q := by
 unfold cSetL
 dsimp only
 rw [h]
 dsimp only
 rw [e]
 exact q
theorem len_l (h : C a = some (.lst xs)) (q : Q (.int xs.length) C) : cLen [.ref a] C Q := by
 unfold cLen
 show (match C a with | some (.lst xs) => Q (.int xs.length) C | some (.dK kvs) => Q (.int kvs.length) C | _ => False)
 rw [h]
 exact q
theorem len_f (q : Q (.int xs.length) C) : cLen [.fz xs] C Q := by
 unfold cLen
 exact q
theorem len_t (q : Q (.int xs.length) C) : cLen [.tup xs] C Q := by
 unfold cLen
 exact q
theorem app_l (h : C a = some (.lst xs)) (z : xs.length < sizeLine) (q : Q .non (updC C a (.lst (xs ++ [v])))) : cAppend (.ref a) [v] C Q := by
 unfold cAppend
 show (match C a with | some (.lst xs) => xs.length < sizeLine ∧ Q .non (updC C a (.lst (xs ++ [v]))) | _ => False)
 rw [h]
 exact ⟨z, q⟩
theorem isL_l (h : C a = some (.lst xs)) : isL (.ref a) C := by
 show (match C a with | some (.lst _) => True | _ => False)
 rw [h]
 trivial
end
theorem i_i {g : Int → Int → PV} {i j : Int} {C : CH} {Q : K1} (q : Q (g i j) C) : cI g (.int i) (.int j) C Q := by
 unfold cI
 exact q
theorem add_i {i j : Int} {C : CH} {Q : K1} (q : Q (.int (i + j)) C) : cAdd (.int i) (.int j) C Q := by
 unfold cAdd
 exact q
theorem add_t {xs ys : List PV} {C : CH} {Q : K1} (h : xs.length + ys.length ≤ sizeLine) (q : Q (.tup (xs ++ ys)) C) : cAdd (.tup xs) (.tup ys) C Q := by
 unfold cAdd
 exact ⟨h, q⟩
theorem if_y {b : Bool} {p q : Prop} (e : b = true) (h : p) : if b = true then p else q := by rw [if_pos e]; exact h
theorem if_n {b : Bool} {p q : Prop} (e : b = false) (h : q) : if b = true then p else q := by rw [if_neg (by rw [e]; exact Bool.false_ne_true)]; exact h
theorem on_y {b : Bool} {p q : CH → Prop} {C : CH} (e : b = true) (h : p C) : onBl (fun b C1 => if b = true then p C1 else q C1) (.bl b) C := by cases e; exact h
theorem on_n {b : Bool} {p q : CH → Prop} {C : CH} (e : b = false) (h : q C) : onBl (fun b C1 => if b = true then p C1 else q C1) (.bl b) C := by cases e; exact h
theorem on_b {b : Bool} {p q : CH → Prop} {C : CH} (h1 : b = true → p C) (h2 : b = false → q C) : onBl (fun b C1 => if b = true then p C1 else q C1) (.bl b) C := by
 cases b with
 | true => exact h1 rfl
 | false => exact h2 rfl
theorem eq_s {k : Bool → Bool} {x y : PV} {C : CH} {Q : K1} {b : Bool} (e : sEq x y = some b) (q : Q (.bl (k b)) C) : cEq k x y C Q := by
 unfold cEq
 rw [e]
 exact q
theorem sEq_str (x y : Str) : sEq (.str x) (.str y) = some (decide (x = y)) := rfl
theorem sEq_int (x y : Int) : sEq (.int x) (.int y) = some (decide (x = y)) := rfl
theorem comp_cons {t : TCT} {c : TCE} {ρ : CSt} {Q : K1} {x : PV} {r acc : List PV} {C : CH} (h : t (some x :: ρ) C fun b C1 => if b = true then c (some x :: ρ) C1 fun y C2 => acc.length < sizeLine ∧ cCompW t c ρ Q r (acc ++ [y]) C2 else cCompW t c ρ Q r acc C1) : cCompW t c ρ Q (x :: r) acc C := h
theorem comp_nil {t : TCT} {c : TCE} {ρ : CSt} {Q : K1} {acc : List PV} {C : CH} (h : ∀ p, C p = none → Q (.ref p) (updC C p (.lst acc))) : cCompW t c ρ Q [] acc C := h
theorem isi_s {n : String} {T k : Ty} {x : PV} {C : CH} {Q : K1} (e1 : tyOfName n = some T) (e2 : tyP C x = some k) (q : Q (.bl (isIn k T)) C) : cIsi [x, .ty n] C Q := by
 unfold cIsi
 show (match tyOfName n, tyP C x with | some T, some k => Q (.bl (isIn k T)) C | _, _ => False)
 rw [e1, e2]
 exact q
theorem add_l {a b : Addr} {xs ys : List PV} {C : CH} {Q : K1} (h1 : C a = some (.lst xs)) (h2 : C b = some (.lst ys)) (z : xs.length + ys.length ≤ sizeLine) (q : ∀ p, C p = none → Q (.ref p) (updC C p (.lst (xs ++ ys)))) : cAdd (.ref a) (.ref b) C Q := by
 unfold cAdd
 show (match C a, C b with | some (.lst xs), some (.lst ys) => xs.length + ys.length ≤ sizeLine ∧ ∀ p, C p = none → Q (.ref p) (updC C p (.lst (xs ++ ys))) | _, _ => False)
 rw [h1, h2]
 exact ⟨z, q⟩
theorem tup_l {xs : List PV} {p : Addr} {C : CH} {Q : K1} (m : C p = some (.lst xs)) (q : Q (.tup xs) C) : cTupOf [.ref p] C Q := by
 unfold cTupOf
 show (match C p with | some (.lst xs) => Q (.tup xs) C | _ => False)
 rw [m]
 exact q
def Gr (C C' : CH) : Prop := ∀ b o, C b = some o → C' b = some o
theorem Gr.refl {C : CH} : Gr C C := fun _ _ h => h
theorem Gr.trans {C C1 C2 : CH} (h : Gr C C1) (h' : Gr C1 C2) : Gr C C2 := fun b o e => h' b o (h b o e)
theorem Gr.new {C : CH} {p : Addr} (hp : C p = none) (o : CO) : Gr C (updC C p o) := fun b u e => by
 rw [updC_ne (fun z => by subst z; rw [hp] at e; cases e)]; exact e
theorem nx_i {E : CEnds} {ρ : CSt} {C : CH} (h : E.nx ρ C) : cNext E ρ C := h
theorem seq_set {i : Nat} {ce : TCE} {u : TCS} {E : CEnds} {ρ : CSt} {C : CH} (h : ce ρ C fun v C1 => u E (ρ.set i (some v)) C1) : cSeq (cSet i ce) u E ρ C := h
theorem seq_i {t u : TCS} {E : CEnds} {ρ : CSt} {C : CH} (h : t { E with nx := u E } ρ C) : cSeq t u E ρ C := h
theorem c_i {v : PV} {ρ : CSt} {C : CH} {Q : K1} (h : Q v C) : cC v ρ C Q := h
theorem seq_post {t u : TCS} {E : CEnds} {ρ : CSt} {C : CH} (P : CSt → CH → Prop) (h1 : ∀ K : CSt → CH → Prop, (∀ ρ' C', P ρ' C' → K ρ' C') → t { E with nx := K } ρ C) (h2 : ∀ ρ' C', P ρ' C' → u E ρ' C') : cSeq t u E ρ C := h1 _ h2
end CL
set_option Elab.async false
set_option linter.all false
set_option maxRecDepth 100000
set_option maxHeartbeats 4000000
namespace CL
open PySem PySem.Spec L2 PySem.W
open PyProof.Rows hiding St
section
variable {X : Cx} {o e value i f : Expr} {es : List Expr} {pos pos' : Pos}
def putFP (f : Str) (v : PV) : List (Str × PV) → List (Str × PV)
 | [] => [(f, v)]
 | (g, x) :: r => if g = f then (g, v) :: r else (g, x) :: putFP f v r
theorem FP.put {K : PySem.W.Frag} {H : Hp} {f : Str} {v : V} {t : PV} (h : Rep K H v t) : ∀ {gs : List (Str × V)} {fs : List (Str × PV)}, FP K H gs fs → FP K H (putF f v gs) (putFP f t fs) := by
 intro gs fs r
 induction r with
 | nil => exact .cons ⟨rfl, h⟩ .nil
 | @cons p q l1 l2 h' r ih =>
  obtain ⟨g, x⟩ := p
  obtain ⟨g', y⟩ := q
  obtain ⟨rfl, h2⟩ := h'
  unfold putF putFP
  by_cases e : g = f
  ·rw [if_pos e, if_pos e]; exact .cons ⟨rfl, h⟩ r
  ·rw [if_neg e, if_neg e]; exact .cons ⟨rfl, h2⟩ ih
theorem FP.look {K : PySem.W.Frag} {H : Hp} {f : Str} : ∀ {gs : List (Str × V)} {fs : List (Str × PV)}, FP K H gs fs → (∃ v t, gs.lookup f = some v ∧ fs.lookup f = some t ∧ Rep K H v t) ∨ (gs.lookup f = none ∧ fs.lookup f = none) := by
 intro gs fs r
 induction r with
 | nil => exact .inr ⟨rfl, rfl⟩
 | @cons p q l1 l2 h' r ih =>
  obtain ⟨g, x⟩ := p
  obtain ⟨g', y⟩ := q
  obtain ⟨rfl, h2⟩ := h'
  unfold List.lookup
  cases e : (f == g) with
  | true => exact .inl ⟨x, y, rfl, rfl, h2⟩
  | false => exact ih
@[irreducible] def cFld (c : Addr) (f : Str) : PV → CH → K1 → Prop := fun x C Q => match x with
 | .ref p => match C p with
  | some (.ins c' _ fs) => c' = c ∧ match fs.lookup f with
   | some v => Q v C
   | none => False
  | _ => False
 | _ => False
theorem ce_fld {f : Str} {c : Addr} {co : TCE} (hc : Cls X.K c) (hn : NoAttr X.K c f) (ho : CE X o co) (hb : attributeBase o f X.env (eval o X.env) = eval o X.env := by rfl) : CE X (.Attribute o f pos) (fun ρ C Q => co ρ C fun x C1 => cFld c f x C1 Q) :=
 ⟨JE.weak ⟨pe_fld ho.h.h hb⟩ fun σ H Q ⟨ρ, C, R, s, h, q, f'⟩ => ⟨ρ, C, _, s, h, q, fun x H1 px C1 q1 rx h1 f1 => by
  unfold cFld at q1
  split at q1
  ·next p =>
   split at q1
   ·next c' dx fs e1 =>
    obtain ⟨rfl, q1⟩ := q1
    split at q1
    ·next t e2 =>
     obtain ⟨gs, eg, r⟩ := h1 p _ e1
     cases rx
     rcases FP.look r with ⟨v, t', l1, l2, rv⟩ | ⟨l1, l2⟩
     ·rw [e2] at l2
      cases l2
      exact ⟨p, c', dx, gs, v, rfl, eg, hc, hn, l1, f' v H1 t C1 q1 rv h1 f1⟩
     ·rw [e2] at l2; cases l2
    ·exact q1.elim
   ·exact q1.elim
  ·exact q1.elim⟩⟩
@[irreducible] def cPutF (c : Addr) (f : Str) : PV → PV → CH → (CH → Prop) → Prop := fun x v C Q => match x with
 | .ref p => match C p with
  | some (.ins c' dx fs) => c' = c ∧ fs.length < 1000 ∧ Q (updC C p (.ins c' dx (putFP f v fs)))
  | _ => False
 | _ => False
theorem cs_fld {f : Str} {c : Addr} {co cv : TCE} (hc : Cls X.K c) (hn : NoAttr X.K c f) (ho : CE X o co) (hv : CE X value cv) (hs : swapsWith value (some (.Attribute o f pos')) pos.line X.env = pure false := by rfl) :
  CS X (.Assign [.Attribute o f pos'] value pos) (fun E ρ C => cv ρ C fun v C1 => co ρ C1 fun x C2 => cPutF c f x v C2 fun C3 => E.nx ρ C3) := ⟨JS.weak ⟨ps_fld ho.h.h hv.h.h hs⟩ fun D σ H ⟨ρ, C, E, s, h, q, f'⟩ =>
 ⟨ρ, C, _, s, h, q, fun v H1 pv C1 q1 rv h1 f1 => ⟨ρ, C1, _, s.imm (f1.imm h), h1, q1, fun x H2 px C2 q2 rx h2 f2 => by
  have s2 := (s.imm (f1.imm h)).imm (f2.imm h1)
  have rv2 := rv.imm (f2.imm h1)
  unfold cPutF at q2
  split at q2
  ·next p =>
   split at q2
   ·next c' dx fs e1 =>
    obtain ⟨rfl, ql, q2⟩ := q2
    obtain ⟨gs, eg, r⟩ := h2 p _ e1
    cases rx
    have m : Imm H2 (upd H2 p (.ins c' dx (putF f v gs))) := Imm.mut eg rfl _
    exact ⟨p, c', dx, gs, rfl, eg, hc, hn, by rw [Paired.length r]; exact ql, f'.nx σ _ ρ _ q2 (s2.imm m) (h2.put eg rfl ⟨_, upd_same, Paired.mapP (FP.put rv2 r) fun _ _ z => ⟨z.1, z.2.imm m⟩⟩) (f1.trans (f2.trans (Fw.put e1 _ _)))⟩
   ·exact q2.elim
  ·exact q2.elim⟩⟩⟩
def isIns (c : Addr) (m : Str) (x : PV) (C : CH) : Prop := match x with
 | .ref p => match C p with
  | some (.ins c' _ fs) => c' = c ∧ fs.lookup m = none
  | _ => False
 | _ => False
theorem isIns_of {c : Addr} {m : Str} {K : PySem.W.Frag} {H : Hp} {C : CH} {x : V} {t : PV} (d : isIns c m t C) (r : Rep K H x t) (h : HRel K H C) : ∃ a dx gs, x = .ref a ∧ t = .ref a ∧ H a = some (.ins c dx gs) ∧ gs.lookup m = none := by
 unfold isIns at d
 split at d
 ·split at d
  ·next e =>
   obtain ⟨rfl, d⟩ := d
   obtain ⟨gs, eg, rf⟩ := h _ _ e
   cases r
   refine ⟨_, _, gs, rfl, rfl, eg, ?_⟩
   rcases FP.look (f := m) rf with ⟨v, t', l1, l2, _⟩ | ⟨l1, l2⟩
   ·rw [l2] at d; cases d
   ·exact l1
  ·exact d.elim
 ·exact d.elim
def cMeth (c : Addr) (m : Str) (G : GC) (co : TCE) (ca : TCA) : TCE := fun ρ C Q => co ρ C fun x C1 => isIns c m x C1 ∧ ca ρ C1 fun xs C2 => G (x :: xs) C2 Q
theorem ce_meth {CX : CXT} {k : Nat} {c fa : Addr} {fd : FuncData} {ps : List Str} {G : GC} {E : XK} {m : Str} {apos : Pos} {co : TCE} {ca : TCA} {pl : Sem Bool} (hc : Cls X.K c) (hm : Meth X.K c m fa) (F : FnOk X.prog X.w X.K X.mg X.base CX k fa fd ps (spC X.K G)) (hr : Room k X.A) (hb : Binds X.K fd ps []) (hx : Passes CX X E) (ho : CE X o co) (ha : CA X (e :: es) ca)
  (hst : starEach (e :: es) X.env = (false, eval e X.env) :: starEach es X.env := by rfl) (hpl : (backTo pos (starEach es X.env)).any (·.1) = false := by rfl)
  (ht : eval (.Call (.Attribute o m apos) (e :: es) [] pos) X.env = (do
   let ov ← eval o X.env
   standAt apos.atName
   let (f, first) ← holding [ov] (getMethod ov m pl)
   callWith pos f first (backTo pos (starEach (e :: es) X.env)) (backToKw pos (keywordEach [] X.env))) := by rfl) :
  CE X (.Call (.Attribute o m apos) (e :: es) [] pos) (cMeth c m G co ca) :=
 ⟨JE.weak ⟨pe_meth (dvs := []) (E := E) ho.h.h hc hm F hr hb .nil hx ha.h.h hst hpl ht⟩ fun σ H Q ⟨ρ, C, R, s, h, q, f⟩ => ⟨ρ, C, _, s, h, q, fun x H1 px C1 q1 rx h1 f1 => by
  obtain ⟨a, dx, gs, rfl, rfl, eg, lk⟩ := isIns_of q1.1 rx h1
  refine ⟨a, dx, gs, rfl, eg, lk, ρ, C1, _, s.imm (f1.imm h), h1, q1.2, fun xs H2 ts C2 q2 rs h2 f2 => ?_⟩
  exact ⟨.ref a :: ts, C2, R, .cons (.ref a) (by rw [List.append_nil]; exact rs), h2, q2, fun v H' t C' q' r' h' f' => f v H' t C' q' r' h' (f1.trans (f2.trans f'))⟩⟩⟩
def cMake (c : Addr) (G : GC) (ca : TCA) : TCE := fun ρ C Q => ca ρ C fun xs C1 => ∀ x dx, C1 x = none → C1 dx = none → dx ≠ x → G (.ref x :: xs) (updC C1 x (.ins c dx [])) fun v C2 => v = .non ∧ Q (.ref x) C2
theorem ce_make {CX : CXT} {k : Nat} {c fa : Addr} {fd : FuncData} {ps : List Str} {G : GC} {E : XK} {x : Str} {p : Pos} {ca : TCA} (M : Mk X.K c fa) (F : FnOk X.prog X.w X.K X.mg X.base CX k fa fd ps (spC X.K G)) (hr : Room (k + 1) X.A) (hg : Gl X x) (hm : X.mg x = some (.ref c)) (hb : Binds X.K fd ps []) (hx : Passes CX X E) (ha : CA X (e :: es) ca)
  (hdb : (x == ("__debug__" : Str)) = false := by decide) (hst : starEach (e :: es) X.env = (false, eval e X.env) :: starEach es X.env := by rfl) (hpl : (backTo pos (starEach es X.env)).any (·.1) = false := by rfl) : CE X (.Call (.Name x p) (e :: es) [] pos) (cMake c G ca) :=
 ⟨JE.weak ⟨pe_make (dvs := []) (E := E) M F hr hg hm hb .nil hx ha.h.h hdb hst hpl⟩ fun σ H Q ⟨ρ, C, R, s, h, q, f⟩ => ⟨ρ, C, _, s, h, q, fun xs H1 ts C1 q1 rs h1 f1 => fun y dx hy hd nd => by
  have h2 := h1.new hd (.own y)
  have hy' : upd H1 dx (.own y) y = none := by rw [upd_ne (Ne.symm nd)]; exact hy
  have k1 : Imm H1 (upd H1 dx (.own y)) := Imm.new hd _
  have k2 : Imm (upd H1 dx (.own y)) (upd (upd H1 dx (.own y)) y (.ins c dx [])) := Imm.new hy' _
  refine ⟨.ref y :: ts, updC C1 y (.ins c dx []), _, .cons (.ref y) (by rw [List.append_nil]; exact (rs.imm k1).imm k2), h2.lay hy' ⟨[], upd_same, .nil⟩, q1 y dx (h1.fresh hy) (h1.fresh hd) nd, fun v H' t C' q' r' h' f' => ?_⟩
  obtain ⟨rfl, q'⟩ := q'
  cases r'
  exact ⟨rfl, f _ H' _ C' q' (.ref y) h' (f1.trans (((Fw.new hd _).trans (Fw.lay hy' _ _)).trans f'))⟩⟩⟩
end
end CL
set_option Elab.async false
set_option linter.all false
set_option maxRecDepth 100000
set_option maxHeartbeats 4000000
namespace L2
open PySem PySem.Spec PyProof.Rows PySem.W
section
variable {X : Cx}
theorem bools_of {bs : List Bool} {its : List Value} (r : Vals (bs.map V.bl) its) : its = bs.map Value.bool := by
 induction bs generalizing its with
 | nil => cases r; rfl
 | cons b bs ih =>
  rw [List.map_cons] at r
  cases r with
  | cons a t =>
   cases (show _ = Value.bool b from a)
   rw [ih t]
   rfl
def rIndexT : V → List V → Hp → VK → Prop := fun x vs H Q => ∃ (l : Addr) (bs : List Bool) (j : Nat), x = .ref l ∧ vs = [.bl true] ∧ H l = some (.lst (bs.map V.bl)) ∧ bs[j]? = some true ∧ (∀ m, m < j → bs[m]? = some false) ∧ Q (.int j) H
theorem mt_indexT : MtM X "list.index" rIndexT := by
 intro pins s σ H x vs v us Q I rx rv h
 obtain ⟨l, bs, j, rfl, rfl, hH, hj, hno, q⟩ := h
 cases rx
 obtain ⟨u, rfl, ru⟩ := rv.one
 cases (show u = Value.bool true from ru)
 obtain ⟨z, its, n, r, hl, e⟩ := I.lstM hH
 have ei := bools_of r
 subst ei
 have hjl : j < bs.length := by
  rcases Nat.lt_or_ge j bs.length with h | h
  ·exact h
  ·rw [List.getElem?_eq_none h] at hj; cases hj
 have hz := line63
 have hb : bs.length ≤ sizeLine := by rw [List.length_map] at z; exact z
 have isT : ∀ v : Value, Bool := fun v => match v with
  | .bool b => b
  | _ => false
 refine call_meets F.slot_list_index ⟨_, e, rfl⟩ F.entry_list_index (F.args_list_index_2 _ _)
  (SeqAt.list_indexAt l (bs.map Value.bool).toArray n none #[] (.bool true) (fun v => v == .bool true) j (by simpa using hjl) (by omega) ?_ ?_) ⟨e, fun y hy => ?_, ⟨.int j, H, I.tok _, ⟨_, rfl⟩, q⟩⟩
 ·have : bs[j] = true := by rw [List.getElem?_eq_getElem hjl] at hj; exact Option.some.inj hj
  simp [this]
 ·intro m hm hmj
  have hml : m < bs.length := by omega
  have : bs[m] = false := by have := hno m hmj; rw [List.getElem?_eq_getElem hml] at this; exact Option.some.inj this
  simp [this]
 ·have hy : y ∈ bs.map Value.bool := by simpa using hy
  obtain ⟨b, _, rfl⟩ := List.mem_map.mp hy
  have := SeqAt.EqAt.bool_bool (A := X.A.in1) (s := s) b true
  have e2 : (Value.bool b == Value.bool true) = (b == true) := by cases b <;> rfl
  rw [e2]
  exact this
theorem call_dictK : CallR X (.type "dict") (fun xs H Q => ∃ a kvs, xs = [.ref a] ∧ H a = some (.dK kvs) ∧ ∀ p, H p = none → Q (.ref p) (upd H p (.dK kvs))) := by
 intro pins s σ H xs us Q I r h
 obtain ⟨a, kvs, rfl, ha, q⟩ := h
 obtain ⟨u, rfl, ru⟩ := r.one
 cases (show u = Value.ref a from ru)
 obtain ⟨z, hd, vs, rel, dd⟩ := dk_of I.hok ha
 refine kt_call_dict hd dd (by rw [← rel.length]; exact z) fun h' hm hs => ?_
 refine ⟨.ref s.heap.objs.size, _, I.laid (t' := s.toks) (o := .dK kvs) (fun b o e => hs.extBut b o (Nat.ne_of_lt (Heap.lt_size e)) (Heap.get?_push_of_some _ e)) (Nat.le_refl _) ?_, rfl, q _ (I.hok.fresh (Nat.le_refl _))⟩
 exact ⟨z, beq_false_of_ne (Nat.ne_of_gt I.big), vs, rel, hm⟩
end
end L2
set_option Elab.async false
set_option linter.all false
set_option maxRecDepth 100000
set_option maxHeartbeats 4000000
namespace CL
open PySem PySem.Spec L2 PySem.W
open PyProof.Rows hiding St
def keysOf : List PV → Option (List Key)
 | [] => some []
 | t :: r => match keyOf t, keysOf r with
  | some k, some ks => some (k :: ks)
  | _, _ => none
def tkOf : PV → Option (List Key)
 | .tup ts => keysOf ts
 | _ => none
theorem keysOf_rep {K : PySem.W.Frag} {H : Hp} {vs : List V} {ts : List PV} {ks : List Key} (r : Reps K H vs ts) (e : keysOf ts = some ks) : vs = ks.map kV := by
 induction ts generalizing vs ks with
 | nil => cases r; cases e; rfl
 | cons t ts ih =>
  cases r with
  | cons h r =>
   unfold keysOf at e
   split at e
   ·next k ks' e1 e2 => cases e; rw [keyOf_rep h e1, ih r e2]; rfl
   ·cases e
theorem tkOf_rep {K : PySem.W.Frag} {H : Hp} {v : V} {t : PV} {ks : List Key} (r : Rep K H v t) (e : tkOf t = some ks) : ∃ b, v = .ref b ∧ H b = some (.tup (ks.map kV)) := by
 cases r <;> try (cases e)
 next a vs ts h r => exact ⟨a, rfl, by rw [h, keysOf_rep r e]⟩
section
variable {κ : Type} [DecidableEq κ]
def valG (kvs : List (κ × PV)) (k : κ) : Option PV := (kvs.find? fun kv => decide (kv.1 = k)).map (·.2)
def putG (kvs : List (κ × PV)) (k : κ) (v : PV) : List (κ × PV) := if (kvs.any fun kv => decide (kv.1 = k)) = true then kvs.map fun kv => if kv.1 = k then (kv.1, v) else kv else kvs ++ [(k, v)]
def mergeG (kvs more : List (κ × PV)) : List (κ × PV) := more.foldl (fun acc kv => putG acc kv.1 kv.2) kvs
theorem FP.val {K : PySem.W.Frag} {H : Hp} {vs : List (κ × V)} {kvs : List (κ × PV)} (r : FP K H vs kvs) (k : κ) : (∃ v t, valV vs k = some v ∧ valG kvs k = some t ∧ Rep K H v t) ∨ (valV vs k = none ∧ valG kvs k = none) := by
 induction r with
 | nil => exact .inr ⟨rfl, rfl⟩
 | @cons p q l1 l2 h r ih =>
  unfold valV valG
  rw [List.find?_cons, List.find?_cons, h.1]
  by_cases e : q.1 = k
  ·rw [decide_eq_true e]
   exact .inl ⟨p.2, q.2, rfl, rfl, h.2⟩
  ·rw [decide_eq_false e]
   exact ih
theorem FP.anyG {K : PySem.W.Frag} {H : Hp} {vs : List (κ × V)} {kvs : List (κ × PV)} (r : FP K H vs kvs) (k : κ) : (vs.any fun kv => decide (kv.1 = k)) = (kvs.any fun kv => decide (kv.1 = k)) := by
 induction r with
 | nil => rfl
 | @cons p q l1 l2 h r ih => rw [List.any_cons, List.any_cons, h.1, ih]
theorem FP.putG {K : PySem.W.Frag} {H : Hp} {vs : List (κ × V)} {kvs : List (κ × PV)} (r : FP K H vs kvs) (k : κ) {v : V} {t : PV} (h : Rep K H v t) : FP K H (putK vs k v) (CL.putG kvs k t) := by
 unfold putK CL.putG
 rw [FP.anyG r k]
 have upd : FP K H (vs.map fun kv => if kv.1 = k then (kv.1, v) else kv) (kvs.map fun kv => if kv.1 = k then (kv.1, t) else kv) := by
  induction r with
  | nil => exact .nil
  | @cons p q l1 l2 h' r ih =>
   refine .cons ?_ ih
   dsimp only
   by_cases e : q.1 = k
   ·rw [if_pos (h'.1.trans e), if_pos e]; exact ⟨h'.1, h⟩
   ·rw [if_neg (fun z => e (h'.1.symm.trans z)), if_neg e]; exact h'
 split
 ·exact upd
 ·exact Paired.snoc r ⟨rfl, h⟩
end
section
variable {X : Cx} {a b c e o i f value : Expr} {es : List Expr} {pos pos' : Pos}
def cTNew : TCE := fun _ C Q => ∀ p, C p = none → Q (.ref p) (updC C p (.dT []))
theorem ce_tnew : CE X (.Dict [] [] pos) cTNew := ⟨JE.weak je_dnewT fun σ H Q ⟨ρ, C, R, s, h, q, f⟩ => fun p hp => f (.ref p) _ (.ref p) _ (q p (h.fresh hp)) (.ref p) (h.lay hp ⟨[], upd_same, .nil⟩) (Fw.lay hp _ _)⟩
@[irreducible] def cTIx : R2C := fun x y C Q => match x with
 | .ref a => match C a, tkOf y with
  | some (.dT kvs), some k => match valG kvs k with
   | some v => Q v C
   | none => False
  | _, _ => False
 | _ => False
theorem ce_tix {co ci : TCE} (hu : X.A.units + 1 < cLine) (ho : CE X o co) (hi : CE X i ci) (hs : NoSl i) : CE X (.Subscript o i pos) (cOp cTIx co ci) := ⟨JE.weak (je_dget hu ho.h hi.h hs) fun σ H Q ⟨ρ, C, R, s, h, q, f⟩ =>
 ⟨ρ, C, _, s, h, q, fun x H1 px C1 q1 rx h1 f1 => ⟨ρ, C1, _, s.imm (f1.imm h), h1, q1, fun y H2 py C2 q2 ry h2 f2 => by
  unfold cTIx at q2
  split at q2
  ·next a =>
   split at q2
   ·next kvs k e1 e2 =>
    split at q2
    ·next t e3 =>
     have rx2 := rx.imm (f2.imm h1)
     cases rx2
     obtain ⟨vs, ev, r⟩ := h2 a _ e1
     obtain ⟨b, rfl, eb⟩ := tkOf_rep ry e2
     rcases FP.val r k with ⟨v, t', l1, l2, rv⟩ | ⟨_, l2⟩
     ·rw [e3] at l2
      cases l2
      exact ⟨a, v, rfl, by rw [← l1]; exact DGet.t ev eb, f v H2 t C2 q2 rv h2 (f1.trans f2)⟩
     ·rw [e3] at l2; cases l2
    ·exact q2.elim
   ·exact q2.elim
  ·exact q2.elim⟩⟩⟩
def isTd (x : PV) (C : CH) : Prop := match x with
 | .ref a => match C a with
  | some (.dT _) => True
  | _ => False
 | _ => False
theorem isTd_of {K : PySem.W.Frag} {H : Hp} {C : CH} {x : V} {t : PV} (d : isTd t C) (r : Rep K H x t) (h : HRel K H C) : ∃ a kvs, x = .ref a ∧ t = .ref a ∧ H a = some (.dT kvs) := by
 unfold isTd at d
 split at d
 ·split at d
  ·next e => obtain ⟨vs, ev, _⟩ := h _ _ e; cases r; exact ⟨_, vs, rfl, rfl, ev⟩
  ·exact d.elim
 ·exact d.elim
@[irreducible] def cTGet : PV → PV → PV → CH → K1 → Prop := fun x y z C Q => match x with
 | .ref a => match C a, tkOf y with
  | some (.dT kvs), some k => Q ((valG kvs k).getD z) C
  | _, _ => False
 | _ => False
def cTGet2 (co ck cz : TCE) : TCE := fun ρ C Q => co ρ C fun x C1 => isTd x C1 ∧ ck ρ C1 fun y C2 => cz ρ C2 fun z C3 => cTGet x y z C3 Q
theorem ce_tget2 {co ck cz : TCE} {apos cpos : Pos} (hu : X.A.units + 1 < cLine) (ho : CE X o co) (he : CE X e ck) (hf : CE X f cz) (hb : attributeBase o "get" X.env (eval o X.env) = eval o X.env := by rfl) (hl : (apos.endLine == cpos.line) = true := by rfl)
  (h1 : noStar e = true := by rfl) (h2 : noStar f = true := by rfl) : CE X (.Call (.Attribute o "get" apos) [e, f] [] cpos) (cTGet2 co ck cz) := ⟨JE.weak (je_dget2 hu ho.h he.h hf.h hb hl h1 h2) fun σ H Q ⟨ρ, C, R, s, h, q, f⟩ =>
 ⟨ρ, C, _, s, h, q, fun x H1 px C1 q1 rx h1 f1 => by
  obtain ⟨a, kvs, rfl, rfl, e1⟩ := isTd_of q1.1 rx h1
  refine ⟨a, rfl, .inr ⟨kvs, .inl e1⟩, ρ, C1, _, s.imm (f1.imm h), h1, q1.2, fun y H2 py C2 q2 ry h2 f2 => ⟨ρ, C2, _, (s.imm (f1.imm h)).imm (f2.imm h1), h2, q2, fun z H3 pz C3 q3 rz h3 f3 => ?_⟩⟩
  unfold cTGet at q3
  dsimp only at q3
  split at q3
  ·next kvs' k d1 d2 =>
   obtain ⟨vs, ev, r⟩ := h3 a _ d1
   obtain ⟨b, rfl, eb⟩ := tkOf_rep (ry.imm (f3.imm h2)) d2
   rcases FP.val r k with ⟨v, t', l1, l2, rv⟩ | ⟨l1, l2⟩
   ·rw [l2] at q3
    exact ⟨some v, by rw [← l1]; exact DGet.t ev eb, f v H3 t' C3 q3 rv h3 (f1.trans (f2.trans f3))⟩
   ·rw [l2] at q3
    exact ⟨none, by rw [← l1]; exact DGet.t ev eb, f z H3 pz C3 q3 rz h3 (f1.trans (f2.trans f3))⟩
  ·exact q3.elim⟩⟩
@[irreducible] def cPutT : PV → PV → PV → CH → (CH → Prop) → Prop := fun x y v C Q => match x with
 | .ref a => match C a, tkOf y with
  | some (.dT kvs), some k => kvs.length < sizeLine ∧ Q (updC C a (.dT (putG kvs k v)))
  | _, _ => False
 | _ => False
def cTPut (co ck cv : TCE) : TCS := fun E ρ C => cv ρ C fun v C1 => co ρ C1 fun x C2 => ck ρ C2 fun y C3 => cPutT x y v C3 fun C4 => E.nx ρ C4
theorem cs_tput {co ck cv : TCE} (hu : X.A.units + 1 < cLine) (ho : CE X o co) (hi : CE X i ck) (hv : CE X value cv) (hs : swapsWith value (some (.Subscript o i pos')) pos.line X.env = pure false := by rfl) :
  CS X (.Assign [.Subscript o i pos'] value pos) (cTPut co ck cv) := ⟨JS.weak (js_dput hu ho.h hi.h hv.h hs) fun D σ H ⟨ρ, C, E, s, h, q, f⟩ =>
 ⟨ρ, C, _, s, h, q, fun v H1 pv C1 q1 rv h1 f1 => ⟨ρ, C1, _, s.imm (f1.imm h), h1, q1, fun x H2 px C2 q2 rx h2 f2 => ⟨ρ, C2, _, (s.imm (f1.imm h)).imm (f2.imm h1), h2, q2, fun y H3 py C3 q3 ry h3 f3 => by
  have s3 := ((s.imm (f1.imm h)).imm (f2.imm h1)).imm (f3.imm h2)
  have rv3 := rv.imm ((f2.trans f3).imm h1)
  unfold cPutT at q3
  split at q3
  ·next a =>
   split at q3
   ·next kvs k e1 e2 =>
    have rx3 := rx.imm (f3.imm h2)
    cases rx3
    obtain ⟨vs, ev, r⟩ := h3 a _ e1
    obtain ⟨b, rfl, eb⟩ := tkOf_rep ry e2
    have hl : vs.length = kvs.length := Paired.length r
    have m : Imm H3 (upd H3 a (.dT (putK vs k v))) := Imm.mut ev rfl _
    refine ⟨a, _, rfl, DPut.t ev eb (by rw [hl]; exact q3.1), f.nx σ _ ρ _ q3.2 (s3.imm m) (h3.put ev rfl ⟨_, upd_same, Paired.mapP (FP.putG r k rv3) fun _ _ z => ⟨z.1, z.2.imm m⟩⟩) (f1.trans (f2.trans (f3.trans (Fw.put e1 _ _))))⟩
   ·exact q3.elim
  ·exact q3.elim⟩⟩⟩⟩
end
end CL
set_option Elab.async false
set_option linter.all false
set_option maxRecDepth 100000
set_option maxHeartbeats 4000000
namespace CL
open PySem PySem.Spec L2 PySem.W
open PyProof.Rows hiding St
section
variable {X : Cx} {a b c e o i f value : Expr} {es : List Expr} {pos pos' : Pos}
@[irreducible] def cMax : GC := fun ts C Q => match ts with
 | [.int i, .int j] => Q (.int (if j > i then j else i)) C
 | _ => False
@[irreducible] def cMin : GC := fun ts C Q => match ts with
 | [.int i, .int j] => Q (.int (if j < i then j else i)) C
 | _ => False
theorem cbi_max {K : PySem.W.Frag} : Cbi K (fun xs H Q => ∃ i j, xs = [.int i, .int j] ∧ Q (.int (if j > i then j else i)) H) cMax := fun xs ts H C Q R rs h q f => by
 unfold cMax at q
 split at q
 ·obtain ⟨v1, v2, rfl, r1, r2⟩ := rep_two rs
  cases r1; cases r2
  exact ⟨_, _, rfl, f _ H _ C q (.int _) h Fw.refl⟩
 ·exact q.elim
theorem cbi_min {K : PySem.W.Frag} : Cbi K (fun xs H Q => ∃ i j, xs = [.int i, .int j] ∧ Q (.int (if j < i then j else i)) H) cMin := fun xs ts H C Q R rs h q f => by
 unfold cMin at q
 split at q
 ·obtain ⟨v1, v2, rfl, r1, r2⟩ := rep_two rs
  cases r1; cases r2
  exact ⟨_, _, rfl, f _ H _ C q (.int _) h Fw.refl⟩
 ·exact q.elim
@[irreducible] def cDictK : GC := fun ts C Q => match ts with
 | [.ref a] => match C a with
  | some (.dK kvs) => ∀ p, C p = none → Q (.ref p) (updC C p (.dK kvs))
  | _ => False
 | _ => False
theorem cbi_dictK {K : PySem.W.Frag} : Cbi K (fun xs H Q => ∃ a kvs, xs = [.ref a] ∧ H a = some (.dK kvs) ∧ ∀ p, H p = none → Q (.ref p) (upd H p (.dK kvs))) cDictK := fun xs ts H C Q R rs h q f => by
 unfold cDictK at q
 split at q
 ·split at q
  ·next kvs e =>
   obtain ⟨v, rfl, r⟩ := rep_one rs
   obtain ⟨vs, ev, rv⟩ := h _ _ e
   cases r
   exact ⟨_, vs, rfl, ev, fun p hp => f _ _ _ _ (q p (h.fresh hp)) (.ref p) (h.lay hp ⟨vs, upd_same, Paired.mapP rv fun _ _ z => ⟨z.1, z.2.imm (Imm.new hp _)⟩⟩) (Fw.lay hp _ _)⟩
  ·exact q.elim
 ·exact q.elim
@[irreducible] def cCount : PV → List PV → CH → K1 → Prop := fun x ts C Q => match x, ts with
 | .ref a, [y] => match C a, keyOf y with
  | some (.lst xs), some k => match keysOf xs with
   | some ks => Q (.int (cntK k ks : Nat)) C
   | none => False
  | _, _ => False
 | _, _ => False
theorem cmt_count {K : PySem.W.Frag} : Cmt K rCount cCount := fun x px xs ts H C Q R rx rs h q f => by
 unfold cCount at q
 split at q
 ·split at q
  ·next ys k e1 e2 =>
   split at q
   ·next ks e3 =>
    obtain ⟨v, rfl, r⟩ := rep_one rs
    obtain ⟨vs, ev, rv⟩ := h _ _ e1
    cases rx
    have ek := keyOf_rep r e2
    subst ek
    exact ⟨_, ks, k, rfl, rfl, by rw [ev, keysOf_rep rv e3], f _ H _ C q (.int _) h Fw.refl⟩
   ·exact q.elim
  ·exact q.elim
 ·exact q.elim
@[irreducible] def cIndexT : PV → List PV → CH → K1 → Prop := fun x ts C Q => match x, ts with
 | .ref a, [.bl true] => match C a with
  | some (.lst xs) => ∃ (bs : List Bool) (j : Nat), xs = bs.map PV.bl ∧ bs[j]? = some true ∧ (∀ m, m < j → bs[m]? = some false) ∧ Q (.int (j : Nat)) C
  | _ => False
 | _, _ => False
theorem bls_rep_of {K : PySem.W.Frag} {H : Hp} : ∀ {bs : List Bool} {vs : List V}, Reps K H vs (bs.map PV.bl) → vs = bs.map V.bl
 | [], _, r => by cases r; rfl
 | b :: bs, _, r => by
  cases r with
  | cons h r => cases h; rw [bls_rep_of r]; rfl
theorem cmt_indexT {K : PySem.W.Frag} : Cmt K rIndexT cIndexT := fun x px xs ts H C Q R rx rs h q f => by
 unfold cIndexT at q
 split at q
 ·split at q
  ·next ys e1 =>
   obtain ⟨bs, j, rfl, h1, h2, q⟩ := q
   obtain ⟨v, rfl, r⟩ := rep_one rs
   obtain ⟨vs, ev, rv⟩ := h _ _ e1
   cases rx
   cases r
   exact ⟨_, bs, j, rfl, rfl, by rw [ev, bls_rep_of rv], h1, h2, f _ H _ C q (.int _) h Fw.refl⟩
  ·exact q.elim
 ·exact q.elim
@[irreducible] def cEqT (k : Bool → Bool) : R2C := fun x y C Q => match tkOf x, tkOf y with
 | some ks, some js => Q (.bl (k (decide (ks = js)))) C
 | _, _ => False
theorem cop_eqT {K : PySem.W.Frag} : Cop K (fun x y H Q => ∃ (a b : Addr) (ks js : List Key), x = .ref a ∧ y = .ref b ∧ H a = some (.tup (ks.map kV)) ∧ H b = some (.tup (js.map kV)) ∧ Q (.bl (decide (ks = js))) H) (cEqT id) := fun x y px py H C Q R rx ry h q f => by
 unfold cEqT at q
 split at q
 ·next ks js e1 e2 =>
  obtain ⟨a, rfl, ha⟩ := tkOf_rep rx e1
  obtain ⟨b, rfl, hb⟩ := tkOf_rep ry e2
  exact ⟨a, b, ks, js, rfl, rfl, ha, hb, f _ H _ C q (.bl _) h Fw.refl⟩
 ·exact q.elim
def flatP : PV → Option V
 | .non => some .non
 | .bl b => some (.bl b)
 | .int i => some (.int i)
 | .str x => some (.str x)
 | _ => none
theorem flatP_rep {K : PySem.W.Frag} {H : Hp} {v w : V} {t : PV} (r : Rep K H v t) (e : flatP t = some w) : v = w ∧ flatV w = true := by
 cases r <;> cases e <;> exact ⟨rfl, rfl⟩
def flatPs : List PV → Option (List V)
 | [] => some []
 | t :: r => match flatP t, flatPs r with
  | some v, some vs => some (v :: vs)
  | _, _ => none
theorem flatPs_rep {K : PySem.W.Frag} {H : Hp} {ts : List PV} {vs ws : List V} (r : Reps K H vs ts) (e : flatPs ts = some ws) : vs = ws ∧ ws.all flatV = true := by
 induction ts generalizing vs ws with
 | nil => cases r; cases e; exact ⟨rfl, rfl⟩
 | cons t ts ih =>
  cases r with
  | cons h r =>
   unfold flatPs at e
   split at e
   ·next v us e1 e2 =>
    cases e
    obtain ⟨rfl, f1⟩ := flatP_rep h e1
    obtain ⟨rfl, f2⟩ := ih r e2
    exact ⟨rfl, by rw [List.all_cons, f1, f2]; rfl⟩
   ·cases e
def seqP (C : CH) : PV → Option (List PV)
 | .tup xs => some xs
 | .kt xs => some xs
 | .ref a => match C a with
  | some (.lst xs) => some xs
  | _ => none
 | _ => none
@[irreducible] def cInS (neg : Bool) : R2C := fun x y C Q => match seqP C y, flatP x with
 | some ts, some v => match flatPs ts with
  | some vs => Q (.bl (if neg then !inV v vs else inV v vs)) C
  | none => False
 | _, _ => False
theorem cop_inS {K : PySem.W.Frag} {neg : Bool} : Cop K (rIn K neg) (cInS neg) := fun x y px py H C Q R rx ry h q f => by
 unfold cInS at q
 split at q
 ·next ts v e1 e2 =>
  split at q
  ·next vs e3 =>
   obtain ⟨rfl, fx⟩ := flatP_rep rx e2
   have key : ∃ p ws, y = .ref p ∧ (SqL K H p ws ∨ SqT K H p ws) ∧ Reps K H ws ts := by
    cases ry <;> try (cases e1)
    ·next a =>
     unfold seqP at e1
     dsimp only at e1
     split at e1
     ·next xs e =>
      cases e1
      obtain ⟨us, eu, ru⟩ := h _ _ e
      exact ⟨a, us, rfl, .inl (SqL.of eu), ru⟩
     ·cases e1
    ·next p us hp r => exact ⟨p, us, rfl, .inr (SqT.of hp), r⟩
    ·next p us hp r => exact ⟨p, us, rfl, .inr hp, r⟩
   obtain ⟨p, ws, rfl, hs, rs⟩ := key
   obtain ⟨rfl, fs⟩ := flatPs_rep rs e3
   exact ⟨p, ws, rfl, hs, fx, fs, f _ H _ C q (.bl _) h Fw.refl⟩
  ·exact q.elim
 ·exact q.elim
@[irreducible] def cRepL : R2C := fun x y C Q => match x, y with
 | .ref a, .int k => match C a with
  | some (.lst xs) => -(2 ^ 63) ≤ k ∧ k < 2 ^ 63 ∧ xs.length * k.toNat ≤ sizeLine ∧ ∀ p, C p = none → Q (.ref p) (updC C p (.lst (List.replicate k.toNat xs).flatten))
  | _ => False
 | .tup [z], .int k => 0 ≤ k ∧ k < 64 ∧ Q (.tup (List.replicate k.toNat z)) C
 | _, _ => False
theorem Reps.flat {K : PySem.W.Frag} {H : Hp} {vs : List V} {ts : List PV} (r : Reps K H vs ts) : ∀ n, Reps K H (List.replicate n vs).flatten (List.replicate n ts).flatten
 | 0 => .nil
 | n + 1 => by
  rw [List.replicate_succ, List.flatten_cons, List.replicate_succ, List.flatten_cons]
  exact r.append (Reps.flat r n)
theorem Reps.rep {K : PySem.W.Frag} {H : Hp} {v : V} {t : PV} (r : Rep K H v t) : ∀ n, Reps K H (List.replicate n v) (List.replicate n t)
 | 0 => .nil
 | n + 1 => .cons r (Reps.rep r n)
theorem op_repC : OpR X (binaryOp .Mult) (fun x y H Q => rRep x y H Q ∨ rRepU x y H Q) := OpR.or op_rep op_repU
theorem cop_rep {K : PySem.W.Frag} : Cop K (fun x y H Q => rRep x y H Q ∨ rRepU x y H Q) cRepL := fun x y px py H C Q R rx ry h q f => by
 unfold cRepL at q
 split at q
 ·split at q
  ·next xs e =>
   obtain ⟨vs, ev, rv⟩ := h _ _ e
   cases rx; cases ry
   refine .inl ⟨_, _, vs, rfl, rfl, ev, q.1, q.2.1, by rw [rv.len]; exact q.2.2.1, fun p hp => ?_⟩
   exact f _ _ _ _ (q.2.2.2 p (h.fresh hp)) (.ref p) (h.lay hp ⟨_, upd_same, (Reps.flat rv _).imm (Imm.new hp _)⟩) (Fw.lay hp _ _)
  ·exact q.elim
 ·cases ry
  cases rx with
  | tup e r =>
   obtain ⟨v, rfl, r1⟩ := rep_one r
   refine .inr ⟨_, _, v, rfl, rfl, e, q.1, q.2.1, fun p H' s hp _ => ?_⟩
   exact f _ H' _ C q.2.2 (.tup hp (Reps.rep (r1.imm fun b v _ e => s b v e) _)) (hrel_same h s) (fw_same s)
 ·exact q.elim
end
end CL
set_option Elab.async false
set_option linter.all false
set_option maxRecDepth 100000
set_option maxHeartbeats 4000000
namespace CL
open PySem PySem.Spec L2 PySem.W
open PyProof.Rows hiding St
def strsOf : List Key → Option (List Str)
 | [] => some []
 | .inr x :: r => (strsOf r).map (x :: ·)
 | _ => none
theorem strsOf_eq {ks : List Key} {zs : List Str} (e : strsOf ks = some zs) : ks = zs.map Sum.inr := by
 induction ks generalizing zs with
 | nil => cases e; rfl
 | cons k ks ih =>
  rcases k with k | x
  ·cases e
  ·unfold strsOf at e
   cases z : strsOf ks with
   | none => rw [z] at e; cases e
   | some ws => rw [z] at e; cases e; rw [ih z]; rfl
def tiK : List (List Key × PV) → Option (List (List Str × Int))
 | [] => some []
 | (k, .int i) :: r => match strsOf k, tiK r with
  | some zs, some cs => some ((zs, i) :: cs)
  | _, _ => none
 | _ => none
theorem tiK_eq {kvs : List (List Key × PV)} {cs : List (List Str × Int)} (e : tiK kvs = some cs) : kvs = cs.map fun c => (c.1.map Sum.inr, PV.int c.2) := by
 induction kvs generalizing cs with
 | nil => cases e; rfl
 | cons p kvs ih =>
  unfold tiK at e
  split at e
  ·rename_i h; cases h
  ·rename_i k i r h
   cases h
   split at e
   ·next zs ds e1 e2 => cases e; rw [ih e2, strsOf_eq e1]; rfl
   ·cases e
  ·cases e
def tiPV (c : List Str × Int) : PV := .tup [.tup (c.1.map PV.str), .int c.2]
def tiLt (cs : List (List Str × Int)) : Nat → Nat → Bool := fun i j => ltP (cs.getD i ([], 0)) (cs.getD j ([], 0))
def ordT (cs : List (List Str × Int)) : List (List Str × Int) := (kRun (tiLt cs) (kas_sort cs.length)).toList.map fun i => cs.getD i ([], 0)
section
variable {K : PySem.W.Frag} {H : Hp} {X : Cx}
theorem strs_rep : ∀ zs : List Str, Reps K H (zs.map V.str) (zs.map PV.str)
 | [] => .nil
 | z :: zs => .cons (.str z) (strs_rep zs)
theorem ord_repG {ys : List V} {ts : List PV} (d : PV) (lt : Nat → Nat → Bool) (r : Reps K H ys ts) : Reps K H (ordV lt ys) ((kRun lt (kas_sort ts.length)).toList.map fun i => ts.getD i d) := by
 have hl : ys.length = ts.length := r.len
 unfold ordV
 rw [hl]
 have mem : ∀ i ∈ (kRun lt (kas_sort ts.length)).toList, i < ys.length := by
  intro i hi
  by_cases h : 0 < ts.length
  ·rw [hl]; exact List.mem_range.mp ((kRun_ord lt ts.length h).mem_iff.mp hi)
  ·have e : ts.length = 0 := by omega
   rw [e, run0] at hi
   cases hi
 generalize (kRun lt (kas_sort ts.length)).toList = l at mem ⊢
 induction l with
 | nil => exact .nil
 | cons i l ih => exact .cons (r.getD (d := d) i (mem i List.mem_cons_self)) (ih fun j hj => mem j (List.mem_cons_of_mem _ hj))
theorem ti_ord (cs : List (List Str × Int)) (l : List Nat) : (l.map fun i => (cs.map tiPV).getD i (tiPV ([], 0))) = (l.map fun i => cs.getD i ([], 0)).map tiPV := by
 rw [List.map_map]
 congr 1
 funext i
 show (cs.map tiPV).getD i (tiPV ([], 0)) = tiPV (cs.getD i ([], 0))
 rw [List.getD_eq_getElem?_getD, List.getElem?_map, List.getD_eq_getElem?_getD]
 cases cs[i]? <;> rfl
@[irreducible] def cItemsT (co : TCE) : TCE := fun ρ C Q => co ρ C fun x C1 => match x with
 | .ref a => match C1 a with
  | some (.dT _) => Q (.vw a) C1
  | _ => False
 | _ => False
theorem ce_itemsT {o : Expr} {apos cpos : Pos} {co : TCE} (ho : CE X o co) (hbase : attributeBase o "items" X.env (eval o X.env) = eval o X.env := by rfl) (hline : (apos.endLine == cpos.line) = true := by rfl) : CE X (.Call (.Attribute o "items" apos) [] [] cpos) (cItemsT co) :=
 ⟨JE.weak (je_bm0 F.plainAttrs_dict F.slot_dict_items F.type_dict_items mt_itemsT ho.h hbase hline) fun σ H Q ⟨ρ, C, R, s, h, q, f⟩ => by
 unfold cItemsT at q
 exact ⟨ρ, C, _, s, h, q, fun x H1 px C1 q1 rx h1 f1 => by
  split at q1
  ·split at q1
   ·next kvs e =>
    obtain ⟨vs, ev, r⟩ := h1 _ _ e
    cases rx
    exact ⟨.inr (.inr (.inl ⟨rfl, .inr ⟨vs, ev⟩⟩)), _, vs, rfl, rfl, ev, fun v hv => f _ _ _ _ q1 (.vw upd_same) (h1.new hv _) (f1.trans (Fw.new hv _))⟩
   ·exact q1.elim
  ·exact q1.elim⟩⟩
@[irreducible] def cSortedT : GC := fun ts C Q => match ts with
 | [.vw a] => match C a with
  | some (.dT kvs) => match tiK kvs with
   | some cs => cs.length < 64 ∧ ∀ p, C p = none → Q (.ref p) (updC C p (.lst ((ordT cs).map tiPV)))
   | none => False
  | _ => False
 | _ => False
abbrev rSortedT (X : Cx) : List V → Hp → VK → Prop := fun xs H Q => ∃ v d kvs lt, xs = [.ref v] ∧ H v = some (.ext (isItems v d)) ∧ H d = some (.dT kvs) ∧ kvs.length < 64 ∧
  ∀ as H1, Same H H1 → TPs H1 as kvs → (∀ a ∈ as, H a = none) → (∀ a, H a = none → H1 a ≠ none → a ∈ as) → Srt X H1 (List.map V.ref as) lt ∧ ∀ p, H1 p = none → Q (.ref p) (upd H1 p (.lst (ordV lt (List.map V.ref as))))
theorem ti_at {as : List Addr} {kvs : List (List Key × V)} {cs : List (List Str × Int)} (r : TPs H as kvs) (e : FP K H kvs (cs.map fun c => (c.1.map Sum.inr, PV.int c.2))) :
  Reps K H (as.map V.ref) (cs.map tiPV) ∧ ∀ i, i < as.length → PairAt H ((as.map V.ref).getD i .non) (cs.getD i ([], 0)) := by
 induction r generalizing cs with
 | nil =>
  cases cs with
  | nil => exact ⟨.nil, fun i hi => absurd hi (Nat.not_lt_zero i)⟩
  | cons c cs => cases e
 | @cons a b k v as kvs h1 h2 r ih =>
  cases cs with
  | nil => cases e
  | cons c cs =>
   cases e with
   | cons h e =>
    obtain ⟨e1, e2⟩ := h
    obtain ⟨i1, i2⟩ := ih e
    have e1 : k = c.1.map Sum.inr := e1
    have e2 : Rep K H v (.int c.2) := e2
    subst e1
    cases e2
    rw [keyStr] at h2
    refine ⟨.cons (.tup h1 (.cons (.tup h2 (strs_rep c.1)) (.cons (.int _) .nil))) i1, fun i hi => ?_⟩
    cases i with
    | zero => exact ⟨a, b, rfl, h1, h2⟩
    | succ i => exact i2 i (Nat.lt_of_succ_lt_succ hi)
theorem cbi_sortedT (hu : X.A.units + 2 < cLine) : Cbi X.K (rSortedT X) cSortedT := fun xs ts H C Q R rs h q f => by
 unfold cSortedT at q
 split at q
 ·obtain ⟨v, rfl, r⟩ := rep_one rs
  split at q
  ·next kvs e =>
   split at q
   ·next cs e2 =>
    have ex := tiK_eq e2
    subst ex
    obtain ⟨vs, ev, rv⟩ := h _ _ e
    cases r with
    | vw hv =>
     have hl : vs.length = cs.length := by rw [Paired.length rv, List.length_map]
     refine ⟨_, _, vs, tiLt cs, rfl, hv, ev, by rw [hl]; exact q.1, fun as H1 sm pa fr on => ?_⟩
     have rv1 : FP X.K H1 vs (cs.map fun c => (c.1.map Sum.inr, PV.int c.2)) := Paired.mapP rv fun _ _ z => ⟨z.1, z.2.imm fun b v _ e => sm b v e⟩
     obtain ⟨rr, pp⟩ := ti_at pa rv1
     refine ⟨srt_pairs hu _ (fun i hi => pp i (by rw [List.length_map] at hi; exact hi)), fun p hp => ?_⟩
     have h1 := hrel_same h sm
     have ro := ord_repG (tiPV ([], 0)) (tiLt cs) rr
     rw [List.length_map, ti_ord] at ro
     exact f _ _ _ _ (q.2 p (h1.fresh hp)) (.ref p) (h1.lay hp ⟨_, upd_same, ro.imm (Imm.new hp _)⟩) ((fw_same sm).trans (Fw.lay hp _ _))
   ·exact q.elim
  ·exact q.elim
 ·exact q.elim
end
end CL
set_option Elab.async false
set_option linter.all false
set_option maxRecDepth 100000
set_option maxHeartbeats 4000000
namespace CL
open PySem PySem.Spec L2 PySem.W
open PyProof.Rows hiding St
def cPairs : List (TCE × TCE) → CSt → CH → (List (PV × PV) → CH → Prop) → Prop
 | [], _, C, Q => Q [] C
 | (ck, cv) :: r, ρ, C, Q => ck ρ C fun x C1 => cv ρ C1 fun y C2 => cPairs r ρ C2 fun ps C3 => Q ((x, y) :: ps) C3
abbrev RPs (K : PySem.W.Frag) (H : Hp) : List (V × V) → List (PV × PV) → Prop := Paired fun p q => Rep K H p.1 q.1 ∧ Rep K H p.2 q.2
def liftP (K : PySem.W.Frag) (cs : List (TCE × TCE)) : List (TE × TE) := cs.map fun p => (lift K (Rep K) p.1, lift K (Rep K) p.2)
structure CPs (X : Cx) (pos : Pos) (keys : List (Option Expr)) (values : List Expr) (cs : List (TCE × TCE)) : Prop where
 h : PPs X pos keys values (liftP X.K cs)
theorem cps_nil {X : Cx} {pos : Pos} : CPs X pos [] [] [] := ⟨pps_nil⟩
theorem cps_cons {X : Cx} {pos : Pos} {k v : Expr} {ks : List (Option Expr)} {vs : List Expr} {ck cv : TCE} {cs : List (TCE × TCE)} (hk : CE X k ck) (hv : CE X v cv) (hr : CPs X pos ks vs cs) : CPs X pos (some k :: ks) (v :: vs) ((ck, cv) :: cs) := ⟨pps_cons hk.h.h hv.h.h hr.h⟩
theorem lift_pairs {K : PySem.W.Frag} {σ : St} {ρ : CSt} : ∀ {cs : List (TCE × TCE)} {H : Hp} {C : CH} {R : List (PV × PV) → CH → Prop} {Q : List (V × V) → Hp → Prop}, SRel K H σ ρ → HRel K H C → cPairs cs ρ C R →
  (∀ vs H' ts C', R ts C' → RPs K H' vs ts → HRel K H' C' → Fw H C H' C' → Q vs H') → tPairs (liftP K cs) σ H Q := by
 intro cs
 induction cs with
 | nil => intro H C R Q s h q f; exact f [] H [] C q .nil h Fw.refl
 | cons p cs ih =>
  obtain ⟨ck, cv⟩ := p
  intro H C R Q s h q f
  refine ⟨ρ, C, _, s, h, q, fun x H1 px C1 q1 rx h1 f1 => ⟨ρ, C1, _, s.imm (f1.imm h), h1, q1, fun y H2 py C2 q2 ry h2 f2 => ?_⟩⟩
  refine ih ((s.imm (f1.imm h)).imm (f2.imm h1)) h2 q2 fun vs H3 ts C3 q3 r3 h3 f3 => ?_
  exact f _ H3 _ C3 q3 (.cons ⟨(rx.imm (f2.imm h1)).imm (f3.imm h2), ry.imm (f3.imm h2)⟩ r3) h3 (f1.trans (f2.trans f3))
def prK : List (PV × PV) → Option (List (Key × PV))
 | [] => some []
 | (x, y) :: r => match keyOf x, prK r with
  | some k, some ps => some ((k, y) :: ps)
  | _, _ => none
theorem prK_rep {K : PySem.W.Frag} {H : Hp} {vs : List (V × V)} {ts : List (PV × PV)} {ps : List (Key × PV)} (r : RPs K H vs ts) (e : prK ts = some ps) : ∃ kvs : List (Key × V), vs = kvs.map (fun kv => (kV kv.1, kv.2)) ∧ KP K H kvs ps := by
 induction r generalizing ps with
 | nil => cases e; exact ⟨[], rfl, .nil⟩
 | @cons p q l1 l2 h r ih =>
  obtain ⟨x, y⟩ := q
  unfold prK at e
  split at e
  ·next k ps' e1 e2 =>
   cases e
   obtain ⟨kvs, rfl, r2⟩ := ih e2
   obtain ⟨v1, v2⟩ := p
   have ek : v1 = kV k := keyOf_rep h.1 e1
   subst ek
   exact ⟨(k, v2) :: kvs, rfl, .cons ⟨rfl, h.2⟩ r2⟩
  ·cases e
def prT : List (PV × PV) → Option (List (List Key × PV))
 | [] => some []
 | (x, y) :: r => match tkOf x, prT r with
  | some k, some ps => some ((k, y) :: ps)
  | _, _ => none
theorem prT_rep {K : PySem.W.Frag} {H : Hp} {vs : List (V × V)} {ts : List (PV × PV)} {ps : List (List Key × PV)} (r : RPs K H vs ts) (e : prT ts = some ps) : ∃ kvs : List (List Key × V), TKs H vs kvs ∧ FP K H kvs ps := by
 induction r generalizing ps with
 | nil => cases e; exact ⟨[], .nil, .nil⟩
 | @cons p q l1 l2 h r ih =>
  obtain ⟨x, y⟩ := q
  unfold prT at e
  split at e
  ·next k ps' e1 e2 =>
   cases e
   obtain ⟨kvs, r1, r2⟩ := ih e2
   obtain ⟨v1, v2⟩ := p
   obtain ⟨b, ev, eb⟩ := tkOf_rep h.1 e1
   exact ⟨(k, v2) :: kvs, .cons ⟨⟨b, ev, eb⟩, rfl⟩ r1, .cons ⟨rfl, h.2⟩ r2⟩
  ·cases e
theorem FP.mergeG {K : PySem.W.Frag} {H : Hp} {ws : List (List Key × V)} {more : List (List Key × PV)} (m : FP K H ws more) : ∀ {vs : List (List Key × V)} {kvs : List (List Key × PV)}, FP K H vs kvs → FP K H (mergeT vs ws) (CL.mergeG kvs more) := by
 induction m with
 | nil => intro vs kvs r; exact r
 | @cons p q l1 l2 h _ ih =>
  intro vs kvs r
  have e : p.1 = q.1 := h.1
  show FP K H (mergeT (putK vs p.1 p.2) l1) (CL.mergeG (CL.putG kvs q.1 q.2) l2)
  rw [e]
  exact ih (FP.putG r q.1 h.2)
section
variable {X : Cx} {pos : Pos} {keys : List (Option Expr)} {values : List Expr} {cs : List (TCE × TCE)}
@[irreducible] def cPutAll (p : Addr) : List (PV × PV) → CH → K1 → Prop := fun ts C Q => C p = some (.dK []) ∧ match prK ts with
 | some ps => ps.length ≤ 15 ∧ Q (.ref p) (updC C p (.dK (mergeP [] ps)))
 | none => False
def cDisp (cs : List (TCE × TCE)) : TCE := fun ρ C Q => ∀ p, C p = none → cPairs cs ρ (updC C p (.dK [])) fun ts C2 => cPutAll p ts C2 Q
theorem ce_disp (h : CPs X pos keys values cs) (hall : keys.all (·.isSome) = true := by rfl) (hl : keys.length = values.length := by rfl) (h0 : keys ≠ [] := by exact fun z => nomatch z) (h15 : keys.length ≤ 15 := by decide) : CE X (.Dict keys values pos) (cDisp cs) :=
 ⟨JE.weak ⟨pe_disp h.h hall hl h0 h15⟩ fun σ H Q ⟨ρ, C, R, s, hh, q, f⟩ => fun p hp => by
  have k0 : Imm H (upd H p (.dK [])) := Imm.new hp _
  refine lift_pairs (C := updC C p (.dK [])) (s.imm k0) (hh.lay hp ⟨[], upd_same, .nil⟩) (q p (hh.fresh hp)) fun vs H2 ts C2 q2 r2 h2 f2 => ?_
  unfold cPutAll at q2
  obtain ⟨e1, q2⟩ := q2
  split at q2
  ·next ps e2 =>
   obtain ⟨kvs, rfl, rk⟩ := prK_rep r2 e2
   obtain ⟨us, eu, ru⟩ := h2 p _ e1
   have z : us = [] := by cases ru; rfl
   subst z
   have m : Imm H2 (upd H2 p (.dK (mergeK [] kvs))) := Imm.mut eu rfl _
   refine ⟨eu, kvs, rfl, by rw [Paired.length rk]; exact q2.1, ?_⟩
   exact f _ _ _ _ q2.2 (.ref p) (h2.put eu rfl ⟨_, upd_same, Paired.mapP (KP.merge .nil rk) fun _ _ z => ⟨z.1, z.2.imm m⟩⟩) ((Fw.lay hp _ _).trans (f2.trans (Fw.put e1 _ _)))
  ·exact q2.elim⟩
@[irreducible] def cPutAllT (p : Addr) : List (PV × PV) → CH → K1 → Prop := fun ts C Q => C p = some (.dT []) ∧ match prT ts with
 | some ps => ps.length ≤ 15 ∧ Q (.ref p) (updC C p (.dT (mergeG [] ps)))
 | none => False
def cDispT (cs : List (TCE × TCE)) : TCE := fun ρ C Q => ∀ p, C p = none → cPairs cs ρ (updC C p (.dT [])) fun ts C2 => cPutAllT p ts C2 Q
theorem ce_dispT (hu : X.A.units + 1 < cLine) (h : CPs X pos keys values cs) (hall : keys.all (·.isSome) = true := by rfl) (hl : keys.length = values.length := by rfl) (h0 : keys ≠ [] := by exact fun z => nomatch z) (h15 : keys.length ≤ 15 := by decide) : CE X (.Dict keys values pos) (cDispT cs) :=
 ⟨JE.weak ⟨pe_dispT hu h.h hall hl h0 h15⟩ fun σ H Q ⟨ρ, C, R, s, hh, q, f⟩ => fun p hp => by
  have k0 : Imm H (upd H p (.dT [])) := Imm.new hp _
  refine lift_pairs (C := updC C p (.dT [])) (s.imm k0) (hh.lay hp ⟨[], upd_same, .nil⟩) (q p (hh.fresh hp)) fun vs H2 ts C2 q2 r2 h2 f2 => ?_
  unfold cPutAllT at q2
  obtain ⟨e1, q2⟩ := q2
  split at q2
  ·next ps e2 =>
   obtain ⟨kvs, rt, rk⟩ := prT_rep r2 e2
   obtain ⟨us, eu, ru⟩ := h2 p _ e1
   have z : us = [] := by cases ru; rfl
   subst z
   have m : Imm H2 (upd H2 p (.dT (mergeT [] kvs))) := Imm.mut eu rfl _
   refine ⟨eu, kvs, rt, by rw [Paired.length rk]; exact q2.1, ?_⟩
   exact f _ _ _ _ q2.2 (.ref p) (h2.put eu rfl ⟨_, upd_same, Paired.mapP (FP.mergeG rk .nil) fun _ _ z => ⟨z.1, z.2.imm m⟩⟩) ((Fw.lay hp _ _).trans (f2.trans (Fw.put e1 _ _)))
  ·exact q2.elim⟩
end
end CL
set_option Elab.async false
set_option linter.all false
set_option maxRecDepth 100000
set_option maxHeartbeats 4000000
namespace CL
open PySem PySem.Spec L2 PySem.W
open PyProof.Rows hiding St
theorem hu2_of {A : Around} {k : Nat} (hr : Room k A) : A.units + 2 < cLine := by have := hr.un; omega
theorem hu0_of {A : Around} {k : Nat} (hr : Room k A) : A.units < cLine := by have := hr.un; omega
section
variable {C : CH} {p : Addr} {Q : K1} {x y v z : PV}
theorem fld_s {c dx : Addr} {f : Str} {fs : List (Str × PV)} (m : C p = some (.ins c dx fs)) (e : fs.lookup f = some v) (q : Q v C) : cFld c f (.ref p) C Q := by
 unfold cFld
 dsimp only
 rw [m]
 refine ⟨rfl, ?_⟩
 rw [e]
 exact q
theorem putF_s {c dx : Addr} {f : Str} {fs : List (Str × PV)} {Q : CH → Prop} (m : C p = some (.ins c dx fs)) (h : fs.length < 1000) (q : Q (updC C p (.ins c dx (putFP f v fs)))) : cPutF c f (.ref p) v C Q := by
 unfold cPutF
 dsimp only
 rw [m]
 exact ⟨rfl, h, q⟩
theorem isIns_s {c dx : Addr} {f : Str} {fs : List (Str × PV)} (m : C p = some (.ins c dx fs)) (e : fs.lookup f = none) : isIns c f (.ref p) C := by
 unfold isIns
 dsimp only
 rw [m]
 exact ⟨rfl, e⟩
theorem isTd_s {kvs : List (List Key × PV)} (m : C p = some (.dT kvs)) : isTd (.ref p) C := by
 unfold isTd
 dsimp only
 rw [m]
 trivial
theorem tix_s {kvs : List (List Key × PV)} {k : List Key} (m : C p = some (.dT kvs)) (hk : tkOf y = some k) (hv : valG kvs k = some v) (q : Q v C) : cTIx (.ref p) y C Q := by
 unfold cTIx
 dsimp only
 rw [m, hk]
 dsimp only
 rw [hv]
 exact q
theorem tget_s {kvs : List (List Key × PV)} {k : List Key} (m : C p = some (.dT kvs)) (hk : tkOf y = some k) (hv : (valG kvs k).getD z = v) (q : Q v C) : cTGet (.ref p) y z C Q := by
 unfold cTGet
 dsimp only
 rw [m, hk]
 dsimp only
 rw [hv]
 exact q
theorem tput_s {kvs : List (List Key × PV)} {k : List Key} {Q : CH → Prop} (m : C p = some (.dT kvs)) (hk : tkOf y = some k) (h : kvs.length ≤ 1000) (q : Q (updC C p (.dT (putG kvs k v)))) : cPutT (.ref p) y v C Q := by
 unfold cPutT
 dsimp only
 rw [m, hk]
 exact ⟨Nat.lt_of_le_of_lt h (by decide), q⟩
theorem dix_g {kvs : List (Key × PV)} {k : Key} (m : C p = some (.dK kvs)) (hk : keyOf y = some k) (hv : valP kvs k = some v) (q : Q v C) : cDIx (.ref p) y C Q := by
 unfold cDIx
 dsimp only
 rw [m, hk]
 show (match valP kvs k with | some v => Q v C | none => False)
 rw [hv]
 exact q
theorem getD_g {kvs : List (Key × PV)} {k : Key} (m : C p = some (.dK kvs)) (hk : keyOf y = some k) (hv : (valP kvs k).getD z = v) (q : Q v C) : cGetD (.ref p) y z C Q := by
 unfold cGetD
 dsimp only
 rw [m, hk]
 show Q ((valP kvs k).getD z) C
 rw [hv]
 exact q
theorem putD_k {kvs : List (Key × PV)} {k : Key} {Q : CH → Prop} (m : C p = some (.dK kvs)) (hk : keyOf y = some k) (h : kvs.length ≤ 1000) (q : Q (updC C p (.dK (putP kvs k v)))) : cPutD (.ref p) y v C Q := by
 unfold cPutD
 dsimp only
 rw [m, hk]
 exact ⟨Nat.lt_of_le_of_lt h (by decide), q⟩
theorem isDk_g {kvs : List (Key × PV)} (m : C p = some (.dK kvs)) : isDk (.ref p) C := by
 unfold isDk
 dsimp only
 rw [m]
 trivial
theorem dictK_s {kvs : List (Key × PV)} (m : C p = some (.dK kvs)) (q : ∀ p', C p' = none → Q (.ref p') (updC C p' (.dK kvs))) : cDictK [.ref p] C Q := by
 unfold cDictK
 dsimp only
 rw [m]
 exact q
theorem count_s {xs : List PV} {k : Key} {ks : List Key} (m : C p = some (.lst xs)) (hk : keyOf y = some k) (hs : keysOf xs = some ks) (q : Q (.int (cntK k ks : Nat)) C) : cCount (.ref p) [y] C Q := by
 unfold cCount
 dsimp only
 rw [m, hk]
 dsimp only
 rw [hs]
 exact q
theorem inS_s {neg : Bool} {ts : List PV} {w : V} {vs : List V} (h1 : seqP C y = some ts) (h2 : flatP x = some w) (h3 : flatPs ts = some vs) (q : Q (.bl (if neg then !inV w vs else inV w vs)) C) : cInS neg x y C Q := by
 unfold cInS
 rw [h1, h2]
 dsimp only
 rw [h3]
 exact q
theorem forT_g {ce : TCE} {g : TCG} {u : TCS} {E : CEnds} {ρ : CSt} (h : ce ρ C fun t C1 => match t with | .tup xs => cWalk g u E xs ρ C1 | .kt xs => cWalk g u E xs ρ C1 | _ => False) : cForT ce g u E ρ C := by
 unfold cForT
 exact h
end
theorem sorted_l {cs : List (Str × Int)} {p : Addr} {C : CH} {Q : K1} (m : C p = some (.lst (cs.map siPV))) (h : cs.length < 64) (q : ∀ p', C p' = none → Q (.ref p') (updC C p' (.lst ((ordC cs).map siPV)))) : cSorted [.ref p] C Q := by
 unfold cSorted
 dsimp only
 rw [m]
 dsimp only
 rw [siOf_map]
 exact ⟨h, q⟩
theorem ordC_nil : ordC [] = [] := by
 unfold ordC
 rw [show ([] : List (Str × Int)).length = 0 from rfl, run0]
 rfl
theorem ordC_one (c : Str × Int) : ordC [c] = [c] := by
 unfold ordC
 have h := kRun_ord (siLt [c]) 1 (by decide)
 have h : (kRun (siLt [c]) (kas_sort 1)).toList.Perm (List.range 1) := h
 rw [show List.range 1 = [0] from rfl, List.perm_singleton] at h
 rw [show ([c] : List (Str × Int)).length = 1 from rfl, h]
 rfl
theorem forT_t {i : Nat} {g : TCG} {u : TCS} {E : CEnds} {ρ : CSt} {C : CH} {xs : List PV} (hv : ρ[i]? = some (some (.tup xs))) (h : cWalk g u E xs ρ C) : cForT (cVar i) g u E ρ C := by
 unfold cForT cVar
 rw [hv]
 exact h
theorem ix_eq {x v : PV} {xs : List PV} {i : Int} {C : CH} {Q : K1} (h : x = .tup xs) (e : atI xs i = some v) (q : Q v C) : cIx x (.int i) C Q := by
 subst h
 exact ix_t e q
theorem min_s {i j : Int} {C : CH} {Q : K1} (q : Q (.int (if j < i then j else i)) C) : cMin [.int i, .int j] C Q := by
 unfold cMin
 exact q
theorem max_s {i j : Int} {C : CH} {Q : K1} (q : Q (.int (if j > i then j else i)) C) : cMax [.int i, .int j] C Q := by
 unfold cMax
 exact q
theorem at_nat {xs : List PV} {k : Nat} (h : k < xs.length) : atI xs (k : Int) = some xs[k] := by
 unfold atI ixN
 rw [if_pos (by omega), if_pos (by omega)]
 show xs[(k : Int).toNat]? = _
 rw [Int.toNat_natCast, List.getElem?_eq_getElem h]
theorem at_zero {x : PV} {r : List PV} : atI (x :: r) 0 = some x := at_nat (xs := x :: r) (k := 0) (Nat.zero_lt_succ _)
theorem if_i {t : TCT} {ca cb : TCE} {ρ : CSt} {C : CH} {Q : K1} (h : t ρ C fun b C1 => if b = true then ca ρ C1 Q else cb ρ C1 Q) : cIf t ca cb ρ C Q := h
theorem test_isN {k : Bool → Bool} {i : Nat} {x : PV} {ρ : CSt} {C : CH} {Q : Bool → CH → Prop} (hv : ρ[i]? = some (some x)) (q : Q (k (isNo x)) C) : cTest (cOp (cIs k) (cVar i) (cC .non)) ρ C Q := by
 show cVar i ρ C fun x C1 => onBl Q (.bl (k (isNo x))) C1
 unfold cVar
 rw [hv]
 exact q
theorem walk_inv {g : TCG} {u : TCS} {E : CEnds} (I : List PV → CSt → CH → Prop) (step : ∀ x r ρ C, I (x :: r) ρ C → ∀ L : CSt → CH → Prop, (∀ ρ' C', I r ρ' C' → L ρ' C') → g x ρ C fun ρ1 C1 => u { nx := L, ct := L, bk := E.nx, rt := E.rt } ρ1 C1) (fin : ∀ ρ C, I [] ρ C → E.nx ρ C) :
  ∀ xs ρ C, I xs ρ C → cWalk g u E xs ρ C := by
 intro xs
 induction xs with
 | nil => intro ρ C h; exact fin ρ C h
 | cons x r ih => intro ρ C h; exact step x r ρ C h _ ih
theorem compW_inv {c : TCE} {ρ : CSt} {Q : K1} (I : List PV → List PV → CH → Prop) (step : ∀ x r acc C, I (x :: r) acc C → ∀ L : K1, (∀ y C2, acc.length < sizeLine ∧ I r (acc ++ [y]) C2 → L y C2) → c (some x :: ρ) C L) (fin : ∀ acc C, I [] acc C → ∀ p, C p = none → Q (.ref p) (updC C p (.lst acc))) :
  ∀ xs acc C, I xs acc C → cCompW cYes c ρ Q xs acc C := by
 intro xs
 induction xs with
 | nil => intro acc C h; exact fin acc C h
 | cons x r ih =>
  intro acc C h
  exact step x r acc C h _ fun y C2 z => ⟨z.1, ih _ _ z.2⟩
theorem compS_inv {S : CH → Prop} {c : TCE} {ρ : CSt} {Q : K1} (I : List PV → List PV → CH → Prop) (hS : ∀ r acc C, I r acc C → S C) (step : ∀ x r acc C, I (x :: r) acc C → ∀ L : K1, (∀ y C2, acc.length < sizeLine ∧ I r (acc ++ [y]) C2 → L y C2) → c (some x :: ρ) C L) (fin : ∀ acc C, I [] acc C → ∀ p, C p = none → Q (.ref p) (updC C p (.lst acc))) :
  ∀ xs acc C, I xs acc C → cCompS S cYes c ρ Q xs acc C := by
 intro xs
 induction xs with
 | nil => intro acc C h; exact ⟨hS _ _ _ h, fin acc C h⟩
 | cons x r ih =>
  intro acc C h
  exact ⟨hS _ _ _ h, step x r acc C h _ fun y C2 z => ⟨z.1, ih _ _ z.2⟩⟩
theorem gr_put {C C1 : CH} {p : Addr} (g : Gr C C1) (hp : C p = none) (o : CO) : Gr C (updC C1 p o) := fun b u e => by
 rw [updC_ne (fun z => by subst z; rw [hp] at e; cases e)]
 exact g b u e
theorem le_size {n : Nat} (h : n ≤ 1000) : n ≤ sizeLine := Nat.le_trans h (by decide)
theorem put_size (kvs : List (Key × PV)) (k : Key) (v : PV) : (putP kvs k v).length ≤ kvs.length + 1 := by
 unfold putP
 split
 ·rw [List.length_map]; omega
 ·rw [List.length_append, List.length_singleton]; exact Nat.le_refl _
theorem val_put (kvs : List (Key × PV)) (k : Key) (v : PV) (k' : Key) : valP (putP kvs k v) k' = if k' = k then some v else valP kvs k' := by
 have up : ∀ l : List (Key × PV), (l.any fun kv => decide (kv.1 = k)) = true → valP (l.map fun kv => if kv.1 = k then (kv.1, v) else kv) k' = if k' = k then some v else valP l k' := by
  intro l
  induction l with
  | nil => intro h; cases h
  | cons x l ih =>
   intro h
   unfold valP
   rw [List.map_cons, List.find?_cons, List.find?_cons]
   by_cases e : x.1 = k
   ·rw [if_pos e]
    by_cases e2 : k' = k
    ·rw [if_pos e2]
     show (match decide (x.1 = k') with | true => some (x.1, v) | false => _).map _ = _
     rw [decide_eq_true (e.trans e2.symm)]; rfl
    ·rw [if_neg e2]
     have ne : ¬ x.1 = k' := fun z => e2 (z.symm.trans e)
     show (match decide (x.1 = k') with | true => some (x.1, v) | false => _).map _ = (match decide (x.1 = k') with | true => some x | false => _).map _
     rw [decide_eq_false ne]
     by_cases h3 : (l.any fun kv => decide (kv.1 = k)) = true
     ·have := ih h3
      rw [if_neg e2] at this
      exact this
     ·have : (l.map fun kv => if kv.1 = k then (kv.1, v) else kv) = l := by
       have h4 : ∀ y ∈ l, ¬ y.1 = k := fun y hy z => h3 (List.any_eq_true.2 ⟨y, hy, decide_eq_true z⟩)
       exact (List.map_congr_left fun y hy => if_neg (h4 y hy)).trans (List.map_id l)
      rw [this]
   ·rw [if_neg e]
    have h3 : (l.any fun kv => decide (kv.1 = k)) = true := by
     rw [List.any_cons, decide_eq_false e, Bool.false_or] at h
     exact h
    have := ih h3
    by_cases e3 : x.1 = k'
    ·rw [decide_eq_true e3]
     have e2 : ¬ k' = k := fun z => e (e3.trans z)
     rw [if_neg e2]
    ·rw [decide_eq_false e3]
     exact this
 unfold putP
 by_cases b : (kvs.any fun kv => decide (kv.1 = k)) = true
 ·rw [if_pos b]; exact up kvs b
 ·rw [if_neg b]
  induction kvs with
  | nil =>
   unfold valP
   rw [List.nil_append, List.find?_cons]
   by_cases e2 : k' = k
   ·rw [if_pos e2]
    show (match decide (k = k') with | true => some (k, v) | false => _).map _ = _
    rw [decide_eq_true e2.symm]; rfl
   ·rw [if_neg e2]
    show (match decide (k = k') with | true => some (k, v) | false => _).map _ = _
    rw [decide_eq_false (fun z => e2 z.symm)]
  | cons x l ih =>
   rw [List.any_cons] at b
   have e : ¬ x.1 = k := fun e => b (by rw [decide_eq_true e]; rfl)
   rw [decide_eq_false e, Bool.false_or] at b
   have := ih b
   unfold valP at this ⊢
   rw [List.cons_append, List.find?_cons, List.find?_cons]
   by_cases e3 : x.1 = k'
   ·rw [decide_eq_true e3]
    have e2 : ¬ k' = k := fun z => e (e3.trans z)
    rw [if_neg e2]
   ·rw [decide_eq_false e3]
    exact this
def ExS (S : List Addr) (C C' : CH) : Prop := ∀ b o, b ∉ S → C b = some o → C' b = some o
theorem ExS.refl {S : List Addr} {C : CH} : ExS S C C := fun _ _ _ h => h
theorem ExS.trans {S : List Addr} {C C1 C2 : CH} (h : ExS S C C1) (h' : ExS S C1 C2) : ExS S C C2 := fun b o n e => h' b o n (h b o n e)
theorem ExS.mono {S S' : List Addr} {C C1 : CH} (h : ExS S C C1) (s : ∀ b ∈ S, b ∈ S') : ExS S' C C1 := fun b o n e => h b o (fun z => n (s b z)) e
theorem ExS.at {S : List Addr} {C C1 : CH} {p : Addr} (h : ExS S C C1) (hp : p ∈ S) (o : CO) : ExS S C (updC C1 p o) := fun b u n e => by
 rw [updC_ne (fun z => n (by rw [z]; exact hp))]
 exact h b u n e
theorem ExS.put {S : List Addr} {C C1 : CH} {p : Addr} (h : ExS S C C1) (hp : C p = none) (o : CO) : ExS S C (updC C1 p o) := fun b u n e => by
 rw [updC_ne (fun z => by subst z; rw [hp] at e; cases e)]
 exact h b u n e
theorem ExS.none {S : List Addr} {C C' : CH} {p : Addr} (g : ExS S C C') (n : p ∉ S) (h : C' p = none) : C p = none := by
 cases e : C p with
 | none => rfl
 | some o => rw [g p o n e] at h; cases h
end CL
set_option Elab.async false
set_option linter.all false
set_option maxRecDepth 100000
set_option maxHeartbeats 4000000
namespace CL
open PySem PySem.Spec L2 PySem.W
open PyProof.Rows hiding St
theorem cs_setCAt {X : Cx} {pos : Pos} (k : Nat) {i : Nat} {y x : Str} {py px spos : Pos} {elt iter : Expr} {ifs : List Expr} {scope : Scope} {wi : TI} {ci : CSt → CH → (List PV → CH → Prop) → Prop} {t : TCT} {c : TCE} (ne : i ≠ k)
  (hNd : (X.at_ k).N.Nodup) (hi : (X.at_ k).N[i]? = some y) (hy : Loc (X.at_ k).env.scope y) (hc : (X.at_ k).calm = true) (hN : (x :: (X.at_ k).N).Nodup) (K : ∃ cl, CompOk (X.at_ k) x scope cl) (hI : CI (X.at_ k) (.Name x px) iter wi ci)
  (ht : ∀ cl fp C s₂ H₂, CF (cxComp (X.at_ k) x scope cl fp C s₂ H₂) ifs t) (he : ∀ cl fp C s₂ H₂, CE (cxComp (X.at_ k) x scope cl fp C s₂ H₂) elt c)
  (hs : ∀ v, foldedSetIterable iter (X.at_ k).env v = pure v := by intro _; rfl)
  (hsw : swapsWith (.ListComp elt [⟨.Name x px, iter, ifs, 0⟩] scope pos) (some (.Name y py)) spos.line (X.at_ k).env = pure true := by rfl)
  (hf : (X.at_ k).fn y = true ∨ (X.at_ k).env.scope.names.lookup y = some .local := by first | exact .inl rfl | exact .inr rfl | assumption) :
  CS X (.Assign [.Name y py] (.ListComp elt [⟨.Name x px, iter, ifs, 0⟩] scope pos) spos) (fun E ρ C => cComp ci t c (ρ.set k none) C fun v C1 => E.nx ((ρ.set k none).set i (some v)) C1) := by
 obtain ⟨cl, K⟩ := K
 refine ⟨JS.weak (js_fg k (js_drop k (js_setC (te := lift X.K (Rep X.K) c) (tc := lift X.K relT t) hNd hi hy hc hN K hI.j (fun fp C s₂ H₂ => (ht cl fp C s₂ H₂).h) (fun fp C s₂ H₂ => (he cl fp C s₂ H₂).h) hs hsw hf))) fun D σ H ⟨ρ, C, E, s, h, q, f⟩ => ⟨noAt_set k σ, ?_⟩⟩
 refine lift_comp (X := X.at_ k) (Q := fun x H' => NoAt k ((σ.set k none).set i (some x)) ∧ D.nx ((σ.set k none).set i (some x)) H') hI ⟨ρ.set k none, C, _, s.unset k, h, q, fun x H1 px C1 q1 rx h1 f1 => ⟨fun v e => ?_, f.nx _ H1 _ C1 q1 (((s.unset k).imm (f1.imm h)).set rx i) h1 f1⟩⟩
 rw [List.getElem?_set_ne ne] at e
 exact noAt_set k σ v e
end CL
set_option Elab.async false
set_option linter.all false
set_option maxRecDepth 100000
set_option maxHeartbeats 1000000
namespace K08
open PySem L2
def top (i : Nat) : Stmt := PySem.Challenge.pw_viewwood_k08_spots_and_turns.main.body.getD i (.Pass ⟨0, 0, 0, 0⟩)
def inC : Stmt → Nat → Stmt
 | .ClassDef _ _ _ body _ _ _ _ _ _ _, i => body.getD i (.Pass ⟨0, 0, 0, 0⟩)
 | _, _ => .Pass ⟨0, 0, 0, 0⟩
abbrev s_cut : Stmt := top 2
abbrev s_number_of : Stmt := top 5
abbrev s_joined : Stmt := top 6
abbrev s_drawn : Stmt := top 10
abbrev s_l_tape : Stmt := top 12
abbrev s_l_draw : Stmt := top 13
abbrev s_l_kind : Stmt := top 14
abbrev s_l_alike : Stmt := top 15
abbrev s_l_key : Stmt := top 16
abbrev s_l_one : Stmt := top 17
abbrev s_l_count : Stmt := top 18
abbrev s_l_keyed : Stmt := top 19
abbrev s_l_row_due : Stmt := top 20
abbrev s_l_told : Stmt := top 21
abbrev s_law : Stmt := top 22
abbrev s_Drawer___init__ : Stmt := inC (top 9) 0
abbrev s_Drawer_number : Stmt := inC (top 9) 1
abbrev s_Drawer_numbered : Stmt := inC (top 9) 2
abbrev s_Drawer_row : Stmt := inC (top 9) 3
abbrev s_Drawer_bring : Stmt := inC (top 9) 4
abbrev s_Drawer_bring_each : Stmt := inC (top 9) 5
abbrev s_Drawer_want : Stmt := inC (top 9) 6
abbrev s_Drawer_spot : Stmt := inC (top 9) 7
abbrev s_Drawer_hand : Stmt := inC (top 9) 8
structure Adr where
 cut : Addr
 d_cut : FuncData
 number_of : Addr
 d_number_of : FuncData
 joined : Addr
 d_joined : FuncData
 drawn : Addr
 d_drawn : FuncData
 l_tape : Addr
 d_l_tape : FuncData
 l_draw : Addr
 d_l_draw : FuncData
 l_kind : Addr
 d_l_kind : FuncData
 l_alike : Addr
 d_l_alike : FuncData
 l_key : Addr
 d_l_key : FuncData
 l_one : Addr
 d_l_one : FuncData
 l_count : Addr
 d_l_count : FuncData
 l_keyed : Addr
 d_l_keyed : FuncData
 l_row_due : Addr
 d_l_row_due : FuncData
 l_told : Addr
 d_l_told : FuncData
 law : Addr
 d_law : FuncData
 Drawer___init__ : Addr
 d_Drawer___init__ : FuncData
 Drawer_number : Addr
 d_Drawer_number : FuncData
 Drawer_numbered : Addr
 d_Drawer_numbered : FuncData
 Drawer_row : Addr
 d_Drawer_row : FuncData
 Drawer_bring : Addr
 d_Drawer_bring : FuncData
 Drawer_bring_each : Addr
 d_Drawer_bring_each : FuncData
 Drawer_want : Addr
 d_Drawer_want : FuncData
 Drawer_spot : Addr
 d_Drawer_spot : FuncData
 Drawer_hand : Addr
 d_Drawer_hand : FuncData
 t_BOUND : Tok
 ASKING : Addr
 t_MOST_TURNS : Tok
 Drawer : Addr
structure Txt (P : Program) (w : World) (K : PySem.W.Frag) (mg : Str → Option Value) (a : Adr) : Prop where
 gBOUND : mg "BOUND" = some (.int 1000000000 a.t_BOUND)
 gASKING : mg "ASKING" = some (.ref a.ASKING)
 qASKING : ∀ H : Hp, SqT K H a.ASKING [.str "take", .str "box", .str "down"]
 gMOST_TURNS : mg "MOST_TURNS" = some (.int 8 a.t_MOST_TURNS)
 z_abs : mg "abs" = none
 z_bool : mg "bool" = none
 z_dict : mg "dict" = none
 z_int : mg "int" = none
 z_isinstance : mg "isinstance" = none
 z_len : mg "len" = none
 z_list : mg "list" = none
 z_max : mg "max" = none
 z_min : mg "min" = none
 z_range : mg "range" = none
 z_sorted : mg "sorted" = none
 z_str : mg "str" = none
 z_tuple : mg "tuple" = none
 m_cut : mg "cut" = some (.ref a.cut)
 F_cut : Fun K "cut" "cut" s_cut a.cut a.d_cut
 m_number_of : mg "number_of" = some (.ref a.number_of)
 F_number_of : Fun K "number_of" "number_of" s_number_of a.number_of a.d_number_of
 m_joined : mg "joined" = some (.ref a.joined)
 F_joined : Fun K "joined" "joined" s_joined a.joined a.d_joined
 m_drawn : mg "drawn" = some (.ref a.drawn)
 F_drawn : Fun K "drawn" "drawn" s_drawn a.drawn a.d_drawn
 m_l_tape : mg "_law_tape" = some (.ref a.l_tape)
 F_l_tape : Fun K "_law_tape" "_law_tape" s_l_tape a.l_tape a.d_l_tape
 m_l_draw : mg "_law_draw" = some (.ref a.l_draw)
 F_l_draw : Fun K "_law_draw" "_law_draw" s_l_draw a.l_draw a.d_l_draw
 m_l_kind : mg "_law_kind" = some (.ref a.l_kind)
 F_l_kind : Fun K "_law_kind" "_law_kind" s_l_kind a.l_kind a.d_l_kind
 m_l_alike : mg "_law_alike" = some (.ref a.l_alike)
 F_l_alike : Fun K "_law_alike" "_law_alike" s_l_alike a.l_alike a.d_l_alike
 m_l_key : mg "_law_key" = some (.ref a.l_key)
 F_l_key : Fun K "_law_key" "_law_key" s_l_key a.l_key a.d_l_key
 m_l_one : mg "_law_one" = some (.ref a.l_one)
 F_l_one : Fun K "_law_one" "_law_one" s_l_one a.l_one a.d_l_one
 m_l_count : mg "_law_count" = some (.ref a.l_count)
 F_l_count : Fun K "_law_count" "_law_count" s_l_count a.l_count a.d_l_count
 m_l_keyed : mg "_law_keyed" = some (.ref a.l_keyed)
 F_l_keyed : Fun K "_law_keyed" "_law_keyed" s_l_keyed a.l_keyed a.d_l_keyed
 m_l_row_due : mg "_law_row_due" = some (.ref a.l_row_due)
 F_l_row_due : Fun K "_law_row_due" "_law_row_due" s_l_row_due a.l_row_due a.d_l_row_due
 m_l_told : mg "_law_told" = some (.ref a.l_told)
 F_l_told : Fun K "_law_told" "_law_told" s_l_told a.l_told a.d_l_told
 m_law : mg "law" = some (.ref a.law)
 F_law : Fun K "law" "law" s_law a.law a.d_law
 F_Drawer___init__ : Fun K "__init__" "Drawer.__init__" s_Drawer___init__ a.Drawer___init__ a.d_Drawer___init__
 F_Drawer_number : Fun K "number" "Drawer.number" s_Drawer_number a.Drawer_number a.d_Drawer_number
 M_Drawer_number : Meth K a.Drawer "number" a.Drawer_number
 F_Drawer_numbered : Fun K "numbered" "Drawer.numbered" s_Drawer_numbered a.Drawer_numbered a.d_Drawer_numbered
 M_Drawer_numbered : Meth K a.Drawer "numbered" a.Drawer_numbered
 F_Drawer_row : Fun K "row" "Drawer.row" s_Drawer_row a.Drawer_row a.d_Drawer_row
 M_Drawer_row : Meth K a.Drawer "row" a.Drawer_row
 F_Drawer_bring : Fun K "bring" "Drawer.bring" s_Drawer_bring a.Drawer_bring a.d_Drawer_bring
 M_Drawer_bring : Meth K a.Drawer "bring" a.Drawer_bring
 F_Drawer_bring_each : Fun K "bring_each" "Drawer.bring_each" s_Drawer_bring_each a.Drawer_bring_each a.d_Drawer_bring_each
 M_Drawer_bring_each : Meth K a.Drawer "bring_each" a.Drawer_bring_each
 F_Drawer_want : Fun K "want" "Drawer.want" s_Drawer_want a.Drawer_want a.d_Drawer_want
 M_Drawer_want : Meth K a.Drawer "want" a.Drawer_want
 F_Drawer_spot : Fun K "spot" "Drawer.spot" s_Drawer_spot a.Drawer_spot a.d_Drawer_spot
 M_Drawer_spot : Meth K a.Drawer "spot" a.Drawer_spot
 F_Drawer_hand : Fun K "hand" "Drawer.hand" s_Drawer_hand a.Drawer_hand a.d_Drawer_hand
 M_Drawer_hand : Meth K a.Drawer "hand" a.Drawer_hand
 m_Drawer : mg "Drawer" = some (.ref a.Drawer)
 cl_Drawer : Cls K a.Drawer
 mk_Drawer : Mk K a.Drawer a.Drawer___init__
 N_Drawer_answers : NoAttr K a.Drawer "answers"
 N_Drawer_asked : NoAttr K a.Drawer "asked"
section
variable {P : Program} {w : World} {K : PySem.W.Frag} {mg : Str → Option Value} {a : Adr}
theorem Txt.k_cut (T : Txt P w K mg a) : PySem.W.keepIn K (.ref a.cut) = true := T.F_cut.kp
theorem Txt.b_cut (T : Txt P w K mg a) : Binds K a.d_cut ["number"] [] := T.F_cut.binds (ps := ["number"]) fun _ _ _ _ _ _ us hl => match us, hl with | [_], _ => rfl
theorem Txt.k_number_of (T : Txt P w K mg a) : PySem.W.keepIn K (.ref a.number_of) = true := T.F_number_of.kp
theorem Txt.b_number_of (T : Txt P w K mg a) : Binds K a.d_number_of ["reckoning", "answers", "turns", "asked"] [] := T.F_number_of.binds (ps := ["reckoning", "answers", "turns", "asked"]) fun _ _ _ _ _ _ us hl => match us, hl with | [_, _, _, _], _ => rfl
theorem Txt.k_joined (T : Txt P w K mg a) : PySem.W.keepIn K (.ref a.joined) = true := T.F_joined.kp
theorem Txt.b_joined (T : Txt P w K mg a) : Binds K a.d_joined ["word", "first", "second"] [] := T.F_joined.binds (ps := ["word", "first", "second"]) fun _ _ _ _ _ _ us hl => match us, hl with | [_, _, _], _ => rfl
theorem Txt.k_drawn (T : Txt P w K mg a) : PySem.W.keepIn K (.ref a.drawn) = true := T.F_drawn.kp
theorem Txt.b_drawn (T : Txt P w K mg a) : Binds K a.d_drawn ["part", "answers"] [] := T.F_drawn.binds (ps := ["part", "answers"]) fun _ _ _ _ _ _ us hl => match us, hl with | [_, _], _ => rfl
theorem Txt.k_l_tape (T : Txt P w K mg a) : PySem.W.keepIn K (.ref a.l_tape) = true := T.F_l_tape.kp
theorem Txt.b_l_tape (T : Txt P w K mg a) : Binds K a.d_l_tape ["_law_script"] [] := T.F_l_tape.binds (ps := ["_law_script"]) fun _ _ _ _ _ _ us hl => match us, hl with | [_], _ => rfl
theorem Txt.k_l_draw (T : Txt P w K mg a) : PySem.W.keepIn K (.ref a.l_draw) = true := T.F_l_draw.kp
theorem Txt.b_l_draw (T : Txt P w K mg a) : Binds K a.d_l_draw ["_law_tape_here", "_law_many"] [] := T.F_l_draw.binds (ps := ["_law_tape_here", "_law_many"]) fun _ _ _ _ _ _ us hl => match us, hl with | [_, _], _ => rfl
theorem Txt.k_l_kind (T : Txt P w K mg a) : PySem.W.keepIn K (.ref a.l_kind) = true := T.F_l_kind.kp
theorem Txt.b_l_kind (T : Txt P w K mg a) : Binds K a.d_l_kind ["_law_thing"] [] := T.F_l_kind.binds (ps := ["_law_thing"]) fun _ _ _ _ _ _ us hl => match us, hl with | [_], _ => rfl
theorem Txt.k_l_alike (T : Txt P w K mg a) : PySem.W.keepIn K (.ref a.l_alike) = true := T.F_l_alike.kp
theorem Txt.b_l_alike (T : Txt P w K mg a) : Binds K a.d_l_alike ["_law_one_here", "_law_other"] [] := T.F_l_alike.binds (ps := ["_law_one_here", "_law_other"]) fun _ _ _ _ _ _ us hl => match us, hl with | [_, _], _ => rfl
theorem Txt.k_l_key (T : Txt P w K mg a) : PySem.W.keepIn K (.ref a.l_key) = true := T.F_l_key.kp
theorem Txt.b_l_key (T : Txt P w K mg a) : Binds K a.d_l_key ["_law_tape_here", "_law_names"] [] := T.F_l_key.binds (ps := ["_law_tape_here", "_law_names"]) fun _ _ _ _ _ _ us hl => match us, hl with | [_, _], _ => rfl
theorem Txt.k_l_one (T : Txt P w K mg a) : PySem.W.keepIn K (.ref a.l_one) = true := T.F_l_one.kp
theorem Txt.b_l_one (T : Txt P w K mg a) : Binds K a.d_l_one ["_law_tape_here", "_law_names"] [] := T.F_l_one.binds (ps := ["_law_tape_here", "_law_names"]) fun _ _ _ _ _ _ us hl => match us, hl with | [_, _], _ => rfl
theorem Txt.k_l_count (T : Txt P w K mg a) : PySem.W.keepIn K (.ref a.l_count) = true := T.F_l_count.kp
theorem Txt.b_l_count (T : Txt P w K mg a) : Binds K a.d_l_count ["_law_tape_here", "_law_number"] [] := T.F_l_count.binds (ps := ["_law_tape_here", "_law_number"]) fun _ _ _ _ _ _ us hl => match us, hl with | [_, _], _ => rfl
theorem Txt.k_l_keyed (T : Txt P w K mg a) : PySem.W.keepIn K (.ref a.l_keyed) = true := T.F_l_keyed.kp
theorem Txt.b_l_keyed (T : Txt P w K mg a) : Binds K a.d_l_keyed ["_law_line", "_law_turns"] [] := T.F_l_keyed.binds (ps := ["_law_line", "_law_turns"]) fun _ _ _ _ _ _ us hl => match us, hl with | [_, _], _ => rfl
theorem Txt.k_l_row_due (T : Txt P w K mg a) : PySem.W.keepIn K (.ref a.l_row_due) = true := T.F_l_row_due.kp
theorem Txt.b_l_row_due (T : Txt P w K mg a) : Binds K a.d_l_row_due ["_law_line", "_law_turns", "_law_name", "_law_seen", "_law_found"] [] := T.F_l_row_due.binds (ps := ["_law_line", "_law_turns", "_law_name", "_law_seen", "_law_found"]) fun _ _ _ _ _ _ us hl => match us, hl with | [_, _, _, _, _], _ => rfl
theorem Txt.k_l_told (T : Txt P w K mg a) : PySem.W.keepIn K (.ref a.l_told) = true := T.F_l_told.kp
theorem Txt.b_l_told (T : Txt P w K mg a) : Binds K a.d_l_told ["_law_row"] [] := T.F_l_told.binds (ps := ["_law_row"]) fun _ _ _ _ _ _ us hl => match us, hl with | [_], _ => rfl
theorem Txt.b_Drawer___init__ (T : Txt P w K mg a) : Binds K a.d_Drawer___init__ ["self", "answers"] [] := T.F_Drawer___init__.binds (ps := ["self", "answers"]) fun _ _ _ _ _ _ us hl => match us, hl with | [_, _], _ => rfl
theorem Txt.b_Drawer_number (T : Txt P w K mg a) : Binds K a.d_Drawer_number ["self", "reckoning", "turns"] [] := T.F_Drawer_number.binds (ps := ["self", "reckoning", "turns"]) fun _ _ _ _ _ _ us hl => match us, hl with | [_, _, _], _ => rfl
theorem Txt.b_Drawer_numbered (T : Txt P w K mg a) : Binds K a.d_Drawer_numbered ["self", "pairs", "turns"] [] := T.F_Drawer_numbered.binds (ps := ["self", "pairs", "turns"]) fun _ _ _ _ _ _ us hl => match us, hl with | [_, _, _], _ => rfl
theorem Txt.b_Drawer_row (T : Txt P w K mg a) : Binds K a.d_Drawer_row ["self", "lines", "turns"] [] := T.F_Drawer_row.binds (ps := ["self", "lines", "turns"]) fun _ _ _ _ _ _ us hl => match us, hl with | [_, _, _], _ => rfl
theorem Txt.b_Drawer_bring (T : Txt P w K mg a) : Binds K a.d_Drawer_bring ["self", "lines", "turns", "row", "counts"] [] := T.F_Drawer_bring.binds (ps := ["self", "lines", "turns", "row", "counts"]) fun _ _ _ _ _ _ us hl => match us, hl with | [_, _, _, _, _], _ => rfl
theorem Txt.b_Drawer_bring_each (T : Txt P w K mg a) : Binds K a.d_Drawer_bring_each ["self", "line", "turns", "row", "counts"] [] := T.F_Drawer_bring_each.binds (ps := ["self", "line", "turns", "row", "counts"]) fun _ _ _ _ _ _ us hl => match us, hl with | [_, _, _, _, _], _ => rfl
theorem Txt.b_Drawer_want (T : Txt P w K mg a) : Binds K a.d_Drawer_want ["self", "line", "turns", "counts"] [] := T.F_Drawer_want.binds (ps := ["self", "line", "turns", "counts"]) fun _ _ _ _ _ _ us hl => match us, hl with | [_, _, _, _], _ => rfl
theorem Txt.b_Drawer_spot (T : Txt P w K mg a) : Binds K a.d_Drawer_spot ["self", "key", "turns", "counts"] [] := T.F_Drawer_spot.binds (ps := ["self", "key", "turns", "counts"]) fun _ _ _ _ _ _ us hl => match us, hl with | [_, _, _, _], _ => rfl
theorem Txt.b_Drawer_hand (T : Txt P w K mg a) : Binds K a.d_Drawer_hand ["self", "hand", "turns"] [] := T.F_Drawer_hand.binds (ps := ["self", "hand", "turns"]) fun _ _ _ _ _ _ us hl => match us, hl with | [_, _, _], _ => rfl
theorem sc_cut : FnScope ["number"] ["number"] (defScope s_cut) := ⟨rfl, rfl, rfl, by decide +kernel, rfl, by decide +kernel, by decide +kernel⟩
theorem sc_number_of : FnScope ["reckoning", "answers", "turns", "asked", "word", "question", "first", "taken", "second"] ["reckoning", "answers", "turns", "asked"] (defScope s_number_of) := ⟨rfl, rfl, rfl, by decide +kernel, rfl, by decide +kernel, by decide +kernel⟩
theorem sc_joined : FnScope ["word", "first", "second"] ["word", "first", "second"] (defScope s_joined) := ⟨rfl, rfl, rfl, by decide +kernel, rfl, by decide +kernel, by decide +kernel⟩
theorem sc_drawn : FnScope ["part", "answers", "drawer", "row", "works"] ["part", "answers"] (defScope s_drawn) := ⟨rfl, rfl, rfl, by decide +kernel, rfl, by decide +kernel, by decide +kernel⟩
theorem sc_l_tape : FnScope ["_law_script"] ["_law_script"] (defScope s_l_tape) := ⟨rfl, rfl, rfl, by decide +kernel, rfl, by decide +kernel, by decide +kernel⟩
theorem sc_l_draw : FnScope ["_law_tape_here", "_law_many", "_law_script", "_law_digit", "_law_cell", "_law_mixed"] ["_law_tape_here", "_law_many"] (defScope s_l_draw) := ⟨rfl, rfl, rfl, by decide +kernel, rfl, by decide +kernel, by decide +kernel⟩
theorem sc_l_kind : FnScope ["_law_thing", "_law_sorts"] ["_law_thing"] (defScope s_l_kind) := ⟨rfl, rfl, rfl, by decide +kernel, rfl, by decide +kernel, by decide +kernel⟩
theorem sc_l_alike : FnScope ["_law_one_here", "_law_other", "_law_sort", "_law_key_here", "_law_twins"] ["_law_one_here", "_law_other"] (defScope s_l_alike) := ⟨rfl, rfl, rfl, by decide +kernel, rfl, by decide +kernel, by decide +kernel⟩
theorem sc_l_key : FnScope ["_law_tape_here", "_law_names", "_law_some"] ["_law_tape_here", "_law_names"] (defScope s_l_key) := ⟨rfl, rfl, rfl, by decide +kernel, rfl, by decide +kernel, by decide +kernel⟩
theorem sc_l_one : FnScope ["_law_tape_here", "_law_names", "_law_key_here", "_law_way", "_law_pairs", "_law_inner", "_law_number"] ["_law_tape_here", "_law_names"] (defScope s_l_one) := ⟨rfl, rfl, rfl, by decide +kernel, rfl, by decide +kernel, by decide +kernel⟩
theorem sc_l_count : FnScope ["_law_tape_here", "_law_number"] ["_law_tape_here", "_law_number"] (defScope s_l_count) := ⟨rfl, rfl, rfl, by decide +kernel, rfl, by decide +kernel, by decide +kernel⟩
theorem sc_l_keyed : FnScope ["_law_line", "_law_turns", "_law_key_here"] ["_law_line", "_law_turns"] (defScope s_l_keyed) := ⟨rfl, rfl, rfl, by decide +kernel, rfl, by decide +kernel, by decide +kernel⟩
theorem sc_l_row_due : FnScope ["_law_line", "_law_turns", "_law_name", "_law_seen", "_law_found", "_law_key_here", "_law_spots"] ["_law_line", "_law_turns", "_law_name", "_law_seen", "_law_found"] (defScope s_l_row_due) := ⟨rfl, rfl, rfl, by decide +kernel, rfl, by decide +kernel, by decide +kernel⟩
theorem sc_l_told : FnScope ["_law_row", "_law_found", "_law_want", "_law_number", "_law_pair", "_law_spots"] ["_law_row"] (defScope s_l_told) := ⟨rfl, rfl, rfl, by decide +kernel, rfl, by decide +kernel, by decide +kernel⟩
theorem sc_law : FnScope ["_law_script", "_law_tape_here", "_law_names", "_law_numbers", "_law_ahead", "_law_outer", "_law_inner", "_law_second", "_law_taken", "_law_first", "_law_lines", "_law_row", "_law_seen", "_law_due", "_law_line", "_law_k", "_law_j", "_law_around"] ["_law_script"] (defScope s_law) := ⟨rfl, rfl, rfl, by decide +kernel, rfl, by decide +kernel, by decide +kernel⟩
theorem sc_Drawer___init__ : FnScope ["self", "answers"] ["self", "answers"] (defScope s_Drawer___init__) := ⟨rfl, rfl, rfl, by decide +kernel, rfl, by decide +kernel, by decide +kernel⟩
theorem sc_Drawer_number : FnScope ["self", "reckoning", "turns"] ["self", "reckoning", "turns"] (defScope s_Drawer_number) := ⟨rfl, rfl, rfl, by decide +kernel, rfl, by decide +kernel, by decide +kernel⟩
theorem sc_Drawer_numbered : FnScope ["self", "pairs", "turns"] ["self", "pairs", "turns"] (defScope s_Drawer_numbered) := ⟨rfl, rfl, rfl, by decide +kernel, rfl, by decide +kernel, by decide +kernel⟩
theorem sc_Drawer_row : FnScope ["self", "lines", "turns", "row"] ["self", "lines", "turns"] (defScope s_Drawer_row) := ⟨rfl, rfl, rfl, by decide +kernel, rfl, by decide +kernel, by decide +kernel⟩
theorem sc_Drawer_bring : FnScope ["self", "lines", "turns", "row", "counts", "line", "taken"] ["self", "lines", "turns", "row", "counts"] (defScope s_Drawer_bring) := ⟨rfl, rfl, rfl, by decide +kernel, rfl, by decide +kernel, by decide +kernel⟩
theorem sc_Drawer_bring_each : FnScope ["self", "line", "turns", "row", "counts", "count", "turn", "inner"] ["self", "line", "turns", "row", "counts"] (defScope s_Drawer_bring_each) := ⟨rfl, rfl, rfl, by decide +kernel, rfl, by decide +kernel, by decide +kernel⟩
theorem sc_Drawer_want : FnScope ["self", "line", "turns", "counts", "spot", "pairs", "hands"] ["self", "line", "turns", "counts"] (defScope s_Drawer_want) := ⟨rfl, rfl, rfl, by decide +kernel, rfl, by decide +kernel, by decide +kernel⟩
theorem sc_Drawer_spot : FnScope ["self", "key", "turns", "counts", "told", "nth"] ["self", "key", "turns", "counts"] (defScope s_Drawer_spot) := ⟨rfl, rfl, rfl, by decide +kernel, rfl, by decide +kernel, by decide +kernel⟩
end
theorem txt_mk {P : Program} {w : World} {K : PySem.W.Frag} {h : Heap} {mg : Str → Option Value} (X : K.In h) (G : h.Ns mainGlobals mg)
  {f0 f1 f2 f3 f4 f5 f6 f7 f8 f9 f10 f11 f12 f13 f14 f15 f16 f17 f18 f19 f20 f21 f22 f23 ga1 cc0 : Addr} {od0 an0 od1 an1 od2 an2 od3 an3 od4 an4 od5 an5 od6 an6 od7 an7 od8 an8 od9 an9 od10 an10 od11 an11 od12 an12 od13 an13 od14 an14 od15 an15 od16 an16 od17 an17 od18 an18 od19 an19 od20 an20 od21 an21 od22 an22 od23 an23 : Option Addr} {sl0 sl1 sl2 sl3 sl4 sl5 sl6 sl7 sl8 sl9 sl10 sl11 sl12 sl13 sl14 sl15 sl16 sl17 sl18 sl19 sl20 sl21 sl22 sl23 : Array (Option Value)} {oc0 kV0 dc0 pm0 cd0 ct0 oc1 kV1 dc1 pm1 cd1 ct1 oc2 kV2 dc2 pm2 cd2 ct2 oc3 kV3 dc3 pm3 cd3 ct3 oc4 kV4 dc4 pm4 cd4 ct4 oc5 kV5 dc5 pm5 cd5 ct5 oc6 kV6 dc6 pm6 cd6 ct6 oc7 kV7 dc7 pm7 cd7 ct7 oc8 kV8 dc8 pm8 cd8 ct8 oc9 kV9 dc9 pm9 cd9 ct9 oc10 kV10 dc10 pm10 cd10 ct10 oc11 kV11 dc11 pm11 cd11 ct11 oc12 kV12 dc12 pm12 cd12 ct12 oc13 kV13 dc13 pm13 cd13 ct13 oc14 kV14 dc14 pm14 cd14 ct14 oc15 kV15 dc15 pm15 cd15 ct15 oc16 kV16 dc16 pm16 cd16 ct16 oc17 kV17 dc17 pm17 cd17 ct17 oc18 kV18 dc18 pm18 cd18 ct18 oc19 kV19 dc19 pm19 cd19 ct19 oc20 kV20 dc20 pm20 cd20 ct20 oc21 kV21 dc21 pm21 cd21 ct21 oc22 kV22 dc22 pm22 cd22 ct22 oc23 kV23 dc23 pm23 cd23 ct23 : Value} {t0 t1_0 t1_1 t1_2 t2 : Tok} {gn1 : Nat}
  (ca0 : PySem.W.nsIn K mainGlobals "Drawer" = some (some (.ref cc0)))
  (a0 : PySem.W.nsIn K mainGlobals "cut" = some (some (.ref f0)))
  (l0 : K.lookup f0 = some ⟨oc0, od0, .func (PySem.W.fnOf "cut" "cut" (defArgs s_cut) (defBody s_cut) (defScope s_cut) .none kV0 dc0 pm0 an0 cd0 ct0), sl0⟩)
  (c0 : PySem.W.codeIn K cd0 "cut" = true)
  (k0 : PySem.W.keepIn K (.ref f0) = true)
  (a1 : PySem.W.nsIn K mainGlobals "number_of" = some (some (.ref f1)))
  (l1 : K.lookup f1 = some ⟨oc1, od1, .func (PySem.W.fnOf "number_of" "number_of" (defArgs s_number_of) (defBody s_number_of) (defScope s_number_of) .none kV1 dc1 pm1 an1 cd1 ct1), sl1⟩)
  (c1 : PySem.W.codeIn K cd1 "number_of" = true)
  (k1 : PySem.W.keepIn K (.ref f1) = true)
  (a2 : PySem.W.nsIn K mainGlobals "joined" = some (some (.ref f2)))
  (l2 : K.lookup f2 = some ⟨oc2, od2, .func (PySem.W.fnOf "joined" "joined" (defArgs s_joined) (defBody s_joined) (defScope s_joined) .none kV2 dc2 pm2 an2 cd2 ct2), sl2⟩)
  (c2 : PySem.W.codeIn K cd2 "joined" = true)
  (k2 : PySem.W.keepIn K (.ref f2) = true)
  (a3 : PySem.W.nsIn K mainGlobals "drawn" = some (some (.ref f3)))
  (l3 : K.lookup f3 = some ⟨oc3, od3, .func (PySem.W.fnOf "drawn" "drawn" (defArgs s_drawn) (defBody s_drawn) (defScope s_drawn) .none kV3 dc3 pm3 an3 cd3 ct3), sl3⟩)
  (c3 : PySem.W.codeIn K cd3 "drawn" = true)
  (k3 : PySem.W.keepIn K (.ref f3) = true)
  (a4 : PySem.W.nsIn K mainGlobals "_law_tape" = some (some (.ref f4)))
  (l4 : K.lookup f4 = some ⟨oc4, od4, .func (PySem.W.fnOf "_law_tape" "_law_tape" (defArgs s_l_tape) (defBody s_l_tape) (defScope s_l_tape) .none kV4 dc4 pm4 an4 cd4 ct4), sl4⟩)
  (c4 : PySem.W.codeIn K cd4 "_law_tape" = true)
  (k4 : PySem.W.keepIn K (.ref f4) = true)
  (a5 : PySem.W.nsIn K mainGlobals "_law_draw" = some (some (.ref f5)))
  (l5 : K.lookup f5 = some ⟨oc5, od5, .func (PySem.W.fnOf "_law_draw" "_law_draw" (defArgs s_l_draw) (defBody s_l_draw) (defScope s_l_draw) .none kV5 dc5 pm5 an5 cd5 ct5), sl5⟩)
  (c5 : PySem.W.codeIn K cd5 "_law_draw" = true)
  (k5 : PySem.W.keepIn K (.ref f5) = true)
  (a6 : PySem.W.nsIn K mainGlobals "_law_kind" = some (some (.ref f6)))
  (l6 : K.lookup f6 = some ⟨oc6, od6, .func (PySem.W.fnOf "_law_kind" "_law_kind" (defArgs s_l_kind) (defBody s_l_kind) (defScope s_l_kind) .none kV6 dc6 pm6 an6 cd6 ct6), sl6⟩)
  (c6 : PySem.W.codeIn K cd6 "_law_kind" = true)
  (k6 : PySem.W.keepIn K (.ref f6) = true)
  (a7 : PySem.W.nsIn K mainGlobals "_law_alike" = some (some (.ref f7)))
  (l7 : K.lookup f7 = some ⟨oc7, od7, .func (PySem.W.fnOf "_law_alike" "_law_alike" (defArgs s_l_alike) (defBody s_l_alike) (defScope s_l_alike) .none kV7 dc7 pm7 an7 cd7 ct7), sl7⟩)
  (c7 : PySem.W.codeIn K cd7 "_law_alike" = true)
  (k7 : PySem.W.keepIn K (.ref f7) = true)
  (a8 : PySem.W.nsIn K mainGlobals "_law_key" = some (some (.ref f8)))
  (l8 : K.lookup f8 = some ⟨oc8, od8, .func (PySem.W.fnOf "_law_key" "_law_key" (defArgs s_l_key) (defBody s_l_key) (defScope s_l_key) .none kV8 dc8 pm8 an8 cd8 ct8), sl8⟩)
  (c8 : PySem.W.codeIn K cd8 "_law_key" = true)
  (k8 : PySem.W.keepIn K (.ref f8) = true)
  (a9 : PySem.W.nsIn K mainGlobals "_law_one" = some (some (.ref f9)))
  (l9 : K.lookup f9 = some ⟨oc9, od9, .func (PySem.W.fnOf "_law_one" "_law_one" (defArgs s_l_one) (defBody s_l_one) (defScope s_l_one) .none kV9 dc9 pm9 an9 cd9 ct9), sl9⟩)
  (c9 : PySem.W.codeIn K cd9 "_law_one" = true)
  (k9 : PySem.W.keepIn K (.ref f9) = true)
  (a10 : PySem.W.nsIn K mainGlobals "_law_count" = some (some (.ref f10)))
  (l10 : K.lookup f10 = some ⟨oc10, od10, .func (PySem.W.fnOf "_law_count" "_law_count" (defArgs s_l_count) (defBody s_l_count) (defScope s_l_count) .none kV10 dc10 pm10 an10 cd10 ct10), sl10⟩)
  (c10 : PySem.W.codeIn K cd10 "_law_count" = true)
  (k10 : PySem.W.keepIn K (.ref f10) = true)
  (a11 : PySem.W.nsIn K mainGlobals "_law_keyed" = some (some (.ref f11)))
  (l11 : K.lookup f11 = some ⟨oc11, od11, .func (PySem.W.fnOf "_law_keyed" "_law_keyed" (defArgs s_l_keyed) (defBody s_l_keyed) (defScope s_l_keyed) .none kV11 dc11 pm11 an11 cd11 ct11), sl11⟩)
  (c11 : PySem.W.codeIn K cd11 "_law_keyed" = true)
  (k11 : PySem.W.keepIn K (.ref f11) = true)
  (a12 : PySem.W.nsIn K mainGlobals "_law_row_due" = some (some (.ref f12)))
  (l12 : K.lookup f12 = some ⟨oc12, od12, .func (PySem.W.fnOf "_law_row_due" "_law_row_due" (defArgs s_l_row_due) (defBody s_l_row_due) (defScope s_l_row_due) .none kV12 dc12 pm12 an12 cd12 ct12), sl12⟩)
  (c12 : PySem.W.codeIn K cd12 "_law_row_due" = true)
  (k12 : PySem.W.keepIn K (.ref f12) = true)
  (a13 : PySem.W.nsIn K mainGlobals "_law_told" = some (some (.ref f13)))
  (l13 : K.lookup f13 = some ⟨oc13, od13, .func (PySem.W.fnOf "_law_told" "_law_told" (defArgs s_l_told) (defBody s_l_told) (defScope s_l_told) .none kV13 dc13 pm13 an13 cd13 ct13), sl13⟩)
  (c13 : PySem.W.codeIn K cd13 "_law_told" = true)
  (k13 : PySem.W.keepIn K (.ref f13) = true)
  (a14 : PySem.W.nsIn K mainGlobals "law" = some (some (.ref f14)))
  (l14 : K.lookup f14 = some ⟨oc14, od14, .func (PySem.W.fnOf "law" "law" (defArgs s_law) (defBody s_law) (defScope s_law) .none kV14 dc14 pm14 an14 cd14 ct14), sl14⟩)
  (c14 : PySem.W.codeIn K cd14 "law" = true)
  (k14 : PySem.W.keepIn K (.ref f14) = true)
  (a15 : PySem.W.findIn K (.ref cc0) "__init__" = some (some (.ref f15)))
  (l15 : K.lookup f15 = some ⟨oc15, od15, .func (PySem.W.fnOf "__init__" "Drawer.__init__" (defArgs s_Drawer___init__) (defBody s_Drawer___init__) (defScope s_Drawer___init__) .none kV15 dc15 pm15 an15 cd15 ct15), sl15⟩)
  (c15 : PySem.W.codeIn K cd15 "Drawer.__init__" = true)
  (k15 : PySem.W.keepIn K (.ref f15) = true)
  (i15 : PySem.W.isFn K (.ref f15) = true)
  (a16 : PySem.W.findIn K (.ref cc0) "number" = some (some (.ref f16)))
  (l16 : K.lookup f16 = some ⟨oc16, od16, .func (PySem.W.fnOf "number" "Drawer.number" (defArgs s_Drawer_number) (defBody s_Drawer_number) (defScope s_Drawer_number) .none kV16 dc16 pm16 an16 cd16 ct16), sl16⟩)
  (c16 : PySem.W.codeIn K cd16 "Drawer.number" = true)
  (k16 : PySem.W.keepIn K (.ref f16) = true)
  (i16 : PySem.W.isFn K (.ref f16) = true)
  (a17 : PySem.W.findIn K (.ref cc0) "numbered" = some (some (.ref f17)))
  (l17 : K.lookup f17 = some ⟨oc17, od17, .func (PySem.W.fnOf "numbered" "Drawer.numbered" (defArgs s_Drawer_numbered) (defBody s_Drawer_numbered) (defScope s_Drawer_numbered) .none kV17 dc17 pm17 an17 cd17 ct17), sl17⟩)
  (c17 : PySem.W.codeIn K cd17 "Drawer.numbered" = true)
  (k17 : PySem.W.keepIn K (.ref f17) = true)
  (i17 : PySem.W.isFn K (.ref f17) = true)
  (a18 : PySem.W.findIn K (.ref cc0) "row" = some (some (.ref f18)))
  (l18 : K.lookup f18 = some ⟨oc18, od18, .func (PySem.W.fnOf "row" "Drawer.row" (defArgs s_Drawer_row) (defBody s_Drawer_row) (defScope s_Drawer_row) .none kV18 dc18 pm18 an18 cd18 ct18), sl18⟩)
  (c18 : PySem.W.codeIn K cd18 "Drawer.row" = true)
  (k18 : PySem.W.keepIn K (.ref f18) = true)
  (i18 : PySem.W.isFn K (.ref f18) = true)
  (a19 : PySem.W.findIn K (.ref cc0) "bring" = some (some (.ref f19)))
  (l19 : K.lookup f19 = some ⟨oc19, od19, .func (PySem.W.fnOf "bring" "Drawer.bring" (defArgs s_Drawer_bring) (defBody s_Drawer_bring) (defScope s_Drawer_bring) .none kV19 dc19 pm19 an19 cd19 ct19), sl19⟩)
  (c19 : PySem.W.codeIn K cd19 "Drawer.bring" = true)
  (k19 : PySem.W.keepIn K (.ref f19) = true)
  (i19 : PySem.W.isFn K (.ref f19) = true)
  (a20 : PySem.W.findIn K (.ref cc0) "bring_each" = some (some (.ref f20)))
  (l20 : K.lookup f20 = some ⟨oc20, od20, .func (PySem.W.fnOf "bring_each" "Drawer.bring_each" (defArgs s_Drawer_bring_each) (defBody s_Drawer_bring_each) (defScope s_Drawer_bring_each) .none kV20 dc20 pm20 an20 cd20 ct20), sl20⟩)
  (c20 : PySem.W.codeIn K cd20 "Drawer.bring_each" = true)
  (k20 : PySem.W.keepIn K (.ref f20) = true)
  (i20 : PySem.W.isFn K (.ref f20) = true)
  (a21 : PySem.W.findIn K (.ref cc0) "want" = some (some (.ref f21)))
  (l21 : K.lookup f21 = some ⟨oc21, od21, .func (PySem.W.fnOf "want" "Drawer.want" (defArgs s_Drawer_want) (defBody s_Drawer_want) (defScope s_Drawer_want) .none kV21 dc21 pm21 an21 cd21 ct21), sl21⟩)
  (c21 : PySem.W.codeIn K cd21 "Drawer.want" = true)
  (k21 : PySem.W.keepIn K (.ref f21) = true)
  (i21 : PySem.W.isFn K (.ref f21) = true)
  (a22 : PySem.W.findIn K (.ref cc0) "spot" = some (some (.ref f22)))
  (l22 : K.lookup f22 = some ⟨oc22, od22, .func (PySem.W.fnOf "spot" "Drawer.spot" (defArgs s_Drawer_spot) (defBody s_Drawer_spot) (defScope s_Drawer_spot) .none kV22 dc22 pm22 an22 cd22 ct22), sl22⟩)
  (c22 : PySem.W.codeIn K cd22 "Drawer.spot" = true)
  (k22 : PySem.W.keepIn K (.ref f22) = true)
  (i22 : PySem.W.isFn K (.ref f22) = true)
  (a23 : PySem.W.findIn K (.ref cc0) "hand" = some (some (.ref f23)))
  (l23 : K.lookup f23 = some ⟨oc23, od23, .func (PySem.W.fnOf "hand" "Drawer.hand" (defArgs s_Drawer_hand) (defBody s_Drawer_hand) (defScope s_Drawer_hand) .none kV23 dc23 pm23 an23 cd23 ct23), sl23⟩)
  (c23 : PySem.W.codeIn K cd23 "Drawer.hand" = true)
  (k23 : PySem.W.keepIn K (.ref f23) = true)
  (i23 : PySem.W.isFn K (.ref f23) = true)
  (gl0 : PySem.W.nsIn K mainGlobals "BOUND" = some (some (.int 1000000000 t0)))
  (gl1 : PySem.W.nsIn K mainGlobals "ASKING" = some (some (.ref ga1)))
  (ql1 : K.lookup ga1 = some { cls := .type "tuple", data := .seq #[.str "take" t1_0, .str "box" t1_1, .str "down" t1_2] gn1 })
  (gl2 : PySem.W.nsIn K mainGlobals "MOST_TURNS" = some (some (.int 8 t2)))
  (z0 : PySem.W.nsIn K mainGlobals "abs" = some none)
  (z1 : PySem.W.nsIn K mainGlobals "bool" = some none)
  (z2 : PySem.W.nsIn K mainGlobals "dict" = some none)
  (z3 : PySem.W.nsIn K mainGlobals "int" = some none)
  (z4 : PySem.W.nsIn K mainGlobals "isinstance" = some none)
  (z5 : PySem.W.nsIn K mainGlobals "len" = some none)
  (z6 : PySem.W.nsIn K mainGlobals "list" = some none)
  (z7 : PySem.W.nsIn K mainGlobals "max" = some none)
  (z8 : PySem.W.nsIn K mainGlobals "min" = some none)
  (z9 : PySem.W.nsIn K mainGlobals "range" = some none)
  (z10 : PySem.W.nsIn K mainGlobals "sorted" = some none)
  (z11 : PySem.W.nsIn K mainGlobals "str" = some none)
  (z12 : PySem.W.nsIn K mainGlobals "tuple" = some none)
  (cb0 : PySem.W.plainGet K cc0 Str.empty = true)
  (cd_0 : PySem.W.hasDictIn K cc0 = true)
  (ce0 : PySem.W.plainOver K cc0 = true)
  (cf0 : PySem.W.findIn K (.ref cc0) "__setattr__" = some (some (.builtin "object.__setattr__")))
  (cg0 : PySem.W.makesIn K cc0 = true)
  (ch0 : PySem.W.keepIn K (.ref cc0) = true)
  (n0_answers : PySem.W.findIn K (.ref cc0) "answers" = some none)
  (n0_asked : PySem.W.findIn K (.ref cc0) "asked" = some none)
  : ∃ a : Adr, Txt P w K mg a ∧ ∃ (f : Addr) (kV dc pm : Value) (an : Option Addr) (cd ct : Value), a.law = f ∧ a.d_law = PySem.W.fnOf "law" "law" (defArgs s_law) (defBody s_law) (defScope s_law) .none kV dc pm an cd ct :=
 ⟨⟨f0, PySem.W.fnOf "cut" "cut" (defArgs s_cut) (defBody s_cut) (defScope s_cut) .none kV0 dc0 pm0 an0 cd0 ct0, f1, PySem.W.fnOf "number_of" "number_of" (defArgs s_number_of) (defBody s_number_of) (defScope s_number_of) .none kV1 dc1 pm1 an1 cd1 ct1, f2, PySem.W.fnOf "joined" "joined" (defArgs s_joined) (defBody s_joined) (defScope s_joined) .none kV2 dc2 pm2 an2 cd2 ct2, f3, PySem.W.fnOf "drawn" "drawn" (defArgs s_drawn) (defBody s_drawn) (defScope s_drawn) .none kV3 dc3 pm3 an3 cd3 ct3, f4, PySem.W.fnOf "_law_tape" "_law_tape" (defArgs s_l_tape) (defBody s_l_tape) (defScope s_l_tape) .none kV4 dc4 pm4 an4 cd4 ct4, f5, PySem.W.fnOf "_law_draw" "_law_draw" (defArgs s_l_draw) (defBody s_l_draw) (defScope s_l_draw) .none kV5 dc5 pm5 an5 cd5 ct5, f6, PySem.W.fnOf "_law_kind" "_law_kind" (defArgs s_l_kind) (defBody s_l_kind) (defScope s_l_kind) .none kV6 dc6 pm6 an6 cd6 ct6, f7, PySem.W.fnOf "_law_alike" "_law_alike" (defArgs s_l_alike) (defBody s_l_alike) (defScope s_l_alike) .none kV7 dc7 pm7 an7 cd7 ct7, f8, PySem.W.fnOf "_law_key" "_law_key" (defArgs s_l_key) (defBody s_l_key) (defScope s_l_key) .none kV8 dc8 pm8 an8 cd8 ct8, f9, PySem.W.fnOf "_law_one" "_law_one" (defArgs s_l_one) (defBody s_l_one) (defScope s_l_one) .none kV9 dc9 pm9 an9 cd9 ct9, f10, PySem.W.fnOf "_law_count" "_law_count" (defArgs s_l_count) (defBody s_l_count) (defScope s_l_count) .none kV10 dc10 pm10 an10 cd10 ct10, f11, PySem.W.fnOf "_law_keyed" "_law_keyed" (defArgs s_l_keyed) (defBody s_l_keyed) (defScope s_l_keyed) .none kV11 dc11 pm11 an11 cd11 ct11, f12, PySem.W.fnOf "_law_row_due" "_law_row_due" (defArgs s_l_row_due) (defBody s_l_row_due) (defScope s_l_row_due) .none kV12 dc12 pm12 an12 cd12 ct12, f13, PySem.W.fnOf "_law_told" "_law_told" (defArgs s_l_told) (defBody s_l_told) (defScope s_l_told) .none kV13 dc13 pm13 an13 cd13 ct13, f14, PySem.W.fnOf "law" "law" (defArgs s_law) (defBody s_law) (defScope s_law) .none kV14 dc14 pm14 an14 cd14 ct14, f15, PySem.W.fnOf "__init__" "Drawer.__init__" (defArgs s_Drawer___init__) (defBody s_Drawer___init__) (defScope s_Drawer___init__) .none kV15 dc15 pm15 an15 cd15 ct15, f16, PySem.W.fnOf "number" "Drawer.number" (defArgs s_Drawer_number) (defBody s_Drawer_number) (defScope s_Drawer_number) .none kV16 dc16 pm16 an16 cd16 ct16, f17, PySem.W.fnOf "numbered" "Drawer.numbered" (defArgs s_Drawer_numbered) (defBody s_Drawer_numbered) (defScope s_Drawer_numbered) .none kV17 dc17 pm17 an17 cd17 ct17, f18, PySem.W.fnOf "row" "Drawer.row" (defArgs s_Drawer_row) (defBody s_Drawer_row) (defScope s_Drawer_row) .none kV18 dc18 pm18 an18 cd18 ct18, f19, PySem.W.fnOf "bring" "Drawer.bring" (defArgs s_Drawer_bring) (defBody s_Drawer_bring) (defScope s_Drawer_bring) .none kV19 dc19 pm19 an19 cd19 ct19, f20, PySem.W.fnOf "bring_each" "Drawer.bring_each" (defArgs s_Drawer_bring_each) (defBody s_Drawer_bring_each) (defScope s_Drawer_bring_each) .none kV20 dc20 pm20 an20 cd20 ct20, f21, PySem.W.fnOf "want" "Drawer.want" (defArgs s_Drawer_want) (defBody s_Drawer_want) (defScope s_Drawer_want) .none kV21 dc21 pm21 an21 cd21 ct21, f22, PySem.W.fnOf "spot" "Drawer.spot" (defArgs s_Drawer_spot) (defBody s_Drawer_spot) (defScope s_Drawer_spot) .none kV22 dc22 pm22 an22 cd22 ct22, f23, PySem.W.fnOf "hand" "Drawer.hand" (defArgs s_Drawer_hand) (defBody s_Drawer_hand) (defScope s_Drawer_hand) .none kV23 dc23 pm23 an23 cd23 ct23, t0, ga1, t2, cc0⟩,
  ⟨PySem.W.mg_of X G gl0,
  PySem.W.mg_of X G gl1,
  fun _ => .inr ⟨_, _, _, ql1, rfl, rfl, by show 3 ≤ sizeLine; decide, (.cons ⟨_, rfl⟩ (.cons ⟨_, rfl⟩ (.cons ⟨_, rfl⟩ .nil)))⟩,
  PySem.W.mg_of X G gl2,
  PySem.W.mg_none_of X G z0,
  PySem.W.mg_none_of X G z1,
  PySem.W.mg_none_of X G z2,
  PySem.W.mg_none_of X G z3,
  PySem.W.mg_none_of X G z4,
  PySem.W.mg_none_of X G z5,
  PySem.W.mg_none_of X G z6,
  PySem.W.mg_none_of X G z7,
  PySem.W.mg_none_of X G z8,
  PySem.W.mg_none_of X G z9,
  PySem.W.mg_none_of X G z10,
  PySem.W.mg_none_of X G z11,
  PySem.W.mg_none_of X G z12,
  PySem.W.mg_of X G a0,
  fun_mk l0 c0 k0,
  PySem.W.mg_of X G a1,
  fun_mk l1 c1 k1,
  PySem.W.mg_of X G a2,
  fun_mk l2 c2 k2,
  PySem.W.mg_of X G a3,
  fun_mk l3 c3 k3,
  PySem.W.mg_of X G a4,
  fun_mk l4 c4 k4,
  PySem.W.mg_of X G a5,
  fun_mk l5 c5 k5,
  PySem.W.mg_of X G a6,
  fun_mk l6 c6 k6,
  PySem.W.mg_of X G a7,
  fun_mk l7 c7 k7,
  PySem.W.mg_of X G a8,
  fun_mk l8 c8 k8,
  PySem.W.mg_of X G a9,
  fun_mk l9 c9 k9,
  PySem.W.mg_of X G a10,
  fun_mk l10 c10 k10,
  PySem.W.mg_of X G a11,
  fun_mk l11 c11 k11,
  PySem.W.mg_of X G a12,
  fun_mk l12 c12 k12,
  PySem.W.mg_of X G a13,
  fun_mk l13 c13 k13,
  PySem.W.mg_of X G a14,
  fun_mk l14 c14 k14,
  fun_mk l15 c15 k15,
  fun_mk l16 c16 k16,
  ⟨a16, i16, k16⟩,
  fun_mk l17 c17 k17,
  ⟨a17, i17, k17⟩,
  fun_mk l18 c18 k18,
  ⟨a18, i18, k18⟩,
  fun_mk l19 c19 k19,
  ⟨a19, i19, k19⟩,
  fun_mk l20 c20 k20,
  ⟨a20, i20, k20⟩,
  fun_mk l21 c21 k21,
  ⟨a21, i21, k21⟩,
  fun_mk l22 c22 k22,
  ⟨a22, i22, k22⟩,
  fun_mk l23 c23 k23,
  ⟨a23, i23, k23⟩,
  PySem.W.mg_of X G ca0,
  ⟨cb0, cd_0, ce0, cf0⟩,
  ⟨cg0, a15, i15, ch0⟩,
  n0_answers,
  n0_asked⟩, _, _, _, _, _, _, _, rfl, rfl⟩
end K08
set_option Elab.async false
set_option linter.all false
set_option maxRecDepth 100000
set_option maxHeartbeats 4000000
namespace K08
open PySem L2 CL
section
variable {P : Program} {w : World} {K : PySem.W.Frag} {mg : Str → Option Value} {base : Heap} {a : Adr}
structure Tp (C : CH) (t : Addr) (ns : List Int) : Prop where
 at_ : ∃ a b c : Int, C t = some (.lst [.fz (ns.map PV.int), .int a, .int b, .int c]) ∧ 0 ≤ a ∧ 0 ≤ b ∧ 0 ≤ c
 len : ns.length ≤ 63
def Ex (t : Addr) (C C' : CH) : Prop := ∀ b o, b ≠ t → C b = some o → C' b = some o
theorem Ex.refl {t : Addr} {C : CH} : Ex t C C := fun _ _ _ h => h
theorem Ex.trans {t : Addr} {C C1 C2 : CH} (h : Ex t C C1) (h' : Ex t C1 C2) : Ex t C C2 := fun b o n e => h' b o n (h b o n e)
theorem Ex.new {t p : Addr} {C : CH} (hp : C p = none) (o : CO) : Ex t C (updC C p o) := fun b u _ e => by
 rw [updC_ne (fun z => by subst z; rw [hp] at e; cases e)]; exact e
def gTape : GC := fun ts C Q => ∃ ns : List Int, ts = [.fz (ns.map PV.int)] ∧ ns.length ≤ 63 ∧ ∀ t C', C t = none → Ex t C C' → Tp C' t ns → Q (.ref t) C'
theorem ok_tape (T : Txt P w K mg a) : FnOk P w K mg base CX0 1 a.l_tape a.d_l_tape ["_law_script"] (spC K gTape) := by
 have S := sc_l_tape
 refine Fun.okC T.F_l_tape sc_l_tape (fun ts C R h => ?_) fun cdv A outer s H E hr => ⟨_, (cb_one (cs_ret (ce_lst (ca_cons (cv 0) (ca_cons ce_int (ca_cons ce_int (ca_cons ce_int ca_nil))))))), ?_⟩
 ·obtain ⟨ns, rfl, _⟩ := h; rfl
 rintro ts C R ⟨ns, rfl, hl, q⟩
 show 4 ≤ sizeLine ∧ ∀ p, C p = none → R (.ref p) (updC C p (.lst [.fz (ns.map PV.int), .int 0, .int 0, .int 0]))
 exact ⟨by decide, fun p hp => q p _ hp (Ex.new hp _) ⟨⟨0, 0, 0, updC_same, by decide, by decide, by decide⟩, hl⟩⟩
end
end K08
set_option Elab.async false
set_option linter.all false
set_option maxRecDepth 100000
set_option maxHeartbeats 4000000
namespace K08
open PySem L2 CL
section
variable {P : Program} {w : World} {K : PySem.W.Frag} {mg : Str → Option Value} {base : Heap} {a : Adr}
theorem Ex.tape {t : Addr} {C : CH} (o : CO) : Ex t C (updC C t o) := fun b u n e => by rw [updC_ne n]; exact e
theorem at_int {ns : List Int} {k : Int} (h0 : 0 ≤ k) (h1 : k < ((ns.map PV.int).length : Int)) : ∃ v, atI (ns.map PV.int) k = some (.int v) := by
 unfold atI ixN
 rw [if_pos h0, if_pos h1]
 rw [List.length_map] at h1
 show ∃ v, (ns.map PV.int)[k.toNat]? = some (.int v)
 rw [List.getElem?_map, List.getElem?_eq_getElem (by omega)]
 exact ⟨_, rfl⟩
def gDraw : GC := fun ts C Q => ∃ (t : Addr) (m : Int) (ns : List Int), ts = [.ref t, .int m] ∧ Tp C t ns ∧ 0 < m ∧ m < 4611686018427387904 ∧ ∀ (v : Int) (C' : CH), 0 ≤ v → v < m → Tp C' t ns → Ex t C C' → Q (.int v) C'
theorem ok_draw (T : Txt P w K mg a) : FnOk P w K mg base CX0 1 a.l_draw a.d_l_draw ["_law_tape_here", "_law_many"] (spC K gDraw) := by
 have S := sc_l_draw
 refine Fun.okC T.F_l_draw sc_l_draw (fun ts C R h => ?_) fun cdv A outer s H E hr => ⟨_, (cb_cons (cs_set (i := 2) S.nd rfl (Or.inl rfl) (ce_ix (r := rIx K) ix_seqC cop_ix (cv 0) ce_int (fun _ _ => rfl)))
  (cb_cons (cs_asg (ce_op op_addC cop_add (ce_ix (r := rIx K) ix_seqC cop_ix (cv 0) ce_int (fun _ _ => rfl)) ce_int) (cg_subL (cv 0) ce_int))
  (cb_cons (cs_if (cw_pt (cw_and (ct_cmp op_eq cop_eq (ce_ix (r := rIx K) ix_seqC cop_ix (cv 0) ce_int (fun _ _ => rfl)) ce_int (nomark _)) (cw_and1 (ct_cmp op_lt cop_lt (ce_ix (r := rIx K) ix_seqC cop_ix (cv 0) ce_int (fun _ _ => rfl)) (ce_callB call_lenC cbi_len rfl T.z_len rfl (ca_cons (cv 2) ca_nil)) (nomark _))))) (cb_cons (cs_asg (ce_op op_fdivB cop_fdiv (ce_callB call_abs cbi_abs rfl T.z_abs rfl (ca_cons (ce_ix (r := rIx K) ix_seqC cop_ix (cv 2) (ce_ix (r := rIx K) ix_seqC cop_ix (cv 0) ce_int (fun _ _ => rfl)) (fun _ _ => rfl)) ca_nil)) (ce_op op_pow cop_pow ce_int ce_int)) (cg_subL (cv 0) ce_int))
  (cb_one (cs_asg (ce_op op_addC cop_add (ce_ix (r := rIx K) ix_seqC cop_ix (cv 0) ce_int (fun _ _ => rfl)) ce_int) (cg_subL (cv 0) ce_int)))) cb_nil)
  (cb_cons (cs_if (ct_cmp op_gt cop_gt (ce_ix (r := rIx K) ix_seqC cop_ix (cv 0) ce_int (fun _ _ => rfl)) ce_int (nomark _)) (cb_cons (cs_set (i := 3) S.nd rfl (Or.inl rfl) (ce_op op_mod cop_mod (ce_ix (r := rIx K) ix_seqC cop_ix (cv 0) ce_int (fun _ _ => rfl)) (cv 1)))
  (cb_cons (cs_asg (ce_op op_fdivB cop_fdiv (ce_ix (r := rIx K) ix_seqC cop_ix (cv 0) ce_int (fun _ _ => rfl)) (cv 1)) (cg_subL (cv 0) ce_int))
  (cb_one (cs_ret (cv 3))))) cb_nil)
  (cb_cons (cs_set (i := 4) S.nd rfl (Or.inl rfl) ce_int)
  (cb_cons (cs_if (ct_cmp op_gt cop_gt (ce_callB call_lenC cbi_len rfl T.z_len rfl (ca_cons (cv 2) ca_nil)) ce_int (nomark _)) (cb_one (cs_set (i := 4) S.nd rfl (Or.inl rfl) (ce_ix (r := rIx K) ix_seqC cop_ix (cv 2) (ce_op op_mod cop_mod (ce_ix (r := rIx K) ix_seqC cop_ix (cv 0) ce_int (fun _ _ => rfl)) (ce_callB call_lenC cbi_len rfl T.z_len rfl (ca_cons (cv 2) ca_nil))) (fun _ _ => rfl)))) cb_nil)
  (cb_cons (cs_set (i := 5) S.nd rfl (Or.inl rfl) (ce_op op_mod cop_mod (ce_op op_addC cop_add (ce_op op_addC cop_add (ce_op op_mul cop_mul (ce_op op_mod cop_mod (cv 4) ce_int) ce_int) (ce_op op_mul cop_mul (ce_ix (r := rIx K) ix_seqC cop_ix (cv 0) ce_int (fun _ _ => rfl)) ce_int)) ce_int) ce_int))
  (cb_cons (cs_set (i := 5) S.nd rfl (Or.inl rfl) (ce_op op_mod cop_mod (ce_op op_mul cop_mul (cv 5) (ce_op op_addC cop_add (cv 5) ce_int)) ce_int))
  (cb_one (cs_ret (ce_op op_mod cop_mod (ce_op op_mod cop_mod (ce_op op_mul cop_mul (cv 5) ce_int) ce_int) (cv 1)))))))))))), ?_⟩
 ·obtain ⟨t, m, ns, rfl, _⟩ := h; rfl
 rintro ts C R ⟨t, m, ns, rfl, ⟨⟨x, y, z, h, hx, hy, hz⟩, hl⟩, m0, m1, q⟩
 refine ix_l h rfl ?_
 refine ix_l h rfl ?_
 refine add_i ?_
 refine setL h rfl ?_
 dsimp only
 have h1 : (updC C t (.lst [.fz (ns.map PV.int), .int (x + 1), .int y, .int z])) t = _ := updC_same
 have e1 : Ex t C (updC C t (.lst [.fz (ns.map PV.int), .int (x + 1), .int y, .int z])) := Ex.tape _
 refine seq_post (fun ρ' C' => ρ' = [some (.ref t), some (.int m), some (.fz (ns.map PV.int)), none, none, none] ∧ ∃ y z : Int, C' t = some (.lst [.fz (ns.map PV.int), .int (x + 1), .int y, .int z]) ∧ 0 ≤ y ∧ 0 ≤ z ∧ Ex t C C') (fun L hL => ?_) ?_
 ·refine ix_l h1 rfl ?_
  refine eq_s (sEq_int _ _) ?_
  refine on_b (fun hb => ?_) fun hb => ?_
  ·refine ix_l h1 rfl ?_
   refine len_f ?_
   refine i_i ?_
   refine on_b (fun hb2 => ?_) fun hb2 => ?_
   ·obtain ⟨c, ea⟩ := at_int hz (of_decide_eq_true hb2)
    refine ix_l h1 rfl ?_
    refine ix_f ea ?_
    refine ⟨⟨by decide, by decide, by decide⟩, ⟨by decide, by decide⟩, ?_⟩
    refine setL h1 rfl ?_
    refine ix_l updC_same rfl ?_
    refine add_i ?_
    refine setL updC_same rfl ?_
    refine hL _ _ ⟨rfl, _, _, updC_same, ?_, by omega, (e1.trans (Ex.tape _)).trans (Ex.tape _)⟩
    refine Int.ediv_nonneg ?_ (by decide)
    split <;> omega
   ·refine nx_i ?_
    exact hL _ _ ⟨rfl, y, z, h1, hy, hz, e1⟩
  ·refine if_n rfl ?_
   refine nx_i ?_
   exact hL _ _ ⟨rfl, y, z, h1, hy, hz, e1⟩
 clear h1 e1
 rintro ρ' C1 ⟨rfl, y', z', h1, hy', hz', e1⟩
 try dsimp only
 refine seq_i ?_
 refine ix_l h1 rfl ?_
 refine i_i ?_
 refine on_b (fun hb => ?_) fun hb => ?_
 ·refine ix_l h1 rfl ?_
  refine ⟨m0, ?_⟩
  refine ix_l h1 rfl ?_
  refine ⟨⟨m0, by omega⟩, ?_⟩
  refine setL h1 rfl ?_
  exact q _ _ (Int.emod_nonneg _ (by omega)) (Int.emod_lt_of_pos _ m0) ⟨⟨_, _, _, updC_same, by omega, Int.ediv_nonneg hy' (by omega), hz'⟩, hl⟩ (e1.trans (Ex.tape _))
 ·refine nx_i ?_
  try dsimp only
  refine seq_set (c_i ?_)
  try dsimp only
  refine seq_post (fun ρ' C' => C' = C1 ∧ ∃ v : Int, ρ' = [some (.ref t), some (.int m), some (.fz (ns.map PV.int)), none, some (.int v), none]) (fun L hL => ?_) ?_
  ·refine len_f ?_
   refine i_i ?_
   refine on_b (fun hb2 => ?_) fun hb2 => ?_
   ·have hn : (0 : Int) < ((ns.map PV.int).length : Int) := of_decide_eq_true hb2
    obtain ⟨c, ea⟩ := at_int (Int.emod_nonneg (x + 1) (b := ((ns.map PV.int).length : Int)) (by omega)) (Int.emod_lt_of_pos (x + 1) hn)
    refine ix_l h1 rfl ?_
    refine len_f ?_
    refine ⟨hn, ?_⟩
    refine ix_f ea ?_
    exact hL _ _ ⟨rfl, _, rfl⟩
   ·refine nx_i ?_
    exact hL _ _ ⟨rfl, 0, rfl⟩
  ·rintro ρ' C2 ⟨rfl, v, rfl⟩
   try dsimp only
   refine seq_set ?_
   refine ⟨(by show (0 : Int) < _; decide), ?_⟩
   refine ⟨.inr ⟨by decide, by decide⟩, ?_⟩
   refine ix_l h1 rfl ?_
   refine ⟨.inr ⟨by decide, by decide⟩, ?_⟩
   refine add_i ?_
   refine add_i ?_
   refine ⟨(by show (0 : Int) < _; decide), ?_⟩
   have b0 := Int.emod_nonneg (v % 2147483647 * 48271 + (x + 1) * 7919 + 12345) (b := 2147483629) (by decide)
   have b1 := Int.emod_lt_of_pos (v % 2147483647 * 48271 + (x + 1) * 7919 + 12345) (b := 2147483629) (by decide)
   try dsimp only
   refine seq_set ?_
   refine add_i ?_
   refine ⟨.inl ⟨by omega, by omega⟩, ?_⟩
   refine ⟨(by show (0 : Int) < _; decide), ?_⟩
   try dsimp only
   refine ⟨.inr ⟨by decide, by decide⟩, ?_⟩
   refine ⟨(by show (0 : Int) < _; decide), ?_⟩
   refine ⟨m0, ?_⟩
   exact q _ _ (Int.emod_nonneg _ (by omega)) (Int.emod_lt_of_pos _ m0) ⟨⟨_, _, _, h1, by omega, hy', hz'⟩, hl⟩ e1
end
end K08
set_option Elab.async false
set_option linter.all false
set_option maxRecDepth 100000
set_option maxHeartbeats 1000000
namespace K08
open PySem L2 CL
section
variable {P : Program} {w : World} {K : PySem.W.Frag} {mg : Str → Option Value} {base : Heap} {a : Adr}
theorem Tp.ne {C : CH} {t p : Addr} {ns : List Int} (h : Tp C t ns) (hp : C p = none) : p ≠ t := fun e => by
 obtain ⟨⟨x, y, z, h, _⟩, _⟩ := h
 rw [← e, hp] at h
 cases h
theorem Tp.new {C : CH} {t p : Addr} {ns : List Int} (h : Tp C t ns) (hp : C p = none) (o : CO) : Tp (updC C p o) t ns := by
 have n := h.ne hp
 obtain ⟨⟨x, y, z, h, q⟩, l⟩ := h
 exact ⟨⟨x, y, z, (updC_ne (Ne.symm n)).trans h, q⟩, l⟩
end
end K08
set_option Elab.async false
set_option linter.all false
set_option maxRecDepth 100000
set_option maxHeartbeats 1000000
namespace K08
open PySem L2 CL
section
variable {P : Program} {w : World} {K : PySem.W.Frag} {mg : Str → Option Value} {base : Heap} {a : Adr}
def gCut : GC := fun ts C Q => ∃ i : Int, ts = [.int i] ∧ -1000000000 ≤ i ∧ i ≤ 1000000000 ∧ Q (.int i) C
theorem ok_cut (T : Txt P w K mg a) : FnOk P w K mg base CX0 1 a.cut a.d_cut ["number"] (spC K gCut) := by
 have S := sc_cut
 refine Fun.okC T.F_cut sc_cut (fun ts C R h => ?_) fun cdv A outer s H E hr => ⟨_, (cb_one (cs_ret (ce_callB (call_max2 rfl) cbi_max rfl T.z_max rfl (ca_cons (ce_un un_neg cun_neg (ce_glob (v := .int 1000000000) (t := .int 1000000000) rfl T.gBOUND ⟨_, rfl⟩ (fun _ => .int _))) (ca_cons (ce_callB (call_min2 rfl) cbi_min rfl T.z_min rfl (ca_cons (ce_glob (v := .int 1000000000) (t := .int 1000000000) rfl T.gBOUND ⟨_, rfl⟩ (fun _ => .int _)) (ca_cons (cv 0) ca_nil))) ca_nil))))), ?_⟩
 ·obtain ⟨i, rfl, _⟩ := h; rfl
 rintro ts C R ⟨i, rfl, h1, h2, q⟩
 refine min_s ?_
 refine max_s ?_
 have e : (if (if i < 1000000000 then i else 1000000000) > -1000000000 then (if i < 1000000000 then i else 1000000000) else -1000000000 : Int) = i := by
  split <;> split <;> omega
 rw [e]
 exact q
def gJoin : GC := fun ts C Q => ∃ i j : Int, ts = [.str "add", .int i, .int j] ∧ -1000000000 ≤ i + j ∧ i + j ≤ 1000000000 ∧ Q (.int (i + j)) C
theorem ok_joined (T : Txt P w K mg a) : FnOk P w K mg base CX0 2 a.joined a.d_joined ["word", "first", "second"] (spC K gJoin) := by
 have S := sc_joined
 have G_cut := ok_cut (base := base) T
 refine Fun.okC T.F_joined sc_joined (fun ts C R h => ?_) fun cdv A outer s H E hr => ⟨_, (cb_cons (cs_if (ct_cmp op_eq cop_eq (cv 0) ce_str (nomark _)) (cb_one (cs_ret (ce_call G_cut hr rfl T.m_cut T.k_cut T.b_cut pass0 (ca_cons (ce_op op_addC cop_add (cv 1) (cv 2)) ca_nil)))) cb_nil)
  (cb_cons (cs_if (ct_cmp op_eq cop_eq (cv 0) ce_str (nomark _)) (cb_one (cs_ret (ce_call G_cut hr rfl T.m_cut T.k_cut T.b_cut pass0 (ca_cons (ce_op op_mul cop_mul (cv 1) (cv 2)) ca_nil)))) cb_nil)
  (cb_one (cs_ret (ce_if (ct_cmp op_lt cop_lt (cv 1) (cv 2) (nomark _)) ce_int ce_int))))), ?_⟩
 ·obtain ⟨i, j, rfl, _⟩ := h; rfl
 rintro ts C R ⟨i, j, rfl, h1, h2, q⟩
 refine eq_s (sEq_str _ _) ?_
 refine on_y (by decide) ?_
 refine add_i ?_
 exact ⟨_, rfl, h1, h2, q⟩
inductive RE where
 | num (i : Int) | turn (n : Str) | box (n : Str) | add (n : Str) (i : Int)
def RE.pv : RE → PV
 | .num i => .tup [.str "num", .int i]
 | .turn n => .tup [.str "turn", .str n]
 | .box n => .tup [.str "box", .str n]
 | .add n i => .tup [.str "add", .tup [.str "box", .str n], .tup [.str "num", .int i]]
def RE.dep : RE → Nat
 | .add _ _ => 1
 | _ => 0
def bx (n : Str) : Int := if n = "a" then 5 else 0
abbrev Turns := List (Key × PV)
def RE.is (τ : Turns) : RE → Int → Prop
 | .num i, v => v = i
 | .turn n, v => valP τ (.inr n) = some (.int v)
 | .box n, v => (n = "a" ∨ n = "n") ∧ v = bx n
 | .add n i, v => (n = "a" ∨ n = "n") ∧ v = bx n + i ∧ -1000 ≤ i ∧ i ≤ 1000
def kQ (n : Str) : List Key := [.inr "box", .inr n]
def ANS : List (List Key × PV) := [(kQ "a", .int 5), ([.inr "take", .inr "x"], .int 3)]
def Ask (kvs : List (List Key × PV)) : Prop := kvs = [] ∨ kvs = [(kQ "a", .int 5)] ∨ kvs = [(kQ "n", .int 0)] ∨ kvs = [(kQ "a", .int 5), (kQ "n", .int 0)] ∨ kvs = [(kQ "n", .int 0), (kQ "a", .int 5)]
theorem ans_a : valG ANS (kQ "a") = some (.int 5) := by
 unfold valG ANS
 rw [List.find?_cons_of_pos (by decide)]
 rfl
theorem ans_n : valG ANS (kQ "n") = none := by
 unfold valG ANS
 rw [List.find?_cons_of_neg (by decide), List.find?_cons_of_neg (by decide)]
 rfl
theorem ans_get {n : Str} (h : n = "a" ∨ n = "n") : (valG ANS (kQ n)).getD (.int 0) = .int (bx n) := by
 rcases h with rfl | rfl
 ·rw [ans_a]; rfl
 ·rw [ans_n]; rfl
theorem ask_put {kvs : List (List Key × PV)} (h : Ask kvs) {n : Str} (hn : n = "a" ∨ n = "n") : Ask (putG kvs (kQ n) (.int (bx n))) ∧ valG (putG kvs (kQ n) (.int (bx n))) (kQ n) = some (.int (bx n)) := by
 have A : ∀ l : List (List Key × PV), (l.any fun kv => decide (kv.1 = kQ "a")) = false → putG l (kQ "a") (.int 5) = l ++ [(kQ "a", .int 5)] := fun l h => by unfold putG; rw [if_neg (by rw [h]; decide)]
 have N : ∀ l : List (List Key × PV), (l.any fun kv => decide (kv.1 = kQ "n")) = false → putG l (kQ "n") (.int 0) = l ++ [(kQ "n", .int 0)] := fun l h => by unfold putG; rw [if_neg (by rw [h]; decide)]
 have ban : (bx "a") = 5 := rfl
 have bnn : (bx "n") = 0 := rfl
 have nan : ¬ kQ "a" = kQ "n" := by decide
 have nna : ¬ kQ "n" = kQ "a" := by decide
 have Y : ∀ (l : List (List Key × PV)) (k : List Key) (v : PV), (l.any fun kv => decide (kv.1 = k)) = true → putG l k v = l.map fun kv => if kv.1 = k then (kv.1, v) else kv := fun l k v h => by unfold putG; rw [if_pos h]
 rcases hn with rfl | rfl
 ·rw [ban]
  rcases h with rfl | rfl | rfl | rfl | rfl
  ·rw [A _ (by decide)]; exact ⟨.inr (.inl rfl), rfl⟩
  ·rw [Y _ _ _ (by decide)]
   have e : ([(kQ "a", PV.int 5)].map fun kv => if kv.1 = kQ "a" then (kv.1, PV.int 5) else kv) = [(kQ "a", .int 5)] := by rw [List.map_cons, if_pos rfl]; rfl
   rw [e]; exact ⟨.inr (.inl rfl), by unfold valG; rw [List.find?_cons_of_pos (by decide)]; rfl⟩
  ·rw [A _ (by decide)]; exact ⟨.inr (.inr (.inr (.inr rfl))), by unfold valG; rw [List.cons_append, List.find?_cons_of_neg (by decide), List.nil_append, List.find?_cons_of_pos (by decide)]; rfl⟩
  ·rw [Y _ _ _ (by decide)]
   have e : ([(kQ "a", PV.int 5), (kQ "n", .int 0)].map fun kv => if kv.1 = kQ "a" then (kv.1, PV.int 5) else kv) = [(kQ "a", .int 5), (kQ "n", .int 0)] := by rw [List.map_cons, List.map_cons, if_pos rfl, if_neg nna]; rfl
   rw [e]; exact ⟨.inr (.inr (.inr (.inl rfl))), by unfold valG; rw [List.find?_cons_of_pos (by decide)]; rfl⟩
  ·rw [Y _ _ _ (by decide)]
   have e : ([(kQ "n", PV.int 0), (kQ "a", .int 5)].map fun kv => if kv.1 = kQ "a" then (kv.1, PV.int 5) else kv) = [(kQ "n", .int 0), (kQ "a", .int 5)] := by rw [List.map_cons, List.map_cons, if_neg nna, if_pos rfl]; rfl
   rw [e]; exact ⟨.inr (.inr (.inr (.inr rfl))), by unfold valG; rw [List.find?_cons_of_neg (by decide), List.find?_cons_of_pos (by decide)]; rfl⟩
 ·rw [bnn]
  rcases h with rfl | rfl | rfl | rfl | rfl
  ·rw [N _ (by decide)]; exact ⟨.inr (.inr (.inl rfl)), rfl⟩
  ·rw [N _ (by decide)]; exact ⟨.inr (.inr (.inr (.inl rfl))), by unfold valG; rw [List.cons_append, List.find?_cons_of_neg (by decide), List.nil_append, List.find?_cons_of_pos (by decide)]; rfl⟩
  ·rw [Y _ _ _ (by decide)]
   have e : ([(kQ "n", PV.int 0)].map fun kv => if kv.1 = kQ "n" then (kv.1, PV.int 0) else kv) = [(kQ "n", .int 0)] := by rw [List.map_cons, if_pos rfl]; rfl
   rw [e]; exact ⟨.inr (.inr (.inl rfl)), by unfold valG; rw [List.find?_cons_of_pos (by decide)]; rfl⟩
  ·rw [Y _ _ _ (by decide)]
   have e : ([(kQ "a", PV.int 5), (kQ "n", .int 0)].map fun kv => if kv.1 = kQ "n" then (kv.1, PV.int 0) else kv) = [(kQ "a", .int 5), (kQ "n", .int 0)] := by rw [List.map_cons, List.map_cons, if_neg nan, if_pos rfl]; rfl
   rw [e]; exact ⟨.inr (.inr (.inr (.inl rfl))), by unfold valG; rw [List.find?_cons_of_neg (by decide), List.find?_cons_of_pos (by decide)]; rfl⟩
  ·rw [Y _ _ _ (by decide)]
   have e : ([(kQ "n", PV.int 0), (kQ "a", .int 5)].map fun kv => if kv.1 = kQ "n" then (kv.1, PV.int 0) else kv) = [(kQ "n", .int 0), (kQ "a", .int 5)] := by rw [List.map_cons, List.map_cons, if_pos rfl, if_neg nan]; rfl
   rw [e]; exact ⟨.inr (.inr (.inr (.inr rfl))), by unfold valG; rw [List.find?_cons_of_pos (by decide)]; rfl⟩
theorem ask_len {kvs : List (List Key × PV)} (h : Ask kvs) : kvs.length ≤ 2 := by
 rcases h with rfl | rfl | rfl | rfl | rfl <;> decide
end
end K08
set_option Elab.async false
set_option linter.all false
set_option maxRecDepth 100000
set_option maxHeartbeats 1000000
namespace K08
open PySem L2 CL
section
variable {P : Program} {w : World} {K : PySem.W.Frag} {mg : Str → Option Value} {base : Heap} {a : Adr}
def gNum (e : Nat) : GC := fun ts C Q => ∃ (r : RE) (τ : Turns) (v : Int) (an tn ak : Addr) (kvs : List (List Key × PV)), r.dep < e ∧ ts = [r.pv, .ref an, .ref tn, .ref ak] ∧ C an = some (.dT ANS) ∧ C tn = some (.dK τ) ∧ C ak = some (.dT kvs) ∧ Ask kvs ∧ an ≠ ak ∧ r.is τ v ∧
 ∀ C' kvs', C' ak = some (.dT kvs') → Ask kvs' → ExS [ak] C C' → Q (.int v) C'
theorem ok_number_of (T : Txt P w K mg a) (e : Nat) : FnOk P w K mg base CX0 (e + 2) a.number_of a.d_number_of ["reckoning", "answers", "turns", "asked"] (spC K (gNum e)) := by
 induction e with
 | zero => exact ⟨fun vs H Q E ⟨ts, C, R, _, _, ⟨r, _, _, _, _, _, _, h, _⟩, _⟩ => absurd h (Nat.not_lt_zero _), fun _ _ _ _ _ _ _ _ _ _ _ _ _ ⟨ts, C, R, _, _, ⟨r, _, _, _, _, _, _, h, _⟩, _⟩ => absurd h (Nat.not_lt_zero _)⟩
 | succ e ih =>
 have S := sc_number_of
 have G_joined := (ok_joined (base := base) T).mono (show 2 ≤ e + 2 by omega)
 have G_number_of := ih
 refine Fun.okC T.F_number_of sc_number_of (fun ts C R h => ?_) fun cdv A outer s H E hr => ⟨_, (cb_cons (cs_set (i := 4) S.nd rfl (Or.inl rfl) (ce_ix (r := rIx K) ix_seqC cop_ix (cv 0) ce_int (fun _ _ => rfl)))
  (cb_cons (cs_if (ct_cmp op_eq cop_eq (cv 4) ce_str (nomark _)) (cb_one (cs_ret (ce_ix (r := rIx K) ix_seqC cop_ix (cv 0) ce_int (fun _ _ => rfl)))) cb_nil)
  (cb_cons (cs_if (ct_cmp op_eq cop_eq (cv 4) ce_str (nomark _)) (cb_one (cs_ret (ce_dix (hu_of hr) (cv 2) (ce_ix (r := rIx K) ix_seqC cop_ix (cv 0) ce_int (fun _ _ => rfl)) (fun _ _ => rfl)))) cb_nil)
  (cb_cons (cs_if (ct_cmp op_in_seq cop_inS (cv 4) (ce_glob (v := .ref a.ASKING) (t := .kt [.str "take", .str "box", .str "down"]) rfl T.gASKING rfl (fun H => .kt (T.qASKING H) (.cons (.str _) (.cons (.str _) (.cons (.str _) .nil))))) rfl) (cb_cons (cs_set (i := 5) S.nd rfl (Or.inl rfl) (ce_tup (ca_cons (cv 4) (ca_cons (ce_ix (r := rIx K) ix_seqC cop_ix (cv 0) ce_int (fun _ _ => rfl)) ca_nil))))
  (cb_cons (cs_tput (hu_of hr) (cv 3) (cv 5) (ce_tget2 (hu_of hr) (cv 1) (cv 5) ce_int))
  (cb_one (cs_ret (ce_tix (hu_of hr) (cv 3) (cv 5) (fun _ _ => rfl)))))) cb_nil)
  (cb_cons (cs_set (i := 6) S.nd rfl (Or.inl rfl) (ce_call G_number_of hr rfl T.m_number_of T.k_number_of T.b_number_of pass0 (ca_cons (ce_ix (r := rIx K) ix_seqC cop_ix (cv 0) ce_int (fun _ _ => rfl)) (ca_cons (cv 1) (ca_cons (cv 2) (ca_cons (cv 3) ca_nil))))))
  (cb_cons (cs_if (ct_cmp op_eq cop_eq (cv 4) ce_str (nomark _)) (cb_cons (cs_set (i := 7) S.nd rfl (Or.inl rfl) (ce_if (ct_cmp op_eq cop_eq (cv 6) ce_int (nomark _)) (ce_ix (r := rIx K) ix_seqC cop_ix (cv 0) ce_int (fun _ _ => rfl)) (ce_ix (r := rIx K) ix_seqC cop_ix (cv 0) ce_int (fun _ _ => rfl))))
  (cb_one (cs_ret (ce_call G_number_of hr rfl T.m_number_of T.k_number_of T.b_number_of pass0 (ca_cons (cv 7) (ca_cons (cv 1) (ca_cons (cv 2) (ca_cons (cv 3) ca_nil)))))))) cb_nil)
  (cb_cons (cs_set (i := 8) S.nd rfl (Or.inl rfl) (ce_call G_number_of hr rfl T.m_number_of T.k_number_of T.b_number_of pass0 (ca_cons (ce_ix (r := rIx K) ix_seqC cop_ix (cv 0) ce_int (fun _ _ => rfl)) (ca_cons (cv 1) (ca_cons (cv 2) (ca_cons (cv 3) ca_nil))))))
  (cb_one (cs_ret (ce_call G_joined hr rfl T.m_joined T.k_joined T.b_joined pass0 (ca_cons (cv 4) (ca_cons (cv 6) (ca_cons (cv 8) ca_nil))))))))))))), ?_⟩
 ·obtain ⟨r, _, _, _, _, _, _, _, rfl, _⟩ := h; rfl
 rintro ts C R ⟨r, τ, v, an, tn, ak, kvs, hd, rfl, man, mtn, mak, ha, ne, hv, q⟩
 cases r with
 | num i =>
  cases (show v = i from hv)
  refine ix_t rfl ?_
  try dsimp only
  refine seq_i ?_
  refine eq_s (sEq_str _ _) ?_
  refine on_y (by decide) ?_
  refine ix_t rfl ?_
  exact q C kvs mak ha ExS.refl
 | turn n =>
  refine ix_t rfl ?_
  try dsimp only
  refine seq_i ?_
  refine eq_s (sEq_str _ _) ?_
  refine on_n (by decide) ?_
  refine nx_i ?_
  try dsimp only
  refine seq_i ?_
  refine eq_s (sEq_str _ _) ?_
  refine on_y (by decide) ?_
  refine ix_t rfl ?_
  refine dix_g mtn rfl hv ?_
  exact q C kvs mak ha ExS.refl
 | box n =>
  obtain ⟨hn, rfl⟩ := (show (n = "a" ∨ n = "n") ∧ v = bx n from hv)
  obtain ⟨hp, hg⟩ := ask_put ha hn
  refine ix_t rfl ?_
  try dsimp only
  refine seq_i ?_
  refine eq_s (sEq_str _ _) ?_
  refine on_n (by decide) ?_
  refine nx_i ?_
  try dsimp only
  refine seq_i ?_
  refine eq_s (sEq_str _ _) ?_
  refine on_n (by decide) ?_
  refine nx_i ?_
  try dsimp only
  refine seq_i ?_
  refine inS_s rfl rfl rfl ?_
  refine on_y (by decide) ?_
  refine seq_set (i := 5) ?_
  refine ix_t rfl ?_
  refine ⟨by show 2 ≤ sizeLine; decide, ?_⟩
  try dsimp only
  refine seq_i ?_
  refine ⟨isTd_s man, ?_⟩
  refine tget_s (k := kQ n) man rfl (ans_get hn) ?_
  refine tput_s (k := kQ n) mak rfl (Nat.le_trans (ask_len ha) (by decide)) ?_
  try dsimp only
  refine tix_s (k := kQ n) updC_same rfl hg ?_
  exact q _ _ updC_same hp (ExS.refl.at (by exact List.mem_cons_self) _)
 | add n i =>
  obtain ⟨hn, rfl, i1, i2⟩ := (show (n = "a" ∨ n = "n") ∧ v = bx n + i ∧ -1000 ≤ i ∧ i ≤ 1000 from hv)
  have hb : bx n = 5 ∨ bx n = 0 := by rcases hn with rfl | rfl; exact .inl rfl; exact .inr rfl
  have he : 1 < e + 1 := hd
  refine ix_t rfl ?_
  try dsimp only
  refine seq_i ?_
  refine eq_s (sEq_str _ _) ?_
  refine on_n (by decide) ?_
  refine nx_i ?_
  try dsimp only
  refine seq_i ?_
  refine eq_s (sEq_str _ _) ?_
  refine on_n (by decide) ?_
  refine nx_i ?_
  try dsimp only
  refine seq_i ?_
  refine inS_s rfl rfl rfl ?_
  refine on_n (by decide) ?_
  refine nx_i ?_
  try dsimp only
  refine seq_set (i := 6) ?_
  refine ix_t rfl ?_
  refine ⟨.box n, τ, bx n, an, tn, ak, kvs, by show 0 < e; omega, rfl, man, mtn, mak, ha, ne, ⟨hn, rfl⟩, fun C1 kvs1 mak1 ha1 x1 => ?_⟩
  have man1 := x1 _ _ (by intro z; cases List.mem_singleton.1 z; exact ne rfl) man
  have mtn1 := x1 _ _ (by intro z; cases List.mem_singleton.1 z; rw [mak] at mtn; cases mtn) mtn
  try dsimp only
  refine seq_i ?_
  refine eq_s (sEq_str _ _) ?_
  refine on_n (by decide) ?_
  refine nx_i ?_
  try dsimp only
  refine seq_set (i := 8) ?_
  refine ix_t rfl ?_
  refine ⟨.num i, τ, i, an, tn, ak, kvs1, by show 0 < e; omega, rfl, man1, mtn1, mak1, ha1, ne, rfl, fun C2 kvs2 mak2 ha2 x2 => ?_⟩
  try dsimp only
  refine ⟨bx n, i, rfl, by omega, by omega, ?_⟩
  exact q C2 kvs2 mak2 ha2 (x1.trans x2)
end
end K08
set_option Elab.async false
set_option linter.all false
set_option maxRecDepth 100000
set_option maxHeartbeats 1000000
namespace K08
open PySem L2 CL
section
variable {P : Program} {w : World} {K : PySem.W.Frag} {mg : Str → Option Value} {base : Heap} {a : Adr}
structure Sf (a : Adr) (C : CH) (x an ak : Addr) : Prop where
 ins : ∃ dx, C x = some (.ins a.Drawer dx [("answers", .ref an), ("asked", .ref ak)])
 ans : C an = some (.dT ANS)
 ask : ∃ kvs, C ak = some (.dT kvs) ∧ Ask kvs
 ne : an ≠ ak
theorem Sf.nx {C : CH} {x an ak : Addr} (h : Sf a C x an ak) : x ≠ ak := fun e => by
 obtain ⟨dx, h1⟩ := h.ins
 obtain ⟨kvs, h2, _⟩ := h.ask
 rw [e, h2] at h1; cases h1
theorem Sf.keep {C C' : CH} {x an ak : Addr} {S : List Addr} (h : Sf a C x an ak) (e : ExS S C C') (hx : x ∉ S) (hn : an ∉ S) (hk : ∃ kvs, C' ak = some (.dT kvs) ∧ Ask kvs) : Sf a C' x an ak :=
 ⟨let ⟨dx, h1⟩ := h.ins; ⟨dx, e _ _ hx h1⟩, e _ _ hn h.ans, hk, h.ne⟩
theorem Sf.keep' {C C' : CH} {x an ak : Addr} {S : List Addr} (h : Sf a C x an ak) (e : ExS S C C') (hx : x ∉ S) (hn : an ∉ S) (hk : ak ∉ S) : Sf a C' x an ak :=
 h.keep e hx hn (let ⟨kvs, h1, h2⟩ := h.ask; ⟨kvs, e _ _ hk h1, h2⟩)
theorem Sf.new {C : CH} {x an ak p : Addr} (h : Sf a C x an ak) (hp : C p = none) (o : CO) : Sf a (updC C p o) x an ak := by
 have e : ExS [] C (updC C p o) := ExS.refl.put hp o
 exact h.keep' e (List.not_mem_nil) (List.not_mem_nil) (List.not_mem_nil)
def gInit (a : Adr) : GC := fun ts C Q => ∃ (x dx an : Addr), ts = [.ref x, .ref an] ∧ C x = some (.ins a.Drawer dx []) ∧ C an = some (.dT ANS) ∧ ∀ C' ak, C ak = none → Sf a C' x an ak → ExS [x] C C' → Q .non C'
theorem ok_init (T : Txt P w K mg a) : FnOk P w K mg base CX0 1 a.Drawer___init__ a.d_Drawer___init__ ["self", "answers"] (spC K (gInit a)) := by
 have S := sc_Drawer___init__
 refine Fun.okC T.F_Drawer___init__ sc_Drawer___init__ (fun ts C R h => ?_) fun cdv A outer s H E hr => ⟨_, (cb_cons (cs_fld T.cl_Drawer T.N_Drawer_answers (cv 0) (cv 1))
  (cb_one (cs_fld T.cl_Drawer T.N_Drawer_asked (cv 0) ce_tnew))), ?_⟩
 ·obtain ⟨_, _, _, rfl, _⟩ := h; rfl
 rintro ts C R ⟨x, dx, an, rfl, mx, man, q⟩
 have ne : an ≠ x := fun e => by rw [e, mx] at man; cases man
 refine putF_s mx (by decide) ?_
 try dsimp only
 intro ak hak
 have hak0 : C ak = none := by
  rw [updC_ne (fun z => by rw [z, updC_same] at hak; cases hak)] at hak
  exact hak
 have nk : ak ≠ x := fun e => by rw [e, mx] at hak0; cases hak0
 refine putF_s (p := x) (by rw [updC_ne (Ne.symm nk)]; exact updC_same) (by show 1 < 1000; decide) ?_
 refine q _ ak hak0 ⟨⟨dx, ?_⟩, ?_, ⟨[], ?_, .inl rfl⟩, fun e => by rw [e, hak0] at man; cases man⟩ ?_
 ·rw [updC_same]
  rfl
 ·rw [updC_ne ne, updC_ne (fun e => by rw [e, hak0] at man; cases man), updC_ne ne]; exact man
 ·rw [updC_ne nk]; exact updC_same
 ·exact ((ExS.refl.at List.mem_cons_self _).put hak0 _).at List.mem_cons_self _
def gNumber (a : Adr) (e : Nat) : GC := fun ts C Q => ∃ (r : RE) (τ : Turns) (v : Int) (x an tn ak : Addr), r.dep < e ∧ ts = [.ref x, r.pv, .ref tn] ∧ Sf a C x an ak ∧ C tn = some (.dK τ) ∧ r.is τ v ∧ ∀ C', Sf a C' x an ak → ExS [ak] C C' → Q (.int v) C'
theorem ok_number (T : Txt P w K mg a) (e : Nat) : FnOk P w K mg base CX0 (e + 3) a.Drawer_number a.d_Drawer_number ["self", "reckoning", "turns"] (spC K (gNumber a e)) := by
 have S := sc_Drawer_number
 have G_number_of := ok_number_of (base := base) T e
 refine Fun.okC T.F_Drawer_number sc_Drawer_number (fun ts C R h => ?_) fun cdv A outer s H E hr => ⟨_, (cb_one (cs_ret (ce_call G_number_of hr rfl T.m_number_of T.k_number_of T.b_number_of pass0 (ca_cons (cv 1) (ca_cons (ce_fld T.cl_Drawer T.N_Drawer_answers (cv 0)) (ca_cons (cv 2) (ca_cons (ce_fld T.cl_Drawer T.N_Drawer_asked (cv 0)) ca_nil))))))), ?_⟩
 ·obtain ⟨r, _, _, _, _, _, _, _, rfl, _⟩ := h; rfl
 rintro ts C R ⟨r, τ, v, x, an, tn, ak, hd, rfl, sf, mtn, hv, q⟩
 obtain ⟨dx, mx⟩ := sf.ins
 obtain ⟨kvs, mak, ha⟩ := sf.ask
 refine fld_s mx rfl ?_
 refine fld_s mx rfl ?_
 refine ⟨r, τ, v, an, tn, ak, kvs, hd, rfl, sf.ans, mtn, mak, ha, sf.ne, hv, fun C1 kvs1 mak1 ha1 x1 => ?_⟩
 exact q C1 (sf.keep x1 (fun z => sf.nx (List.mem_singleton.1 z)) (fun z => sf.ne (List.mem_singleton.1 z)) ⟨kvs1, mak1, ha1⟩) x1
structure Pr where
 n : Str
 r : RE
 v : Int
def Pr.pv (p : Pr) : PV := .tup [.str p.n, p.r.pv]
def Pr.out (p : Pr) : PV := siPV (p.n, p.v)
def gNumbered (a : Adr) : GC := fun ts C Q => ∃ (ps : List Pr) (τ : Turns) (x an tn ak : Addr), ts = [.ref x, .tup (ps.map Pr.pv), .ref tn] ∧ ps.length ≤ 10 ∧ (∀ p ∈ ps, p.r.dep = 0 ∧ p.r.is τ p.v) ∧ Sf a C x an ak ∧ C tn = some (.dK τ) ∧ ∀ C' l, C l = none → C' l = some (.lst (ps.map Pr.out)) → Sf a C' x an ak → ExS [ak] C C' → Q (.ref l) C'
theorem ok_numbered (T : Txt P w K mg a) : FnOk P w K mg base CX0 5 a.Drawer_numbered a.d_Drawer_numbered ["self", "pairs", "turns"] (spC K (gNumbered a)) := by
 have S := sc_Drawer_numbered
 have G_Drawer_number := ok_number (base := base) T 1
 refine Fun.okC T.F_Drawer_numbered sc_Drawer_numbered (fun ts C R h => ?_) fun cdv A outer s H E hr => ⟨_, (cb_one (cs_ret (ce_comp rfl (show (["pair", "self", "pairs", "turns"] : List Str).Nodup by decide +kernel) (comp_okF (N := ["self", "pairs", "turns"]) (sc := defScope s_Drawer_numbered) rfl rfl rfl (by decide +kernel)) (ci_tup (cv 1)) (fun _ _ _ _ _ => cf_nil) (fun _ _ _ _ _ => (ce_tup (ca_cons (ce_ix (r := rIx K) ix_seqC cop_ix (cv 0) ce_int (fun _ _ => rfl)) (ca_cons (ce_meth T.cl_Drawer T.M_Drawer_number G_Drawer_number hr T.b_Drawer_number pass0 (cv 1) (ca_cons (ce_ix (r := rIx K) ix_seqC cop_ix (cv 0) ce_int (fun _ _ => rfl)) (ca_cons (cv 3) ca_nil))) ca_nil))))))), ?_⟩
 ·obtain ⟨_, _, _, _, _, _, rfl, _⟩ := h; rfl
 rintro ts C R ⟨ps, τ, x, an, tn, ak, rfl, hl, hp, sf, mtn, q⟩
 have nt : tn ∉ [ak] := fun z => by
  obtain ⟨kvs, h2, _⟩ := sf.ask
  rw [List.mem_singleton.1 z, h2] at mtn; cases mtn
 refine compW_inv (fun zs acc C1 => ∃ ds es : List Pr, ps = ds ++ es ∧ zs = es.map Pr.pv ∧ acc = ds.map Pr.out ∧ Sf a C1 x an ak ∧ C1 tn = some (.dK τ) ∧ ExS [ak] C C1) ?_ ?_ _ _ _ ⟨[], ps, rfl, rfl, rfl, sf, mtn, ExS.refl⟩
 ·rintro z zs acc C1 ⟨ds, es, e1, e2, rfl, sf1, mt1, x1⟩ L hL
  cases es with
  | nil => cases e2
  | cons p es =>
   rw [List.map_cons] at e2
   injection e2 with e2 e3
   subst e2 e3
   obtain ⟨h1, h2⟩ := hp p (by rw [e1]; exact List.mem_append_right _ List.mem_cons_self)
   obtain ⟨dx, mx⟩ := sf1.ins
   refine ix_t rfl ?_
   refine ⟨isIns_s mx rfl, ?_⟩
   refine ix_t rfl ?_
   refine ⟨p.r, τ, p.v, x, an, tn, ak, by omega, rfl, sf1, mt1, h2, fun C2 sf2 x2 => ?_⟩
   refine ⟨by show 2 ≤ sizeLine; decide, ?_⟩
   refine hL _ _ ⟨?_, ds ++ [p], es, by rw [e1, List.append_assoc]; rfl, rfl, by rw [List.map_append]; rfl, sf2, x2 _ _ nt mt1, x1.trans x2⟩
   rw [List.length_map]
   have : ds.length ≤ 10 := by rw [e1, List.length_append] at hl; omega
   exact Nat.lt_of_le_of_lt this (by decide)
 ·rintro acc C1 ⟨ds, es, e1, e2, rfl, sf1, mt1, x1⟩ p hp0
  cases es with
  | cons _ _ => cases e2
  | nil =>
   rw [List.append_nil] at e1
   subst e1
   refine q _ p ?_ updC_same (sf1.new hp0 _) (x1.put ?_ _)
   ·exact x1.none (fun z => by obtain ⟨kvs, h2, _⟩ := sf1.ask; rw [List.mem_singleton.1 z, h2] at hp0; cases hp0) hp0
   ·exact x1.none (fun z => by obtain ⟨kvs, h2, _⟩ := sf1.ask; rw [List.mem_singleton.1 z, h2] at hp0; cases hp0) hp0
end
end K08
set_option Elab.async false
set_option linter.all false
set_option maxRecDepth 100000
set_option maxHeartbeats 1000000
namespace K08
open PySem L2 CL
section
variable {P : Program} {w : World} {K : PySem.W.Frag} {mg : Str → Option Value} {base : Heap} {a : Adr}
abbrev KE := Option RE
def kePV : KE → PV
 | none => .non
 | some r => r.pv
def okPV : Option Int → PV
 | none => .non
 | some i => .int i
def keIs (τ : Turns) : KE → Option Int → Prop
 | none, none => True
 | some r, some v => r.dep = 0 ∧ r.is τ v
 | _, _ => False
theorem key_ok (o : Option Int) : keyOf (okPV o) = some (.inl o) := by cases o <;> rfl
def cnt (o : Option Int) (seen : List (Option Int)) : Nat := seen.countP fun j => decide (j = o)
theorem cnt_snoc (o p : Option Int) (seen : List (Option Int)) : cnt o (seen ++ [p]) = cnt o seen + if p = o then 1 else 0 := by
 unfold cnt
 rw [List.countP_append, List.countP_cons, List.countP_nil]
 by_cases h : p = o
 ·rw [if_pos h, decide_eq_true h]; rfl
 ·rw [if_neg h, decide_eq_false h]; rfl
structure Cnt (cs : List (Key × PV)) (seen : List (Option Int)) : Prop where
 at_ : ∀ o : Option Int, (valP cs (.inl o)).getD (.int 0) = .int (cnt o seen : Nat)
 len : cs.length ≤ seen.length
theorem Cnt.nil : Cnt [] [] := ⟨fun o => rfl, Nat.le_refl _⟩
theorem Cnt.put {cs : List (Key × PV)} {seen : List (Option Int)} (h : Cnt cs seen) (o : Option Int) : Cnt (putP cs (.inl o) (.int ((cnt o seen : Nat) + 1))) (seen ++ [o]) := by
 refine ⟨fun p => ?_, ?_⟩
 ·rw [val_put, cnt_snoc]
  by_cases e : p = o
  ·subst e
   rw [if_pos rfl, if_pos rfl]
   rfl
  ·rw [if_neg (fun z => e (Sum.inl.inj z)), if_neg (fun z => e z.symm), h.at_ p]
   rfl
 ·have := put_size cs (.inl o) (.int ((cnt o seen : Nat) + 1))
  have := h.len
  rw [List.length_append, List.length_singleton]
  omega
def gSpot (a : Adr) : GC := fun ts C Q => ∃ (ke : KE) (τ : Turns) (o : Option Int) (x an tn ak ct : Addr) (cs : List (Key × PV)) (seen : List (Option Int)), ts = [.ref x, kePV ke, .ref tn, .ref ct] ∧ keIs τ ke o ∧ Sf a C x an ak ∧ C tn = some (.dK τ) ∧ C ct = some (.dK cs) ∧ Cnt cs seen ∧ seen.length ≤ 900 ∧
 ∀ C' cs', C' ct = some (.dK cs') → Cnt cs' (seen ++ [o]) → Sf a C' x an ak → ExS [ak, ct] C C' → Q (.tup [okPV o, .int (cnt o seen : Nat)]) C'
theorem Sf.nd {C : CH} {x an ak ct : Addr} {cs : List (Key × PV)} (h : Sf a C x an ak) (m : C ct = some (.dK cs)) : x ≠ ct ∧ an ≠ ct ∧ ak ≠ ct := by
 obtain ⟨dx, h1⟩ := h.ins
 obtain ⟨kvs, h2, _⟩ := h.ask
 refine ⟨fun e => ?_, fun e => ?_, fun e => ?_⟩
 ·rw [e, m] at h1; cases h1
 ·have := h.ans; rw [e, m] at this; cases this
 ·rw [e, m] at h2; cases h2
theorem ok_spot (T : Txt P w K mg a) : FnOk P w K mg base CX0 5 a.Drawer_spot a.d_Drawer_spot ["self", "key", "turns", "counts"] (spC K (gSpot a)) := by
 have S := sc_Drawer_spot
 have G_Drawer_number := ok_number (base := base) T 1
 refine Fun.okC T.F_Drawer_spot sc_Drawer_spot (fun ts C R h => ?_) fun cdv A outer s H E hr => ⟨_, (cb_cons (cs_set (i := 4) S.nd rfl (Or.inl rfl) (ce_if (ct_cmp op_isN cop_isN (cv 1) ce_non (nomark _)) ce_non (ce_meth T.cl_Drawer T.M_Drawer_number G_Drawer_number hr T.b_Drawer_number pass0 (cv 0) (ca_cons (cv 1) (ca_cons (cv 2) ca_nil)))))
  (cb_cons (cs_set (i := 5) S.nd rfl (Or.inl rfl) (ce_dget2 (hu_of hr) (cv 3) (cv 4) ce_int))
  (cb_cons (cs_dput (hu_of hr) (cv 3) (cv 4) (ce_op op_addC cop_add (cv 5) ce_int))
  (cb_one (cs_ret (ce_tup (ca_cons (cv 4) (ca_cons (cv 5) ca_nil)))))))), ?_⟩
 ·obtain ⟨_, _, _, _, _, _, _, _, _, _, rfl, _⟩ := h; rfl
 rintro ts C R ⟨ke, τ, o, x, an, tn, ak, ct, cs, seen, rfl, hk, sf, mtn, mct, hc, hs, q⟩
 obtain ⟨n1, n2, n3⟩ := sf.nd mct
 have rest : ∀ C1, Sf a C1 x an ak → ExS [ak] C C1 → cSeq (cSet 5 (cDGet2 (cVar 3) (cVar 4) (cC (.int 0)))) (cSeq (cDPut (cVar 3) (cVar 4) (cOp cAdd (cVar 5) (cC (.int 1)))) (cRet (cTup (cCons (cVar 4) (cCons (cVar 5) cNil))))) { nx := fun _ C' => R .non C', rt := R } [some (.ref x), some (kePV ke), some (.ref tn), some (.ref ct), some (okPV o), none] C1 := by
  intro C1 sf1 x1
  have mct1 := x1 _ _ (fun z => n3 (List.mem_singleton.1 z).symm) mct
  refine seq_set (i := 5) ?_
  refine ⟨isDk_g mct1, ?_⟩
  refine getD_g mct1 (key_ok o) (hc.at_ o) ?_
  try dsimp only
  refine seq_i ?_
  refine add_i ?_
  refine putD_k mct1 (key_ok o) (by have := hc.len; omega) ?_
  try dsimp only
  refine ⟨by show 2 ≤ sizeLine; decide, ?_⟩
  refine q _ _ updC_same (hc.put o) ?_ ((x1.mono fun b hb => List.mem_cons.2 (.inl (List.mem_singleton.1 hb))).at (List.mem_cons_of_mem _ List.mem_cons_self) _)
  refine sf1.keep' (S := [ct]) (ExS.refl.at List.mem_cons_self _) ?_ ?_ ?_
  ·exact fun z => n1 (List.mem_singleton.1 z)
  ·exact fun z => n2 (List.mem_singleton.1 z)
  ·exact fun z => n3 (List.mem_singleton.1 z)
 cases ke with
 | none =>
  cases o with
  | some v => exact hk.elim
  | none =>
   exact rest C sf ExS.refl
 | some r =>
  cases o with
  | none => exact hk.elim
  | some v =>
   obtain ⟨h1, h2⟩ := (show r.dep = 0 ∧ r.is τ v from hk)
   obtain ⟨dx, mx⟩ := sf.ins
   have hr : ∃ xs, r.pv = .tup xs := by cases r <;> exact ⟨_, rfl⟩
   obtain ⟨xs, hr⟩ := hr
   have rest' := rest
   simp only [kePV, hr] at rest' ⊢
   refine seq_set (i := 4) ?_
   refine if_i ?_
   refine test_isN rfl ?_
   refine if_n rfl ?_
   refine ⟨isIns_s mx rfl, ?_⟩
   refine ⟨r, τ, v, x, an, tn, ak, by omega, by rw [hr], sf, mtn, h2, fun C1 sf1 x1 => ?_⟩
   exact rest' C1 sf1 x1
end
end K08
set_option Elab.async false
set_option linter.all false
set_option maxRecDepth 100000
set_option maxHeartbeats 1000000
namespace K08
open PySem L2 CL
section
variable {P : Program} {w : World} {K : PySem.W.Frag} {mg : Str → Option Value} {base : Heap} {a : Adr}
inductive Ln where
 | plain (tag : Str) (k : KE) (nm : Option Str)
 | part (k : KE) (nm : Option Str)
 | give (k : KE) (nm : Option Str) (ik : KE) (m : Nat)
def nmPV : Option Str → List PV
 | none => []
 | some n => [.tup [.str "t", .tup [.str "turn", .str n]]]
def nmRE : Option Str → RE
 | none => .num (-1)
 | some n => .turn n
def inPV (ik : KE) : PV := .tup [.str "plain", kePV ik, .str "b", .tup [], .tup [], .tup []]
def Ln.pv : Ln → PV
 | .plain tag k nm => .tup [.str "plain", kePV k, .str tag, .tup (nmPV nm), .tup [], .tup []]
 | .part k nm => .tup [.str "part", kePV k, .str "z", .tup (nmPV nm)]
 | .give k nm ik m => .tup [.str "give", kePV k, .str "a", (nmRE nm).pv, .tup (List.replicate m (inPV ik))]
def Ln.lev : Ln → Nat
 | .give _ _ _ _ => 1
 | _ => 0
structure Vl where
 o : Option Int
 v : Int
 io : Option Int
def lnIs (τ : Turns) : Ln → Vl → Prop
 | .plain _ k nm, vl => keIs τ k vl.o ∧ (nmRE nm).is τ vl.v
 | .part k nm, vl => keIs τ k vl.o ∧ (nmRE nm).is τ vl.v
 | .give k nm ik m, vl => keIs τ k vl.o ∧ (nmRE nm).is τ vl.v ∧ keIs τ ik vl.io ∧ m ≤ 2
def nmOut : Option Str → Int → List (Str × Int)
 | none, _ => []
 | some _, v => [("t", v)]
def spotPV (o : Option Int) (c : Nat) : PV := .tup [okPV o, .int (c : Nat)]
def inW (io : Option Int) (j : Nat) : PV := .tup [.str "plain", spotPV io j, .str "b", .tup [], .tup [], .tup []]
def wantPV (c : Nat) : Ln → Vl → PV
 | .plain tag _ nm, vl => .tup [.str "plain", spotPV vl.o c, .str tag, .tup ((nmOut nm vl.v).map siPV), .tup [], .tup []]
 | .part _ nm, vl => .tup [.str "part", spotPV vl.o c, .str "z", .tup ((nmOut nm vl.v).map siPV)]
 | .give _ _ _ m, vl => .tup [.str "give", spotPV vl.o c, .str "a", .int vl.v, .tup ((List.range m).map (inW vl.io))]
abbrev Its := List (Ln × Vl)
def wantsOf : List (Option Int) → Its → List PV
 | _, [] => []
 | seen, (l, vl) :: r => wantPV (cnt vl.o seen) l vl :: wantsOf (seen ++ [vl.o]) r
def oks (is : Its) : List (Option Int) := is.map fun p => p.2.o
theorem wants_app (b : Its) : ∀ (a : Its) (seen : List (Option Int)), wantsOf seen (a ++ b) = wantsOf seen a ++ wantsOf (seen ++ oks a) b := by
 intro a
 induction a with
 | nil => intro seen; show wantsOf seen b = wantsOf (seen ++ []) b; rw [List.append_nil]
 | cons p a ih =>
  intro seen
  obtain ⟨l, vl⟩ := p
  show wantPV (cnt vl.o seen) l vl :: wantsOf (seen ++ [vl.o]) (a ++ b) = wantPV (cnt vl.o seen) l vl :: (wantsOf (seen ++ [vl.o]) a ++ wantsOf (seen ++ (vl.o :: oks a)) b)
  rw [ih, List.append_assoc]
  rfl
theorem wants_len : ∀ (is : Its) (seen : List (Option Int)), (wantsOf seen is).length = is.length
 | [], _ => rfl
 | (l, vl) :: r, seen => by
  show (wantsOf (seen ++ [vl.o]) r).length + 1 = r.length + 1
  rw [wants_len r]
inductive LR : Nat → Turns → List PV → Its → Prop
 | nil {d : Nat} {τ : Turns} : LR d τ [] []
 | ln {d : Nat} {τ : Turns} {r : List PV} {is : Its} (l : Ln) (vl : Vl) (h : lnIs τ l vl) (hl : l.lev ≤ d) (t : LR (d + 1) τ r is) : LR (d + 1) τ (l.pv :: r) ((l, vl) :: is)
 | whn {d : Nat} {τ : Turns} {r : List PV} {is : Its} (i : Int) (A B : List PV) (js : Its) (h : LR d τ (if i = 0 then B else A) js) (t : LR (d + 1) τ r is) : LR (d + 1) τ (.tup [.str "when", .tup [.str "num", .int i], .tup A, .tup B] :: r) (js ++ is)
 | each {d : Nat} {τ : Turns} {r : List PV} {is : Its} (n : Str) (re : RE) (c : Int) (body : List PV) (f : Nat → Its) (hc : re.is τ c) (hb : -100000 ≤ c) (h : ∀ t : Nat, t < (if c < 8 then c else 8).toNat → LR d (putP τ (.inr n) (.int (t : Int))) body (f t)) (t : LR (d + 1) τ r is) :
   LR (d + 1) τ (.tup [.str "each", .str n, re.pv, .tup body] :: r) ((List.range (if c < 8 then c else 8).toNat).flatMap f ++ is)
def gBring (a : Adr) (e : Nat) : GC := fun ts C Q => ∃ (d : Nat) (lines : List PV) (is : Its) (τ : Turns) (x an tn ak rw ct : Addr) (rows : List PV) (cs : List (Key × PV)) (seen : List (Option Int)),
 e = d + 1 ∧ ts = [.ref x, .tup lines, .ref tn, .ref rw, .ref ct] ∧ LR d τ lines is ∧ Sf a C x an ak ∧ C tn = some (.dK τ) ∧ τ.length ≤ 100 - d ∧ d ≤ 50 ∧ C rw = some (.lst rows) ∧ C ct = some (.dK cs) ∧ tn ≠ ct ∧ Cnt cs seen ∧ seen.length + is.length ≤ 900 ∧ rows.length + is.length ≤ 900 ∧
 ∀ C' cs', C' rw = some (.lst (rows ++ wantsOf seen is)) → C' ct = some (.dK cs') → Cnt cs' (seen ++ oks is) → Sf a C' x an ak → ExS [ak, rw, ct] C C' → Q .non C'
def gRow (a : Adr) (e : Nat) : GC := fun ts C Q => ∃ (d : Nat) (lines : List PV) (is : Its) (τ : Turns) (x an tn ak : Addr), e = d + 1 ∧ ts = [.ref x, .tup lines, .ref tn] ∧ LR d τ lines is ∧ Sf a C x an ak ∧ C tn = some (.dK τ) ∧ τ.length ≤ 100 - d ∧ d ≤ 50 ∧ is.length ≤ 900 ∧
 ∀ C', Sf a C' x an ak → ExS [ak] C C' → Q (.tup (wantsOf [] is)) C'
theorem Sf.nl {C : CH} {x an ak p : Addr} {xs : List PV} (h : Sf a C x an ak) (m : C p = some (.lst xs)) : x ≠ p ∧ an ≠ p ∧ ak ≠ p := by
 obtain ⟨dx, h1⟩ := h.ins
 obtain ⟨kvs, h2, _⟩ := h.ask
 refine ⟨fun e => ?_, fun e => ?_, fun e => ?_⟩
 ·rw [e, m] at h1; cases h1
 ·have := h.ans; rw [e, m] at this; cases this
 ·rw [e, m] at h2; cases h2
theorem Sf.nn {C : CH} {x an ak p : Addr} (h : Sf a C x an ak) (m : C p = none) : x ≠ p ∧ an ≠ p ∧ ak ≠ p := by
 obtain ⟨dx, h1⟩ := h.ins
 obtain ⟨kvs, h2, _⟩ := h.ask
 refine ⟨fun e => ?_, fun e => ?_, fun e => ?_⟩
 ·rw [e, m] at h1; cases h1
 ·have := h.ans; rw [e, m] at this; cases this
 ·rw [e, m] at h2; cases h2
theorem ok_row (T : Txt P w K mg a) {e k : Nat} (G_Drawer_bring : FnOk P w K mg base CX0 k a.Drawer_bring a.d_Drawer_bring ["self", "lines", "turns", "row", "counts"] (spC K (gBring a e))) : FnOk P w K mg base CX0 (k + 1) a.Drawer_row a.d_Drawer_row ["self", "lines", "turns"] (spC K (gRow a e)) := by
 have S := sc_Drawer_row
 refine Fun.okC T.F_Drawer_row sc_Drawer_row (fun ts C R h => ?_) fun cdv A outer s H E hr => ⟨_, (cb_cons (cs_set (i := 3) S.nd rfl (Or.inl rfl) (ce_lst ca_nil))
  (cb_cons (cs_expr (ce_meth T.cl_Drawer T.M_Drawer_bring G_Drawer_bring hr T.b_Drawer_bring pass0 (cv 0) (ca_cons (cv 1) (ca_cons (cv 2) (ca_cons (cv 3) (ca_cons ce_dnew ca_nil))))))
  (cb_one (cs_ret (ce_callTy call_tuple_of cbi_tup rfl T.z_tuple rfl (ca_cons (cv 3) ca_nil)))))), ?_⟩
 ·obtain ⟨_, _, _, _, _, _, _, _, _, rfl, _⟩ := h; rfl
 rintro ts C R ⟨d, lines, is, τ, x, an, tn, ak, he, rfl, lr, sf, mtn, hτ, hd, hl, q⟩
 refine ⟨by show 0 ≤ sizeLine; decide, fun rw rw0 => ?_⟩
 try dsimp only
 have sf1 := sf.new rw0 (.lst [])
 obtain ⟨dx, mx⟩ := sf1.ins
 refine seq_i ?_
 refine ⟨isIns_s mx rfl, ?_⟩
 intro ct ct0
 have ncr : ct ≠ rw := fun z => by rw [z, updC_same] at ct0; cases ct0
 have ct0' : C ct = none := by rw [updC_ne ncr] at ct0; exact ct0
 have sf2 := sf1.new ct0 (.dK [])
 have ntr : tn ≠ rw := fun z => by rw [z, rw0] at mtn; cases mtn
 have ntc : tn ≠ ct := fun z => by rw [z, ct0'] at mtn; cases mtn
 have nn1 := sf.nn rw0
 have nn2 := sf.nn ct0'
 refine ⟨d, lines, is, τ, x, an, tn, ak, rw, ct, [], [], [], he, rfl, lr, sf2, by rw [updC_ne ntc, updC_ne ntr]; exact mtn, hτ, hd, by rw [updC_ne (Ne.symm ncr)]; exact updC_same, updC_same, ntc, Cnt.nil, by show 0 + is.length ≤ 900; omega, by show 0 + is.length ≤ 900; omega, fun C' cs' m1 m2 _ sf3 x3 => ?_⟩
 try dsimp only
 refine tup_l m1 ?_
 refine q C' sf3 fun b o hb hbo => ?_
 have b1 : b ≠ rw := fun z => by rw [z, rw0] at hbo; cases hbo
 have b2 : b ≠ ct := fun z => by rw [z, ct0'] at hbo; cases hbo
 refine x3 b o (fun z => ?_) (by rw [updC_ne b2, updC_ne b1]; exact hbo)
 rcases List.mem_cons.1 z with z | z
 ·exact hb (by rw [z]; exact List.mem_cons_self)
 rcases List.mem_cons.1 z with z | z
 ·exact b1 z
 ·exact b2 (List.mem_singleton.1 z)
end
end K08
set_option Elab.async false
set_option linter.all false
set_option maxRecDepth 100000
set_option maxHeartbeats 1000000
namespace K08
open PySem L2 CL
section
variable {P : Program} {w : World} {K : PySem.W.Frag} {mg : Str → Option Value} {base : Heap} {a : Adr}
def gNo : GC := fun _ _ _ => False
theorem ok_no {k : Nat} {f : Addr} {fd : FuncData} {ps : List Str} : FnOk P w K mg base CX0 k f fd ps (spC K gNo) :=
 ⟨fun vs H Q E ⟨ts, C, R, _, _, h, _⟩ => h.elim, fun _ _ _ _ _ _ _ _ _ _ _ _ _ ⟨ts, C, R, _, _, h, _⟩ => h.elim⟩
def inIt (ik : KE) (io : Option Int) : Ln × Vl := (.plain "b" ik none, ⟨io, -1, none⟩)
theorem in_lr {τ : Turns} {ik : KE} {io : Option Int} (h : keIs τ ik io) (d : Nat) : ∀ m : Nat, LR (d + 1) τ (List.replicate m (inPV ik)) (List.replicate m (inIt ik io))
 | 0 => .nil
 | m + 1 => .ln (.plain "b" ik none) ⟨io, -1, none⟩ ⟨h, rfl⟩ (Nat.zero_le _) (in_lr h d m)
theorem cnt_rep (io : Option Int) : ∀ j : Nat, cnt io (List.replicate j io) = j
 | 0 => rfl
 | j + 1 => by
  have h := cnt_rep io j
  unfold cnt at h ⊢
  rw [List.replicate_succ, List.countP_cons, h, decide_eq_true rfl]
  rfl
theorem in_wants (ik : KE) (io : Option Int) : ∀ (m j : Nat), wantsOf (List.replicate j io) (List.replicate m (inIt ik io)) = (List.range m).map fun i => inW io (j + i)
 | 0, j => rfl
 | m + 1, j => by
  rw [List.replicate_succ]
  show wantPV (cnt io (List.replicate j io)) (.plain "b" ik none) ⟨io, -1, none⟩ :: wantsOf (List.replicate j io ++ [io]) (List.replicate m (inIt ik io)) = _
  rw [cnt_rep, ← List.replicate_succ', in_wants ik io m (j + 1), List.range_succ_eq_map, List.map_cons, List.map_map]
  congr 1
  apply List.map_congr_left
  intro i _
  show inW io (j + 1 + i) = inW io (j + (i + 1))
  rw [Nat.add_assoc, Nat.add_comm 1 i]
theorem in_wants0 (ik : KE) (io : Option Int) (m : Nat) : wantsOf [] (List.replicate m (inIt ik io)) = (List.range m).map (inW io) := by
 have h := in_wants ik io m 0
 rw [show List.replicate 0 io = [] from rfl] at h
 rw [h]
 apply List.map_congr_left
 intro i _
 rw [Nat.zero_add]
def nmPr : Option Str → Int → List Pr
 | none, _ => []
 | some n, v => [⟨"t", .turn n, v⟩]
theorem nmPr_pv (nm : Option Str) (v : Int) : (nmPr nm v).map Pr.pv = nmPV nm := by cases nm <;> rfl
theorem nmPr_out (nm : Option Str) (v : Int) : (nmPr nm v).map Pr.out = (nmOut nm v).map siPV := by cases nm <;> rfl
theorem nmPr_ok {τ : Turns} {nm : Option Str} {v : Int} (h : (nmRE nm).is τ v) : ∀ p ∈ nmPr nm v, p.r.dep = 0 ∧ p.r.is τ p.v := by
 cases nm with
 | none => intro p hp; cases hp
 | some n => intro p hp; cases List.mem_singleton.1 hp; exact ⟨rfl, h⟩
theorem nm_ord (nm : Option Str) (v : Int) : ordC (nmOut nm v) = nmOut nm v := by
 cases nm with
 | none => exact ordC_nil
 | some n => exact ordC_one _
theorem nmPr_len (nm : Option Str) (v : Int) : (nmPr nm v).length ≤ 10 := by
 cases nm with
 | none => exact Nat.zero_le _
 | some n => show 1 ≤ 10; decide
theorem nmOut_len (nm : Option Str) (v : Int) : (nmOut nm v).length < 64 := by
 cases nm with
 | none => show 0 < 64; decide
 | some n => show 1 < 64; decide
theorem nmRE_dep (nm : Option Str) : (nmRE nm).dep = 0 := by cases nm <;> rfl
def gWant (a : Adr) (e : Nat) : GC := fun ts C Q => ∃ (d : Nat) (l : Ln) (vl : Vl) (τ : Turns) (x an tn ak ct : Addr) (cs : List (Key × PV)) (seen : List (Option Int)), e = d + 1 ∧ l.lev ≤ d ∧ ts = [.ref x, l.pv, .ref tn, .ref ct] ∧ lnIs τ l vl ∧ Sf a C x an ak ∧ C tn = some (.dK τ) ∧ τ.length ≤ 100 - d ∧ d ≤ 50 ∧ C ct = some (.dK cs) ∧ tn ≠ ct ∧ Cnt cs seen ∧ seen.length ≤ 900 ∧
 ∀ C' cs', C' ct = some (.dK cs') → Cnt cs' (seen ++ [vl.o]) → Sf a C' x an ak → ExS [ak, ct] C C' → Q (wantPV (cnt vl.o seen) l vl) C'
theorem ex_ak {ak ct : Addr} {C C' : CH} (h : ExS [ak] C C') : ExS [ak, ct] C C' := h.mono fun b hb => List.mem_cons.2 (.inl (List.mem_singleton.1 hb))
theorem ok_want (T : Txt P w K mg a) {e k : Nat} (h5 : 5 ≤ k) (G_Drawer_row : FnOk P w K mg base CX0 k a.Drawer_row a.d_Drawer_row ["self", "lines", "turns"] (spC K (gRow a e))) : FnOk P w K mg base CX0 (k + 1) a.Drawer_want a.d_Drawer_want ["self", "line", "turns", "counts"] (spC K (gWant a e)) := by
 have S := sc_Drawer_want
 have G_Drawer_spot := (ok_spot (base := base) T).mono h5
 have G_Drawer_number := (ok_number (base := base) T 1).mono (show 4 ≤ k by omega)
 have G_Drawer_numbered := (ok_numbered (base := base) T).mono h5
 have G_Drawer_hand : FnOk P w K mg base CX0 k a.Drawer_hand a.d_Drawer_hand ["self", "hand", "turns"] (spC K gNo) := ok_no
 refine Fun.okC T.F_Drawer_want sc_Drawer_want (fun ts C R h => ?_) fun cdv A outer s H E hr => ⟨_, (cb_cons (cs_set (i := 4) S.nd rfl (Or.inl rfl) (ce_meth T.cl_Drawer T.M_Drawer_spot G_Drawer_spot hr T.b_Drawer_spot pass0 (cv 0) (ca_cons (ce_ix (r := rIx K) ix_seqC cop_ix (cv 1) ce_int (fun _ _ => rfl)) (ca_cons (cv 2) (ca_cons (cv 3) ca_nil)))))
  (cb_cons (cs_if (ct_cmp op_eq cop_eq (ce_ix (r := rIx K) ix_seqC cop_ix (cv 1) ce_int (fun _ _ => rfl)) ce_str (nomark _)) (cb_one (cs_ret (ce_tup (ca_cons ce_str (ca_cons (cv 4) (ca_cons (ce_ix (r := rIx K) ix_seqC cop_ix (cv 1) ce_int (fun _ _ => rfl)) (ca_cons (ce_meth T.cl_Drawer T.M_Drawer_number G_Drawer_number hr T.b_Drawer_number pass0 (cv 0) (ca_cons (ce_ix (r := rIx K) ix_seqC cop_ix (cv 1) ce_int (fun _ _ => rfl)) (ca_cons (cv 2) ca_nil))) (ca_cons (ce_meth T.cl_Drawer T.M_Drawer_row G_Drawer_row hr T.b_Drawer_row pass0 (cv 0) (ca_cons (ce_ix (r := rIx K) ix_seqC cop_ix (cv 1) ce_int (fun _ _ => rfl)) (ca_cons (cv 2) ca_nil))) ca_nil)))))))) cb_nil)
  (cb_cons (cs_set (i := 5) S.nd rfl (Or.inl rfl) (ce_callTy call_tuple_of cbi_tup rfl T.z_tuple rfl (ca_cons (ce_callB (call_sortedC rfl) cbi_sorted rfl T.z_sorted rfl (ca_cons (ce_meth T.cl_Drawer T.M_Drawer_numbered G_Drawer_numbered hr T.b_Drawer_numbered pass0 (cv 0) (ca_cons (ce_ix (r := rIx K) ix_seqC cop_ix (cv 1) ce_int (fun _ _ => rfl)) (ca_cons (cv 2) ca_nil))) ca_nil)) ca_nil)))
  (cb_cons (cs_if (ct_cmp op_eq cop_eq (ce_ix (r := rIx K) ix_seqC cop_ix (cv 1) ce_int (fun _ _ => rfl)) ce_str (nomark _)) (cb_one (cs_ret (ce_tup (ca_cons ce_str (ca_cons (cv 4) (ca_cons (ce_ix (r := rIx K) ix_seqC cop_ix (cv 1) ce_int (fun _ _ => rfl)) (ca_cons (cv 5) ca_nil))))))) cb_nil)
  (cb_cons (cs_set (i := 6) S.nd rfl (Or.inl rfl) (ce_callTy call_tuple_of cbi_tup rfl T.z_tuple rfl (ca_cons (ce_comp rfl (show (["hand", "self", "line", "turns", "counts", "spot", "pairs", "hands"] : List Str).Nodup by decide +kernel) (comp_okF (N := ["self", "line", "turns", "counts", "spot", "pairs", "hands"]) (sc := defScope s_Drawer_want) rfl rfl rfl (by decide +kernel)) (ci_tup (ce_ix (r := rIx K) ix_seqC cop_ix (cv 1) ce_int (fun _ _ => rfl))) (fun _ _ _ _ _ => cf_nil) (fun _ _ _ _ _ => (ce_meth T.cl_Drawer T.M_Drawer_hand G_Drawer_hand hr T.b_Drawer_hand pass0 (cv 1) (ca_cons (cv 0) (ca_cons (cv 3) ca_nil))))) ca_nil)))
  (cb_one (cs_ret (ce_tup (ca_cons ce_str (ca_cons (cv 4) (ca_cons (ce_ix (r := rIx K) ix_seqC cop_ix (cv 1) ce_int (fun _ _ => rfl)) (ca_cons (cv 5) (ca_cons (cv 6) (ca_cons (ce_meth T.cl_Drawer T.M_Drawer_row G_Drawer_row hr T.b_Drawer_row pass0 (cv 0) (ca_cons (ce_ix (r := rIx K) ix_seqC cop_ix (cv 1) ce_int (fun _ _ => rfl)) (ca_cons (cv 2) ca_nil))) ca_nil)))))))))))))), ?_⟩
 ·obtain ⟨_, _, _, _, _, _, _, _, _, _, _, _, _, rfl, _⟩ := h; rfl
 rintro ts C R ⟨d, l, vl, τ, x, an, tn, ak, ct, cs, seen, he, hlev, rfl, hl, sf, mtn, hτ, hd, mct, ntc, hc, hs, q⟩
 obtain ⟨dx, mx⟩ := sf.ins
 obtain ⟨n1, n2, n3⟩ := sf.nd mct
 have nta : tn ∉ [ak, ct] := fun z => by
  rcases List.mem_cons.1 z with z | z
  ·exact (sf.nd mtn).2.2 z.symm
  ·exact ntc (List.mem_singleton.1 z)
 have nta' : tn ∉ [ak] := fun z => nta (List.mem_cons.2 (.inl (List.mem_singleton.1 z)))
 have nca : ct ∉ [ak] := fun z => n3 (List.mem_singleton.1 z).symm
 cases l with
 | give kk nm ik m =>
  obtain ⟨k1, k2, k3, k4⟩ := (show keIs τ kk vl.o ∧ (nmRE nm).is τ vl.v ∧ keIs τ ik vl.io ∧ m ≤ 2 from hl)
  refine ⟨isIns_s mx rfl, ?_⟩
  refine ix_t rfl ?_
  refine ⟨kk, τ, vl.o, x, an, tn, ak, ct, cs, seen, rfl, k1, sf, mtn, mct, hc, hs, fun C1 cs1 m1 c1 sf1 x1 => ?_⟩
  try dsimp only
  have mtn1 := x1 _ _ nta mtn
  obtain ⟨dx1, mx1⟩ := sf1.ins
  refine seq_i ?_
  refine ix_t rfl ?_
  refine eq_s (sEq_str _ _) ?_
  refine on_y (by decide) ?_
  refine ix_t rfl ?_
  refine ⟨isIns_s mx1 rfl, ?_⟩
  refine ix_t rfl ?_
  refine ⟨nmRE nm, τ, vl.v, x, an, tn, ak, by rw [nmRE_dep]; decide, rfl, sf1, mtn1, k2, fun C2 sf2 x2 => ?_⟩
  have mtn2 := x2 _ _ nta' mtn1
  obtain ⟨dx2, mx2⟩ := sf2.ins
  refine ⟨isIns_s mx2 rfl, ?_⟩
  refine ix_t rfl ?_
  obtain ⟨d', rfl⟩ : ∃ d', d = d' + 1 := ⟨d - 1, by have : 1 ≤ d := hlev; omega⟩
  refine ⟨d' + 1, _, List.replicate m (inIt ik vl.io), τ, x, an, tn, ak, he, rfl, in_lr k3 d' m, sf2, mtn2, hτ, hd, by rw [List.length_replicate]; omega, fun C3 sf3 x3 => ?_⟩
  rw [in_wants0]
  refine ⟨by show 5 ≤ sizeLine; decide, ?_⟩
  exact q C3 cs1 (x3 _ _ nca (x2 _ _ nca m1)) c1 sf3 ((x1.trans (ex_ak x2)).trans (ex_ak x3))
 | part kk nm =>
  obtain ⟨k1, k2⟩ := (show keIs τ kk vl.o ∧ (nmRE nm).is τ vl.v from hl)
  refine ⟨isIns_s mx rfl, ?_⟩
  refine ix_t rfl ?_
  refine ⟨kk, τ, vl.o, x, an, tn, ak, ct, cs, seen, rfl, k1, sf, mtn, mct, hc, hs, fun C1 cs1 m1 c1 sf1 x1 => ?_⟩
  try dsimp only
  have mtn1 := x1 _ _ nta mtn
  obtain ⟨dx1, mx1⟩ := sf1.ins
  refine seq_i ?_
  refine ix_t rfl ?_
  refine eq_s (sEq_str _ _) ?_
  refine on_n (by decide) ?_
  refine nx_i ?_
  try dsimp only
  refine seq_set (i := 5) ?_
  refine ⟨isIns_s mx1 rfl, ?_⟩
  refine ix_t rfl ?_
  refine ⟨nmPr nm vl.v, τ, x, an, tn, ak, by rw [nmPr_pv], nmPr_len _ _, nmPr_ok k2, sf1, mtn1, fun C2 p p0 m2 sf2 x2 => ?_⟩
  rw [nmPr_out] at m2
  refine sorted_l m2 (nmOut_len _ _) fun p2 p20 => ?_
  rw [nm_ord]
  refine tup_l updC_same ?_
  try dsimp only
  refine seq_i ?_
  refine ix_t rfl ?_
  refine eq_s (sEq_str _ _) ?_
  refine on_y (by decide) ?_
  refine ix_t rfl ?_
  refine ⟨by show 4 ≤ sizeLine; decide, ?_⟩
  have npc : ct ≠ p2 := fun z => by have := x2 _ _ nca m1; rw [z, p20] at this; cases this
  refine q _ cs1 (by rw [updC_ne npc]; exact x2 _ _ nca m1) c1 (sf2.new p20 _) ?_
  intro b o hb hbo
  have h2 := (x1.trans (ex_ak x2)) b o hb hbo
  rw [updC_ne (fun z => by rw [z, p20] at h2; cases h2)]
  exact h2
 | plain tag kk nm =>
  obtain ⟨k1, k2⟩ := (show keIs τ kk vl.o ∧ (nmRE nm).is τ vl.v from hl)
  refine ⟨isIns_s mx rfl, ?_⟩
  refine ix_t rfl ?_
  refine ⟨kk, τ, vl.o, x, an, tn, ak, ct, cs, seen, rfl, k1, sf, mtn, mct, hc, hs, fun C1 cs1 m1 c1 sf1 x1 => ?_⟩
  try dsimp only
  have mtn1 := x1 _ _ nta mtn
  obtain ⟨dx1, mx1⟩ := sf1.ins
  refine seq_i ?_
  refine ix_t rfl ?_
  refine eq_s (sEq_str _ _) ?_
  refine on_n (by decide) ?_
  refine nx_i ?_
  try dsimp only
  refine seq_set (i := 5) ?_
  refine ⟨isIns_s mx1 rfl, ?_⟩
  refine ix_t rfl ?_
  refine ⟨nmPr nm vl.v, τ, x, an, tn, ak, by rw [nmPr_pv], nmPr_len _ _, nmPr_ok k2, sf1, mtn1, fun C2 p p0 m2 sf2 x2 => ?_⟩
  rw [nmPr_out] at m2
  refine sorted_l m2 (nmOut_len _ _) fun p2 p20 => ?_
  rw [nm_ord]
  refine tup_l updC_same ?_
  try dsimp only
  refine seq_i ?_
  refine ix_t rfl ?_
  refine eq_s (sEq_str _ _) ?_
  refine on_n (by decide) ?_
  refine nx_i ?_
  try dsimp only
  have mct2 := x2 _ _ nca m1
  have mtn2 := x2 _ _ nta' mtn1
  have keep2 : ∀ b o, C2 b = some o → (updC C2 p2 (.lst ((nmOut nm vl.v).map siPV))) b = some o := fun b o h => by rw [updC_ne (fun z => by rw [z, p20] at h; cases h)]; exact h
  have sf3 := sf2.new p20 (.lst ((nmOut nm vl.v).map siPV))
  refine seq_set (i := 6) ?_
  refine ix_t rfl ?_
  intro p3 p30
  refine tup_l updC_same ?_
  try dsimp only
  have sf4 := sf3.new p30 (.lst [])
  have keep3 : ∀ b o, (updC C2 p2 (.lst ((nmOut nm vl.v).map siPV))) b = some o → (updC (updC C2 p2 (.lst ((nmOut nm vl.v).map siPV))) p3 (.lst [])) b = some o := fun b o h => by rw [updC_ne (fun z => by rw [z, p30] at h; cases h)]; exact h
  obtain ⟨dx4, mx4⟩ := sf4.ins
  refine ix_t rfl ?_
  refine ⟨isIns_s mx4 rfl, ?_⟩
  refine ix_t rfl ?_
  refine ⟨d, [], [], τ, x, an, tn, ak, he, rfl, .nil, sf4, keep3 _ _ (keep2 _ _ mtn2), hτ, hd, Nat.zero_le _, fun C5 sf5 x5 => ?_⟩
  refine ⟨by show 6 ≤ sizeLine; decide, ?_⟩
  refine q C5 cs1 (x5 _ _ nca (keep3 _ _ (keep2 _ _ mct2))) c1 sf5 ?_
  intro b o hb hbo
  exact (ex_ak (ct := ct) x5) b o hb (keep3 _ _ (keep2 _ _ ((x1.trans (ex_ak x2)) b o hb hbo)))
end
end K08
set_option Elab.async false
set_option linter.all false
set_option maxRecDepth 100000
set_option maxHeartbeats 1000000
namespace K08
open PySem L2 CL
section
variable {P : Program} {w : World} {K : PySem.W.Frag} {mg : Str → Option Value} {base : Heap} {a : Adr}
theorem dep2 (r : RE) : r.dep < 2 := by
 cases r with
 | add n i => show 1 < 2; decide
 | _ => show 0 < 2; decide
theorem oks_app (b : Its) (a : Its) : oks (a ++ b) = oks a ++ oks b := List.map_append
theorem flat_le {f : Nat → Its} (k : Nat) : ∀ n, k ≤ n → ((List.range k).flatMap f).length ≤ ((List.range n).flatMap f).length := by
 intro n
 induction n with
 | zero => intro h; cases Nat.le_zero.1 h; exact Nat.le_refl _
 | succ n ih =>
  intro h
  by_cases e : k = n + 1
  ·rw [e]; exact Nat.le_refl _
  ·have := ih (by omega)
   rw [List.range_succ, List.flatMap_append, List.length_append]
   omega
theorem flat_succ (f : Nat → Its) (k : Nat) : (List.range (k + 1)).flatMap f = (List.range k).flatMap f ++ f k := by
 rw [List.range_succ, List.flatMap_append, List.flatMap_cons, List.flatMap_nil, List.append_nil]
def gEach (a : Adr) (e : Nat) : GC := fun ts C Q => ∃ (d : Nat) (n : Str) (re : RE) (c : Int) (body : List PV) (f : Nat → Its) (τ : Turns) (x an tn ak rw ct : Addr) (rows : List PV) (cs : List (Key × PV)) (seen : List (Option Int)),
 e = d + 1 ∧ ts = [.ref x, .tup [.str "each", .str n, re.pv, .tup body], .ref tn, .ref rw, .ref ct] ∧ re.is τ c ∧ -100000 ≤ c ∧ (∀ t : Nat, t < (if c < 8 then c else 8).toNat → LR d (putP τ (.inr n) (.int (t : Int))) body (f t)) ∧ Sf a C x an ak ∧ C tn = some (.dK τ) ∧ τ.length + 1 ≤ 100 - d ∧ d ≤ 50 ∧ C rw = some (.lst rows) ∧ C ct = some (.dK cs) ∧ tn ≠ ct ∧ Cnt cs seen ∧
 seen.length + ((List.range (if c < 8 then c else 8).toNat).flatMap f).length ≤ 900 ∧ rows.length + ((List.range (if c < 8 then c else 8).toNat).flatMap f).length ≤ 900 ∧
 ∀ C' cs', C' rw = some (.lst (rows ++ wantsOf seen ((List.range (if c < 8 then c else 8).toNat).flatMap f))) → C' ct = some (.dK cs') → Cnt cs' (seen ++ oks ((List.range (if c < 8 then c else 8).toNat).flatMap f)) → Sf a C' x an ak → ExS [ak, rw, ct] C C' → Q .non C'
theorem ex_3 {ak rw ct : Addr} {C C' : CH} (h : ExS [ak] C C') : ExS [ak, rw, ct] C C' := h.mono fun b hb => List.mem_cons.2 (.inl (List.mem_singleton.1 hb))
theorem ok_each (T : Txt P w K mg a) {e k : Nat} (h5 : 5 ≤ k) (G_Drawer_bring : FnOk P w K mg base CX0 k a.Drawer_bring a.d_Drawer_bring ["self", "lines", "turns", "row", "counts"] (spC K (gBring a e))) : FnOk P w K mg base CX0 (k + 1) a.Drawer_bring_each a.d_Drawer_bring_each ["self", "line", "turns", "row", "counts"] (spC K (gEach a e)) := by
 have S := sc_Drawer_bring_each
 have G_Drawer_number := (ok_number (base := base) T 2).mono h5
 refine Fun.okC T.F_Drawer_bring_each sc_Drawer_bring_each (fun ts C R h => ?_) fun cdv A outer s H E hr => ⟨_, (cb_cons (cs_set (i := 5) S.nd rfl (Or.inl rfl) (ce_callB (call_min2 rfl) cbi_min rfl T.z_min rfl (ca_cons (ce_glob (v := .int 8) (t := .int 8) rfl T.gMOST_TURNS ⟨_, rfl⟩ (fun _ => .int _)) (ca_cons (ce_meth T.cl_Drawer T.M_Drawer_number G_Drawer_number hr T.b_Drawer_number pass0 (cv 0) (ca_cons (ce_ix (r := rIx K) ix_seqC cop_ix (cv 1) ce_int (fun _ _ => rfl)) (ca_cons (cv 2) ca_nil))) ca_nil))))
  (cb_one (cs_forR PassesOwn.never rfl rfl T.z_range (ca_cons (cv 5) ca_nil) (cg_name (i := 6) S.nd rfl (Or.inl rfl)) (cb_cons (cs_set (i := 7) S.nd rfl (Or.inl rfl) (ce_callTy call_dictK cbi_dictK rfl T.z_dict rfl (ca_cons (cv 2) ca_nil)))
  (cb_cons (cs_dput (hu_of hr) (cv 7) (ce_ix (r := rIx K) ix_seqC cop_ix (cv 1) ce_int (fun _ _ => rfl)) (cv 6))
  (cb_one (cs_expr (ce_meth T.cl_Drawer T.M_Drawer_bring G_Drawer_bring hr T.b_Drawer_bring pass0 (cv 0) (ca_cons (ce_ix (r := rIx K) ix_seqC cop_ix (cv 1) ce_int (fun _ _ => rfl)) (ca_cons (cv 7) (ca_cons (cv 3) (ca_cons (cv 4) ca_nil)))))))))))), ?_⟩
 ·obtain ⟨_, _, _, _, _, _, _, _, _, _, _, _, _, _, _, _, _, rfl, _⟩ := h; rfl
 rintro ts C R ⟨d, n, re, c, body, f, τ, x, an, tn, ak, rw, ct, rows, cs, seen, he, rfl, hc, hb, hL, sf, mtn, hτ, hd, mrw, mct, ntc, hcs, l1, l2, q⟩
 obtain ⟨dx, mx⟩ := sf.ins
 obtain ⟨n1, n2, n3⟩ := sf.nd mct
 obtain ⟨r1, r2, r3⟩ := sf.nl mrw
 obtain ⟨t1, t2, t3⟩ := sf.nd mtn
 have ntr : tn ≠ rw := fun z => by rw [z, mrw] at mtn; cases mtn
 have nrc : rw ≠ ct := fun z => by rw [z, mct] at mrw; cases mrw
 have ntS : tn ∉ [ak, rw, ct] := fun z => by
  rcases List.mem_cons.1 z with z | z
  ·exact t3 z.symm
  rcases List.mem_cons.1 z with z | z
  ·exact ntr z
  ·exact ntc (List.mem_singleton.1 z)
 have nA : ∀ {b : Addr}, b ≠ ak → b ∉ [ak] := fun h z => h (List.mem_singleton.1 z)
 refine ⟨isIns_s mx rfl, ?_⟩
 refine ix_t rfl ?_
 refine ⟨re, τ, c, x, an, tn, ak, dep2 re, rfl, sf, mtn, hc, fun C1 sf1 x1 => ?_⟩
 refine min_s ?_
 try dsimp only
 generalize hN : (if c < 8 then c else 8 : Int) = N at hL l1 l2 q ⊢
 have hN1 : -100000 ≤ N := by rw [← hN]; split <;> omega
 have hN2 : N ≤ 8 := by rw [← hN]; split <;> omega
 refine ⟨by omega, by omega, ?_⟩
 refine walk_inv (fun zs ρ C2 => ∃ k x6 x7 cs1, k ≤ N.toNat ∧ zs = ((List.range N.toNat).drop k).map (fun k : Nat => PV.int (k : Nat)) ∧ ρ = [some (.ref x), some (.tup [.str "each", .str n, re.pv, .tup body]), some (.ref tn), some (.ref rw), some (.ref ct), some (.int N), x6, x7] ∧ C2 rw = some (.lst (rows ++ wantsOf seen ((List.range k).flatMap f))) ∧ C2 ct = some (.dK cs1) ∧ Cnt cs1 (seen ++ oks ((List.range k).flatMap f)) ∧ Sf a C2 x an ak ∧ C2 tn = some (.dK τ) ∧ ExS [ak, rw, ct] C C2) ?_ ?_ _ _ _
  ⟨0, none, none, cs, Nat.zero_le _, rfl, rfl, ?_, x1 _ _ (nA n3.symm) mct, ?_, sf1, x1 _ _ (nA t3.symm) mtn, ex_3 x1⟩
 ·rintro z zs ρ C2 ⟨k, x6, x7, cs1, hk, hz, rfl, mr2, mc2, hc2, sf2, mt2, x2⟩ L hL2
  have hk' : k < (List.range N.toNat).length := by
   rcases Nat.lt_or_ge k (List.range N.toNat).length with h | h
   ·exact h
   ·rw [List.drop_of_length_le h] at hz; cases hz
  rw [List.drop_eq_getElem_cons hk', List.map_cons, List.getElem_range] at hz
  injection hz with hz1 hz2
  subst hz1 hz2
  have hkN : k < N.toNat := by rw [List.length_range] at hk'; exact hk'
  have hfl := flat_le (f := f) (k + 1) N.toNat hkN
  rw [flat_succ, List.length_append] at hfl
  refine seq_set (i := 7) ?_
  refine dictK_s mt2 fun p p0 => ?_
  try dsimp only
  refine seq_i ?_
  refine ix_t rfl ?_
  refine putD_k (k := .inr n) updC_same rfl (by omega) ?_
  try dsimp only
  have keep : ∀ b o, C2 b = some o → (updC (updC C2 p (.dK τ)) p (.dK (putP τ (.inr n) (.int (k : Nat))))) b = some o := fun b o h => by
   have : b ≠ p := fun z => by rw [z, p0] at h; cases h
   rw [updC_ne this, updC_ne this]; exact h
  have e3 : ExS [] C2 (updC (updC C2 p (.dK τ)) p (.dK (putP τ (.inr n) (.int (k : Nat))))) := fun b o _ h => keep b o h
  have sf3 : Sf a (updC (updC C2 p (.dK τ)) p (.dK (putP τ (.inr n) (.int (k : Nat))))) x an ak := sf2.keep' e3 List.not_mem_nil List.not_mem_nil List.not_mem_nil
  have m3 : (updC (updC C2 p (.dK τ)) p (.dK (putP τ (.inr n) (.int (k : Nat))))) p = some (.dK (putP τ (.inr n) (.int (k : Nat)))) := updC_same
  have npc : p ≠ ct := fun z => by rw [z, mc2] at p0; cases p0
  generalize updC (updC C2 p (.dK τ)) p (.dK (putP τ (.inr n) (.int (k : Nat)))) = C3 at keep sf3 m3 e3 ⊢
  obtain ⟨dx3, mx3⟩ := sf3.ins
  refine ⟨isIns_s mx3 rfl, ?_⟩
  refine ix_t rfl ?_
  have hps := put_size τ (.inr n) (.int (k : Nat))
  have hol : (oks ((List.range k).flatMap f)).length = ((List.range k).flatMap f).length := List.length_map _
  refine ⟨d, body, f k, putP τ (.inr n) (.int (k : Nat)), x, an, p, ak, rw, ct, _, cs1, _, he, rfl, hL k hkN, sf3, m3, by omega, hd, keep _ _ mr2, keep _ _ mc2, npc, hc2, ?_, ?_, fun C4 cs4 mr4 mc4 hc4 sf4 x4 => ?_⟩
  ·rw [List.length_append, hol]; omega
  ·rw [List.length_append, wants_len]; omega
  ·refine hL2 _ _ ⟨k + 1, _, _, cs4, hkN, rfl, rfl, ?_, mc4, ?_, sf4, x4 _ _ ntS (keep _ _ mt2), ?_⟩
   ·rw [mr4, flat_succ, wants_app, List.append_assoc]
   ·rw [flat_succ, oks_app, ← List.append_assoc]; exact hc4
   ·exact fun b o hb hbo => x4 b o hb (keep b o (x2 b o hb hbo))
 ·rintro ρ C2 ⟨k, x6, x7, cs1, hk, hz, rfl, mr2, mc2, hc2, sf2, mt2, x2⟩
  have hk' : k = N.toNat := by
   rcases Nat.lt_or_ge k N.toNat with h | h
   ·rw [List.drop_eq_getElem_cons (by rw [List.length_range]; exact h), List.map_cons] at hz; cases hz
   ·omega
  subst hk'
  exact q C2 cs1 mr2 mc2 hc2 sf2 x2
 ·rw [show (List.range 0).flatMap f = [] from rfl, show wantsOf seen [] = [] from rfl, List.append_nil]
  exact x1 _ _ (nA r3.symm) mrw
 ·rw [show (List.range 0).flatMap f = [] from rfl, show oks [] = [] from rfl, List.append_nil]
  exact hcs
end
end K08
set_option Elab.async false
set_option linter.all false
set_option maxRecDepth 100000
set_option maxHeartbeats 1000000
namespace K08
open PySem L2 CL
section
variable {P : Program} {w : World} {K : PySem.W.Frag} {mg : Str → Option Value} {base : Heap} {a : Adr}
theorem ln_shape (l : Ln) : ∃ (s : Str) (r : List PV), l.pv = .tup (.str s :: r) ∧ s ≠ "when" ∧ s ≠ "each" := by
 cases l with
 | plain tag k nm => exact ⟨"plain", _, rfl, by decide, by decide⟩
 | part k nm => exact ⟨"part", _, rfl, by decide, by decide⟩
 | give k nm ik m => exact ⟨"give", _, rfl, by decide, by decide⟩
theorem ok_bring (T : Txt P w K mg a) (e : Nat) : FnOk P w K mg base CX0 (3 * e + 5) a.Drawer_bring a.d_Drawer_bring ["self", "lines", "turns", "row", "counts"] (spC K (gBring a e)) := by
 induction e with
 | zero => exact ⟨fun vs H Q E ⟨ts, C, R, _, _, ⟨d, _, _, _, _, _, _, _, _, _, _, _, _, h, _⟩, _⟩ => by omega, fun _ _ _ _ _ _ _ _ _ _ _ _ _ ⟨ts, C, R, _, _, ⟨d, _, _, _, _, _, _, _, _, _, _, _, _, h, _⟩, _⟩ => by omega⟩
 | succ e ih =>
 have S := sc_Drawer_bring
 have G_Drawer_want := ok_want T (show 5 ≤ 3 * e + 5 + 1 by omega) (ok_row T ih)
 have G_Drawer_bring_each := (ok_each T (show 5 ≤ 3 * e + 5 by omega) ih).mono (show 3 * e + 5 + 1 ≤ 3 * e + 5 + 1 + 1 by omega)
 have G_Drawer_bring := ih.mono (show 3 * e + 5 ≤ 3 * e + 5 + 1 + 1 by omega)
 have G_Drawer_number := (ok_number (base := base) T 2).mono (show 5 ≤ 3 * e + 5 + 1 + 1 by omega)
 refine Fun.okC T.F_Drawer_bring sc_Drawer_bring (fun ts C R h => ?_) fun cdv A outer s H E hr => ⟨_, (cb_one (cs_forT PassesOwn.never rfl (cv 1) (cg_name (i := 5) S.nd rfl (Or.inl rfl)) (cb_one (cs_if (ct_cmp op_eq cop_eq (ce_ix (r := rIx K) ix_seqC cop_ix (cv 5) ce_int (fun _ _ => rfl)) ce_str (nomark _)) (cb_cons (cs_set (i := 6) S.nd rfl (Or.inl rfl) (ce_if (ct_cmp op_eq cop_eq (ce_meth T.cl_Drawer T.M_Drawer_number G_Drawer_number hr T.b_Drawer_number pass0 (cv 0) (ca_cons (ce_ix (r := rIx K) ix_seqC cop_ix (cv 5) ce_int (fun _ _ => rfl)) (ca_cons (cv 2) ca_nil))) ce_int (nomark _)) (ce_ix (r := rIx K) ix_seqC cop_ix (cv 5) ce_int (fun _ _ => rfl)) (ce_ix (r := rIx K) ix_seqC cop_ix (cv 5) ce_int (fun _ _ => rfl))))
  (cb_one (cs_expr (ce_meth T.cl_Drawer T.M_Drawer_bring G_Drawer_bring hr T.b_Drawer_bring pass0 (cv 0) (ca_cons (cv 6) (ca_cons (cv 2) (ca_cons (cv 3) (ca_cons (cv 4) ca_nil)))))))) (cb_one (cs_if (ct_cmp op_eq cop_eq (ce_ix (r := rIx K) ix_seqC cop_ix (cv 5) ce_int (fun _ _ => rfl)) ce_str (nomark _)) (cb_one (cs_expr (ce_meth T.cl_Drawer T.M_Drawer_bring_each G_Drawer_bring_each hr T.b_Drawer_bring_each pass0 (cv 0) (ca_cons (cv 5) (ca_cons (cv 2) (ca_cons (cv 3) (ca_cons (cv 4) ca_nil))))))) (cb_one (cs_expr (ce_bm PySem.F.plainAttrs_list PySem.F.slot_list_append PySem.F.type_list_append mt_append cmt_append (cv 3) (ca_cons (ce_meth T.cl_Drawer T.M_Drawer_want G_Drawer_want hr T.b_Drawer_want pass0 (cv 0) (ca_cons (cv 5) (ca_cons (cv 2) (ca_cons (cv 4) ca_nil)))) ca_nil)))))))))), ?_⟩
 ·obtain ⟨_, _, _, _, _, _, _, _, _, _, _, _, _, _, rfl, _⟩ := h; rfl
 rintro ts C R ⟨d, lines, is, τ, x, an, tn, ak, rw, ct, rows, cs, seen, he, rfl, lr, sf, mtn, hτ, hd, mrw, mct, ntc, hcs, l1, l2, q⟩
 have t3 := (sf.nd mtn).2.2
 have ntr : tn ≠ rw := fun z => by rw [z, mrw] at mtn; cases mtn
 have nrc : rw ≠ ct := fun z => by rw [z, mct] at mrw; cases mrw
 have nra := (sf.nl mrw).2.2
 have ntS : tn ∉ [ak, rw, ct] := fun z => by
  rcases List.mem_cons.1 z with z | z
  ·exact t3 z.symm
  rcases List.mem_cons.1 z with z | z
  ·exact ntr z
  ·exact ntc (List.mem_singleton.1 z)
 refine forT_t rfl ?_
 refine walk_inv (fun zs ρ C1 => ∃ x5 x6 js is2 cs1, ρ = [some (.ref x), some (.tup lines), some (.ref tn), some (.ref rw), some (.ref ct), x5, x6] ∧ LR d τ zs is2 ∧ is = js ++ is2 ∧ C1 rw = some (.lst (rows ++ wantsOf seen js)) ∧ C1 ct = some (.dK cs1) ∧ Cnt cs1 (seen ++ oks js) ∧ Sf a C1 x an ak ∧ C1 tn = some (.dK τ) ∧ ExS [ak, rw, ct] C C1) ?_ ?_ lines _ _
  ⟨none, none, [], is, cs, rfl, lr, rfl, by show C rw = some (.lst (rows ++ [])); rw [List.append_nil]; exact mrw, mct, by show Cnt cs (seen ++ []); rw [List.append_nil]; exact hcs, sf, mtn, ExS.refl⟩
 ·rintro z zs ρ C1 ⟨x5, x6, js, is2, cs1, rfl, lr2, rfl, mr1, mc1, hc1, sf1, mt1, x1⟩ L hL
  obtain ⟨dx1, mx1⟩ := sf1.ins
  have hoj : (oks js).length = js.length := List.length_map _
  rw [List.length_append] at l1 l2
  cases lr2 with
  | @ln d' _ _ is3 l vl h1 h2 t =>
   obtain ⟨s, r, hp, s1, s2⟩ := ln_shape l
   rw [List.length_cons] at l1 l2
   refine ix_eq hp at_zero ?_
   refine eq_s (sEq_str _ _) ?_
   refine on_n (by rw [decide_eq_false s1]; rfl) ?_
   refine ix_eq hp at_zero ?_
   refine eq_s (sEq_str _ _) ?_
   refine on_n (by rw [decide_eq_false s2]; rfl) ?_
   refine ⟨isL_l mr1, ?_⟩
   refine ⟨isIns_s mx1 rfl, ?_⟩
   refine ⟨d', l, vl, τ, x, an, tn, ak, ct, cs1, seen ++ oks js, by omega, h2, rfl, h1, sf1, mt1, by omega, by omega, mc1, ntc, hc1, by rw [List.length_append, hoj]; omega, fun C2 cs2 mc2 hc2 sf2 x2 => ?_⟩
   have nr2 : rw ∉ [ak, ct] := fun z => by
    rcases List.mem_cons.1 z with z | z
    ·exact nra z.symm
    ·exact nrc (List.mem_singleton.1 z)
   have mr2 := x2 _ _ nr2 mr1
   refine app_l mr2 (Nat.lt_of_le_of_lt (show _ ≤ 900 by rw [List.length_append, wants_len]; omega) (by decide)) ?_
   have x3 : ExS [ak, rw, ct] C2 (updC C2 rw (.lst (rows ++ wantsOf seen js ++ [wantPV (cnt vl.o (seen ++ oks js)) l vl]))) := ExS.refl.at (List.mem_cons_of_mem _ List.mem_cons_self) _
   have x2' : ExS [ak, rw, ct] C1 C2 := x2.mono fun b hb => by
    rcases List.mem_cons.1 hb with hb | hb
    ·exact List.mem_cons.2 (.inl hb)
    ·exact List.mem_cons_of_mem _ (List.mem_cons_of_mem _ hb)
   refine hL _ _ ⟨_, _, js ++ [(l, vl)], is3, cs2, rfl, t, by rw [List.append_assoc]; rfl, ?_, ?_, ?_, ?_, ?_, (x1.trans x2').trans x3⟩
   ·rw [updC_same, wants_app, List.append_assoc]; rfl
   ·rw [updC_ne (Ne.symm nrc)]; exact mc2
   ·rw [oks_app, ← List.append_assoc]; exact hc2
   ·have nl := sf2.nl mr2
    exact sf2.keep' (S := [rw]) (ExS.refl.at List.mem_cons_self _) (fun z => nl.1 (List.mem_singleton.1 z)) (fun z => nl.2.1 (List.mem_singleton.1 z)) (fun z => nl.2.2 (List.mem_singleton.1 z))
   ·rw [updC_ne ntr]
    exact x2' _ _ ntS mt1
  | @whn d' _ _ is3 i Al Bl js' h t =>
   rw [List.length_append] at l1 l2
   refine ix_t rfl ?_
   refine eq_s (sEq_str _ _) ?_
   refine on_y (by decide) ?_
   refine seq_set (i := 6) ?_
   refine if_i ?_
   refine ⟨isIns_s mx1 rfl, ?_⟩
   refine ix_t rfl ?_
   refine ⟨.num i, τ, i, x, an, tn, ak, dep2 _, rfl, sf1, mt1, rfl, fun C2 sf2 x2 => ?_⟩
   have x2' : ExS [ak, rw, ct] C1 C2 := ex_3 x2
   have nA : ∀ {b : Addr}, ak ≠ b → b ∉ [ak] := fun h z => h (List.mem_singleton.1 z).symm
   have mr2 := x2 _ _ (nA nra) mr1
   have mc2 := x2 _ _ (nA (sf1.nd mc1).2.2) mc1
   have mt2 := x2' _ _ ntS mt1
   obtain ⟨dx2, mx2⟩ := sf2.ins
   have fin : ∀ X : List PV, LR d' τ X js' → gBring a e [.ref x, .tup X, .ref tn, .ref rw, .ref ct] C2 fun _ C' => L [some (.ref x), some (.tup lines), some (.ref tn), some (.ref rw), some (.ref ct), some (.tup [.str "when", .tup [.str "num", .int i], .tup Al, .tup Bl]), some (.tup X)] C' := by
    intro X hX
    refine ⟨d', X, js', τ, x, an, tn, ak, rw, ct, _, cs1, _, by omega, rfl, hX, sf2, mt2, by omega, by omega, mr2, mc2, ntc, hc1, by rw [List.length_append, hoj]; omega, by rw [List.length_append, wants_len]; omega, fun C3 cs3 mr3 mc3 hc3 sf3 x3 => ?_⟩
    refine hL _ _ ⟨_, _, js ++ js', is3, cs3, rfl, t, by rw [List.append_assoc], ?_, mc3, ?_, sf3, x3 _ _ ntS mt2, (x1.trans x2').trans x3⟩
    ·rw [mr3, wants_app, List.append_assoc]
    ·rw [oks_app, ← List.append_assoc]; exact hc3
   refine eq_s (sEq_int _ _) ?_
   by_cases hi : i = 0
   ·refine on_y (decide_eq_true hi) ?_
    refine ix_t rfl ?_
    try dsimp only
    refine ⟨isIns_s mx2 rfl, ?_⟩
    rw [if_pos hi] at h
    exact fin Bl h
   ·refine on_n (decide_eq_false hi) ?_
    refine ix_t rfl ?_
    try dsimp only
    refine ⟨isIns_s mx2 rfl, ?_⟩
    rw [if_neg hi] at h
    exact fin Al h
  | @each d' _ _ is3 n re c body f hc hb h t =>
   rw [List.length_append] at l1 l2
   refine ix_t rfl ?_
   refine eq_s (sEq_str _ _) ?_
   refine on_n (by decide) ?_
   refine ix_t rfl ?_
   refine eq_s (sEq_str _ _) ?_
   refine on_y (by decide) ?_
   refine ⟨isIns_s mx1 rfl, ?_⟩
   refine ⟨d', n, re, c, body, f, τ, x, an, tn, ak, rw, ct, _, cs1, _, by omega, rfl, hc, hb, h, sf1, mt1, by omega, by omega, mr1, mc1, ntc, hc1, by rw [List.length_append, hoj]; omega, by rw [List.length_append, wants_len]; omega, fun C3 cs3 mr3 mc3 hc3 sf3 x3 => ?_⟩
   refine hL _ _ ⟨_, _, js ++ _, is3, cs3, rfl, t, by rw [List.append_assoc], ?_, mc3, ?_, sf3, x3 _ _ ntS mt1, x1.trans x3⟩
   ·rw [mr3, wants_app, List.append_assoc]
   ·rw [oks_app, ← List.append_assoc]; exact hc3
 ·rintro ρ C1 ⟨x5, x6, js, is2, cs1, rfl, lr2, rfl, mr1, mc1, hc1, sf1, mt1, x1⟩
  cases lr2
  rw [List.append_nil] at q
  exact q C1 cs1 mr1 mc1 hc1 sf1 x1
end
end K08
set_option Elab.async false
set_option linter.all false
set_option maxRecDepth 100000
set_option maxHeartbeats 1000000
namespace K08
open PySem L2 CL
section
variable {P : Program} {w : World} {K : PySem.W.Frag} {mg : Str → Option Value} {base : Heap} {a : Adr}
theorem itemsT_i {co : TCE} {ρ : CSt} {C : CH} {Q : K1} (h : co ρ C fun x C1 => ∃ b kvs, x = .ref b ∧ C1 b = some (.dT kvs) ∧ Q (.vw b) C1) (mono : ∀ (Q1 Q2 : K1), (∀ v C1, Q1 v C1 → Q2 v C1) → co ρ C Q1 → co ρ C Q2) : cItemsT co ρ C Q := by
 unfold cItemsT
 refine mono _ _ ?_ h
 rintro v C1 ⟨b, kvs, rfl, m, q⟩
 dsimp only
 rw [m]
 exact q
theorem sortedT_s {p : Addr} {C : CH} {Q : K1} {kvs : List (List Key × PV)} {cs : List (List Str × Int)} (m : C p = some (.dT kvs)) (e : tiK kvs = some cs) (h : cs.length < 64) (q : ∀ p', C p' = none → Q (.ref p') (updC C p' (.lst ((ordT cs).map tiPV)))) : cSortedT [.vw p] C Q := by
 unfold cSortedT
 dsimp only
 rw [m]
 dsimp only
 rw [e]
 exact ⟨h, q⟩
theorem ask_ti {kvs : List (List Key × PV)} (h : Ask kvs) : ∃ cs, tiK kvs = some cs ∧ cs.length < 64 := by
 rcases h with rfl | rfl | rfl | rfl | rfl
 ·exact ⟨_, rfl, by show 0 < 64; decide⟩
 ·exact ⟨_, rfl, by show 1 < 64; decide⟩
 ·exact ⟨_, rfl, by show 1 < 64; decide⟩
 ·exact ⟨_, rfl, by show 2 < 64; decide⟩
 ·exact ⟨_, rfl, by show 2 < 64; decide⟩
theorem fld_mono {c : Addr} {f : Str} {x : PV} {C : CH} (Q1 Q2 : K1) (h : ∀ v C1, Q1 v C1 → Q2 v C1) (q : cFld c f x C Q1) : cFld c f x C Q2 := by
 unfold cFld at q ⊢
 split at q
 ·split at q
  ·refine ⟨q.1, ?_⟩
   have q := q.2
   split at q
   ·exact h _ _ q
   ·exact q
  ·exact q
 ·exact q
theorem var_mono {i : Nat} {ρ : CSt} {C : CH} (Q1 Q2 : K1) (h : ∀ v C1, Q1 v C1 → Q2 v C1) (q : cVar i ρ C Q1) : cVar i ρ C Q2 := by
 unfold cVar at q ⊢
 split at q
 ·exact h _ _ q
 ·exact q
def gDrawn : GC := fun ts C Q => ∃ (p0 p1 : PV) (lines : List PV) (is : Its) (an : Addr) (d : Nat), ts = [.tup [p0, p1, .tup [], .tup lines], .ref an] ∧ d = 7 ∧ LR d [] lines is ∧ is.length ≤ 900 ∧ C an = some (.dT ANS) ∧ ∀ X C', Gr C C' → Q (.tup [X, .tup (wantsOf [] is), .tup []]) C'
theorem ok_drawn (T : Txt P w K mg a) : FnOk P w K mg base CX0 31 a.drawn a.d_drawn ["part", "answers"] (spC K gDrawn) := by
 have S := sc_drawn
 have G_Drawer___init__ := (ok_init (base := base) T).mono (show 1 ≤ 29 by decide)
 have G_Drawer_row := (ok_row T (ok_bring (base := base) T 8)).mono (show 3 * 8 + 5 + 1 ≤ 30 by decide)
 have G_Drawer_numbered := (ok_numbered (base := base) T).mono (show 5 ≤ 30 by decide)
 refine Fun.okC T.F_drawn sc_drawn (fun ts C R h => ?_) fun cdv A outer s H E hr => ⟨_, (cb_cons (cs_set (i := 2) S.nd rfl (Or.inl rfl) (ce_make T.mk_Drawer G_Drawer___init__ hr rfl T.m_Drawer T.b_Drawer___init__ pass0 (ca_cons (cv 1) ca_nil)))
  (cb_cons (cs_set (i := 3) S.nd rfl (Or.inl rfl) (ce_meth T.cl_Drawer T.M_Drawer_row G_Drawer_row hr T.b_Drawer_row pass0 (cv 2) (ca_cons (ce_ix (r := rIx K) ix_seqC cop_ix (cv 0) ce_int (fun _ _ => rfl)) (ca_cons ce_dnew ca_nil))))
  (cb_cons (cs_set (i := 4) S.nd rfl (Or.inl rfl) (ce_callTy call_tuple_of cbi_tup rfl T.z_tuple rfl (ca_cons (ce_meth T.cl_Drawer T.M_Drawer_numbered G_Drawer_numbered hr T.b_Drawer_numbered pass0 (cv 2) (ca_cons (ce_ix (r := rIx K) ix_seqC cop_ix (cv 0) ce_int (fun _ _ => rfl)) (ca_cons ce_dnew ca_nil))) ca_nil)))
  (cb_one (cs_ret (ce_tup (ca_cons (ce_callTy call_tuple_of cbi_tup rfl T.z_tuple rfl (ca_cons (ce_callB (call_sortedT rfl) (cbi_sortedT (hu2_of hr)) rfl T.z_sorted rfl (ca_cons (ce_itemsT (ce_fld T.cl_Drawer T.N_Drawer_asked (cv 2))) ca_nil)) ca_nil)) (ca_cons (cv 3) (ca_cons (cv 4) ca_nil))))))))), ?_⟩
 ·obtain ⟨_, _, _, _, _, _, rfl, _⟩ := h; rfl
 rintro ts C R ⟨p0, p1, lines, is, an, d, rfl, rfl, lr, hl, man, q⟩
 intro x dx x0 dx0 ndx
 have nax : an ≠ x := fun z => by rw [z, x0] at man; cases man
 refine ⟨x, dx, an, rfl, updC_same, by rw [updC_ne nax]; exact man, fun C1 ak ak0 sf1 x1 => ⟨rfl, ?_⟩⟩
 try dsimp only
 have g1 : Gr C C1 := fun b o h => by
  have : b ≠ x := fun z => by rw [z, x0] at h; cases h
  exact x1 b o (fun z => this (List.mem_singleton.1 z)) (by rw [updC_ne this]; exact h)
 have ak0' : C ak = none := by
  rw [updC_ne (Ne.symm sf1.nx)] at ak0
  exact ak0
 have exg : ∀ {C2 C3 : CH}, Gr C C2 → ExS [ak] C2 C3 → Gr C C3 := fun g e b o h => e b o (fun z => by rw [List.mem_singleton.1 z, ak0'] at h; cases h) (g b o h)
 obtain ⟨dx1, mx1⟩ := sf1.ins
 refine seq_set (i := 3) ?_
 refine ⟨isIns_s mx1 rfl, ?_⟩
 refine ix_t rfl ?_
 intro p p00
 have sf2 := sf1.new p00 (.dK [])
 refine ⟨7, lines, is, [], x, an, p, ak, rfl, rfl, lr, sf2, updC_same, by decide, by decide, hl, fun C3 sf3 x3 => ?_⟩
 try dsimp only
 have g3 : Gr C C3 := exg (g1.trans (Gr.new p00 _)) x3
 obtain ⟨dx3, mx3⟩ := sf3.ins
 refine seq_set (i := 4) ?_
 refine ⟨isIns_s mx3 rfl, ?_⟩
 refine ix_t rfl ?_
 intro p2 p20
 have sf4 := sf3.new p20 (.dK [])
 refine ⟨[], [], x, an, p2, ak, rfl, Nat.zero_le _, (fun p hp => by cases hp), sf4, updC_same, fun C5 l l0 m5 sf5 x5 => ?_⟩
 have g5 : Gr C C5 := exg (g3.trans (Gr.new p20 _)) x5
 refine tup_l m5 ?_
 try dsimp only
 obtain ⟨dx5, mx5⟩ := sf5.ins
 obtain ⟨kvs, mk5, ha⟩ := sf5.ask
 obtain ⟨cs, hcs, hcl⟩ := ask_ti ha
 refine itemsT_i ?_ ?_
 ·refine fld_s mx5 rfl ?_
  refine ⟨ak, kvs, rfl, mk5, ?_⟩
  refine sortedT_s mk5 hcs hcl fun p6 p60 => ?_
  refine tup_l updC_same ?_
  refine ⟨by show 3 ≤ sizeLine; decide, ?_⟩
  exact q _ _ (g5.trans (Gr.new p60 _))
 ·intro Q1 Q2 h q
  exact var_mono _ _ (fun v C1 q => fld_mono _ _ h q) q
end
end K08
set_option Elab.async false
set_option linter.all false
set_option maxRecDepth 100000
set_option maxHeartbeats 1000000
namespace K08
open PySem L2 CL
section
variable {P : Program} {w : World} {K : PySem.W.Frag} {mg : Str → Option Value} {base : Heap} {a : Adr}
def Sq (C : CH) (x : PV) (xs : List PV) (k : Ty) : Prop := (k = .tup ∧ x = .tup xs) ∨ (k = .lst ∧ ∃ a, x = .ref a ∧ C a = some (.lst xs))
theorem Sq.gr {C C' : CH} {x : PV} {xs : List PV} {k : Ty} (h : Sq C x xs k) (g : Gr C C') : Sq C' x xs k := by
 rcases h with h | ⟨e, a, ea, h⟩
 ·exact .inl h
 ·exact .inr ⟨e, a, ea, g a _ h⟩
theorem Sq.ty {C : CH} {x : PV} {xs : List PV} {k : Ty} (h : Sq C x xs k) : tyP C x = some k := by
 rcases h with ⟨rfl, rfl⟩ | ⟨rfl, a, rfl, h⟩
 ·rfl
 ·show (match C a with | some (.lst _) => some Ty.lst | some (.dK _) => some Ty.dct | _ => none) = _
  rw [h]
theorem Sq.len {C : CH} {x : PV} {xs : List PV} {k : Ty} {Q : K1} (h : Sq C x xs k) (q : Q (.int xs.length) C) : cLen [x] C Q := by
 rcases h with ⟨rfl, rfl⟩ | ⟨rfl, a, rfl, h⟩
 ·exact len_t q
 ·exact len_l h q
theorem Sq.ix {C : CH} {x v : PV} {xs : List PV} {k : Ty} {i : Int} {Q : K1} (h : Sq C x xs k) (e : atI xs i = some v) (q : Q v C) : cIx x (.int i) C Q := by
 rcases h with ⟨rfl, rfl⟩ | ⟨rfl, a, rfl, h⟩
 ·exact ix_t e q
 ·exact ix_l h e q
def sc : PV → Option Ty
 | .non => some .non
 | .int _ => some .int
 | .str _ => some .str
 | _ => none
def Al : Nat → CH → PV → PV → Prop
 | 0, _, _, _ => False
 | d + 1, C, x, y => (x = y ∧ (sc x).isSome = true) ∨ ∃ xs k, Sq C x xs k ∧ Sq C y xs k ∧ xs.length ≤ 1000 ∧ ∀ z ∈ xs, ∀ C', Al d C' z z
def gAl (d : Nat) : GC := fun ts C Q => ∃ x y, ts = [x, y] ∧ Al d C x y ∧ ∀ C', Gr C C' → Q (.bl true) C'
theorem tyP_gr {C C' : CH} {x : PV} {n : Ty} (h : tyP C x = some n) (g : Gr C C') : tyP C' x = some n := by
 cases x with
 | ref a =>
  unfold tyP at h ⊢
  dsimp only at h ⊢
  split at h
  ·next e => rw [g a _ e]; exact h
  ·next e => rw [g a _ e]; exact h
  ·cases h
 | _ => exact h
theorem index_s {p : Addr} {C : CH} {Q : K1} {bs : List Bool} {j : Nat} (m : C p = some (.lst (bs.map PV.bl))) (h1 : bs[j]? = some true) (h2 : ∀ m, m < j → bs[m]? = some false) (q : Q (.int (j : Nat)) C) : cIndexT (.ref p) [.bl true] C Q := by
 unfold cIndexT
 dsimp only
 rw [m]
 exact ⟨bs, j, rfl, h1, h2, q⟩
def kinds : List Str := ["none", "truth", "whole", "text", "tuple", "list", "dict"]
def flags (x : PV) (k : Ty) : List Bool := [isNo x, isIn k .bl, isIn k .int, isIn k .str, isIn k .tup, isIn k .lst, true]
structure Kd (C : CH) (x : PV) (k : Ty) (j : Nat) : Prop where
 ty : tyP C x = some k
 at_ : (flags x k)[j]? = some true
 no : ∀ m, m < j → (flags x k)[m]? = some false
 lt : j < 7
theorem Kd.gr {C C' : CH} {x : PV} {k : Ty} {j : Nat} (h : Kd C x k j) (g : Gr C C') : Kd C' x k j := ⟨tyP_gr h.ty g, h.at_, h.no, h.lt⟩
def gKind : GC := fun ts C Q => ∃ x k j s, ts = [x] ∧ Kd C x k j ∧ kinds[j]? = some s ∧ ∀ C', Gr C C' → Q (.str s) C'
theorem ok_kind (T : Txt P w K mg a) : FnOk P w K mg base CX0 1 a.l_kind a.d_l_kind ["_law_thing"] (spC K gKind) := by
 have S := sc_l_kind
 refine Fun.okC T.F_l_kind sc_l_kind (fun ts C R h => ?_) fun cdv A outer s H E hr => ⟨_, (cb_cons (cs_set (i := 1) S.nd rfl (Or.inl rfl) (ce_lst (ca_cons (ce_cmp op_isN cop_isN (cv 0) ce_non (nomark _)) (ca_cons (ce_callB call_isinst cbi_isi rfl T.z_isinstance rfl (ca_cons (cv 0) (ca_cons (ce_ty (n := "bool") rfl T.z_bool rfl) ca_nil))) (ca_cons (ce_callB call_isinst cbi_isi rfl T.z_isinstance rfl (ca_cons (cv 0) (ca_cons (ce_ty (n := "int") rfl T.z_int rfl) ca_nil))) (ca_cons (ce_callB call_isinst cbi_isi rfl T.z_isinstance rfl (ca_cons (cv 0) (ca_cons (ce_ty (n := "str") rfl T.z_str rfl) ca_nil))) ca_nil))))))
  (cb_cons (cs_set (i := 1) S.nd rfl (Or.inl rfl) (ce_op op_addC cop_add (cv 1) (ce_lst (ca_cons (ce_callB call_isinst cbi_isi rfl T.z_isinstance rfl (ca_cons (cv 0) (ca_cons (ce_ty (n := "tuple") rfl T.z_tuple rfl) ca_nil))) (ca_cons (ce_callB call_isinst cbi_isi rfl T.z_isinstance rfl (ca_cons (cv 0) (ca_cons (ce_ty (n := "list") rfl T.z_list rfl) ca_nil))) (ca_cons ce_bl ca_nil))))))
  (cb_one (cs_ret (ce_ix (r := rIx K) ix_seqC cop_ix (ce_lst (ca_cons ce_str (ca_cons ce_str (ca_cons ce_str (ca_cons ce_str (ca_cons ce_str (ca_cons ce_str (ca_cons ce_str ca_nil)))))))) (ce_bm PySem.F.plainAttrs_list PySem.F.slot_list_index PySem.F.type_list_index mt_indexT cmt_indexT (cv 1) (ca_cons ce_bl ca_nil)) (fun _ _ => rfl)))))), ?_⟩
 ·obtain ⟨_, _, _, _, rfl, _⟩ := h; rfl
 rintro ts C R ⟨x, k, j, s, rfl, hk, hs, q⟩
 refine isi_s (T := .bl) rfl hk.ty ?_
 refine isi_s (T := .int) rfl hk.ty ?_
 refine isi_s (T := .str) rfl hk.ty ?_
 refine ⟨by show 4 ≤ sizeLine; decide, fun p hp => ?_⟩
 have g1 : Gr C (updC C p (.lst [.bl (isNo x), .bl (isIn k .bl), .bl (isIn k .int), .bl (isIn k .str)])) := Gr.new hp _
 try dsimp only
 refine seq_set (i := 1) ?_
 refine isi_s (T := .tup) rfl (tyP_gr hk.ty g1) ?_
 refine isi_s (T := .lst) rfl (tyP_gr hk.ty g1) ?_
 refine ⟨by show 3 ≤ sizeLine; decide, fun p2 hp2 => ?_⟩
 refine add_l (xs := [.bl (isNo x), .bl (isIn k .bl), .bl (isIn k .int), .bl (isIn k .str)]) (ys := [.bl (isIn k .tup), .bl (isIn k .lst), .bl true]) ((Gr.new hp2 _) _ _ updC_same) updC_same (by show 7 ≤ sizeLine; decide) fun p3 hp3 => ?_
 try dsimp only
 refine ⟨by show 7 ≤ sizeLine; decide, fun p4 hp4 => ?_⟩
 refine ⟨isL_l ((Gr.new hp4 _) _ _ updC_same), ?_⟩
 refine index_s (bs := flags x k) ((Gr.new hp4 _) p3 _ updC_same) hk.at_ hk.no ?_
 have hlt : j < (kinds.map PV.str).length := by rw [List.length_map]; exact hk.lt
 refine ix_l (xs := kinds.map PV.str) (v := .str s) updC_same ?_ ?_
 ·rw [at_nat hlt, List.getElem_map]
  rw [List.getElem?_eq_getElem (show j < kinds.length from hk.lt)] at hs
  rw [Option.some.inj hs]
 ·exact q _ (((g1.trans (Gr.new hp2 _)).trans (Gr.new hp3 _)).trans (Gr.new hp4 _))
end
end K08
set_option Elab.async false
set_option linter.all false
set_option maxRecDepth 100000
set_option maxHeartbeats 1000000
namespace K08
open PySem L2 CL
section
variable {P : Program} {w : World} {K : PySem.W.Frag} {mg : Str → Option Value} {base : Heap} {a : Adr}
theorem comp_truths {c : TCE} {ρ : CSt} {Q : K1} {C0 : CH} {m : Nat} (h : ∀ (k : Nat) C (Q' : K1), k < m → Gr C0 C → (∀ C', Gr C C' → Q' (.bl true) C') → c (some (.int (k : Int)) :: ρ) C Q')
  (q : ∀ p n C', Gr C0 C' → C' p = some (.lst (List.replicate n (.bl true))) → Q (.ref p) C') (L : List Nat) : ∀ (n : Nat) (C : CH), (∀ k ∈ L, k < m) → n + L.length ≤ 1000 → Gr C0 C → cCompW cYes c ρ Q (L.map fun k => PV.int (k : Nat)) (List.replicate n (.bl true)) C := by
 induction L with
 | nil => intro n C _ _ g; exact comp_nil fun p hp => q p n _ (g.trans (Gr.new hp _)) updC_same
 | cons k L ih =>
  intro n C hm hl g
  have hl' : n + (L.length + 1) ≤ 1000 := hl
  refine comp_cons ?_
  show c (some (.int (k : Int)) :: ρ) C fun y C2 => (List.replicate n (PV.bl true)).length < sizeLine ∧ cCompW cYes c ρ Q (L.map fun k => PV.int (k : Nat)) (List.replicate n (.bl true) ++ [y]) C2
  refine h k C _ (hm k List.mem_cons_self) g fun C' g' => ⟨?_, ?_⟩
  ·rw [List.length_replicate]
   exact Nat.lt_of_lt_of_le (show n < 1000 by omega) (by decide)
  ·have e : List.replicate n (PV.bl true) ++ [.bl true] = List.replicate (n + 1) (.bl true) := by rw [List.replicate_succ']
   rw [e]
   exact ih (n + 1) C' (fun j hj => hm j (List.mem_cons_of_mem _ hj)) (by omega) (g.trans g')
theorem flat_true : ∀ n : Nat, flatPs (List.replicate n (PV.bl true)) = some (List.replicate n (V.bl true))
 | 0 => rfl
 | n + 1 => by
  rw [List.replicate_succ, List.replicate_succ]
  show (match flatP (.bl true), flatPs (List.replicate n (PV.bl true)) with | some v, some vs => some (v :: vs) | _, _ => none) = _
  rw [flat_true n]
  rfl
theorem in_true : ∀ n : Nat, inV (.bl false) (List.replicate n (V.bl true)) = false
 | 0 => rfl
 | n + 1 => by
  rw [List.replicate_succ]
  show (eqV (.bl true) (.bl false) || inV (.bl false) (List.replicate n (V.bl true))) = false
  rw [in_true n]
  rfl
theorem sc_kd {C : CH} {x : PV} (h : (sc x).isSome = true) : ∃ k j s, Kd C x k j ∧ kinds[j]? = some s ∧ s ≠ "dict" ∧ inV (.str s) [.str "tuple", .str "list", .str "dict"] = false ∧ inV (.str s) [.str "tuple", .str "list"] = false ∧ sEq x x = some true := by
 cases x with
 | non => exact ⟨.non, 0, "none", ⟨rfl, rfl, fun m hm => absurd hm (Nat.not_lt_zero m), by decide⟩, rfl, by decide, by decide, by decide, rfl⟩
 | int i => exact ⟨.int, 2, "whole", ⟨rfl, rfl, fun m hm => by rcases (show m = 0 ∨ m = 1 by omega) with rfl | rfl <;> rfl, by decide⟩, rfl, by decide, by decide, by decide, by show some (decide (i = i)) = _; rw [decide_eq_true rfl]⟩
 | str i => exact ⟨.str, 3, "text", ⟨rfl, rfl, fun m hm => by rcases (show m = 0 ∨ m = 1 ∨ m = 2 by omega) with rfl | rfl | rfl <;> rfl, by decide⟩, rfl, by decide, by decide, by decide, by show some (decide (i = i)) = _; rw [decide_eq_true rfl]⟩
 | _ => cases h
theorem sq_kd {C : CH} {x : PV} {xs : List PV} {k : Ty} (h : Sq C x xs k) : ∃ j s, Kd C x k j ∧ kinds[j]? = some s ∧ (k = .tup → j = 4) ∧ (k = .lst → j = 5) ∧ s ≠ "dict" ∧ inV (.str s) [.str "tuple", .str "list", .str "dict"] = true ∧ inV (.str s) [.str "tuple", .str "list"] = true := by
 have ty := h.ty
 rcases h with ⟨rfl, rfl⟩ | ⟨rfl, b, rfl, h⟩
 ·exact ⟨4, "tuple", ⟨ty, rfl, fun m hm => by rcases (show m = 0 ∨ m = 1 ∨ m = 2 ∨ m = 3 by omega) with rfl | rfl | rfl | rfl <;> rfl, by decide⟩, rfl, fun _ => rfl, (fun z => nomatch z), by decide, by decide, by decide⟩
 ·exact ⟨5, "list", ⟨ty, rfl, fun m hm => by rcases (show m = 0 ∨ m = 1 ∨ m = 2 ∨ m = 3 ∨ m = 4 by omega) with rfl | rfl | rfl | rfl | rfl <;> rfl, by decide⟩, rfl, (fun z => nomatch z), fun _ => rfl, by decide, by decide, by decide⟩
theorem ok_alike (T : Txt P w K mg a) (d : Nat) : FnOk P w K mg base CX0 (d + 2) a.l_alike a.d_l_alike ["_law_one_here", "_law_other"] (spC K (gAl d)) := by
 induction d with
 | zero => exact ⟨fun vs H Q E ⟨ts, C, R, _, _, ⟨x, y, _, h, _⟩, _⟩ => h.elim, fun _ _ _ _ _ _ _ _ _ _ _ _ _ ⟨ts, C, R, _, _, ⟨x, y, _, h, _⟩, _⟩ => h.elim⟩
 | succ d ih =>
 have S := sc_l_alike
 have G_l_kind := (ok_kind (base := base) T).mono (show 1 ≤ d + 2 by omega)
 have G_l_alike := ih
 refine Fun.okC T.F_l_alike sc_l_alike (fun ts C R h => ?_) fun cdv A outer s H E hr => ⟨_, (cb_cons (cs_set (i := 2) S.nd rfl (Or.inl rfl) (ce_call G_l_kind hr rfl T.m_l_kind T.k_l_kind T.b_l_kind pass0 (ca_cons (cv 0) ca_nil)))
  (cb_cons (cs_if (ct_cmp op_ne cop_ne (cv 2) (ce_call G_l_kind hr rfl T.m_l_kind T.k_l_kind T.b_l_kind pass0 (ca_cons (cv 1) ca_nil)) (nomark _)) (cb_one (cs_ret ce_bl)) cb_nil)
  (cb_cons (cs_if (ct_cmp op_eq cop_eq (cv 2) ce_str (nomark _)) (cb_one (cs_forT PassesOwn.never rfl (cv 0) (cg_name (i := 3) S.nd rfl (Or.inr rfl)) (cb_cons (cs_setC (i := 4) (show (["_law_one_here", "_law_other", "_law_sort", "_law_key_here", "_law_twins"] : List Str).Nodup by decide +kernel) rfl (Or.inl rfl) rfl (show (["_law_twin", "_law_one_here", "_law_other", "_law_sort", "_law_key_here", "_law_twins"] : List Str).Nodup by decide +kernel) (comp_okF (N := ["_law_one_here", "_law_other", "_law_sort", "_law_key_here", "_law_twins"]) (sc := defScope s_l_alike) rfl rfl rfl (by decide +kernel)) (ci_tup (cv 1)) (fun _ _ _ _ _ => (cf_one (ct_val (ce_call G_l_alike hr rfl T.m_l_alike T.k_l_alike T.b_l_alike pass0 (ca_cons (cv 4) (ca_cons (cv 0) ca_nil)))))) (fun _ _ _ _ _ => (cv 0)))
  (cb_one (cs_if (cw_pt (cw_or (ct_cmp op_ne cop_ne (ce_callB call_lenC cbi_len rfl T.z_len rfl (ca_cons (cv 4) ca_nil)) ce_int (nomark _)) (cw_or1 (ct_not (ct_val (ce_call G_l_alike hr rfl T.m_l_alike T.k_l_alike T.b_l_alike pass0 (ca_cons (ce_ix (r := rIx K) ix_seqC cop_ix (cv 0) (cv 3) (fun _ _ => rfl)) (ca_cons (ce_ix (r := rIx K) ix_seqC cop_ix (cv 1) (ce_ix (r := rIx K) ix_seqC cop_ix (cv 4) ce_int (fun _ _ => rfl)) (fun _ _ => rfl)) ca_nil)))))))) (cb_one (cs_ret ce_bl)) cb_nil))))) cb_nil)
  (cb_cons (cs_if (cw_pt (cw_and (ct_cmp op_in_seq cop_inS (cv 2) (ce_tup (ca_cons ce_str (ca_cons ce_str (ca_cons ce_str ca_nil)))) rfl) (cw_and1 (ct_cmp op_ne cop_ne (ce_callB call_lenC cbi_len rfl T.z_len rfl (ca_cons (cv 0) ca_nil)) (ce_callB call_lenC cbi_len rfl T.z_len rfl (ca_cons (cv 1) ca_nil)) (nomark _))))) (cb_one (cs_ret ce_bl)) cb_nil)
  (cb_cons (cs_if (ct_cmp op_in_seq cop_inS (cv 2) (ce_tup (ca_cons ce_str (ca_cons ce_str ca_nil))) rfl) (cb_one (cs_ret (ce_cmp op_notIn_seq cop_inS ce_bl (ce_comp rfl (show (["_law_k", "_law_one_here", "_law_other", "_law_sort", "_law_key_here", "_law_twins"] : List Str).Nodup by decide +kernel) (comp_okF (N := ["_law_one_here", "_law_other", "_law_sort", "_law_key_here", "_law_twins"]) (sc := defScope s_l_alike) rfl rfl rfl (by decide +kernel)) (ci_rng rfl T.z_range (ca_cons (ce_callB call_lenC cbi_len rfl T.z_len rfl (ca_cons (cv 0) ca_nil)) ca_nil)) (fun _ _ _ _ _ => cf_nil) (fun _ _ _ _ _ => (ce_call G_l_alike hr rfl T.m_l_alike T.k_l_alike T.b_l_alike pass0 (ca_cons (ce_ix (r := rIx K) ix_seqC cop_ix (cv 1) (cv 0) (fun _ _ => rfl)) (ca_cons (ce_ix (r := rIx K) ix_seqC cop_ix (cv 2) (cv 0) (fun _ _ => rfl)) ca_nil))))) rfl))) cb_nil)
  (cb_one (cs_ret (ce_or (ce_cmp op_eq cop_eq (cv 2) ce_str (nomark _)) (ce_one (ce_cmp op_eq cop_eq (cv 0) (cv 1) (nomark _))))))))))), ?_⟩
 ·obtain ⟨x, y, rfl, _⟩ := h; rfl
 rintro ts C R ⟨x, y, rfl, (⟨rfl, hs⟩ | ⟨xs, k, hx, hy, hl, hz⟩), q⟩
 ·obtain ⟨k, j, s, h1, h2, n1, n2, n3, e⟩ := sc_kd (C := C) hs
  refine ⟨x, k, j, s, rfl, h1, h2, fun C1 g1 => ?_⟩
  try dsimp only
  refine seq_i ?_
  refine ⟨x, k, j, s, rfl, h1.gr g1, h2, fun C2 g2 => ?_⟩
  refine eq_s (sEq_str _ _) ?_
  refine on_n (by rw [decide_eq_true rfl]; rfl) ?_
  refine nx_i ?_
  try dsimp only
  refine seq_i ?_
  refine eq_s (sEq_str _ _) ?_
  refine on_n (by rw [decide_eq_false n1]; rfl) ?_
  refine nx_i ?_
  try dsimp only
  refine seq_i ?_
  refine ⟨by show 3 ≤ sizeLine; decide, ?_⟩
  refine inS_s rfl rfl rfl ?_
  refine on_n n2 ?_
  refine if_n rfl ?_
  refine nx_i ?_
  try dsimp only
  refine seq_i ?_
  refine ⟨by show 2 ≤ sizeLine; decide, ?_⟩
  refine inS_s rfl rfl rfl ?_
  refine on_n n3 ?_
  refine nx_i ?_
  try dsimp only
  refine eq_s (sEq_str _ _) ?_
  refine on_n (by rw [decide_eq_false n1]; rfl) ?_
  refine eq_s e ?_
  exact q _ (g1.trans g2)
 ·obtain ⟨j, s, h1, h2, j1, j2, n1, n2, n3⟩ := sq_kd hx
  obtain ⟨j', s', h1', h2', j1', j2', _, _, _⟩ := sq_kd hy
  have hj : j = j' := by
   rcases hx with ⟨e, _⟩ | ⟨e, _⟩
   ·rw [j1 e, j1' e]
   ·rw [j2 e, j2' e]
  subst hj
  have es : s = s' := Option.some.inj (h2.symm.trans h2')
  subst es
  refine ⟨x, k, j, s, rfl, h1, h2, fun C1 g1 => ?_⟩
  try dsimp only
  refine seq_i ?_
  refine ⟨y, k, j, s, rfl, h1'.gr g1, h2, fun C2 g2 => ?_⟩
  have hx2 := (hx.gr g1).gr g2
  have hy2 := (hy.gr g1).gr g2
  refine eq_s (sEq_str _ _) ?_
  refine on_n (by rw [decide_eq_true rfl]; rfl) ?_
  refine nx_i ?_
  try dsimp only
  refine seq_i ?_
  refine eq_s (sEq_str _ _) ?_
  refine on_n (by rw [decide_eq_false n1]; rfl) ?_
  refine nx_i ?_
  try dsimp only
  refine seq_i ?_
  refine ⟨by show 3 ≤ sizeLine; decide, ?_⟩
  refine inS_s rfl rfl rfl ?_
  refine on_y n2 ?_
  refine hx2.len ?_
  refine hy2.len ?_
  refine eq_s (b := true) (by show some (decide _) = _; rw [decide_eq_true rfl]) ?_
  refine on_n rfl ?_
  refine nx_i ?_
  try dsimp only
  refine seq_i ?_
  refine ⟨by show 2 ≤ sizeLine; decide, ?_⟩
  refine inS_s rfl rfl rfl ?_
  refine on_y n3 ?_
  refine hx2.len ?_
  refine ⟨by omega, by omega, ?_⟩
  refine comp_truths (m := xs.length) (C0 := C2) (fun k C3 Q' hk g3 hq => ?_) (fun p n C' g' m => ?_) _ 0 C2 (fun k hk => ?_) ?_ Gr.refl
  ·refine (hx2.gr g3).ix (at_nat hk) ?_
   refine (hy2.gr g3).ix (at_nat hk) ?_
   exact ⟨xs[k], xs[k], rfl, hz _ (List.getElem_mem hk) _, hq⟩
  ·refine inS_s (ts := List.replicate n (.bl true)) (by show (match C' p with | some (.lst xs) => some xs | _ => none) = _; rw [m]) rfl (flat_true n) ?_
   rw [in_true]
   exact q _ ((g1.trans g2).trans g')
  ·have := List.mem_range.1 hk
   omega
  ·rw [List.length_range]
   omega
end
end K08
set_option Elab.async false
set_option linter.all false
set_option maxRecDepth 100000
set_option maxHeartbeats 1000000
namespace K08
open PySem L2 CL
section
variable {P : Program} {w : World} {K : PySem.W.Frag} {mg : Str → Option Value} {base : Heap} {a : Adr}
theorem compL_g {ce : TCE} {c : TCE} {ρ : CSt} {C : CH} {Q : K1} (h : ce ρ C fun x C1 => ∃ b xs, x = .ref b ∧ C1 b = some (.lst xs) ∧ cCompS (fun C => C b = some (.lst xs)) cYes c ρ Q xs [] C1) (mono : ∀ (Q1 Q2 : K1), (∀ v C1, Q1 v C1 → Q2 v C1) → ce ρ C Q1 → ce ρ C Q2) : cCompL ce cYes c ρ C Q := by
 unfold cCompL
 refine mono _ _ ?_ h
 rintro v C1 ⟨b, xs, rfl, m, q⟩
 dsimp only
 rw [m]
 exact q
theorem sl_mono {x : PV} {lo hi : Option Int} {C : CH} (Q1 Q2 : K1) (h : ∀ v C1, Q1 v C1 → Q2 v C1) (q : cSlL x lo hi C Q1) : cSlL x lo hi C Q2 := by
 unfold cSlL at q ⊢
 split at q
 ·split at q
  ·exact fun p hp => h _ _ (q p hp)
  ·exact q
 ·exact q
theorem sl_l {b : Addr} {xs : List PV} {lo hi : Option Int} {C : CH} {Q : K1} (h : C b = some (.lst xs)) (q : ∀ p, C p = none → Q (.ref p) (updC C p (.lst (cutP xs lo hi)))) : cSlL (.ref b) lo hi C Q := by
 unfold cSlL
 dsimp only
 rw [h]
 exact q
theorem rep_l {b : Addr} {xs : List PV} {C : CH} {Q : K1} (h : C b = some (.lst xs)) (z : xs.length ≤ 100) (q : ∀ p, C p = none → Q (.ref p) (updC C p (.lst (xs ++ xs)))) : cRepL (.ref b) (.int 2) C Q := by
 unfold cRepL
 dsimp only
 rw [h]
 refine ⟨by decide, by decide, le_size (by show xs.length * 2 ≤ 1000; omega), fun p hp => ?_⟩
 have e : (List.replicate (2 : Int).toNat xs).flatten = xs ++ xs := by
  show (List.replicate 2 xs).flatten = _
  rw [List.replicate_succ, List.replicate_succ, List.replicate_zero, List.flatten_cons, List.flatten_cons, List.flatten_nil, List.append_nil]
 rw [e]
 exact q p hp
theorem rep_t {z : PV} {k : Int} {C : CH} {Q : K1} (h1 : 0 ≤ k) (h2 : k < 64) (q : Q (.tup (List.replicate k.toNat z)) C) : cRepL (.tup [z]) (.int k) C Q := by
 unfold cRepL
 exact ⟨h1, h2, q⟩
def KOk (names : List Str) (k : KE) : Prop := k = none ∨ k = some (.num 0) ∨ k = some (.box "a") ∨ k = some (.num (-7)) ∨ ∃ n ∈ names, k = some (.turn n)
def keys (names : List Str) : List KE := [none, some (.num 0), some (.box "a"), some (.num (-7))] ++ (names.map (fun n => some (RE.turn n)) ++ names.map (fun n => some (RE.turn n)))
theorem keys_ok {names : List Str} {k : KE} (h : k ∈ keys names) : KOk names k := by
 rcases List.mem_append.1 h with h | h
 ·rcases List.mem_cons.1 h with h | h
  ·exact .inl h
  rcases List.mem_cons.1 h with h | h
  ·exact .inr (.inl h)
  rcases List.mem_cons.1 h with h | h
  ·exact .inr (.inr (.inl h))
  ·exact .inr (.inr (.inr (.inl (List.mem_singleton.1 h))))
 ·have : k ∈ names.map (fun n => some (RE.turn n)) := by rcases List.mem_append.1 h with h | h <;> exact h
  obtain ⟨n, hn, rfl⟩ := List.mem_map.1 this
  exact .inr (.inr (.inr (.inr ⟨n, hn, rfl⟩)))
def gKey : GC := fun ts C Q => ∃ (t nl : Addr) (ns : List Int) (names : List Str), ts = [.ref t, .ref nl] ∧ Tp C t ns ∧ C nl = some (.lst (names.map PV.str)) ∧ names.length ≤ 2 ∧ ∀ k C', KOk names k → Tp C' t ns → Ex t C C' → Q (kePV k) C'
theorem ok_key (T : Txt P w K mg a) : FnOk P w K mg base CX0 2 a.l_key a.d_l_key ["_law_tape_here", "_law_names"] (spC K gKey) := by
 have S := sc_l_key
 have G_l_draw := ok_draw (base := base) T
 refine Fun.okC T.F_l_key sc_l_key (fun ts C R h => ?_) fun cdv A outer s H E hr => ⟨_, (cb_cons (cs_set (i := 2) S.nd rfl (Or.inl rfl) (ce_op op_addC cop_add (ce_lst (ca_cons ce_non (ca_cons (ce_tup (ca_cons ce_str (ca_cons ce_int ca_nil))) (ca_cons (ce_tup (ca_cons ce_str (ca_cons ce_str ca_nil))) (ca_cons (ce_tup (ca_cons ce_str (ca_cons (ce_un un_neg cun_neg ce_int) ca_nil))) ca_nil))))) (ce_op op_repC cop_rep (ce_compL rfl (show (["_law_name", "_law_tape_here", "_law_names", "_law_some"] : List Str).Nodup by decide +kernel) (comp_okF (N := ["_law_tape_here", "_law_names", "_law_some"]) (sc := defScope s_l_key) (L := 0) rfl rfl rfl (by decide +kernel)) (cv 1) (fun _ _ _ _ _ => cf_nil) (fun _ _ _ _ _ => (ce_tup (ca_cons ce_str (ca_cons (cv 0) ca_nil))))) ce_int)))
  (cb_one (cs_ret (ce_ix (r := rIx K) ix_seqC cop_ix (cv 2) (ce_call G_l_draw hr rfl T.m_l_draw T.k_l_draw T.b_l_draw pass0 (ca_cons (cv 0) (ca_cons (ce_callB call_lenC cbi_len rfl T.z_len rfl (ca_cons (cv 2) ca_nil)) ca_nil))) (fun _ _ => rfl))))), ?_⟩
 ·obtain ⟨_, _, _, _, rfl, _⟩ := h; rfl
 rintro ts C R ⟨t, nl, ns, names, rfl, hT, mn, hn, q⟩
 refine ⟨by show 2 ≤ sizeLine; decide, ?_⟩
 refine ⟨by show 2 ≤ sizeLine; decide, ?_⟩
 refine ⟨by show 2 ≤ sizeLine; decide, ?_⟩
 refine ⟨by show 4 ≤ sizeLine; decide, fun p hp => ?_⟩
 have mn1 : (updC C p (.lst [.non, .tup [.str "num", .int 0], .tup [.str "box", .str "a"], .tup [.str "num", .int (-7)]])) nl = some (.lst (names.map PV.str)) := (Gr.new hp _) _ _ mn
 have mp1 : (updC C p (.lst [.non, .tup [.str "num", .int 0], .tup [.str "box", .str "a"], .tup [.str "num", .int (-7)]])) p = some (.lst [.non, .tup [.str "num", .int 0], .tup [.str "box", .str "a"], .tup [.str "num", .int (-7)]]) := updC_same
 have T1 := hT.new hp (.lst [.non, .tup [.str "num", .int 0], .tup [.str "box", .str "a"], .tup [.str "num", .int (-7)]])
 have e1 : Ex t C (updC C p (.lst [.non, .tup [.str "num", .int 0], .tup [.str "box", .str "a"], .tup [.str "num", .int (-7)]])) := Ex.new hp _
 generalize updC C p (.lst [.non, .tup [.str "num", .int 0], .tup [.str "box", .str "a"], .tup [.str "num", .int (-7)]]) = C1 at mn1 mp1 T1 e1 ⊢
 refine compL_g ⟨nl, _, rfl, mn1, ?_⟩ (fun Q1 Q2 h q => var_mono _ _ h q)
 refine compS_inv (fun zs acc C2 => C2 = C1 ∧ ∃ ds es : List Str, names = ds ++ es ∧ zs = es.map PV.str ∧ acc = ds.map fun n => kePV (some (.turn n))) (fun _ _ _ h => by obtain ⟨rfl, _⟩ := h; exact mn1) ?_ ?_ _ _ _ ⟨rfl, [], names, rfl, rfl, rfl⟩
 ·rintro z zs acc C2 ⟨rfl, ds, es, e2, e3, rfl⟩ L hL
  cases es with
  | nil => cases e3
  | cons n es =>
   rw [List.map_cons] at e3
   injection e3 with e3 e4
   subst e3 e4
   refine ⟨by show 2 ≤ sizeLine; decide, ?_⟩
   refine hL _ _ ⟨?_, rfl, ds ++ [n], es, by rw [e2, List.append_assoc]; rfl, rfl, by rw [List.map_append]; rfl⟩
   rw [List.length_map]
   have : ds.length ≤ 2 := by rw [e2, List.length_append] at hn; omega
   exact Nat.lt_of_le_of_lt this (by decide)
 ·rintro acc C2 ⟨rfl, ds, es, e2, e3, rfl⟩ p2 hp2
  cases es with
  | cons _ _ => cases e3
  | nil =>
   rw [List.append_nil] at e2
   subst e2
   refine rep_l updC_same (by rw [List.length_map]; omega) fun p3 hp3 => ?_
   refine add_l ((Gr.new hp3 _) _ _ ((Gr.new hp2 _) _ _ mp1)) updC_same (le_size (by show 4 + _ ≤ 1000; rw [List.length_append, List.length_map]; omega)) fun p4 hp4 => ?_
   try dsimp only
   have ek : [PV.non, .tup [.str "num", .int 0], .tup [.str "box", .str "a"], .tup [.str "num", .int (-7)]] ++ (names.map (fun n => kePV (some (.turn n))) ++ names.map (fun n => kePV (some (.turn n)))) = (keys names).map kePV := by
    unfold keys
    rw [List.map_append, List.map_append, List.map_map]
    rfl
   rw [ek]
   have T4 := ((T1.new hp2 (.lst (names.map fun n => kePV (some (.turn n))))).new hp3 (.lst (names.map (fun n => kePV (some (.turn n))) ++ names.map (fun n => kePV (some (.turn n)))))).new hp4 (.lst ((keys names).map kePV))
   refine len_l updC_same ?_
   have kl : (keys names).length = 4 + (names.length + names.length) := by
    unfold keys
    rw [List.length_append, List.length_append, List.length_map]
    rfl
   refine ⟨t, _, ns, rfl, T4, by rw [List.length_map, kl]; omega, by rw [List.length_map, kl]; omega, fun v C5 v0 v1 T5 e5 => ?_⟩
   have m5 := e5 p4 _ (Tp.ne (T1.new hp2 _ |>.new hp3 _) hp4) updC_same
   obtain ⟨j, rfl⟩ : ∃ j : Nat, v = (j : Int) := ⟨v.toNat, by omega⟩
   have hj : j < ((keys names).map kePV).length := by omega
   have hj2 : j < (keys names).length := by rw [List.length_map] at hj; exact hj
   refine ix_l m5 (at_nat hj) ?_
   rw [List.getElem_map]
   exact q _ C5 (keys_ok (List.getElem_mem hj2)) T5 ((((e1.trans (Ex.new hp2 _)).trans (Ex.new hp3 _)).trans (Ex.new hp4 _)).trans e5)
def gCount : GC := fun ts C Q => ∃ (t : Addr) (ns : List Int) (n : Int), ts = [.ref t, .int n] ∧ Tp C t ns ∧ -1000 ≤ n ∧ n ≤ 1000 ∧ ∀ (re : RE) C', (∀ τ, re.is τ n) → Tp C' t ns → Ex t C C' → Q re.pv C'
theorem ok_count (T : Txt P w K mg a) : FnOk P w K mg base CX0 2 a.l_count a.d_l_count ["_law_tape_here", "_law_number"] (spC K gCount) := by
 have S := sc_l_count
 have G_l_draw := ok_draw (base := base) T
 refine Fun.okC T.F_l_count sc_l_count (fun ts C R h => ?_) fun cdv A outer s H E hr => ⟨_, (cb_cons (cs_if (ct_cmp op_eq cop_eq (ce_call G_l_draw hr rfl T.m_l_draw T.k_l_draw T.b_l_draw pass0 (ca_cons (cv 0) (ca_cons ce_int ca_nil))) ce_int (nomark _)) (cb_one (cs_ret (ce_tup (ca_cons ce_str (ca_cons (cv 1) ca_nil))))) cb_nil)
  (cb_one (cs_ret (ce_tup (ca_cons ce_str (ca_cons (ce_tup (ca_cons ce_str (ca_cons ce_str ca_nil))) (ca_cons (ce_tup (ca_cons ce_str (ca_cons (cv 1) ca_nil))) ca_nil))))))), ?_⟩
 ·obtain ⟨_, _, _, rfl, _⟩ := h; rfl
 rintro ts C R ⟨t, ns, n, rfl, hT, n1, n2, q⟩
 refine seq_i ?_
 refine ⟨t, 2, ns, rfl, hT, by decide, by decide, fun v C1 v0 v1 T1 e1 => ?_⟩
 refine eq_s (sEq_int _ _) ?_
 refine on_b (fun hb => ?_) fun hb => ?_
 ·refine ⟨by show 2 ≤ sizeLine; decide, ?_⟩
  exact q (.num n) C1 (fun τ => rfl) T1 e1
 ·refine nx_i ?_
  try dsimp only
  refine ⟨by show 2 ≤ sizeLine; decide, ?_⟩
  refine ⟨by show 2 ≤ sizeLine; decide, ?_⟩
  refine ⟨by show 3 ≤ sizeLine; decide, ?_⟩
  exact q (.add "n" n) C1 (fun τ => ⟨.inr rfl, by show n = 0 + n; omega, n1, n2⟩) T1 e1
end
end K08
set_option Elab.async false
set_option linter.all false
set_option maxRecDepth 100000
set_option maxHeartbeats 1000000
namespace K08
open PySem L2 CL
section
variable {P : Program} {w : World} {K : PySem.W.Frag} {mg : Str → Option Value} {base : Heap} {a : Adr}
def LOk (names : List Str) : Ln → Prop
 | .plain tag k nm => tag = "a" ∧ KOk names k ∧ nm = names.getLast?
 | .part k nm => KOk names k ∧ nm = names.getLast?
 | .give k nm ik m => KOk names k ∧ nm = names.getLast? ∧ KOk names ik ∧ m ≤ 2
theorem cut_last {names : List Str} (h : names.length ≤ 2) : cutP (names.map PV.str) (some (-1)) none = (names.getLast?.toList).map PV.str := by
 match names, h with
 | [], _ => rfl
 | [x], _ => rfl
 | [x, y], _ => rfl
 | _ :: _ :: _ :: _, h => exact absurd h (by rw [List.length_cons, List.length_cons, List.length_cons]; omega)
theorem nmPV_eq (nm : Option Str) : nm.toList.map (fun n => PV.tup [.str "t", .tup [.str "turn", .str n]]) = nmPV nm := by cases nm <;> rfl
def gOne : GC := fun ts C Q => ∃ (t nl : Addr) (ns : List Int) (names : List Str), ts = [.ref t, .ref nl] ∧ Tp C t ns ∧ C nl = some (.lst (names.map PV.str)) ∧ names.length ≤ 2 ∧ ∀ l C', LOk names l → Tp C' t ns → Ex t C C' → Q l.pv C'
theorem Tp.nl {C : CH} {t nl : Addr} {ns : List Int} {names : List Str} (h : Tp C t ns) (m : C nl = some (.lst (names.map PV.str))) : nl ≠ t := fun e => by
 obtain ⟨⟨x, y, z, h, _⟩, _⟩ := h
 rw [e, h] at m
 cases names with
 | nil => cases m
 | cons n r => cases m
theorem ok_one (T : Txt P w K mg a) : FnOk P w K mg base CX0 3 a.l_one a.d_l_one ["_law_tape_here", "_law_names"] (spC K gOne) := by
 have S := sc_l_one
 have G_l_draw := (ok_draw (base := base) T).mono (show 1 ≤ 2 by decide)
 have G_l_key := ok_key (base := base) T
 refine Fun.okC T.F_l_one sc_l_one (fun ts C R h => ?_) fun cdv A outer s H E hr => ⟨_, (cb_cons (cs_set (i := 2) S.nd rfl (Or.inl rfl) (ce_call G_l_key hr rfl T.m_l_key T.k_l_key T.b_l_key pass0 (ca_cons (cv 0) (ca_cons (cv 1) ca_nil))))
  (cb_cons (cs_set (i := 3) S.nd rfl (Or.inl rfl) (ce_call G_l_draw hr rfl T.m_l_draw T.k_l_draw T.b_l_draw pass0 (ca_cons (cv 0) (ca_cons ce_int ca_nil))))
  (cb_cons (cs_set (i := 4) S.nd rfl (Or.inl rfl) (ce_callTy call_tuple_of cbi_tup rfl T.z_tuple rfl (ca_cons (ce_compL rfl (show (["_law_name", "_law_tape_here", "_law_names", "_law_key_here", "_law_way", "_law_pairs", "_law_inner", "_law_number"] : List Str).Nodup by decide +kernel) (comp_okF (N := ["_law_tape_here", "_law_names", "_law_key_here", "_law_way", "_law_pairs", "_law_inner", "_law_number"]) (sc := defScope s_l_one) (L := 0) rfl rfl rfl (by decide +kernel)) (ce_slL (cv 1) (co_some (ce_un un_neg cun_neg ce_int)) co_none) (fun _ _ _ _ _ => cf_nil) (fun _ _ _ _ _ => (ce_tup (ca_cons ce_str (ca_cons (ce_tup (ca_cons ce_str (ca_cons (cv 0) ca_nil))) ca_nil))))) ca_nil)))
  (cb_cons (cs_if (ct_cmp op_eq cop_eq (cv 3) ce_int (nomark _)) (cb_one (cs_ret (ce_tup (ca_cons ce_str (ca_cons (cv 2) (ca_cons ce_str (ca_cons (cv 4) (ca_cons (ce_tup ca_nil) (ca_cons (ce_tup ca_nil) ca_nil))))))))) cb_nil)
  (cb_cons (cs_if (ct_cmp op_eq cop_eq (cv 3) ce_int (nomark _)) (cb_one (cs_ret (ce_tup (ca_cons ce_str (ca_cons (cv 2) (ca_cons ce_str (ca_cons (cv 4) ca_nil))))))) cb_nil)
  (cb_cons (cs_set (i := 5) S.nd rfl (Or.inl rfl) (ce_tup (ca_cons ce_str (ca_cons (ce_call G_l_key hr rfl T.m_l_key T.k_l_key T.b_l_key pass0 (ca_cons (cv 0) (ca_cons (cv 1) ca_nil))) (ca_cons ce_str (ca_cons (ce_tup ca_nil) (ca_cons (ce_tup ca_nil) (ca_cons (ce_tup ca_nil) ca_nil))))))))
  (cb_cons (cs_set (i := 6) S.nd rfl (Or.inl rfl) (ce_if (ct_cmp op_gt cop_gt (ce_callB call_lenC cbi_len rfl T.z_len rfl (ca_cons (cv 4) ca_nil)) ce_int (nomark _)) (ce_ix (r := rIx K) ix_seqC cop_ix (ce_ix (r := rIx K) ix_seqC cop_ix (cv 4) ce_int (fun _ _ => rfl)) ce_int (fun _ _ => rfl)) (ce_tup (ca_cons ce_str (ca_cons (ce_un un_neg cun_neg ce_int) ca_nil)))))
  (cb_one (cs_ret (ce_tup (ca_cons ce_str (ca_cons (cv 2) (ca_cons ce_str (ca_cons (cv 6) (ca_cons (ce_op op_repC cop_rep (ce_tup (ca_cons (cv 5) ca_nil)) (ce_call G_l_draw hr rfl T.m_l_draw T.k_l_draw T.b_l_draw pass0 (ca_cons (cv 0) (ca_cons ce_int ca_nil)))) ca_nil))))))))))))))), ?_⟩
 ·obtain ⟨_, _, _, _, rfl, _⟩ := h; rfl
 rintro ts C R ⟨t, nl, ns, names, rfl, hT, mn, hn, q⟩
 refine ⟨t, nl, ns, names, rfl, hT, mn, hn, fun k C1 hk T1 e1 => ?_⟩
 try dsimp only
 have nlt := hT.nl mn
 have mn1 := e1 _ _ nlt mn
 refine seq_set (i := 3) ?_
 refine ⟨t, 3, ns, rfl, T1, by decide, by decide, fun way C2 w0 w1 T2 e2 => ?_⟩
 try dsimp only
 have mn2 := e2 _ _ nlt mn1
 refine seq_set (i := 4) ?_
 refine compL_g ?_ (fun Q1 Q2 h q => ?_)
 rotate_left
 ·exact sl_mono Q1 Q2 h q
 refine sl_l mn2 fun p hp => ⟨p, _, rfl, updC_same, ?_⟩
 rw [cut_last hn]
 generalize hnm : names.getLast? = nm
 have Tp1 := T2.new hp (.lst (nm.toList.map PV.str))
 have ex1 : Ex t C2 (updC C2 p (.lst (nm.toList.map PV.str))) := Ex.new hp _
 have mnp : (updC C2 p (.lst (nm.toList.map PV.str))) nl = some (.lst (names.map PV.str)) := (Gr.new hp _) _ _ mn2
 have mpp : (updC C2 p (.lst (nm.toList.map PV.str))) p = some (.lst (nm.toList.map PV.str)) := updC_same
 generalize updC C2 p (.lst (nm.toList.map PV.str)) = C3 at Tp1 ex1 mnp mpp ⊢
 refine compS_inv (fun zs acc C4 => C4 = C3 ∧ ∃ ds es : List Str, nm.toList = ds ++ es ∧ zs = es.map PV.str ∧ acc = ds.map fun n => PV.tup [.str "t", .tup [.str "turn", .str n]]) (fun _ _ _ h => by obtain ⟨rfl, _⟩ := h; exact mpp) ?_ ?_ _ _ _ ⟨rfl, [], nm.toList, rfl, rfl, rfl⟩
 ·rintro z zs acc C4 ⟨rfl, ds, es, e2, e3, rfl⟩ L hL
  cases es with
  | nil => cases e3
  | cons n es =>
   rw [List.map_cons] at e3
   injection e3 with e3 e4
   subst e3 e4
   refine ⟨by show 2 ≤ sizeLine; decide, ?_⟩
   refine ⟨by show 2 ≤ sizeLine; decide, ?_⟩
   refine hL _ _ ⟨?_, rfl, ds ++ [n], es, by rw [e2, List.append_assoc]; rfl, rfl, by rw [List.map_append]; rfl⟩
   rw [List.length_map]
   have h1 : nm.toList.length ≤ 1 := by cases nm with | none => exact Nat.zero_le _ | some n => exact Nat.le_refl 1
   have : ds.length ≤ 1 := by rw [e2, List.length_append] at h1; omega
   exact Nat.lt_of_le_of_lt this (by decide)
 ·rintro acc C4 ⟨rfl, ds, es, e2x, e3, rfl⟩ p2 hp2
  cases es with
  | cons _ _ => cases e3
  | nil =>
   rw [List.append_nil] at e2x
   rw [← e2x, nmPV_eq]
   refine tup_l updC_same ?_
   try dsimp only
   have T5 := Tp1.new hp2 (.lst (nmPV nm))
   have ex5 : Ex t C (updC C4 p2 (.lst (nmPV nm))) := ((e1.trans e2).trans ex1).trans (Ex.new hp2 _)
   have mn5 : (updC C4 p2 (.lst (nmPV nm))) nl = some (.lst (names.map PV.str)) := (Gr.new hp2 _) _ _ mnp
   generalize updC C4 p2 (.lst (nmPV nm)) = C5 at T5 ex5 mn5 ⊢
   refine seq_i ?_
   refine eq_s (sEq_int _ _) ?_
   refine on_b (fun hb => ?_) fun hb => ?_
   ·refine ⟨by show 0 ≤ sizeLine; decide, ?_⟩
    refine ⟨by show 0 ≤ sizeLine; decide, ?_⟩
    refine ⟨by show 6 ≤ sizeLine; decide, ?_⟩
    exact q (.plain "a" k nm) C5 ⟨rfl, hk, hnm.symm⟩ T5 ex5
   ·refine nx_i ?_
    try dsimp only
    refine seq_i ?_
    refine eq_s (sEq_int _ _) ?_
    refine on_b (fun hb => ?_) fun hb => ?_
    ·refine ⟨by show 4 ≤ sizeLine; decide, ?_⟩
     exact q (.part k nm) C5 ⟨hk, hnm.symm⟩ T5 ex5
    ·refine nx_i ?_
     try dsimp only
     refine seq_set (i := 5) ?_
     refine ⟨t, nl, ns, names, rfl, T5, mn5, hn, fun ik C6 hik T6 e6 => ?_⟩
     refine ⟨by show 0 ≤ sizeLine; decide, ?_⟩
     refine ⟨by show 0 ≤ sizeLine; decide, ?_⟩
     refine ⟨by show 0 ≤ sizeLine; decide, ?_⟩
     refine ⟨by show 6 ≤ sizeLine; decide, ?_⟩
     try dsimp only
     refine seq_set (i := 6) ?_
     refine if_i ?_
     refine len_t ?_
     refine i_i ?_
     have last : ∀ C7, C7 = C6 → cRet (cTup (cCons (cC (.str "give")) (cCons (cVar 2) (cCons (cC (.str "a")) (cCons (cVar 6) (cCons (cOp cRepL (cTup (cCons (cVar 5) cNil)) (cCall gDraw (cCons (cVar 0) (cCons (cC (.int 3)) cNil)))) cNil)))))) { nx := fun _ C' => R .non C', rt := R } [some (.ref t), some (.ref nl), some (kePV k), some (.int way), some (.tup (nmPV nm)), some (inPV ik), some (nmRE nm).pv] C7 := by
      rintro C7 rfl
      refine ⟨by show 1 ≤ sizeLine; decide, ?_⟩
      refine ⟨t, 3, ns, rfl, T6, by decide, by decide, fun v C8 v0 v1 T8 e8 => ?_⟩
      refine rep_t v0 (by omega) ?_
      refine ⟨by show 5 ≤ sizeLine; decide, ?_⟩
      exact q (.give k nm ik v.toNat) C8 ⟨hk, hnm.symm, hik, by omega⟩ T8 ((ex5.trans e6).trans e8)
     cases nm with
     | none =>
      refine on_n rfl ?_
      refine ⟨by show 2 ≤ sizeLine; decide, ?_⟩
      exact last C6 rfl
     | some n =>
      refine on_y rfl ?_
      refine ix_t rfl ?_
      refine ix_t rfl ?_
      exact last C6 rfl
end
end K08
set_option Elab.async false
set_option linter.all false
set_option maxRecDepth 100000
set_option maxHeartbeats 1000000
namespace K08
open PySem L2 CL
section
variable {P : Program} {w : World} {K : PySem.W.Frag} {mg : Str → Option Value} {base : Heap} {a : Adr}
def gKeyed : GC := fun ts C Q => ∃ (h : PV) (rest : List PV) (k : KE) (names : List Str) (τ : Turns) (o : Option Int) (tn : Addr), ts = [.tup (h :: kePV k :: rest), .ref tn] ∧ KOk names k ∧ keIs τ k o ∧ C tn = some (.dK τ) ∧ Q (okPV o) C
theorem at_one {x y : PV} {r : List PV} : atI (x :: y :: r) 1 = some y := at_nat (xs := x :: y :: r) (k := 1) (by rw [List.length_cons, List.length_cons]; omega)
theorem ok_keyed (T : Txt P w K mg a) : FnOk P w K mg base CX0 1 a.l_keyed a.d_l_keyed ["_law_line", "_law_turns"] (spC K gKeyed) := by
 have S := sc_l_keyed
 refine Fun.okC T.F_l_keyed sc_l_keyed (fun ts C R h => ?_) fun cdv A outer s H E hr => ⟨_, (cb_cons (cs_set (i := 2) S.nd rfl (Or.inl rfl) (ce_ix (r := rIx K) ix_seqC cop_ix (cv 0) ce_int (fun _ _ => rfl)))
  (cb_cons (cs_if (ct_cmp op_isN cop_isN (cv 2) ce_non (nomark _)) (cb_one (cs_ret ce_non)) cb_nil)
  (cb_cons (cs_if (ct_cmp op_eq cop_eq (ce_ix (r := rIx K) ix_seqC cop_ix (cv 2) ce_int (fun _ _ => rfl)) ce_str (nomark _)) (cb_one (cs_ret (ce_ix (r := rIx K) ix_seqC cop_ix (cv 2) ce_int (fun _ _ => rfl)))) cb_nil)
  (cb_one (cs_ret (ce_if (ct_cmp op_eq cop_eq (ce_ix (r := rIx K) ix_seqC cop_ix (cv 2) ce_int (fun _ _ => rfl)) ce_str (nomark _)) ce_int (ce_dix (hu_of hr) (cv 1) (ce_ix (r := rIx K) ix_seqC cop_ix (cv 2) ce_int (fun _ _ => rfl)) (fun _ _ => rfl)))))))), ?_⟩
 ·obtain ⟨_, _, _, _, _, _, _, rfl, _⟩ := h; rfl
 rintro ts C R ⟨h, rest, k, names, τ, o, tn, rfl, hk, hi, mtn, q⟩
 refine ix_t at_one ?_
 try dsimp only
 refine seq_i ?_
 rcases hk with rfl | rfl | rfl | rfl | ⟨n, hn, rfl⟩
 ·cases o with
  | some v => exact hi.elim
  | none =>
   refine test_isN rfl ?_
   refine if_y rfl ?_
   exact q
 ·cases o with
  | none => exact hi.elim
  | some v =>
   cases (show v = 0 from hi.2)
   refine test_isN rfl ?_
   refine if_n rfl ?_
   refine nx_i ?_
   try dsimp only
   refine seq_i ?_
   refine ix_t rfl ?_
   refine eq_s (sEq_str _ _) ?_
   refine on_y (by decide) ?_
   refine ix_t rfl ?_
   exact q
 ·cases o with
  | none => exact hi.elim
  | some v =>
   cases (show v = 5 from hi.2.2)
   refine test_isN rfl ?_
   refine if_n rfl ?_
   refine nx_i ?_
   try dsimp only
   refine seq_i ?_
   refine ix_t rfl ?_
   refine eq_s (sEq_str _ _) ?_
   refine on_n (by decide) ?_
   refine nx_i ?_
   try dsimp only
   refine if_i ?_
   refine ix_t rfl ?_
   refine eq_s (sEq_str _ _) ?_
   refine on_y (by decide) ?_
   exact q
 ·cases o with
  | none => exact hi.elim
  | some v =>
   cases (show v = -7 from hi.2)
   refine test_isN rfl ?_
   refine if_n rfl ?_
   refine nx_i ?_
   try dsimp only
   refine seq_i ?_
   refine ix_t rfl ?_
   refine eq_s (sEq_str _ _) ?_
   refine on_y (by decide) ?_
   refine ix_t rfl ?_
   exact q
 ·cases o with
  | none => exact hi.elim
  | some v =>
   refine test_isN rfl ?_
   refine if_n rfl ?_
   refine nx_i ?_
   try dsimp only
   refine seq_i ?_
   refine ix_t rfl ?_
   refine eq_s (sEq_str _ _) ?_
   refine on_n (by decide) ?_
   refine nx_i ?_
   try dsimp only
   refine if_i ?_
   refine ix_t rfl ?_
   refine eq_s (sEq_str _ _) ?_
   refine on_n (by decide) ?_
   refine ix_t rfl ?_
   refine dix_g mtn rfl hi.2 ?_
   exact q
def kindOf : Ln → Str
 | .plain _ _ _ => "plain"
 | .part _ _ => "part"
 | .give _ _ _ _ => "give"
def spotsOf : Ln → Vl → List PV
 | .give _ _ _ m, vl => (List.range m).map (spotPV vl.io)
 | _, _ => []
def duePV (c : Nat) (l : Ln) (vl : Vl) : PV := .tup [spotPV vl.o c, .str (kindOf l), .int vl.v, .tup (spotsOf l vl)]
theorem keys_map : ∀ seen : List (Option Int), keysOf (seen.map okPV) = some (seen.map Sum.inl)
 | [] => rfl
 | o :: r => by
  show (match keyOf (okPV o), keysOf (r.map okPV) with | some k, some ks => some (k :: ks) | _, _ => none) = _
  rw [key_ok, keys_map r]
  rfl
theorem cnt_map (o : Option Int) : ∀ seen : List (Option Int), cntK (.inl o) (seen.map Sum.inl) = cnt o seen
 | [] => rfl
 | p :: r => by
  have h := cnt_map o r
  unfold cntK cnt at h ⊢
  rw [List.map_cons, List.countP_cons, List.countP_cons, h]
  congr 1
  by_cases e : p = o
  ·rw [decide_eq_true e, decide_eq_true (by rw [e])]
  ·rw [decide_eq_false e, decide_eq_false (fun z => e (Sum.inl.inj z))]
def gDue : GC := fun ts C Q => ∃ (l : Ln) (vl : Vl) (names : List Str) (τ : Turns) (name : Str) (tn sl fl : Addr) (seen : List (Option Int)) (found : List PV), ts = [l.pv, .ref tn, .str name, .ref sl, .ref fl] ∧ LOk names l ∧ lnIs τ l vl ∧ (valP τ (.inr name)).getD (.int (-1)) = .int vl.v ∧ C tn = some (.dK τ) ∧ C sl = some (.lst (seen.map okPV)) ∧ C fl = some (.lst found) ∧ sl ≠ fl ∧ seen.length ≤ 900 ∧ found.length ≤ 900 ∧
 ∀ C', C' sl = some (.lst ((seen ++ [vl.o]).map okPV)) → C' fl = some (.lst (found ++ [duePV (cnt vl.o seen) l vl])) → ExS [sl, fl] C C' → Q .non C'
theorem ok_due (T : Txt P w K mg a) : FnOk P w K mg base CX0 2 a.l_row_due a.d_l_row_due ["_law_line", "_law_turns", "_law_name", "_law_seen", "_law_found"] (spC K gDue) := by
 have S := sc_l_row_due
 have G_l_keyed := ok_keyed (base := base) T
 refine Fun.okC T.F_l_row_due sc_l_row_due (fun ts C R h => ?_) fun cdv A outer s H E hr => ⟨_, (cb_cons (cs_set (i := 5) S.nd rfl (Or.inl rfl) (ce_call G_l_keyed hr rfl T.m_l_keyed T.k_l_keyed T.b_l_keyed pass0 (ca_cons (cv 0) (ca_cons (cv 1) ca_nil))))
  (cb_cons (cs_set (i := 6) S.nd rfl (Or.inl rfl) (ce_tup ca_nil))
  (cb_cons (cs_if (ct_cmp op_eq cop_eq (ce_ix (r := rIx K) ix_seqC cop_ix (cv 0) ce_int (fun _ _ => rfl)) ce_str (nomark _)) (cb_one (cs_set (i := 6) S.nd rfl (Or.inl rfl) (ce_callTy call_tuple_of cbi_tup rfl T.z_tuple rfl (ca_cons (ce_comp rfl (show (["_law_k", "_law_line", "_law_turns", "_law_name", "_law_seen", "_law_found", "_law_key_here", "_law_spots"] : List Str).Nodup by decide +kernel) (comp_okF (N := ["_law_line", "_law_turns", "_law_name", "_law_seen", "_law_found", "_law_key_here", "_law_spots"]) (sc := defScope s_l_row_due) rfl rfl rfl (by decide +kernel)) (ci_rng rfl T.z_range (ca_cons (ce_callB call_lenC cbi_len rfl T.z_len rfl (ca_cons (ce_ix (r := rIx K) ix_seqC cop_ix (cv 0) ce_int (fun _ _ => rfl)) ca_nil)) ca_nil)) (fun _ _ _ _ _ => cf_nil) (fun _ _ _ _ _ => (ce_tup (ca_cons (ce_call G_l_keyed hr rfl T.m_l_keyed T.k_l_keyed T.b_l_keyed pass0 (ca_cons (ce_ix (r := rIx K) ix_seqC cop_ix (ce_ix (r := rIx K) ix_seqC cop_ix (cv 1) ce_int (fun _ _ => rfl)) (cv 0) (fun _ _ => rfl)) (ca_cons (cv 2) ca_nil))) (ca_cons (cv 0) ca_nil))))) ca_nil)))) cb_nil)
  (cb_cons (cs_expr (ce_bm PySem.F.plainAttrs_list PySem.F.slot_list_append PySem.F.type_list_append mt_append cmt_append (cv 4) (ca_cons (ce_tup (ca_cons (ce_tup (ca_cons (cv 5) (ca_cons (ce_bm PySem.F.plainAttrs_list PySem.F.slot_list_count PySem.F.type_list_count mt_count cmt_count (cv 3) (ca_cons (cv 5) ca_nil)) ca_nil))) (ca_cons (ce_ix (r := rIx K) ix_seqC cop_ix (cv 0) ce_int (fun _ _ => rfl)) (ca_cons (ce_dget2 (hu_of hr) (cv 1) (cv 2) (ce_un un_neg cun_neg ce_int)) (ca_cons (cv 6) ca_nil))))) ca_nil)))
  (cb_one (cs_expr (ce_bm PySem.F.plainAttrs_list PySem.F.slot_list_append PySem.F.type_list_append mt_append cmt_append (cv 3) (ca_cons (cv 5) ca_nil)))))))), ?_⟩
 ·obtain ⟨_, _, _, _, _, _, _, _, _, _, rfl, _⟩ := h; rfl
 rintro ts C R ⟨l, vl, names, τ, name, tn, sl, fl, seen, found, rfl, hl, hi, hg, mtn, msl, mfl, nsf, l1, l2, q⟩
 have fin : ∀ (C1 : CH) (sp : List PV) (h : PV) (rest : List PV), l.pv = .tup (h :: rest) → h = .str (kindOf l) → sp = spotsOf l vl → Gr C C1 → cSeq (cDrop (cBM cAppend (cVar 4) (cCons (cTup (cCons (cTup (cCons (cVar 5) (cCons (cBM cCount (cVar 3) (cCons (cVar 5) cNil)) cNil))) (cCons (cOp cIx (cVar 0) (cC (.int 0))) (cCons (cDGet2 (cVar 1) (cVar 2) (cUn cNeg (cC (.int 1)))) (cCons (cVar 6) cNil))))) cNil))) (cDrop (cBM cAppend (cVar 3) (cCons (cVar 5) cNil))) { nx := fun _ C' => R .non C', rt := R } [some l.pv, some (.ref tn), some (.str name), some (.ref sl), some (.ref fl), some (okPV vl.o), some (.tup sp)] C1 := by
  rintro C1 sp h rest hp rfl rfl g
  refine seq_i ?_
  refine ⟨isL_l (g _ _ mfl), ?_⟩
  refine ⟨isL_l (g _ _ msl), ?_⟩
  refine count_s (g _ _ msl) (key_ok vl.o) (keys_map seen) ?_
  rw [cnt_map]
  refine ⟨by show 2 ≤ sizeLine; decide, ?_⟩
  refine ix_eq hp at_zero ?_
  refine ⟨isDk_g (g _ _ mtn), ?_⟩
  refine getD_g (g _ _ mtn) rfl hg ?_
  refine ⟨by show 4 ≤ sizeLine; decide, ?_⟩
  refine app_l (g _ _ mfl) (Nat.lt_of_le_of_lt (show _ ≤ 1000 by omega) (by decide)) ?_
  try dsimp only
  refine ⟨isL_l (by rw [updC_ne nsf]; exact g _ _ msl), ?_⟩
  refine app_l (by rw [updC_ne nsf]; exact g _ _ msl) (Nat.lt_of_le_of_lt (show _ ≤ 1000 by rw [List.length_map]; omega) (by decide)) ?_
  refine q _ ?_ ?_ ?_
  ·rw [updC_same, List.map_append]; rfl
  ·rw [updC_ne (Ne.symm nsf), updC_same]; rfl
  ·exact ((ExS.mono (fun b o _ h => g b o h : ExS [] C C1) (fun b hb => by cases hb)).at (List.mem_cons_of_mem _ List.mem_cons_self) _).at List.mem_cons_self _
 cases l with
 | plain tag k nm =>
  refine ⟨.str "plain", _, k, names, τ, vl.o, tn, rfl, hl.2.1, hi.1, mtn, ?_⟩
  try dsimp only
  refine seq_set (i := 6) ?_
  refine ⟨by show 0 ≤ sizeLine; decide, ?_⟩
  try dsimp only
  refine seq_i ?_
  refine ix_t rfl ?_
  refine eq_s (sEq_str _ _) ?_
  refine on_n (by decide) ?_
  refine nx_i ?_
  exact fin C [] _ _ rfl rfl rfl Gr.refl
 | part k nm =>
  refine ⟨.str "part", _, k, names, τ, vl.o, tn, rfl, hl.1, hi.1, mtn, ?_⟩
  try dsimp only
  refine seq_set (i := 6) ?_
  refine ⟨by show 0 ≤ sizeLine; decide, ?_⟩
  try dsimp only
  refine seq_i ?_
  refine ix_t rfl ?_
  refine eq_s (sEq_str _ _) ?_
  refine on_n (by decide) ?_
  refine nx_i ?_
  exact fin C [] _ _ rfl rfl rfl Gr.refl
 | give k nm ik m =>
  refine ⟨.str "give", _, k, names, τ, vl.o, tn, rfl, hl.1, hi.1, mtn, ?_⟩
  try dsimp only
  refine seq_set (i := 6) ?_
  refine ⟨by show 0 ≤ sizeLine; decide, ?_⟩
  try dsimp only
  refine seq_i ?_
  refine ix_t rfl ?_
  refine eq_s (sEq_str _ _) ?_
  refine on_y (by decide) ?_
  refine ix_t rfl ?_
  refine len_t ?_
  have hm : m ≤ 2 := hl.2.2.2
  rw [List.length_replicate]
  refine ⟨by omega, by omega, ?_⟩
  rw [Int.toNat_natCast]
  refine compW_inv (fun zs acc C1 => C1 = C ∧ ∃ j : Nat, j ≤ m ∧ zs = ((List.range m).drop j).map (fun k : Nat => PV.int (k : Nat)) ∧ acc = (List.range j).map (spotPV vl.io)) ?_ ?_ _ _ _ ⟨rfl, 0, Nat.zero_le _, rfl, rfl⟩
  ·rintro z zs acc C1 ⟨rfl, j, hj, hz, rfl⟩ L hL
   have hj' : j < (List.range m).length := by
    rcases Nat.lt_or_ge j (List.range m).length with h | h
    ·exact h
    ·rw [List.drop_of_length_le h] at hz; cases hz
   rw [List.drop_eq_getElem_cons hj', List.map_cons, List.getElem_range] at hz
   injection hz with hz1 hz2
   subst hz1 hz2
   have hjm : j < m := by rw [List.length_range] at hj'; exact hj'
   refine ix_t rfl ?_
   refine ix_t (at_nat (xs := List.replicate m (inPV ik)) (k := j) (by rw [List.length_replicate]; exact hjm)) ?_
   rw [List.getElem_replicate]
   refine ⟨.str "plain", _, ik, names, τ, vl.io, tn, rfl, hl.2.2.1, hi.2.2.1, mtn, ?_⟩
   refine ⟨by show 2 ≤ sizeLine; decide, ?_⟩
   refine hL _ _ ⟨?_, rfl, j + 1, hjm, rfl, by rw [List.range_succ, List.map_append]; rfl⟩
   rw [List.length_map, List.length_range]
   exact Nat.lt_of_le_of_lt (show j ≤ 1000 by omega) (by decide)
  ·rintro acc C1 ⟨rfl, j, hj, hz, rfl⟩ p hp
   have hjm : j = m := by
    rcases Nat.lt_or_ge j m with h | h
    ·rw [List.drop_eq_getElem_cons (by rw [List.length_range]; exact h), List.map_cons] at hz; cases hz
    ·omega
   subst hjm
   refine tup_l updC_same ?_
   exact fin _ _ _ _ rfl rfl rfl (Gr.new hp _)
end
end K08
set_option Elab.async false
set_option linter.all false
set_option maxRecDepth 100000
set_option maxHeartbeats 1000000
namespace K08
open PySem L2 CL
section
variable {P : Program} {w : World} {K : PySem.W.Frag} {mg : Str → Option Value} {base : Heap} {a : Adr}
def duesOf : List (Option Int) → Its → List PV
 | _, [] => []
 | seen, (l, vl) :: r => duePV (cnt vl.o seen) l vl :: duesOf (seen ++ [vl.o]) r
theorem dues_app (b : Its) : ∀ (a : Its) (seen : List (Option Int)), duesOf seen (a ++ b) = duesOf seen a ++ duesOf (seen ++ oks a) b := by
 intro a
 induction a with
 | nil => intro seen; show duesOf seen b = duesOf (seen ++ []) b; rw [List.append_nil]
 | cons p a ih =>
  intro seen
  obtain ⟨l, vl⟩ := p
  show duePV (cnt vl.o seen) l vl :: duesOf (seen ++ [vl.o]) (a ++ b) = duePV (cnt vl.o seen) l vl :: (duesOf (seen ++ [vl.o]) a ++ duesOf (seen ++ (vl.o :: oks a)) b)
  rw [ih, List.append_assoc]
  rfl
theorem dues_len : ∀ (is : Its) (seen : List (Option Int)), (duesOf seen is).length = is.length
 | [], _ => rfl
 | (l, vl) :: r, seen => by
  show (duesOf (seen ++ [vl.o]) r).length + 1 = r.length + 1
  rw [dues_len r]
def nmOf : Ln → Option Str
 | .plain _ _ nm => nm
 | .part _ nm => nm
 | .give _ nm _ _ => nm
def NumOk (p : Ln × Vl) : Prop := nmOf p.1 = none → p.2.v = -1
def gTold : GC := fun ts C Q => ∃ is : Its, ts = [.tup (wantsOf [] is)] ∧ (∀ p ∈ is, NumOk p ∧ ∀ k nm ik m, p.1 = .give k nm ik m → m ≤ 2) ∧ is.length ≤ 900 ∧ ∀ fl C', C' fl = some (.lst (duesOf [] is)) → Gr C C' → Q (.ref fl) C'
theorem ok_told (T : Txt P w K mg a) : FnOk P w K mg base CX0 1 a.l_told a.d_l_told ["_law_row"] (spC K gTold) := by
 have S := sc_l_told
 refine Fun.okC T.F_l_told sc_l_told (fun ts C R h => ?_) fun cdv A outer s H E hr => ⟨_, (cb_cons (cs_set (i := 1) S.nd rfl (Or.inl rfl) (ce_lst ca_nil))
  (cb_cons (cs_forT PassesOwn.never rfl (cv 0) (cg_name (i := 2) S.nd rfl (Or.inl rfl)) (cb_cons (cs_set (i := 3) S.nd rfl (Or.inl rfl) (ce_ix (r := rIx K) ix_seqC cop_ix (cv 2) ce_int (fun _ _ => rfl)))
  (cb_cons (cs_if (ct_cmp op_ne cop_ne (ce_ix (r := rIx K) ix_seqC cop_ix (cv 2) ce_int (fun _ _ => rfl)) ce_str (nomark _)) (cb_cons (cs_set (i := 3) S.nd rfl (Or.inl rfl) (ce_un un_neg cun_neg ce_int))
  (cb_one (cs_forT PassesOwn.never rfl (ce_ix (r := rIx K) ix_seqC cop_ix (cv 2) ce_int (fun _ _ => rfl)) (cg_name (i := 4) S.nd rfl (Or.inl rfl)) (cb_one (cs_set (i := 3) S.nd rfl (Or.inl rfl) (ce_ix (r := rIx K) ix_seqC cop_ix (cv 4) ce_int (fun _ _ => rfl))))))) cb_nil)
  (cb_cons (cs_set (i := 5) S.nd rfl (Or.inl rfl) (ce_if (ct_cmp op_eq cop_eq (ce_ix (r := rIx K) ix_seqC cop_ix (cv 2) ce_int (fun _ _ => rfl)) ce_str (nomark _)) (ce_comp rfl (show (["_law_inner", "_law_row", "_law_found", "_law_want", "_law_number", "_law_pair", "_law_spots"] : List Str).Nodup by decide +kernel) (comp_okF (N := ["_law_row", "_law_found", "_law_want", "_law_number", "_law_pair", "_law_spots"]) (sc := defScope s_l_told) (L := 0) rfl rfl rfl (by decide +kernel)) (ci_tup (ce_ix (r := rIx K) ix_seqC cop_ix (cv 2) ce_int (fun _ _ => rfl))) (fun _ _ _ _ _ => cf_nil) (fun _ _ _ _ _ => (ce_ix (r := rIx K) ix_seqC cop_ix (cv 0) ce_int (fun _ _ => rfl)))) (ce_lst ca_nil)))
  (cb_one (cs_expr (ce_bm PySem.F.plainAttrs_list PySem.F.slot_list_append PySem.F.type_list_append mt_append cmt_append (cv 1) (ca_cons (ce_tup (ca_cons (ce_ix (r := rIx K) ix_seqC cop_ix (cv 2) ce_int (fun _ _ => rfl)) (ca_cons (ce_ix (r := rIx K) ix_seqC cop_ix (cv 2) ce_int (fun _ _ => rfl)) (ca_cons (cv 3) (ca_cons (ce_callTy call_tuple_of cbi_tup rfl T.z_tuple rfl (ca_cons (cv 5) ca_nil)) ca_nil))))) ca_nil))))))))
  (cb_one (cs_ret (cv 1))))), ?_⟩
 ·obtain ⟨_, rfl, _⟩ := h; rfl
 rintro ts C R ⟨is, rfl, hp, hl, q⟩
 refine ⟨by show 0 ≤ sizeLine; decide, fun fl fl0 => ?_⟩
 try dsimp only
 refine seq_i ?_
 try dsimp only
 refine forT_t rfl ?_
 refine walk_inv (fun zs ρ C1 => ∃ x2 x3 x4 x5 is1 is2, ρ = [some (.tup (wantsOf [] is)), some (.ref fl), x2, x3, x4, x5] ∧ is = is1 ++ is2 ∧ zs = wantsOf (oks is1) is2 ∧ C1 fl = some (.lst (duesOf [] is1)) ∧ Gr C C1) ?_ ?_ _ _ _ ⟨none, none, none, none, [], is, rfl, rfl, rfl, updC_same, Gr.new fl0 _⟩
 ·rintro z zs ρ C1 ⟨x2, x3, x4, x5, is1, is2, rfl, e1, e2, m1, g1⟩ L hL
  cases is2 with
  | nil => cases e2
  | cons p is2 =>
   obtain ⟨l, vl⟩ := p
   injection e2 with e2 e3
   subst e2 e3
   have hin : (l, vl) ∈ is := by rw [e1]; exact List.mem_append_right _ List.mem_cons_self
   obtain ⟨hnum, hgive⟩ := hp _ hin
   have hl1 : is1.length ≤ 900 := by rw [e1, List.length_append] at hl; omega
   have c : Nat := 0
   generalize hcc : cnt vl.o (oks is1) = cc
   have fin : ∀ (C2 : CH) (q5 : Addr) (xw : List PV) (x4' : Option PV), wantPV cc l vl = .tup (.str (kindOf l) :: spotPV vl.o cc :: xw) → Gr C C2 → C2 fl = some (.lst (duesOf [] is1)) → C2 q5 = some (.lst (spotsOf l vl)) →
     cDrop (cBM cAppend (cVar 1) (cCons (cTup (cCons (cOp cIx (cVar 2) (cC (.int 1))) (cCons (cOp cIx (cVar 2) (cC (.int 0))) (cCons (cVar 3) (cCons (cCall cTupOf (cCons (cVar 5) cNil)) cNil))))) cNil)) { nx := L, ct := L, bk := cRet (cVar 1) { nx := fun _ C' => R .non C', rt := R }, rt := R } [some (.tup (wantsOf [] is)), some (.ref fl), some (wantPV cc l vl), some (.int vl.v), x4', some (.ref q5)] C2 := by
    intro C2 q5 xw x4' hw g2 m2 m5
    refine ⟨isL_l m2, ?_⟩
    refine ix_eq hw at_one ?_
    refine ix_eq hw at_zero ?_
    refine tup_l m5 ?_
    refine ⟨by show 4 ≤ sizeLine; decide, ?_⟩
    refine app_l m2 (Nat.lt_of_le_of_lt (show _ ≤ 1000 by rw [dues_len]; omega) (by decide)) ?_
    refine hL _ _ ⟨_, _, _, _, is1 ++ [(l, vl)], is2, rfl, by rw [e1, List.append_assoc]; rfl, by rw [oks_app]; rfl, ?_, gr_put g2 fl0 _⟩
    rw [updC_same, dues_app, ← hcc]
    rfl
   cases l with
   | plain tag k nm =>
    refine seq_set (i := 3) ?_
    refine ix_t rfl ?_
    try dsimp only
    refine seq_post (fun ρ' C' => C' = C1 ∧ ∃ x4', ρ' = [some (.tup (wantsOf [] is)), some (.ref fl), some (wantPV cc (.plain tag k nm) vl), some (.int vl.v), x4', x5]) (fun M hM => ?_) ?_
    ·refine ix_t rfl ?_
     refine eq_s (sEq_str _ _) ?_
     refine on_y (by decide) ?_
     refine seq_i ?_
     refine forT_g ?_
     refine ix_t rfl ?_
     cases nm with
     | none =>
      have : vl.v = -1 := hnum rfl
      exact hM _ _ ⟨rfl, _, by rw [this]; rfl⟩
     | some n =>
      refine ix_t rfl ?_
      exact hM _ _ ⟨rfl, _, rfl⟩
    ·rintro ρ' C2 ⟨rfl, x4', rfl⟩
     refine seq_set (i := 5) ?_
     refine if_i ?_
     refine ix_t rfl ?_
     refine eq_s (sEq_str _ _) ?_
     refine on_n (by decide) ?_
     refine ⟨by show 0 ≤ sizeLine; decide, fun p p0 => ?_⟩
     exact fin _ p _ x4' rfl (g1.trans (Gr.new p0 _)) ((Gr.new p0 _) _ _ m1) updC_same
   | part k nm =>
    refine seq_set (i := 3) ?_
    refine ix_t rfl ?_
    try dsimp only
    refine seq_post (fun ρ' C' => C' = C1 ∧ ∃ x4', ρ' = [some (.tup (wantsOf [] is)), some (.ref fl), some (wantPV cc (.part k nm) vl), some (.int vl.v), x4', x5]) (fun M hM => ?_) ?_
    ·refine ix_t rfl ?_
     refine eq_s (sEq_str _ _) ?_
     refine on_y (by decide) ?_
     refine seq_i ?_
     refine forT_g ?_
     refine ix_t rfl ?_
     cases nm with
     | none =>
      have : vl.v = -1 := hnum rfl
      exact hM _ _ ⟨rfl, _, by rw [this]; rfl⟩
     | some n =>
      refine ix_t rfl ?_
      exact hM _ _ ⟨rfl, _, rfl⟩
    ·rintro ρ' C2 ⟨rfl, x4', rfl⟩
     refine seq_set (i := 5) ?_
     refine if_i ?_
     refine ix_t rfl ?_
     refine eq_s (sEq_str _ _) ?_
     refine on_n (by decide) ?_
     refine ⟨by show 0 ≤ sizeLine; decide, fun p p0 => ?_⟩
     exact fin _ p _ x4' rfl (g1.trans (Gr.new p0 _)) ((Gr.new p0 _) _ _ m1) updC_same
   | give k nm ik m =>
    have hm : m ≤ 2 := hgive k nm ik m rfl
    refine seq_set (i := 3) ?_
    refine ix_t rfl ?_
    try dsimp only
    refine seq_i ?_
    refine ix_t rfl ?_
    refine eq_s (sEq_str _ _) ?_
    refine on_n (by decide) ?_
    refine nx_i ?_
    try dsimp only
    refine seq_set (i := 5) ?_
    refine if_i ?_
    refine ix_t rfl ?_
    refine eq_s (sEq_str _ _) ?_
    refine on_y (by decide) ?_
    refine ix_t rfl ?_
    refine compW_inv (fun zs acc C2 => C2 = C1 ∧ ∃ ds es : List Nat, List.range m = ds ++ es ∧ zs = es.map (inW vl.io) ∧ acc = ds.map (spotPV vl.io)) ?_ ?_ _ _ _ ⟨rfl, [], List.range m, rfl, rfl, rfl⟩
    ·rintro z zs acc C2 ⟨rfl, ds, es, h1, h2, rfl⟩ L2 hL2
     cases es with
     | nil => cases h2
     | cons j es =>
      rw [List.map_cons] at h2
      injection h2 with h2 h3
      subst h2 h3
      refine ix_t rfl ?_
      refine hL2 _ _ ⟨?_, rfl, ds ++ [j], es, by rw [h1, List.append_assoc]; rfl, rfl, by rw [List.map_append]; rfl⟩
      rw [List.length_map]
      have : ds.length ≤ 2 := by
       have h4 : (List.range m).length = (ds ++ j :: es).length := by rw [h1]
       rw [List.length_range, List.length_append] at h4
       omega
      exact Nat.lt_of_le_of_lt this (by decide)
    ·rintro acc C2 ⟨rfl, ds, es, h1, h2, rfl⟩ p p0
     cases es with
     | cons _ _ => cases h2
     | nil =>
      rw [List.append_nil] at h1
      subst h1
      exact fin _ p _ x4 rfl (g1.trans (Gr.new p0 _)) ((Gr.new p0 _) _ _ m1) updC_same
 ·rintro ρ C1 ⟨x2, x3, x4, x5, is1, is2, rfl, e1, e2, m1, g1⟩
  cases is2 with
  | cons p is2 => obtain ⟨l, vl⟩ := p; cases e2
  | nil =>
   rw [List.append_nil] at e1
   subst e1
   exact q fl C1 m1 g1
end
end K08
set_option Elab.async false
set_option linter.all false
set_option maxRecDepth 100000
set_option maxHeartbeats 1000000
namespace K08
open PySem L2 CL
section
variable {P : Program} {w : World} {K : PySem.W.Frag} {mg : Str → Option Value} {base : Heap} {a : Adr}
def lookI (τ : Turns) (n : Str) : Int := match valP τ (.inr n) with
 | some (.int v) => v
 | _ => 0
def reV (τ : Turns) : RE → Int
 | .num i => i
 | .turn n => lookI τ n
 | .box n => bx n
 | .add n i => bx n + i
def keV (τ : Turns) (k : KE) : Option Int := k.map (reV τ)
def vlOf (τ : Turns) (l : Ln) : Vl := match l with
 | .plain _ k nm => ⟨keV τ k, reV τ (nmRE nm), none⟩
 | .part k nm => ⟨keV τ k, reV τ (nmRE nm), none⟩
 | .give k nm ik _ => ⟨keV τ k, reV τ (nmRE nm), keV τ ik⟩
def Has (τ : Turns) (names : List Str) : Prop := ∀ n ∈ names, ∃ v : Int, valP τ (.inr n) = some (.int v)
theorem look_has {τ : Turns} {n : Str} (h : ∃ v : Int, valP τ (.inr n) = some (.int v)) : valP τ (.inr n) = some (.int (lookI τ n)) := by
 obtain ⟨v, h⟩ := h
 unfold lookI
 rw [h]
theorem ke_is {names : List Str} {τ : Turns} {k : KE} (h : KOk names k) (hh : Has τ names) : keIs τ k (keV τ k) := by
 rcases h with rfl | rfl | rfl | rfl | ⟨n, hn, rfl⟩
 ·trivial
 ·exact ⟨rfl, rfl⟩
 ·exact ⟨rfl, .inl rfl, rfl⟩
 ·exact ⟨rfl, rfl⟩
 ·exact ⟨rfl, look_has (hh n hn)⟩
theorem nm_is {names : List Str} {τ : Turns} {nm : Option Str} (h : nm = names.getLast?) (hh : Has τ names) : (nmRE nm).is τ (reV τ (nmRE nm)) := by
 cases nm with
 | none => exact rfl
 | some n => exact look_has (hh n (List.mem_of_getLast? h.symm))
theorem ln_is {names : List Str} {τ : Turns} {l : Ln} (h : LOk names l) (hh : Has τ names) : lnIs τ l (vlOf τ l) := by
 cases l with
 | plain tag k nm => exact ⟨ke_is h.2.1 hh, nm_is h.2.2 hh⟩
 | part k nm => exact ⟨ke_is h.1 hh, nm_is h.2 hh⟩
 | give k nm ik m => exact ⟨ke_is h.1 hh, nm_is h.2.1 hh, ke_is h.2.2.1 hh, h.2.2.2⟩
theorem num_ok {τ : Turns} (l : Ln) : NumOk (l, vlOf τ l) := by
 cases l with
 | plain tag k nm => intro h; cases (show nm = none from h); rfl
 | part k nm => intro h; cases (show nm = none from h); rfl
 | give k nm ik m => intro h; cases (show nm = none from h); rfl
theorem give_ok {names : List Str} {l : Ln} (h : LOk names l) : ∀ k nm ik m, l = .give k nm ik m → m ≤ 2 := by
 rintro k nm ik m rfl
 exact h.2.2.2
theorem v_of {names : List Str} {τ : Turns} {l : Ln} {name : Str} (h : LOk names l) (hh : Has τ names) (hn : names.getLast? = some name) : (valP τ (.inr name)).getD (.int (-1)) = .int (vlOf τ l).v := by
 have hl := look_has (hh name (List.mem_of_getLast? hn))
 rw [hl]
 cases l with
 | plain tag k nm => have e : nm = some name := h.2.2.trans hn; subst e; rfl
 | part k nm => have e : nm = some name := h.2.trans hn; subst e; rfl
 | give k nm ik m => have e : nm = some name := h.2.1.trans hn; subst e; rfl
theorem v_of0 {l : Ln} (h : LOk [] l) (name : Str) : (valP [] (.inr name)).getD (.int (-1)) = .int (vlOf [] l).v := by
 cases l with
 | plain tag k nm => have e : nm = none := h.2.2; subst e; rfl
 | part k nm => have e : nm = none := h.2; subst e; rfl
 | give k nm ik m => have e : nm = none := h.2.1; subst e; rfl
theorem lev_le (l : Ln) : l.lev ≤ 1 := by
 cases l with
 | give k nm ik m => exact Nat.le_refl _
 | _ => exact Nat.zero_le _
def its (τ : Turns) (ls : List Ln) : Its := ls.map fun l => (l, vlOf τ l)
theorem lr_lines {names : List Str} {τ : Turns} (hh : Has τ names) {d : Nat} {r : List PV} {is : Its} (t : LR (d + 2) τ r is) : ∀ ls : List Ln, (∀ l ∈ ls, LOk names l) → LR (d + 2) τ (ls.map Ln.pv ++ r) (its τ ls ++ is)
 | [], _ => t
 | l :: ls, h => .ln l (vlOf τ l) (ln_is (h l List.mem_cons_self) hh) (Nat.le_trans (lev_le l) (by omega)) (lr_lines hh t ls fun l' hl => h l' (List.mem_cons_of_mem _ hl))
theorem flat_bound {f : Nat → Its} {b : Nat} : ∀ n : Nat, (∀ t, t < n → (f t).length ≤ b) → ((List.range n).flatMap f).length ≤ n * b
 | 0, _ => Nat.zero_le _
 | n + 1, h => by
  rw [flat_succ, List.length_append, Nat.succ_mul]
  have h1 := flat_bound n fun t ht => h t (by omega)
  have h2 := h n (by omega)
  omega
def t1 (n0 : Str) (k : Nat) : Turns := putP [] (.inr n0) (.int (k : Nat))
def t2 (n0 n1 : Str) (k j : Nat) : Turns := putP (t1 n0 k) (.inr n1) (.int (j : Nat))
theorem has0 : Has [] [] := fun n h => by cases h
theorem has1 (n0 : Str) (k : Nat) : Has (t1 n0 k) [n0] := fun n h => by
 cases List.mem_singleton.1 h
 exact ⟨k, by unfold t1; rw [val_put, if_pos rfl]⟩
theorem has2 (n0 n1 : Str) (k j : Nat) : Has (t2 n0 n1 k j) [n0, n1] := fun n h => by
 unfold t2 t1
 rw [val_put, val_put]
 by_cases e : n = n1
 ·exact ⟨j, by rw [if_pos (by rw [e])]⟩
 ·rcases List.mem_cons.1 h with h | h
  ·exact ⟨k, by rw [if_neg (fun z => e (Sum.inr.inj z)), if_pos (by rw [h])]⟩
  ·exact absurd (List.mem_singleton.1 h) e
def cap (c : Int) : Nat := (if c < 8 then c else 8).toNat
theorem cap_le (c : Int) : cap c ≤ 8 := by unfold cap; split <;> omega
def itsT (n0 n1 : Str) (O I : List Ln) (i c1 : Int) (k : Nat) : Its := if i = 0 then its (t1 n0 k) (O.take 1) else (List.range (cap c1)).flatMap fun j => its (t2 n0 n1 k j) I
def itsF (n0 n1 : Str) (O I : List Ln) (i c1 : Int) (k : Nat) : Its := its (t1 n0 k) O ++ itsT n0 n1 O I i c1 k
def itsAll (n0 n1 : Str) (A O I : List Ln) (i c0 c1 : Int) : Its := its [] A ++ ((List.range (cap c0)).flatMap (itsF n0 n1 O I i c1) ++ its [] A)
theorem its_len (τ : Turns) (ls : List Ln) : (its τ ls).length = ls.length := List.length_map _
theorem itsT_len {n0 n1 : Str} {O I : List Ln} {i c1 : Int} {k : Nat} (hI : I.length ≤ 2) : (itsT n0 n1 O I i c1 k).length ≤ 16 := by
 unfold itsT
 split
 ·rw [its_len, List.length_take]; omega
 ·have h := flat_bound (f := fun j => its (t2 n0 n1 k j) I) (b := 2) (cap c1) fun t _ => by rw [its_len]; exact hI
  have := cap_le c1
  omega
theorem itsF_len {n0 n1 : Str} {O I : List Ln} {i c1 : Int} {k : Nat} (hO : O.length ≤ 2) (hI : I.length ≤ 2) : (itsF n0 n1 O I i c1 k).length ≤ 18 := by
 unfold itsF
 have := itsT_len (n0 := n0) (n1 := n1) (O := O) (i := i) (c1 := c1) (k := k) hI
 rw [List.length_append, its_len]
 omega
theorem itsAll_len {n0 n1 : Str} {A O I : List Ln} {i c0 c1 : Int} (hA : A.length ≤ 2) (hO : O.length ≤ 2) (hI : I.length ≤ 2) : (itsAll n0 n1 A O I i c0 c1).length ≤ 148 := by
 unfold itsAll
 have h := flat_bound (f := itsF n0 n1 O I i c1) (b := 18) (cap c0) fun t _ => itsF_len hO hI
 have := cap_le c0
 rw [List.length_append, List.length_append, its_len]
 omega
def secondPV (n1 : Str) (re : RE) (I : List Ln) : PV := .tup [.str "each", .str n1, re.pv, .tup (I.map Ln.pv)]
def takenPV (i : Int) (sec : PV) (O : List Ln) : PV := .tup [.str "when", .tup [.str "num", .int i], .tup [sec], .tup ((O.take 1).map Ln.pv)]
def firstPV (n0 : Str) (re : RE) (O : List Ln) (tk : PV) : PV := .tup [.str "each", .str n0, re.pv, .tup (O.map Ln.pv ++ [tk])]
theorem lr_all {n0 n1 : Str} {A O I : List Ln} {i c0 c1 : Int} {r0 r1 : RE} (hA : ∀ l ∈ A, LOk [] l) (hO : ∀ l ∈ O, LOk [n0] l) (hI : ∀ l ∈ I, LOk [n0, n1] l) (h0 : ∀ τ, r0.is τ c0) (h1 : ∀ τ, r1.is τ c1) (b0 : -100000 ≤ c0) (b1 : -100000 ≤ c1) :
  LR 7 [] (A.map Ln.pv ++ (firstPV n0 r0 O (takenPV i (secondPV n1 r1 I) O) :: A.map Ln.pv)) (itsAll n0 n1 A O I i c0 c1) := by
 have hend : LR 7 [] (A.map Ln.pv) (its [] A) := by
  have := lr_lines has0 (d := 5) (.nil : LR 7 [] [] []) A hA
  rw [List.append_nil, List.append_nil] at this
  exact this
 refine lr_lines has0 (d := 5) ?_ A hA
 refine .each n0 r0 c0 _ (itsF n0 n1 O I i c1) (h0 _) b0 (fun k _ => ?_) hend
 refine lr_lines (has1 n0 k) (d := 4) ?_ O hO
 have tk : LR 6 (t1 n0 k) [takenPV i (secondPV n1 r1 I) O] (itsT n0 n1 O I i c1 k ++ []) := by
  refine .whn i _ _ _ ?_ .nil
  unfold itsT
  by_cases e : i = 0
  ·rw [if_pos e, if_pos e]
   have := lr_lines (has1 n0 k) (d := 3) (.nil : LR 5 (t1 n0 k) [] []) (O.take 1) fun l hl => hO l (List.mem_of_mem_take hl)
   rw [List.append_nil, List.append_nil] at this
   exact this
  ·rw [if_neg e, if_neg e]
   have hs : LR 5 (t1 n0 k) [secondPV n1 r1 I] ((List.range (cap c1)).flatMap (fun j => its (t2 n0 n1 k j) I) ++ []) := by
    refine .each n1 r1 c1 _ (fun j => its (t2 n0 n1 k j) I) (h1 _) b1 (fun j _ => ?_) .nil
    have := lr_lines (has2 n0 n1 k j) (d := 2) (.nil : LR 4 (t2 n0 n1 k j) [] []) I hI
    rw [List.append_nil, List.append_nil] at this
    exact this
   rw [List.append_nil] at hs
   exact hs
 rw [List.append_nil] at tk
 exact tk
end
end K08
set_option Elab.async false
set_option linter.all false
set_option maxRecDepth 100000
set_option maxHeartbeats 1000000
namespace K08
open PySem L2 CL
section
variable {P : Program} {w : World} {K : PySem.W.Frag} {mg : Str → Option Value} {base : Heap} {a : Adr}
structure Du (C0 : CH) (sl fl : Addr) (js : Its) (C : CH) : Prop where
 sl_ : C sl = some (.lst ((oks js).map okPV))
 fl_ : C fl = some (.lst (duesOf [] js))
 ne : sl ≠ fl
 ex : ExS [sl, fl] C0 C
theorem Du.new {C0 C : CH} {sl fl p : Addr} {js : Its} (h : Du C0 sl fl js C) (hp : C p = none) (o : CO) : Du C0 sl fl js (updC C p o) := by
 have k : ∀ b u, C b = some u → (updC C p o) b = some u := fun b u e => by rw [updC_ne (fun z => by rw [z, hp] at e; cases e)]; exact e
 exact ⟨k _ _ h.sl_, k _ _ h.fl_, h.ne, fun b u n e => k _ _ (h.ex b u n e)⟩
theorem Du.put {C0 C : CH} {sl fl p : Addr} {js : Its} (h : Du C0 sl fl js C) (hp : C0 p = none) (n1 : sl ≠ p) (n2 : fl ≠ p) (o : CO) : Du C0 sl fl js (updC C p o) :=
 ⟨by rw [updC_ne n1]; exact h.sl_, by rw [updC_ne n2]; exact h.fl_, h.ne, h.ex.put hp o⟩
theorem due_step {C0 C2 : CH} {sl fl p : Addr} {js : Its} {l : Ln} {τ : Turns} {names : List Str} {name : Str} {Q : K1} (hD : Du C0 sl fl js C2) (mp : C2 p = some (.dK τ)) (hl : LOk names l) (hh : Has τ names) (hg : (valP τ (.inr name)).getD (.int (-1)) = .int (vlOf τ l).v) (len : js.length ≤ 900)
  (q : ∀ C', Du C0 sl fl (js ++ [(l, vlOf τ l)]) C' → Q .non C') : gDue [l.pv, .ref p, .str name, .ref sl, .ref fl] C2 Q := by
 refine ⟨l, vlOf τ l, names, τ, name, p, sl, fl, oks js, duesOf [] js, rfl, hl, ln_is hl hh, hg, mp, hD.sl_, hD.fl_, hD.ne, by rw [show (oks js).length = js.length from List.length_map _]; exact len, by rw [dues_len]; exact len, fun C' m1 m2 x => ?_⟩
 refine q C' ⟨by rw [m1, oks_app]; rfl, by rw [m2, dues_app]; rfl, hD.ne, hD.ex.trans x⟩
theorem walkL_ix {b : Addr} {xs : List PV} {g : TCG} {u : TCS} {E : CEnds} (I : Nat → CSt → CH → Prop) (hm : ∀ i ρ C, I i ρ C → C b = some (.lst xs)) (step : ∀ i x ρ C, xs[i]? = some x → I i ρ C → ∀ L : CSt → CH → Prop, (∀ ρ' C', I (i + 1) ρ' C' → L ρ' C') → g x ρ C fun ρ1 C1 => u { nx := L, ct := L, bk := E.nx, rt := E.rt } ρ1 C1) (fin : ∀ ρ C, I xs.length ρ C → E.nx ρ C) :
  ∀ n i ρ C, I i ρ C → i + n = xs.length + 1 → i ≤ xs.length → cWalkL b g u E n i ρ C := by
 intro n
 induction n with
 | zero => intro i ρ C h h1 h2; omega
 | succ n ih =>
  intro i ρ C h h1 h2
  unfold cWalkL
  rw [hm i ρ C h]
  dsimp only
  cases e : xs[i]? with
  | none =>
   have : xs.length ≤ i := List.getElem?_eq_none_iff.1 e
   have : i = xs.length := by omega
   subst this
   exact fin ρ C h
  | some x =>
   have hi : i < xs.length := (List.getElem?_eq_some_iff.1 e).1
   exact step i x ρ C e h _ fun ρ' C' h' => ih (i + 1) ρ' C' h' (by omega) (by omega)
theorem forL_l {i n : Nat} {b : Addr} {g : TCG} {u : TCS} {E : CEnds} {ρ : CSt} {C : CH} (hv : ρ[i]? = some (some (.ref b))) (h : cWalkL b g u E n 0 ρ C) : cForL (cVar i) g u E ρ C := by
 unfold cForL cVar
 rw [hv]
 exact ⟨n, h⟩
theorem lines_walk {b : Addr} {ls : List Ln} {g : TCG} {u : TCS} {E : CEnds} {τ : Turns} {js : Its} {S : CSt → Prop} {C0 : CH} {sl fl : Addr} (ρ : CSt) (C : CH) (hb : C0 b = some (.lst (ls.map Ln.pv))) (n1 : b ∉ [sl, fl])
  (step : ∀ l ρ C js', l ∈ ls → S ρ → Du C0 sl fl js' C → js'.length < js.length + ls.length → ∀ L : CSt → CH → Prop, (∀ ρ' C', S ρ' → Du C0 sl fl (js' ++ [(l, vlOf τ l)]) C' → L ρ' C') → g l.pv ρ C fun ρ1 C1 => u { nx := L, ct := L, bk := E.nx, rt := E.rt } ρ1 C1)
  (fin : ∀ ρ C, S ρ → Du C0 sl fl (js ++ its τ ls) C → E.nx ρ C) (hS : S ρ) (hD : Du C0 sl fl js C) : cWalkL b g u E (ls.length + 1) 0 ρ C := by
 refine walkL_ix (xs := ls.map Ln.pv) (fun i ρ C => i ≤ ls.length ∧ S ρ ∧ Du C0 sl fl (js ++ its τ (ls.take i)) C) (fun i ρ C h => h.2.2.ex _ _ n1 hb) ?_ ?_ _ 0 ρ C ⟨Nat.zero_le _, hS, by show Du C0 sl fl (js ++ []) C; rw [List.append_nil]; exact hD⟩ (by rw [List.length_map]; omega) (Nat.zero_le _)
 ·rintro i x ρ C hx ⟨hi, hS, hD⟩ L hL
  rw [List.getElem?_map] at hx
  cases hl : ls[i]? with
  | none => rw [hl] at hx; cases hx
  | some l =>
   rw [hl] at hx
   cases hx
   have hil : i < ls.length := (List.getElem?_eq_some_iff.1 hl).1
   refine step l ρ C _ (List.mem_of_getElem? hl) hS hD (by rw [List.length_append, its_len, List.length_take]; omega) L fun ρ' C' hS' hD' => hL ρ' C' ⟨hil, hS', ?_⟩
   have e : its τ (ls.take (i + 1)) = its τ (ls.take i) ++ [(l, vlOf τ l)] := by
    unfold its
    rw [List.take_succ, hl, List.map_append]
    rfl
   rw [e, ← List.append_assoc]
   exact hD'
 ·rintro ρ C ⟨_, hS, hD⟩
  rw [List.length_map, List.take_length] at hD
  exact fin ρ C hS hD
theorem comp_lines {c : TCE} {ρ : CSt} {Q : K1} {t : Addr} {ns : List Int} {names : List Str} {C0 : CH} {n : Nat} (hn : n ≤ 2) (hc : ∀ z C (Q' : K1), Tp C t ns → Ex t C0 C → (∀ l C', LOk names l → Tp C' t ns → Ex t C C' → Q' l.pv C') → c (some z :: ρ) C Q')
  (q : ∀ p (ls : List Ln) C', (∀ l ∈ ls, LOk names l) → ls.length = n → C' p = some (.lst (ls.map Ln.pv)) → Tp C' t ns → Ex t C0 C' → Q (.ref p) C') (zs : List PV) (hz : zs.length = n) (hT : Tp C0 t ns) : cCompW cYes c ρ Q zs [] C0 := by
 refine compW_inv (fun zs acc C => ∃ ls : List Ln, acc = ls.map Ln.pv ∧ (∀ l ∈ ls, LOk names l) ∧ ls.length + zs.length = n ∧ Tp C t ns ∧ Ex t C0 C) ?_ ?_ zs [] C0 ⟨[], rfl, (fun l h => by cases h), by show 0 + zs.length = n; omega, hT, Ex.refl⟩
 ·rintro z zs acc C ⟨ls, rfl, h1, h2, h3, h4⟩ L hL
  rw [List.length_cons] at h2
  refine hc z C L h3 h4 fun l C' hl T' e' => hL _ _ ⟨?_, ls ++ [l], by rw [List.map_append]; rfl, ?_, by rw [List.length_append, List.length_singleton]; omega, T', h4.trans e'⟩
  ·rw [List.length_map]
   exact Nat.lt_of_le_of_lt (show ls.length ≤ 2 by omega) (by decide)
  ·intro x hx
   rcases List.mem_append.1 hx with hx | hx
   ·exact h1 x hx
   ·cases List.mem_singleton.1 hx; exact hl
 ·rintro acc C ⟨ls, rfl, h1, h2, h3, h4⟩ p hp
  exact q p ls _ h1 h2 updC_same (h3.new hp _) (h4.trans (Ex.new hp _))
theorem putAllT_s {p : Addr} {ts : List (PV × PV)} {ps : List (List Key × PV)} {C : CH} {Q : K1} (m : C p = some (.dT [])) (e : prT ts = some ps) (h : ps.length ≤ 15) (q : Q (.ref p) (updC C p (.dT (mergeG [] ps)))) : cPutAllT p ts C Q := by
 unfold cPutAllT
 refine ⟨m, ?_⟩
 rw [e]
 exact ⟨h, q⟩
theorem putAll_s {p : Addr} {ts : List (PV × PV)} {ps : List (Key × PV)} {C : CH} {Q : K1} (m : C p = some (.dK [])) (e : prK ts = some ps) (h : ps.length ≤ 15) (q : Q (.ref p) (updC C p (.dK (mergeP [] ps)))) : cPutAll p ts C Q := by
 unfold cPutAll
 refine ⟨m, ?_⟩
 rw [e]
 exact ⟨h, q⟩
theorem ans_merge : mergeG [] [(kQ "a", PV.int 5), ([.inr "take", .inr "x"], .int 3)] = ANS := by
 show putG (putG [] (kQ "a") (.int 5)) [.inr "take", .inr "x"] (.int 3) = ANS
 have e1 : putG [] (kQ "a") (PV.int 5) = [(kQ "a", .int 5)] := by unfold putG; rw [if_neg (by decide)]; rfl
 rw [e1]
 unfold putG
 rw [if_neg (by decide)]
 rfl
theorem al_tup {d : Nat} {C : CH} {xs : List PV} (hl : xs.length ≤ 1000) (h : ∀ z ∈ xs, ∀ C', Al d C' z z) : Al (d + 1) C (.tup xs) (.tup xs) := .inr ⟨xs, .tup, .inl ⟨rfl, rfl⟩, .inl ⟨rfl, rfl⟩, hl, h⟩
theorem al_sc {d : Nat} {C : CH} {x : PV} (h : (sc x).isSome = true) : Al (d + 1) C x x := .inl ⟨rfl, h⟩
theorem al_spot {d : Nat} {C : CH} (o : Option Int) (c : Nat) : Al (d + 2) C (spotPV o c) (spotPV o c) := al_tup (by show 2 ≤ 1000; decide) fun z hz C' => by
 rcases List.mem_cons.1 hz with rfl | hz
 ·exact al_sc (by cases o <;> rfl)
 ·cases List.mem_singleton.1 hz; exact al_sc rfl
theorem al_due {C : CH} {c : Nat} {l : Ln} {vl : Vl} (h : ∀ k nm ik m, l = .give k nm ik m → m ≤ 2) : Al 4 C (duePV c l vl) (duePV c l vl) := by
 refine al_tup (by show 4 ≤ 1000; decide) fun z hz C' => ?_
 rcases List.mem_cons.1 hz with rfl | hz
 ·exact al_spot _ _
 rcases List.mem_cons.1 hz with rfl | hz
 ·exact al_sc rfl
 rcases List.mem_cons.1 hz with rfl | hz
 ·exact al_sc rfl
 cases List.mem_singleton.1 hz
 cases l with
 | give k nm ik m =>
  have hm := h k nm ik m rfl
  refine al_tup ?_ fun z hz C' => ?_
  ·show ((List.range m).map (spotPV vl.io)).length ≤ 1000
   rw [List.length_map, List.length_range]; omega
  ·obtain ⟨j, _, rfl⟩ := List.mem_map.1 (show z ∈ (List.range m).map (spotPV vl.io) from hz)
   exact al_spot _ _
 | plain tag k nm => exact al_tup (Nat.zero_le _) fun z hz C' => by cases hz
 | part k nm => exact al_tup (Nat.zero_le _) fun z hz C' => by cases hz
theorem al_dues : ∀ (is : Its) (seen : List (Option Int)), (∀ p ∈ is, ∀ k nm ik m, p.1 = .give k nm ik m → m ≤ 2) → ∀ z ∈ duesOf seen is, ∀ C, Al 4 C z z
 | [], _, _, z, hz, _ => by cases hz
 | (l, vl) :: r, seen, h, z, hz, C => by
  rcases List.mem_cons.1 (show z ∈ duePV (cnt vl.o seen) l vl :: duesOf (seen ++ [vl.o]) r from hz) with rfl | hz
  ·exact al_due (h _ List.mem_cons_self)
  ·exact al_dues r _ (fun p hp => h p (List.mem_cons_of_mem _ hp)) z hz C
theorem its_ok {τ : Turns} {names : List Str} {ls : List Ln} (h : ∀ l ∈ ls, LOk names l) : ∀ p ∈ its τ ls, NumOk p ∧ ∀ k nm ik m, p.1 = .give k nm ik m → m ≤ 2 := by
 intro p hp
 obtain ⟨l, hl, rfl⟩ := List.mem_map.1 hp
 exact ⟨num_ok l, give_ok (h l hl)⟩
theorem all_ok {n0 n1 : Str} {A O I : List Ln} {i c0 c1 : Int} (hA : ∀ l ∈ A, LOk [] l) (hO : ∀ l ∈ O, LOk [n0] l) (hI : ∀ l ∈ I, LOk [n0, n1] l) : ∀ p ∈ itsAll n0 n1 A O I i c0 c1, NumOk p ∧ ∀ k nm ik m, p.1 = .give k nm ik m → m ≤ 2 := by
 intro p hp
 rcases List.mem_append.1 hp with hp | hp
 ·exact its_ok hA p hp
 rcases List.mem_append.1 hp with hp | hp
 ·obtain ⟨k, _, hp⟩ := List.mem_flatMap.1 hp
  rcases List.mem_append.1 hp with hp | hp
  ·exact its_ok hO p hp
  ·unfold itsT at hp
   split at hp
   ·exact its_ok (fun l hl => hO l (List.mem_of_mem_take hl)) p hp
   ·obtain ⟨j, _, hp⟩ := List.mem_flatMap.1 hp
    exact its_ok hI p hp
 ·exact its_ok hA p hp
end
end K08
set_option Elab.async false
set_option linter.all false
set_option maxRecDepth 100000
set_option maxHeartbeats 1000000
namespace K08
open PySem L2 CL
section
@[irreducible] def zDue : GC := gDue
theorem zdue_step {C0 C2 : CH} {sl fl p : Addr} {js : Its} {l : Ln} {τ : Turns} {names : List Str} {name : Str} {Q : K1} (hD : Du C0 sl fl js C2) (mp : C2 p = some (.dK τ)) (hl : LOk names l) (hh : Has τ names) (hg : (valP τ (.inr name)).getD (.int (-1)) = .int (vlOf τ l).v) (len : js.length ≤ 900)
  (q : ∀ C', Du C0 sl fl (js ++ [(l, vlOf τ l)]) C' → Q .non C') : zDue [l.pv, .ref p, .str name, .ref sl, .ref fl] C2 Q := by
 unfold zDue
 exact due_step hD mp hl hh hg len q
abbrev zDISP : TCE := cDisp [(cOp cIx (cVar 2) (cC (.int 0)), cVar 15)]
abbrev zFORA : TCS := cForL (cVar 4) (dName 14) (cDrop (cCall zDue (cCons (cVar 14) (cCons cDNew (cCons (cC (.str "")) (cCons (cVar 12) (cCons (cVar 13) cNil)))))))
abbrev zFORO : TCS := cForL (cVar 5) (dName 14) (cDrop (cCall zDue (cCons (cVar 14) (cCons zDISP (cCons (cOp cIx (cVar 2) (cC (.int 0))) (cCons (cVar 12) (cCons (cVar 13) cNil)))))))
abbrev zFORI : TCS := cForL (cVar 6) (dName 14) (cSeq (cSet 17 zDISP) (cSeq (cDPut (cVar 17) (cOp cIx (cVar 2) (cC (.int 1))) (cVar 16)) (cDrop (cCall zDue (cCons (cVar 14) (cCons (cVar 17) (cCons (cOp cIx (cVar 2) (cC (.int 1))) (cCons (cVar 12) (cCons (cVar 13) cNil)))))))))
abbrev zFORJ : TCS := cForR (cCons (cCall cMax (cCons (cC (.int 0)) (cCons (cCall cMin (cCons (cC (.int 8)) (cCons (cOp cIx (cVar 3) (cC (.int 1))) cNil))) cNil))) cNil) (dName 16) zFORI
abbrev zIFT : TCS := cIfS (cTest (cOp (cEqT id) (cOp cIx (cVar 8) (cC (.int 1))) (cTup (cCons (cC (.str "num")) (cCons (cC (.int 0)) cNil))))) (cDrop (cCall zDue (cCons (cOp cIx (cVar 5) (cC (.int 0))) (cCons zDISP (cCons (cOp cIx (cVar 2) (cC (.int 0))) (cCons (cVar 12) (cCons (cVar 13) cNil))))))) zFORJ
abbrev zFORK : TCS := cForR (cCons (cCall cMax (cCons (cC (.int 0)) (cCons (cCall cMin (cCons (cC (.int 8)) (cCons (cOp cIx (cVar 3) (cC (.int 0))) cNil))) cNil))) cNil) (dName 15) (cSeq zFORO zIFT)
abbrev zRET : TCS := cRet (cCall (gAl 5) (cCons (cCall gTold (cCons (cVar 11) cNil)) (cCons (cVar 13) cNil)))
theorem cap_max (c : Int) : (if (if c < 8 then c else 8) > 0 then (if c < 8 then c else 8) else 0 : Int).toNat = cap c := by
 unfold cap
 split <;> omega
structure Ctx (C0 : CH) (nl ul al ol il sl fl : Addr) (n0 n1 : Str) (c0 c1 : Int) (A O I : List Ln) : Prop where
 mnl : C0 nl = some (.lst (([n0, n1] : List Str).map PV.str))
 mul : C0 ul = some (.lst [.int c0, .int c1])
 mal : C0 al = some (.lst (A.map Ln.pv))
 mol : C0 ol = some (.lst (O.map Ln.pv))
 mil : C0 il = some (.lst (I.map Ln.pv))
 nS : nl ∉ [sl, fl] ∧ ul ∉ [sl, fl] ∧ al ∉ [sl, fl] ∧ ol ∉ [sl, fl] ∧ il ∉ [sl, fl]
theorem disp_s {ρ : CSt} {C : CH} {Q : K1} {nl : Addr} {n0 : Str} {ns : List Str} {k : Nat} (h2 : ρ[2]? = some (some (.ref nl))) (h15 : ρ[15]? = some (some (.int (k : Nat)))) (m : C nl = some (.lst ((n0 :: ns).map PV.str))) (q : ∀ p C', C p = none → C' = updC (updC C p (.dK [])) p (.dK (t1 n0 k)) → Q (.ref p) C') : zDISP ρ C Q := by
 intro p hp
 have hv2 : ∀ (C : CH) (Q : K1), Q (.ref nl) C → cVar 2 ρ C Q := fun C Q h => by unfold cVar; rw [h2]; exact h
 have hv15 : ∀ (C : CH) (Q : K1), Q (.int (k : Nat)) C → cVar 15 ρ C Q := fun C Q h => by unfold cVar; rw [h15]; exact h
 show cVar 2 ρ _ fun x C1 => cIx x (.int 0) C1 fun x C2 => cVar 15 ρ C2 fun y C3 => cPutAll p [(x, y)] C3 Q
 refine hv2 _ _ ?_
 refine ix_l ((Gr.new hp _) _ _ m) (v := .str n0) at_zero ?_
 refine hv15 _ _ ?_
 refine putAll_s (ps := [(.inr n0, .int (k : Nat))]) updC_same rfl (by show 1 ≤ 15; decide) ?_
 exact q p _ hp rfl
variable {C0 : CH} {nl ul al ol il sl fl : Addr} {n0 n1 : Str} {c0 c1 i : Int} {A O I : List Ln} {h0 h1 s7 s8 s9 s10 s11 : Option PV} {k : Nat}
abbrev slots (h0 h1 : Option PV) (nl ul al ol il : Addr) (s7 s8 s9 s10 s11 : Option PV) (sl fl : Addr) (x14 x15 x16 x17 : Option PV) : CSt := [h0, h1, some (.ref nl), some (.ref ul), some (.ref al), some (.ref ol), some (.ref il), s7, s8, s9, s10, s11, some (.ref sl), some (.ref fl), x14, x15, x16, x17]
theorem fora (X : Ctx C0 nl ul al ol il sl fl n0 n1 c0 c1 A O I) (hA : ∀ l ∈ A, LOk [] l) {js : Its} (hj : js.length + A.length ≤ 900) {E : CEnds} {C : CH} {x14 x15 x16 x17 : Option PV} (hD : Du C0 sl fl js C)
  (fin : ∀ x14 C, Du C0 sl fl (js ++ its [] A) C → E.nx (slots h0 h1 nl ul al ol il s7 s8 s9 s10 s11 sl fl x14 x15 x16 x17) C) : zFORA E (slots h0 h1 nl ul al ol il s7 s8 s9 s10 s11 sl fl x14 x15 x16 x17) C := by
 refine forL_l (b := al) (n := A.length + 1) rfl ?_
 refine lines_walk (τ := []) (js := js) (S := fun ρ => ∃ x14, ρ = slots h0 h1 nl ul al ol il s7 s8 s9 s10 s11 sl fl x14 x15 x16 x17) _ _ X.mal X.nS.2.2.1 ?_ ?_ ⟨_, rfl⟩ hD
 ·rintro l ρ C1 js' hl ⟨y14, rfl⟩ hD1 hlen L hL
  intro p hp
  refine zdue_step (hD1.new hp _) updC_same (hA l hl) has0 (v_of0 (hA l hl) "") (by omega) fun C' hD' => ?_
  exact hL _ _ ⟨_, rfl⟩ hD'
 ·rintro ρ C1 ⟨y14, rfl⟩ hD1
  exact fin y14 C1 hD1
theorem du_disp {js : Its} {C C' : CH} {p : Addr} {τ : Turns} (hD : Du C0 sl fl js C) (hp : C p = none) (e : C' = updC (updC C p (.dK [])) p (.dK τ)) : Du C0 sl fl js C' ∧ C' p = some (.dK τ) ∧ Gr C C' := by
 subst e
 have k : ∀ b u, C b = some u → (updC (updC C p (.dK [])) p (.dK τ)) b = some u := fun b u h => by
  have : b ≠ p := fun z => by rw [z, hp] at h; cases h
  rw [updC_ne this, updC_ne this]; exact h
 exact ⟨⟨k _ _ hD.sl_, k _ _ hD.fl_, hD.ne, fun b u n h => k _ _ (hD.ex b u n h)⟩, updC_same, k⟩
theorem foro (X : Ctx C0 nl ul al ol il sl fl n0 n1 c0 c1 A O I) (hO : ∀ l ∈ O, LOk [n0] l) {js : Its} (hj : js.length + O.length ≤ 900) {E : CEnds} {C : CH} {x14 x16 x17 : Option PV} (hD : Du C0 sl fl js C)
  (fin : ∀ x14 C, Du C0 sl fl (js ++ its (t1 n0 k) O) C → E.nx (slots h0 h1 nl ul al ol il s7 s8 s9 s10 s11 sl fl x14 (some (.int (k : Nat))) x16 x17) C) : zFORO E (slots h0 h1 nl ul al ol il s7 s8 s9 s10 s11 sl fl x14 (some (.int (k : Nat))) x16 x17) C := by
 refine forL_l (b := ol) (n := O.length + 1) rfl ?_
 refine lines_walk (τ := t1 n0 k) (js := js) (S := fun ρ => ∃ x14, ρ = slots h0 h1 nl ul al ol il s7 s8 s9 s10 s11 sl fl x14 (some (.int (k : Nat))) x16 x17) _ _ X.mol X.nS.2.2.2.1 ?_ ?_ ⟨_, rfl⟩ hD
 ·rintro l ρ C1 js' hl ⟨y14, rfl⟩ hD1 hlen L hL
  have mn1 := hD1.ex _ _ X.nS.1 X.mnl
  refine disp_s (nl := nl) (n0 := n0) (ns := [n1]) (k := k) rfl rfl mn1 fun p C2 hp e2 => ?_
  obtain ⟨hD2, mp2, g2⟩ := du_disp hD1 hp e2
  refine ix_l (g2 _ _ mn1) (v := .str n0) at_zero ?_
  refine zdue_step hD2 mp2 (hO l hl) (has1 n0 k) (v_of (name := n0) (hO l hl) (has1 n0 k) rfl) (by omega) fun C' hD' => ?_
  exact hL _ _ ⟨_, rfl⟩ hD'
 ·rintro ρ C1 ⟨y14, rfl⟩ hD1
  exact fin y14 C1 hD1
theorem fori (X : Ctx C0 nl ul al ol il sl fl n0 n1 c0 c1 A O I) (hI : ∀ l ∈ I, LOk [n0, n1] l) {js : Its} (hj : js.length + I.length ≤ 900) {j : Nat} {E : CEnds} {C : CH} {x14 x17 : Option PV} (hD : Du C0 sl fl js C)
  (fin : ∀ x14 x17 C, Du C0 sl fl (js ++ its (t2 n0 n1 k j) I) C → E.nx (slots h0 h1 nl ul al ol il s7 s8 s9 s10 s11 sl fl x14 (some (.int (k : Nat))) (some (.int (j : Nat))) x17) C) : zFORI E (slots h0 h1 nl ul al ol il s7 s8 s9 s10 s11 sl fl x14 (some (.int (k : Nat))) (some (.int (j : Nat))) x17) C := by
 refine forL_l (b := il) (n := I.length + 1) rfl ?_
 refine lines_walk (τ := t2 n0 n1 k j) (js := js) (S := fun ρ => ∃ x14 x17, ρ = slots h0 h1 nl ul al ol il s7 s8 s9 s10 s11 sl fl x14 (some (.int (k : Nat))) (some (.int (j : Nat))) x17) _ _ X.mil X.nS.2.2.2.2 ?_ ?_ ⟨_, _, rfl⟩ hD
 ·rintro l ρ C1 js' hl ⟨y14, y17, rfl⟩ hD1 hlen L hL
  have mn1 := hD1.ex _ _ X.nS.1 X.mnl
  refine seq_set (i := 17) ?_
  refine disp_s (nl := nl) (n0 := n0) (ns := [n1]) (k := k) rfl rfl mn1 fun p C2 hp e2 => ?_
  obtain ⟨hD2, mp2, g2⟩ := du_disp hD1 hp e2
  have p0 : C0 p = none := hD1.ex.none (fun z => by
   rcases List.mem_cons.1 z with z | z
   ·have := hD1.sl_; rw [← z, hp] at this; cases this
   ·have := hD1.fl_; rw [← List.mem_singleton.1 z, hp] at this; cases this) hp
  have ns1 : sl ≠ p := fun z => by have := hD1.sl_; rw [z, hp] at this; cases this
  have ns2 : fl ≠ p := fun z => by have := hD1.fl_; rw [z, hp] at this; cases this
  try dsimp only
  refine seq_i ?_
  refine ix_l (g2 _ _ mn1) (v := .str n1) at_one ?_
  refine putD_k (k := .inr n1) mp2 rfl (by show (putP [] (.inr n0) (.int (k : Nat))).length ≤ 1000; have := put_size [] (.inr n0) (.int (k : Nat)); have e : ([] : List (Key × PV)).length = 0 := rfl; omega) ?_
  try dsimp only
  have hD3 := hD2.put p0 ns1 ns2 (.dK (t2 n0 n1 k j))
  have np : nl ≠ p := fun z => by rw [z, hp] at mn1; cases mn1
  refine ix_l (by rw [updC_ne np]; exact g2 _ _ mn1) (v := .str n1) at_one ?_
  refine zdue_step hD3 updC_same (hI l hl) (has2 n0 n1 k j) (v_of (name := n1) (hI l hl) (has2 n0 n1 k j) rfl) (by omega) fun C' hD' => ?_
  exact hL _ _ ⟨_, _, rfl⟩ hD'
 ·rintro ρ C1 ⟨y14, y17, rfl⟩ hD1
  exact fin y14 y17 C1 hD1
end
end K08
set_option Elab.async false
set_option linter.all false
set_option maxRecDepth 100000
set_option maxHeartbeats 1000000
namespace K08
open PySem L2 CL
section
variable {C0 : CH} {nl ul al ol il sl fl : Addr} {n0 n1 : Str} {c0 c1 i : Int} {A O I : List Ln} {h0 h1 s7 s9 s10 : Option PV} {k : Nat} {sec : PV}
theorem eqT_s {f : Bool → Bool} {x y : PV} {ks js : List Key} {C : CH} {Q : K1} (h1 : tkOf x = some ks) (h2 : tkOf y = some js) (q : Q (.bl (f (decide (ks = js)))) C) : cEqT f x y C Q := by
 unfold cEqT
 rw [h1, h2]
 exact q
theorem drop_cons {N j : Nat} {z : PV} {zs : List PV} (h : z :: zs = ((List.range N).drop j).map (fun k : Nat => PV.int (k : Nat))) : j < N ∧ z = .int (j : Nat) ∧ zs = ((List.range N).drop (j + 1)).map (fun k : Nat => PV.int (k : Nat)) := by
 have hj : j < (List.range N).length := by
  rcases Nat.lt_or_ge j (List.range N).length with h' | h'
  ·exact h'
  ·rw [List.drop_of_length_le h'] at h; cases h
 rw [List.drop_eq_getElem_cons hj, List.map_cons, List.getElem_range] at h
 injection h with h1 h2
 exact ⟨by rw [List.length_range] at hj; exact hj, h1, h2⟩
theorem drop_nil {N j : Nat} (hj : j ≤ N) (h : [] = ((List.range N).drop j).map (fun k : Nat => PV.int (k : Nat))) : j = N := by
 rcases Nat.lt_or_ge j N with h' | h'
 ·rw [List.drop_eq_getElem_cons (by rw [List.length_range]; exact h'), List.map_cons] at h; cases h
 ·omega
theorem max_b (c : Int) (h1 : -100 ≤ c) : -(2 ^ 62) ≤ (if (if c < 8 then c else 8) > 0 then (if c < 8 then c else 8) else 0 : Int) ∧ (if (if c < 8 then c else 8) > 0 then (if c < 8 then c else 8) else 0 : Int) < 2 ^ 62 := by
 constructor <;> (split <;> split <;> omega)
theorem forj {s8 s11 : Option PV} (X : Ctx C0 nl ul al ol il sl fl n0 n1 c0 c1 A O I) (hI : ∀ l ∈ I, LOk [n0, n1] l) (lI : I.length ≤ 2) (hc1 : -100 ≤ c1) {js : Its} (hj : js.length + 20 ≤ 900) {E : CEnds} {C : CH} {x14 x16 x17 : Option PV} (hD : Du C0 sl fl js C)
  (fin : ∀ x14 x16 x17 C, Du C0 sl fl (js ++ (List.range (cap c1)).flatMap fun j => its (t2 n0 n1 k j) I) C → E.nx (slots h0 h1 nl ul al ol il s7 s8 s9 s10 s11 sl fl x14 (some (.int (k : Nat))) x16 x17) C) : zFORJ E (slots h0 h1 nl ul al ol il s7 s8 s9 s10 s11 sl fl x14 (some (.int (k : Nat))) x16 x17) C := by
 refine ix_l (hD.ex _ _ X.nS.2.1 X.mul) (v := .int c1) at_one ?_
 refine min_s ?_
 refine max_s ?_
 refine ⟨(max_b c1 hc1).1, (max_b c1 hc1).2, ?_⟩
 rw [cap_max]
 refine walk_inv (fun zs ρ C => ∃ j x14 x16 x17, j ≤ cap c1 ∧ zs = ((List.range (cap c1)).drop j).map (fun k : Nat => PV.int (k : Nat)) ∧ ρ = slots h0 h1 nl ul al ol il s7 s8 s9 s10 s11 sl fl x14 (some (.int (k : Nat))) x16 x17 ∧ Du C0 sl fl (js ++ (List.range j).flatMap fun j => its (t2 n0 n1 k j) I) C) ?_ ?_ _ _ _ ⟨0, _, _, _, Nat.zero_le _, rfl, rfl, by show Du C0 sl fl (js ++ []) C; rw [List.append_nil]; exact hD⟩
 ·rintro z zs ρ C1 ⟨j, y14, y16, y17, hj1, hz, rfl, hD1⟩ L hL
  obtain ⟨hjN, rfl, rfl⟩ := drop_cons hz
  have hb := flat_bound (f := fun j => its (t2 n0 n1 k j) I) (b := 2) j fun t _ => by rw [its_len]; exact lI
  have := cap_le c1
  refine fori (k := k) (j := j) X hI (by rw [List.length_append]; omega) hD1 fun z14 z17 C2 hD2 => ?_
  refine hL _ _ ⟨j + 1, _, _, _, hjN, rfl, rfl, ?_⟩
  rw [flat_succ, ← List.append_assoc]
  exact hD2
 ·rintro ρ C1 ⟨j, y14, y16, y17, hj1, hz, rfl, hD1⟩
  cases drop_nil hj1 hz
  exact fin _ _ _ C1 hD1
theorem ift {s11 : Option PV} (X : Ctx C0 nl ul al ol il sl fl n0 n1 c0 c1 A O I) (hO : ∀ l ∈ O, LOk [n0] l) (hI : ∀ l ∈ I, LOk [n0, n1] l) (lO : 1 ≤ O.length) (lI : I.length ≤ 2) (hc1 : -100 ≤ c1) {js : Its} (hj : js.length + 20 ≤ 900) {E : CEnds} {C : CH} {x14 x16 x17 : Option PV} (hD : Du C0 sl fl js C)
  (fin : ∀ x14 x16 x17 C, Du C0 sl fl (js ++ itsT n0 n1 O I i c1 k) C → E.nx (slots h0 h1 nl ul al ol il s7 (some (takenPV i sec O)) s9 s10 s11 sl fl x14 (some (.int (k : Nat))) x16 x17) C) : zIFT E (slots h0 h1 nl ul al ol il s7 (some (takenPV i sec O)) s9 s10 s11 sl fl x14 (some (.int (k : Nat))) x16 x17) C := by
 refine ix_t rfl ?_
 refine ⟨by show 2 ≤ sizeLine; decide, ?_⟩
 refine eqT_s (ks := [.inr "num", .inl (some i)]) (js := [.inr "num", .inl (some 0)]) rfl rfl ?_
 unfold itsT at fin
 by_cases e : i = 0
 ·refine on_y (decide_eq_true (by rw [e])) ?_
  rw [if_pos e] at fin
  obtain ⟨o, r, rfl⟩ : ∃ o r, O = o :: r := by
   cases O with
   | nil => exact absurd lO (by show ¬ 1 ≤ 0; omega)
   | cons o r => exact ⟨o, r, rfl⟩
  have mn1 := hD.ex _ _ X.nS.1 X.mnl
  have mo1 := hD.ex _ _ X.nS.2.2.2.1 X.mol
  refine ix_l mo1 (v := o.pv) at_zero ?_
  refine disp_s (nl := nl) (n0 := n0) (ns := [n1]) (k := k) rfl rfl mn1 fun p C2 hp e2 => ?_
  obtain ⟨hD2, mp2, g2⟩ := du_disp hD hp e2
  refine ix_l (g2 _ _ mn1) (v := .str n0) at_zero ?_
  refine zdue_step hD2 mp2 (hO o List.mem_cons_self) (has1 n0 k) (v_of (name := n0) (hO o List.mem_cons_self) (has1 n0 k) rfl) (by omega) fun C' hD' => ?_
  exact fin _ _ _ C' hD'
 ·refine on_n (decide_eq_false (fun z => e (by injection z with _ z; injection z with z; injection z with z; injection z))) ?_
  rw [if_neg e] at fin
  exact forj (k := k) X hI lI hc1 hj hD fin
theorem fork {s11 : Option PV} (X : Ctx C0 nl ul al ol il sl fl n0 n1 c0 c1 A O I) (hO : ∀ l ∈ O, LOk [n0] l) (hI : ∀ l ∈ I, LOk [n0, n1] l) (lO : 1 ≤ O.length) (lO2 : O.length ≤ 2) (lI : I.length ≤ 2) (hc0 : -100 ≤ c0) (hc1 : -100 ≤ c1) {js : Its} (hj : js.length ≤ 2) {E : CEnds} {C : CH} {x14 x15 x16 x17 : Option PV} (hD : Du C0 sl fl js C)
  (fin : ∀ x14 x15 x16 x17 C, Du C0 sl fl (js ++ (List.range (cap c0)).flatMap (itsF n0 n1 O I i c1)) C → E.nx (slots h0 h1 nl ul al ol il s7 (some (takenPV i sec O)) s9 s10 s11 sl fl x14 x15 x16 x17) C) : zFORK E (slots h0 h1 nl ul al ol il s7 (some (takenPV i sec O)) s9 s10 s11 sl fl x14 x15 x16 x17) C := by
 refine ix_l (hD.ex _ _ X.nS.2.1 X.mul) (v := .int c0) at_zero ?_
 refine min_s ?_
 refine max_s ?_
 refine ⟨(max_b c0 hc0).1, (max_b c0 hc0).2, ?_⟩
 rw [cap_max]
 refine walk_inv (fun zs ρ C => ∃ k x14 x15 x16 x17, k ≤ cap c0 ∧ zs = ((List.range (cap c0)).drop k).map (fun k : Nat => PV.int (k : Nat)) ∧ ρ = slots h0 h1 nl ul al ol il s7 (some (takenPV i sec O)) s9 s10 s11 sl fl x14 x15 x16 x17 ∧ Du C0 sl fl (js ++ (List.range k).flatMap (itsF n0 n1 O I i c1)) C) ?_ ?_ _ _ _ ⟨0, _, _, _, _, Nat.zero_le _, rfl, rfl, by show Du C0 sl fl (js ++ []) C; rw [List.append_nil]; exact hD⟩
 ·rintro z zs ρ C1 ⟨k, y14, y15, y16, y17, hk1, hz, rfl, hD1⟩ L hL
  obtain ⟨hkN, rfl, rfl⟩ := drop_cons hz
  have hb := flat_bound (f := itsF n0 n1 O I i c1) (b := 18) k fun t _ => itsF_len lO2 lI
  have := cap_le c0
  refine seq_i ?_
  refine foro (k := k) X hO (by rw [List.length_append]; omega) hD1 fun z14 C2 hD2 => ?_
  refine ift (k := k) X hO hI lO lI hc1 (by rw [List.length_append, List.length_append, its_len]; omega) hD2 fun w14 w16 w17 C3 hD3 => ?_
  refine hL _ _ ⟨k + 1, _, _, _, _, hkN, rfl, rfl, ?_⟩
  rw [flat_succ]
  unfold itsF at hD3 ⊢
  rw [← List.append_assoc, ← List.append_assoc]
  rw [List.append_assoc] at hD3
  rw [List.append_assoc, List.append_assoc]
  rw [List.append_assoc] at hD3
  exact hD3
 ·rintro ρ C1 ⟨k, y14, y15, y16, y17, hk1, hz, rfl, hD1⟩
  cases drop_nil hk1 hz
  exact fin _ _ _ _ C1 hD1
theorem law_tail {R : K1} {C17 : CH} {x12 x13 x14 x15 x16 x17 : Option PV} (mnl : C17 nl = some (.lst (([n0, n1] : List Str).map PV.str))) (mul : C17 ul = some (.lst [.int c0, .int c1])) (mal : C17 al = some (.lst (A.map Ln.pv))) (mol : C17 ol = some (.lst (O.map Ln.pv))) (mil : C17 il = some (.lst (I.map Ln.pv)))
  (hA : ∀ l ∈ A, LOk [] l) (hO : ∀ l ∈ O, LOk [n0] l) (hI : ∀ l ∈ I, LOk [n0, n1] l) (lA : A.length ≤ 2) (lO : 1 ≤ O.length) (lO2 : O.length ≤ 2) (lI : I.length ≤ 2) (hc0 : -100 ≤ c0) (hc1 : -100 ≤ c1) (q : ∀ C', R (.bl true) C') :
  cSeq (cSet 12 (cLst cNil)) (cSeq (cSet 13 (cLst cNil)) (cSeq zFORA (cSeq zFORK (cSeq zFORA zRET)))) { nx := fun _ C' => R .non C', rt := R } [h0, h1, some (.ref nl), some (.ref ul), some (.ref al), some (.ref ol), some (.ref il), s7, some (takenPV i sec O), s9, s10, some (.tup (wantsOf [] (itsAll n0 n1 A O I i c0 c1))), x12, x13, x14, x15, x16, x17] C17 := by
 refine seq_set (i := 12) ?_
 refine ⟨by show 0 ≤ sizeLine; decide, fun sl sl0 => ?_⟩
 refine seq_set (i := 13) ?_
 refine ⟨by show 0 ≤ sizeLine; decide, fun fl fl0 => ?_⟩
 have nsf : sl ≠ fl := fun z => by rw [← z, updC_same] at fl0; cases fl0
 have fl0' : C17 fl = none := by rw [updC_ne (Ne.symm nsf)] at fl0; exact fl0
 have kp : ∀ b o, C17 b = some o → (updC (updC C17 sl (.lst [])) fl (.lst [])) b = some o := fun b o h => by
  rw [updC_ne (fun z => by rw [z, fl0'] at h; cases h), updC_ne (fun z => by rw [z, sl0] at h; cases h)]; exact h
 have nin : ∀ {b : Addr} {o : CO}, C17 b = some o → b ∉ [sl, fl] := fun h z => by
  rcases List.mem_cons.1 z with z | z
  ·rw [z, sl0] at h; cases h
  ·rw [List.mem_singleton.1 z, fl0'] at h; cases h
 have X : Ctx (updC (updC C17 sl (.lst [])) fl (.lst [])) nl ul al ol il sl fl n0 n1 c0 c1 A O I := ⟨kp _ _ mnl, kp _ _ mul, kp _ _ mal, kp _ _ mol, kp _ _ mil, nin mnl, nin mul, nin mal, nin mol, nin mil⟩
 have D0 : Du (updC (updC C17 sl (.lst [])) fl (.lst [])) sl fl [] (updC (updC C17 sl (.lst [])) fl (.lst [])) := ⟨by rw [updC_ne nsf]; exact updC_same, updC_same, nsf, ExS.refl⟩
 generalize updC (updC C17 sl (.lst [])) fl (.lst []) = C0 at X D0 ⊢
 have hall := itsAll_len (n0 := n0) (n1 := n1) (i := i) (c0 := c0) (c1 := c1) lA lO2 lI
 have hok := all_ok (n0 := n0) (n1 := n1) (i := i) (c0 := c0) (c1 := c1) hA hO hI
 refine seq_i ?_
 refine fora X hA (by show 0 + A.length ≤ 900; omega) D0 fun y14 C1 D1 => ?_
 refine seq_i ?_
 refine fork X hO hI lO lO2 lI hc0 hc1 (by show ([] ++ its [] A).length ≤ 2; rw [List.nil_append, its_len]; exact lA) D1 fun z14 z15 z16 z17 C2 D2 => ?_
 refine seq_i ?_
 have hb := flat_bound (f := itsF n0 n1 O I i c1) (b := 18) (cap c0) fun t _ => itsF_len lO2 lI
 have := cap_le c0
 refine fora X hA (by rw [List.nil_append, List.length_append, its_len]; omega) D2 fun w14 C3 D3 => ?_
 have eall : [] ++ its [] A ++ (List.range (cap c0)).flatMap (itsF n0 n1 O I i c1) ++ its [] A = itsAll n0 n1 A O I i c0 c1 := by
  unfold itsAll
  rw [List.nil_append, List.append_assoc]
 rw [eall] at D3
 refine ⟨itsAll n0 n1 A O I i c0 c1, rfl, hok, by omega, fun tl C4 m4 g4 => ?_⟩
 refine ⟨.ref tl, .ref fl, rfl, .inr ⟨duesOf [] (itsAll n0 n1 A O I i c0 c1), .lst, .inr ⟨rfl, tl, rfl, m4⟩, .inr ⟨rfl, fl, rfl, g4 _ _ D3.fl_⟩, by rw [dues_len]; omega, al_dues _ _ fun p hp => (hok p hp).2⟩, fun C5 _ => q C5⟩
end
end K08
set_option Elab.async false
set_option linter.all false
set_option maxRecDepth 100000
set_option maxHeartbeats 2000000
namespace K08
open PySem L2 CL
section
variable {P : Program} {w : World} {K : PySem.W.Frag} {mg : Str → Option Value} {base : Heap} {a : Adr}
def gLaw : GC := fun ts C Q => ∃ ns : List Int, ts = [.fz (ns.map PV.int)] ∧ ns.length ≤ 63 ∧ ∀ C', Q (.bl true) C'
theorem ok_law (T : Txt P w K mg a) : FnOk P w K mg base CX0 32 a.law a.d_law ["_law_script"] (spC K gLaw) := by
 have S := sc_law
 have G_l_tape := (ok_tape (base := base) T).mono (show 1 ≤ 31 by decide)
 have G_l_draw := (ok_draw (base := base) T).mono (show 1 ≤ 31 by decide)
 have G_l_one := (ok_one (base := base) T).mono (show 3 ≤ 31 by decide)
 have G_l_count := (ok_count (base := base) T).mono (show 2 ≤ 31 by decide)
 have G_drawn := ok_drawn (base := base) T
 have G_l_row_due : FnOk P w K mg base CX0 31 a.l_row_due a.d_l_row_due ["_law_line", "_law_turns", "_law_name", "_law_seen", "_law_found"] (spC K zDue) := by unfold zDue; exact (ok_due (base := base) T).mono (show 2 ≤ 31 by decide)
 have G_l_told := (ok_told (base := base) T).mono (show 1 ≤ 31 by decide)
 have G_l_alike := (ok_alike (base := base) T 5).mono (show 7 ≤ 31 by decide)
 refine Fun.okC T.F_law sc_law (fun ts C R h => ?_) fun cdv A outer s H E hr => ⟨_, (cb_cons (cs_set (i := 1) S.nd rfl (Or.inr rfl) (ce_call G_l_tape hr rfl T.m_l_tape T.k_l_tape T.b_l_tape pass0 (ca_cons (cv 0) ca_nil)))
  (cb_cons (cs_set (i := 2) S.nd rfl (Or.inr rfl) (ce_ix (r := rIx K) ix_seqC cop_ix (ce_lst (ca_cons (ce_lst (ca_cons ce_str (ca_cons ce_str ca_nil))) (ca_cons (ce_lst (ca_cons ce_str (ca_cons ce_str ca_nil))) ca_nil))) (ce_call G_l_draw hr rfl T.m_l_draw T.k_l_draw T.b_l_draw pass0 (ca_cons (cv 1) (ca_cons ce_int ca_nil))) (fun _ _ => rfl)))
  (cb_cons (cs_set (i := 3) S.nd rfl (Or.inl rfl) (ce_lst (ca_cons (ce_op op_sub cop_sub (ce_call G_l_draw hr rfl T.m_l_draw T.k_l_draw T.b_l_draw pass0 (ca_cons (cv 1) (ca_cons ce_int ca_nil))) ce_int) (ca_cons (ce_op op_sub cop_sub (ce_call G_l_draw hr rfl T.m_l_draw T.k_l_draw T.b_l_draw pass0 (ca_cons (cv 1) (ca_cons ce_int ca_nil))) ce_int) ca_nil))))
  (cb_cons (cs_setCAt 15 (i := 4) (by decide) (show (["_law_script", "_law_tape_here", "_law_names", "_law_numbers", "_law_ahead", "_law_outer", "_law_inner", "_law_second", "_law_taken", "_law_first", "_law_lines", "_law_row", "_law_seen", "_law_due", "_law_line", "?", "_law_j", "_law_around"] : List Str).Nodup by decide +kernel) rfl (Or.inl rfl) rfl (show (["_law_k", "_law_script", "_law_tape_here", "_law_names", "_law_numbers", "_law_ahead", "_law_outer", "_law_inner", "_law_second", "_law_taken", "_law_first", "_law_lines", "_law_row", "_law_seen", "_law_due", "_law_line", "?", "_law_j", "_law_around"] : List Str).Nodup by decide +kernel) (comp_okF (N := ["_law_script", "_law_tape_here", "_law_names", "_law_numbers", "_law_ahead", "_law_outer", "_law_inner", "_law_second", "_law_taken", "_law_first", "_law_lines", "_law_row", "_law_seen", "_law_due", "_law_line", "?", "_law_j", "_law_around"]) (sc := defScope s_law) rfl rfl rfl (by decide +kernel)) (ci_rng rfl T.z_range (ca_cons (ce_call G_l_draw hr rfl T.m_l_draw T.k_l_draw T.b_l_draw pass0 (ca_cons (cv 1) (ca_cons ce_int ca_nil))) ca_nil)) (fun _ _ _ _ _ => cf_nil) (fun _ _ _ _ _ => (ce_call G_l_one hr rfl T.m_l_one T.k_l_one T.b_l_one pass0 (ca_cons (cv 2) (ca_cons (ce_lst ca_nil) ca_nil)))))
  (cb_cons (cs_setCAt 15 (i := 5) (by decide) (show (["_law_script", "_law_tape_here", "_law_names", "_law_numbers", "_law_ahead", "_law_outer", "_law_inner", "_law_second", "_law_taken", "_law_first", "_law_lines", "_law_row", "_law_seen", "_law_due", "_law_line", "?", "_law_j", "_law_around"] : List Str).Nodup by decide +kernel) rfl (Or.inl rfl) rfl (show (["_law_k", "_law_script", "_law_tape_here", "_law_names", "_law_numbers", "_law_ahead", "_law_outer", "_law_inner", "_law_second", "_law_taken", "_law_first", "_law_lines", "_law_row", "_law_seen", "_law_due", "_law_line", "?", "_law_j", "_law_around"] : List Str).Nodup by decide +kernel) (comp_okF (N := ["_law_script", "_law_tape_here", "_law_names", "_law_numbers", "_law_ahead", "_law_outer", "_law_inner", "_law_second", "_law_taken", "_law_first", "_law_lines", "_law_row", "_law_seen", "_law_due", "_law_line", "?", "_law_j", "_law_around"]) (sc := defScope s_law) rfl rfl rfl (by decide +kernel)) (ci_rng rfl T.z_range (ca_cons (ce_op op_addC cop_add ce_int (ce_call G_l_draw hr rfl T.m_l_draw T.k_l_draw T.b_l_draw pass0 (ca_cons (cv 1) (ca_cons ce_int ca_nil)))) ca_nil)) (fun _ _ _ _ _ => cf_nil) (fun _ _ _ _ _ => (ce_call G_l_one hr rfl T.m_l_one T.k_l_one T.b_l_one pass0 (ca_cons (cv 2) (ca_cons (ce_slL (cv 3) co_none (co_some ce_int)) ca_nil)))))
  (cb_cons (cs_setCAt 15 (i := 6) (by decide) (show (["_law_script", "_law_tape_here", "_law_names", "_law_numbers", "_law_ahead", "_law_outer", "_law_inner", "_law_second", "_law_taken", "_law_first", "_law_lines", "_law_row", "_law_seen", "_law_due", "_law_line", "?", "_law_j", "_law_around"] : List Str).Nodup by decide +kernel) rfl (Or.inl rfl) rfl (show (["_law_k", "_law_script", "_law_tape_here", "_law_names", "_law_numbers", "_law_ahead", "_law_outer", "_law_inner", "_law_second", "_law_taken", "_law_first", "_law_lines", "_law_row", "_law_seen", "_law_due", "_law_line", "?", "_law_j", "_law_around"] : List Str).Nodup by decide +kernel) (comp_okF (N := ["_law_script", "_law_tape_here", "_law_names", "_law_numbers", "_law_ahead", "_law_outer", "_law_inner", "_law_second", "_law_taken", "_law_first", "_law_lines", "_law_row", "_law_seen", "_law_due", "_law_line", "?", "_law_j", "_law_around"]) (sc := defScope s_law) rfl rfl rfl (by decide +kernel)) (ci_rng rfl T.z_range (ca_cons (ce_op op_addC cop_add ce_int (ce_call G_l_draw hr rfl T.m_l_draw T.k_l_draw T.b_l_draw pass0 (ca_cons (cv 1) (ca_cons ce_int ca_nil)))) ca_nil)) (fun _ _ _ _ _ => cf_nil) (fun _ _ _ _ _ => (ce_call G_l_one hr rfl T.m_l_one T.k_l_one T.b_l_one pass0 (ca_cons (cv 2) (ca_cons (cv 3) ca_nil)))))
  (cb_cons (cs_set (i := 7) S.nd rfl (Or.inl rfl) (ce_tup (ca_cons ce_str (ca_cons (ce_ix (r := rIx K) ix_seqC cop_ix (cv 2) ce_int (fun _ _ => rfl)) (ca_cons (ce_call G_l_count hr rfl T.m_l_count T.k_l_count T.b_l_count pass0 (ca_cons (cv 1) (ca_cons (ce_ix (r := rIx K) ix_seqC cop_ix (cv 3) ce_int (fun _ _ => rfl)) ca_nil))) (ca_cons (ce_callTy call_tuple_of cbi_tup rfl T.z_tuple rfl (ca_cons (cv 6) ca_nil)) ca_nil))))))
  (cb_cons (cs_set (i := 8) S.nd rfl (Or.inl rfl) (ce_tup (ca_cons ce_str (ca_cons (ce_tup (ca_cons ce_str (ca_cons (ce_call G_l_draw hr rfl T.m_l_draw T.k_l_draw T.b_l_draw pass0 (ca_cons (cv 1) (ca_cons ce_int ca_nil))) ca_nil))) (ca_cons (ce_tup (ca_cons (cv 7) ca_nil)) (ca_cons (ce_callTy call_tuple_of cbi_tup rfl T.z_tuple rfl (ca_cons (ce_slL (cv 5) co_none (co_some ce_int)) ca_nil)) ca_nil))))))
  (cb_cons (cs_set (i := 9) S.nd rfl (Or.inl rfl) (ce_tup (ca_cons ce_str (ca_cons (ce_ix (r := rIx K) ix_seqC cop_ix (cv 2) ce_int (fun _ _ => rfl)) (ca_cons (ce_call G_l_count hr rfl T.m_l_count T.k_l_count T.b_l_count pass0 (ca_cons (cv 1) (ca_cons (ce_ix (r := rIx K) ix_seqC cop_ix (cv 3) ce_int (fun _ _ => rfl)) ca_nil))) (ca_cons (ce_op op_addC cop_add (ce_callTy call_tuple_of cbi_tup rfl T.z_tuple rfl (ca_cons (cv 5) ca_nil)) (ce_tup (ca_cons (cv 8) ca_nil))) ca_nil))))))
  (cb_cons (cs_set (i := 10) S.nd rfl (Or.inl rfl) (ce_op op_addC cop_add (ce_op op_addC cop_add (ce_callTy call_tuple_of cbi_tup rfl T.z_tuple rfl (ca_cons (cv 4) ca_nil)) (ce_tup (ca_cons (cv 9) ca_nil))) (ce_callTy call_tuple_of cbi_tup rfl T.z_tuple rfl (ca_cons (cv 4) ca_nil))))
  (cb_cons (cs_set (i := 11) S.nd rfl (Or.inl rfl) (ce_ix (r := rIx K) ix_seqC cop_ix (ce_call G_drawn hr rfl T.m_drawn T.k_drawn T.b_drawn pass0 (ca_cons (ce_tup (ca_cons ce_str (ca_cons (ce_tup (ca_cons (ce_tup (ca_cons ce_str (ca_cons ce_int ca_nil))) (ca_cons (ce_tup (ca_cons ce_str (ca_cons ce_int ca_nil))) ca_nil))) (ca_cons (ce_tup ca_nil) (ca_cons (cv 10) ca_nil))))) (ca_cons (ce_dispT (hu_of hr) (cps_cons (ce_tup (ca_cons ce_str (ca_cons ce_str ca_nil))) ce_int (cps_cons (ce_tup (ca_cons ce_str (ca_cons ce_str ca_nil))) ce_int cps_nil))) ca_nil))) ce_int (fun _ _ => rfl)))
  (cb_cons (cs_set (i := 12) S.nd rfl (Or.inl rfl) (ce_lst ca_nil))
  (cb_cons (cs_set (i := 13) S.nd rfl (Or.inl rfl) (ce_lst ca_nil))
  (cb_cons (cs_forL PassesOwn.never rfl (cv 4) (cg_name (i := 14) S.nd rfl (Or.inl rfl)) (cb_one (cs_expr (ce_call G_l_row_due hr rfl T.m_l_row_due T.k_l_row_due T.b_l_row_due pass0 (ca_cons (cv 14) (ca_cons ce_dnew (ca_cons ce_str (ca_cons (cv 12) (ca_cons (cv 13) ca_nil)))))))))
  (cb_cons (cs_forR PassesOwn.never rfl rfl T.z_range (ca_cons (ce_callB (call_max2 rfl) cbi_max rfl T.z_max rfl (ca_cons ce_int (ca_cons (ce_callB (call_min2 rfl) cbi_min rfl T.z_min rfl (ca_cons ce_int (ca_cons (ce_ix (r := rIx K) ix_seqC cop_ix (cv 3) ce_int (fun _ _ => rfl)) ca_nil))) ca_nil))) ca_nil) (cg_name (i := 15) S.nd rfl (Or.inl rfl)) (cb_cons (cs_forL PassesOwn.never rfl (cv 5) (cg_name (i := 14) S.nd rfl (Or.inl rfl)) (cb_one (cs_expr (ce_call G_l_row_due hr rfl T.m_l_row_due T.k_l_row_due T.b_l_row_due pass0 (ca_cons (cv 14) (ca_cons (ce_disp (cps_cons (ce_ix (r := rIx K) ix_seqC cop_ix (cv 2) ce_int (fun _ _ => rfl)) (cv 15) cps_nil)) (ca_cons (ce_ix (r := rIx K) ix_seqC cop_ix (cv 2) ce_int (fun _ _ => rfl)) (ca_cons (cv 12) (ca_cons (cv 13) ca_nil)))))))))
  (cb_one (cs_if (ct_cmp (op_eqTK (hu0_of hr)) cop_eqT (ce_ix (r := rIx K) ix_seqC cop_ix (cv 8) ce_int (fun _ _ => rfl)) (ce_tup (ca_cons ce_str (ca_cons ce_int ca_nil))) (nomark _)) (cb_one (cs_expr (ce_call G_l_row_due hr rfl T.m_l_row_due T.k_l_row_due T.b_l_row_due pass0 (ca_cons (ce_ix (r := rIx K) ix_seqC cop_ix (cv 5) ce_int (fun _ _ => rfl)) (ca_cons (ce_disp (cps_cons (ce_ix (r := rIx K) ix_seqC cop_ix (cv 2) ce_int (fun _ _ => rfl)) (cv 15) cps_nil)) (ca_cons (ce_ix (r := rIx K) ix_seqC cop_ix (cv 2) ce_int (fun _ _ => rfl)) (ca_cons (cv 12) (ca_cons (cv 13) ca_nil)))))))) (cb_one (cs_forR PassesOwn.never rfl rfl T.z_range (ca_cons (ce_callB (call_max2 rfl) cbi_max rfl T.z_max rfl (ca_cons ce_int (ca_cons (ce_callB (call_min2 rfl) cbi_min rfl T.z_min rfl (ca_cons ce_int (ca_cons (ce_ix (r := rIx K) ix_seqC cop_ix (cv 3) ce_int (fun _ _ => rfl)) ca_nil))) ca_nil))) ca_nil) (cg_name (i := 16) S.nd rfl (Or.inl rfl)) (cb_one (cs_forL PassesOwn.never rfl (cv 6) (cg_name (i := 14) S.nd rfl (Or.inl rfl)) (cb_cons (cs_set (i := 17) S.nd rfl (Or.inl rfl) (ce_disp (cps_cons (ce_ix (r := rIx K) ix_seqC cop_ix (cv 2) ce_int (fun _ _ => rfl)) (cv 15) cps_nil)))
  (cb_cons (cs_dput (hu_of hr) (cv 17) (ce_ix (r := rIx K) ix_seqC cop_ix (cv 2) ce_int (fun _ _ => rfl)) (cv 16))
  (cb_one (cs_expr (ce_call G_l_row_due hr rfl T.m_l_row_due T.k_l_row_due T.b_l_row_due pass0 (ca_cons (cv 14) (ca_cons (cv 17) (ca_cons (ce_ix (r := rIx K) ix_seqC cop_ix (cv 2) ce_int (fun _ _ => rfl)) (ca_cons (cv 12) (ca_cons (cv 13) ca_nil))))))))))))))))))
  (cb_cons (cs_forL PassesOwn.never rfl (cv 4) (cg_name (i := 14) S.nd rfl (Or.inl rfl)) (cb_one (cs_expr (ce_call G_l_row_due hr rfl T.m_l_row_due T.k_l_row_due T.b_l_row_due pass0 (ca_cons (cv 14) (ca_cons ce_dnew (ca_cons ce_str (ca_cons (cv 12) (ca_cons (cv 13) ca_nil)))))))))
  (cb_one (cs_ret (ce_call G_l_alike hr rfl T.m_l_alike T.k_l_alike T.b_l_alike pass0 (ca_cons (ce_call G_l_told hr rfl T.m_l_told T.k_l_told T.b_l_told pass0 (ca_cons (cv 11) ca_nil)) (ca_cons (cv 13) ca_nil))))))))))))))))))))), ?_⟩
 ·obtain ⟨ns, rfl, _⟩ := h; rfl
 rintro ts C R ⟨ns, rfl, hl, q⟩
 refine ⟨ns, rfl, hl, fun t C1 _ _ T1 => ?_⟩
 try dsimp only
 refine seq_set (i := 2) ?_
 refine ⟨by show 2 ≤ sizeLine; decide, fun p1 p10 => ?_⟩
 refine ⟨by show 2 ≤ sizeLine; decide, fun p2 p20 => ?_⟩
 refine ⟨by show 2 ≤ sizeLine; decide, fun p3 p30 => ?_⟩
 have Ta := ((T1.new p10 (.lst [.str "x", .str "y"])).new p20 (.lst [.str "x", .str "x"])).new p30 (.lst [.ref p1, .ref p2])
 have k1 : (updC (updC (updC C1 p1 (.lst [.str "x", .str "y"])) p2 (.lst [.str "x", .str "x"])) p3 (.lst [.ref p1, .ref p2])) p1 = some (.lst [.str "x", .str "y"]) := (Gr.new p30 _) _ _ ((Gr.new p20 _) _ _ updC_same)
 have k2 : (updC (updC (updC C1 p1 (.lst [.str "x", .str "y"])) p2 (.lst [.str "x", .str "x"])) p3 (.lst [.ref p1, .ref p2])) p2 = some (.lst [.str "x", .str "x"]) := (Gr.new p30 _) _ _ updC_same
 have k3 : (updC (updC (updC C1 p1 (.lst [.str "x", .str "y"])) p2 (.lst [.str "x", .str "x"])) p3 (.lst [.ref p1, .ref p2])) p3 = some (.lst [.ref p1, .ref p2]) := updC_same
 generalize updC (updC (updC C1 p1 (.lst [.str "x", .str "y"])) p2 (.lst [.str "x", .str "x"])) p3 (.lst [.ref p1, .ref p2]) = C2 at Ta k1 k2 k3 ⊢
 refine ⟨t, 2, ns, rfl, Ta, by decide, by decide, fun v C3 v0 v1 T3 e3 => ?_⟩
 have nm : ∃ (nl : Addr) (n0 n1 : Str), atI [PV.ref p1, .ref p2] v = some (.ref nl) ∧ C3 nl = some (.lst (([n0, n1] : List Str).map PV.str)) := by
  have neT : ∀ {p : Addr} {x y : Str}, C2 p = some (.lst [.str x, .str y]) → p ≠ t := fun h => Tp.nl (names := [_, _]) Ta h
  rcases (show v = 0 ∨ v = 1 by omega) with rfl | rfl
  ·exact ⟨p1, "x", "y", rfl, e3 _ _ (neT k1) k1⟩
  ·exact ⟨p2, "x", "x", rfl, e3 _ _ (neT k2) k2⟩
 obtain ⟨nl, n0, n1, hat, mnl⟩ := nm
 have np3 : p3 ≠ t := fun z => by
  obtain ⟨⟨_, _, _, h, _⟩, _⟩ := Ta
  rw [z, h] at k3; cases k3
 refine ix_l (e3 _ _ np3 k3) hat ?_
 try dsimp only
 clear k1 k2 k3 hat np3 Ta e3
 have nlt := T3.nl (names := [n0, n1]) mnl
 refine seq_set (i := 3) ?_
 refine ⟨t, 15, ns, rfl, T3, by decide, by decide, fun d0 C4 a0 a1 T4 e4 => ?_⟩
 refine i_i ?_
 refine ⟨t, 15, ns, rfl, T4, by decide, by decide, fun d1 C5 b0 b1 T5 e5 => ?_⟩
 refine i_i ?_
 refine ⟨by show 2 ≤ sizeLine; decide, fun ul ul0 => ?_⟩
 try dsimp only
 have T6 := T5.new ul0 (.lst [.int (d0 - 2), .int (d1 - 2)])
 have mul : (updC C5 ul (.lst [.int (d0 - 2), .int (d1 - 2)])) ul = some (.lst [.int (d0 - 2), .int (d1 - 2)]) := updC_same
 have mnl6 : (updC C5 ul (.lst [.int (d0 - 2), .int (d1 - 2)])) nl = some (.lst (([n0, n1] : List Str).map PV.str)) := (Gr.new ul0 _) _ _ (e5 _ _ nlt (e4 _ _ nlt mnl))
 have nut : ul ≠ t := T5.ne ul0
 generalize updC C5 ul (.lst [.int (d0 - 2), .int (d1 - 2)]) = C6 at T6 mul mnl6 ⊢
 obtain ⟨c0, hc0⟩ : ∃ c0 : Int, c0 = d0 - 2 := ⟨_, rfl⟩
 obtain ⟨c1, hc1⟩ : ∃ c1 : Int, c1 = d1 - 2 := ⟨_, rfl⟩
 rw [← hc0, ← hc1] at mul
 refine seq_i ?_
 refine ⟨t, 3, ns, rfl, T6, by decide, by decide, fun v1' C7 w0 w1 T7 e7 => ?_⟩
 refine ⟨by omega, by omega, ?_⟩
 refine comp_lines (n := v1'.toNat) (names := []) (t := t) (ns := ns) (by omega) (fun z Cz Q' Tz ez hq => ?_) (fun al A C8 hA lA mal T8 e8 => ?_) _ (by rw [List.length_map, List.length_range]) T7
 ·refine ⟨by show 0 ≤ sizeLine; decide, fun p hp => ?_⟩
  refine ⟨t, p, ns, [], rfl, Tz.new hp _, updC_same, Nat.zero_le _, fun l C' hl T' e' => ?_⟩
  exact hq l C' hl T' ((Ex.new hp _).trans e')
 try dsimp only
 have lA2 : A.length ≤ 2 := by omega
 have e68 : Ex t C6 C8 := e7.trans e8
 have nalt : al ≠ t := fun z => by
  obtain ⟨⟨_, _, _, h, _⟩, _⟩ := T8
  rw [z, h] at mal
  cases A with
  | nil => cases mal
  | cons l r => cases l <;> cases mal
 refine seq_i ?_
 refine ⟨t, 2, ns, rfl, T8, by decide, by decide, fun v2' C9 w2 w3 T9 e9 => ?_⟩
 refine add_i ?_
 refine ⟨by omega, by omega, ?_⟩
 have mnl9 := e9 _ _ nlt (e68 _ _ nlt mnl6)
 refine comp_lines (n := (1 + v2').toNat) (names := [n0]) (t := t) (ns := ns) (by omega) (fun z Cz Q' Tz ez hq => ?_) (fun ol O C10 hO lO mol T10 e10 => ?_) _ (by rw [List.length_map, List.length_range]) T9
 ·refine sl_l (ez _ _ nlt mnl9) fun p hp => ?_
  refine ⟨t, p, ns, [n0], rfl, Tz.new hp _, updC_same, by show 1 ≤ 2; decide, fun l C' hl T' e' => ?_⟩
  exact hq l C' hl T' ((Ex.new hp _).trans e')
 try dsimp only
 have lO2 : O.length ≤ 2 := by omega
 have lO1 : 1 ≤ O.length := by omega
 have notT : ∀ {p : Addr} {ls : List Ln} {CC : CH}, Tp CC t ns → CC p = some (.lst (ls.map Ln.pv)) → p ≠ t := fun {p ls CC} hT hm z => by
  obtain ⟨⟨_, _, _, h, _⟩, _⟩ := hT
  rw [z, h] at hm
  cases ls with
  | nil => cases hm
  | cons l r => cases l <;> cases hm
 have nolt : ol ≠ t := notT T10 mol
 refine seq_i ?_
 refine ⟨t, 2, ns, rfl, T10, by decide, by decide, fun v3' C11 w4 w5 T11 e11 => ?_⟩
 refine add_i ?_
 refine ⟨by omega, by omega, ?_⟩
 have mnl11 := e11 _ _ nlt (e10 _ _ nlt mnl9)
 refine comp_lines (n := (1 + v3').toNat) (names := [n0, n1]) (t := t) (ns := ns) (by omega) (fun z Cz Q' Tz ez hq => ?_) (fun il I C12 hI lI mil T12 e12 => ?_) _ (by rw [List.length_map, List.length_range]) T11
 ·exact ⟨t, nl, ns, [n0, n1], rfl, Tz, ez _ _ nlt mnl11, by show 2 ≤ 2; decide, hq⟩
 try dsimp only
 have lI2 : I.length ≤ 2 := by omega
 have nilt : il ≠ t := notT T12 mil
 have mul12 := e12 _ _ nut (e11 _ _ nut (e10 _ _ nut (e9 _ _ nut (e68 _ _ nut mul))))
 have mal12 := e12 _ _ nalt (e11 _ _ nalt (e10 _ _ nalt (e9 _ _ nalt mal)))
 have mol12 := e12 _ _ nolt (e11 _ _ nolt mol)
 have mnl12 := e12 _ _ nlt mnl11
 clear mul mal mol mnl6 mnl9 mnl11 e12 e11 e10 e9 e68 e7 e8 mnl e4 e5
 refine seq_set (i := 7) ?_
 refine ix_l mnl12 rfl ?_
 refine ix_l mul12 rfl ?_
 refine ⟨t, ns, c1, rfl, T12, by omega, by omega, fun r1 C13 hr1 T13 e13 => ?_⟩
 refine tup_l (e13 _ _ nilt mil) ?_
 refine ⟨by show 4 ≤ sizeLine; decide, ?_⟩
 try dsimp only
 refine seq_set (i := 8) ?_
 refine ⟨t, 2, ns, rfl, T13, by decide, by decide, fun i C14 i0 i1 T14 e14 => ?_⟩
 refine ⟨by show 2 ≤ sizeLine; decide, ?_⟩
 refine ⟨by show 1 ≤ sizeLine; decide, ?_⟩
 refine sl_l (e14 _ _ nolt (e13 _ _ nolt mol12)) fun p14 p140 => ?_
 have hcut : cutP (O.map Ln.pv) none (some 1) = (O.take 1).map Ln.pv := by
  unfold cutP
  rw [HT.sIx_none, List.drop_zero, Nat.sub_zero, List.map_take]
  show List.take (min 1 (O.map Ln.pv).length) _ = _
  rw [List.length_map, Nat.min_eq_left lO1]
 rw [hcut]
 refine tup_l updC_same ?_
 refine ⟨by show 4 ≤ sizeLine; decide, ?_⟩
 try dsimp only
 have T15 := T14.new p140 (.lst ((O.take 1).map Ln.pv))
 have e15 : Ex t C12 (updC C14 p14 (.lst ((O.take 1).map Ln.pv))) := (e13.trans e14).trans (Ex.new p140 _)
 generalize updC C14 p14 (.lst ((O.take 1).map Ln.pv)) = C15 at T15 e15 ⊢
 refine seq_set (i := 9) ?_
 refine ix_l (e15 _ _ nlt mnl12) rfl ?_
 refine ix_l (e15 _ _ nut mul12) rfl ?_
 refine ⟨t, ns, c0, rfl, T15, by omega, by omega, fun r0 C16 hr0 T16 e16 => ?_⟩
 have e1216 : Ex t C12 C16 := e15.trans e16
 refine tup_l (e1216 _ _ nolt mol12) ?_
 refine ⟨by show 1 ≤ sizeLine; decide, ?_⟩
 refine add_t (le_size (by show (O.map Ln.pv).length + 1 ≤ 1000; rw [List.length_map]; omega)) ?_
 refine ⟨by show 4 ≤ sizeLine; decide, ?_⟩
 try dsimp only
 refine seq_set (i := 10) ?_
 refine tup_l (e1216 _ _ nalt mal12) ?_
 refine ⟨by show 1 ≤ sizeLine; decide, ?_⟩
 refine add_t (le_size (by show (A.map Ln.pv).length + 1 ≤ 1000; rw [List.length_map]; omega)) ?_
 refine tup_l (e1216 _ _ nalt mal12) ?_
 refine add_t (le_size (by rw [List.length_append, List.length_map, List.length_singleton]; omega)) ?_
 try dsimp only
 have lr := lr_all (n0 := n0) (n1 := n1) (A := A) (O := O) (I := I) (i := i) (c0 := c0) (c1 := c1) (r0 := r0) (r1 := r1) hA hO hI hr0 hr1 (by omega) (by omega)
 have hall := itsAll_len (n0 := n0) (n1 := n1) (i := i) (c0 := c0) (c1 := c1) lA2 lO2 lI2
 have hok := all_ok (n0 := n0) (n1 := n1) (i := i) (c0 := c0) (c1 := c1) hA hO hI
 have eln : A.map Ln.pv ++ [firstPV n0 r0 O (takenPV i (secondPV n1 r1 I) O)] ++ A.map Ln.pv = A.map Ln.pv ++ (firstPV n0 r0 O (takenPV i (secondPV n1 r1 I) O) :: A.map Ln.pv) := by rw [List.append_assoc]; rfl
 refine seq_set (i := 11) ?_
 refine ⟨by show 2 ≤ sizeLine; decide, ?_⟩
 refine ⟨by show 2 ≤ sizeLine; decide, ?_⟩
 refine ⟨by show 2 ≤ sizeLine; decide, ?_⟩
 refine ⟨by show 0 ≤ sizeLine; decide, ?_⟩
 refine ⟨by show 4 ≤ sizeLine; decide, ?_⟩
 intro an an0
 refine ⟨by show 2 ≤ sizeLine; decide, ?_⟩
 refine ⟨by show 2 ≤ sizeLine; decide, ?_⟩
 refine putAllT_s updC_same rfl (by show 2 ≤ 15; decide) ?_
 refine ⟨_, _, _, itsAll n0 n1 A O I i c0 c1, an, 7, rfl, rfl, by rw [← eln] at lr; exact lr, by omega, by rw [updC_same]; exact congrArg (fun z => some (CO.dT z)) ans_merge, fun X C17 g17 => ?_⟩
 refine ix_t rfl ?_
 try dsimp only
 have g1617 : Gr C16 C17 := by
  refine Gr.trans ?_ g17
  intro b o h
  have : b ≠ an := fun z => by rw [z, an0] at h; cases h
  rw [updC_ne this, updC_ne this]; exact h
 have mal17 := g1617 _ _ (e1216 _ _ nalt mal12)
 have mol17 := g1617 _ _ (e1216 _ _ nolt mol12)
 have mil17 := g1617 _ _ (e1216 _ _ nilt mil)
 have mnl17 := g1617 _ _ (e1216 _ _ nlt mnl12)
 have mul17 := g1617 _ _ (e1216 _ _ nut mul12)
 clear mal12 mol12 mnl12 mul12 mil g17 g1617 e1216 e15 e16 T15 T16 T14 T13 T12 T11 T10 T9 T8 T7 T6 T5 T4 T3 T1 e13 e14
 exact law_tail mnl17 mul17 mal17 mol17 mil17 hA hO hI lA2 lO1 lO2 lI2 (by omega) (by omega) q
end
end K08
set_option Elab.async false
set_option linter.all false
set_option maxRecDepth 100000
set_option maxHeartbeats 4000000
namespace K08
open PySem L2 CL
theorem ints_rep {K : PySem.W.Frag} {H : Hp} : ∀ ns : List Int, Reps K H (ns.map V.int) (ns.map PV.int)
 | [] => .nil
 | n :: ns => .cons (.int n) (ints_rep ns)
theorem walk {l : PySem.W.OpenLaw} {q : Program} {loose : List Str} {XP : (Str → Option Value) → Heap → Prop} {YP : World → Heap → Prop} {d : DefRec} {K : Params → PySem.W.Frag} (hn : l.most = some 63) (hdf : d.params.defaults = []) (hnm : d.name = "law")
  (hY : ∀ (w : World) (h : Heap), YP w h → (K w.params).In h)
  (F : ∀ (w : World) (mg : Str → Option Value) (h : Heap), (K w.params).In h → h.Ns mainGlobals mg → ∃ a : Adr, Txt l.prog w (K w.params) mg a ∧ ∃ (f : Addr) (kV dc pm : Value) (an : Option Addr) (cd ct : Value), a.law = f ∧ a.d_law = PySem.W.fnOf "law" "law" (defArgs s_law) (defBody s_law) (defScope s_law) .none kV dc pm an cd ct) :
  PySem.W.WalkO q loose XP YP l.row.toRowW d [] (fun f vs => PySem.call f vs) := by
 refine L2.walk_of (n := 63) (k := 32) (x := "_law_script") (CX := fun _ => CX0) (sp := fun w => spC (K w.params) gLaw) hn (by decide) hdf ⟨rfl, by decide, by decide⟩ hY ?_ (fun w H a ns hl hO hS => ?_) fun _ _ _ _ _ z => z
 ·intro w mg fa h KX G hmg
  obtain ⟨a, T, f, kV, dc, pm, an, cd, ct, e1, e2⟩ := F w mg h KX G
  rw [hnm] at hmg
  have e := hmg.symm.trans T.m_law
  cases e
  refine ⟨a.d_law, ?_, fun base _ _ => ok_law T⟩
  rw [e2]
  exact fun s u => .of_eq rfl
 ·have hz : Fz (K w.params) H a (ns.map V.int) := by
   rcases hS with hS | hS
   ·rcases hS with hS | ⟨o, hS⟩
    ·rcases hO a with h | ⟨o, xs, h⟩
     ·rw [hS] at h; cases h
     ·rw [hS] at h; cases h
    ·exact .inl ⟨o, hS⟩
   ·exact .inr hS
  refine ⟨[.fz (ns.map PV.int)], fun _ => none, fun v _ => v = .bl true, .cons (.fz hz (ints_rep ns)) .nil, (fun _ _ z => nomatch z), ⟨ns, rfl, hl, fun _ => rfl⟩, ?_⟩
  rintro v H' t C' rfl r h' f'
  cases r
  rfl
end K08
open PySem PySem.W PyProof.Rows
set_option maxRecDepth 100000 in
set_option maxHeartbeats 0 in
theorem PySem.Challenge.cw_viewwood_k08_spots_and_turns_holds : PySem.Challenge.rw_viewwood_k08_spots_and_turns.Holds := by
 w_on; o_law; k_head; (case hw => w_witness2)
 k_fill
 refine K08.walk (l := PySem.Challenge.rw_viewwood_k08_spots_and_turns) rfl rfl rfl (fun w h Y => PySem.W.kIn_of Y) ?F
 case F =>
  intro w mg h KX G
  refine' K08.txt_mk KX G ?ca0 ?a0 ?l0 ?c0 ?k0 ?a1 ?l1 ?c1 ?k1 ?a2 ?l2 ?c2 ?k2 ?a3 ?l3 ?c3 ?k3 ?a4 ?l4 ?c4 ?k4 ?a5 ?l5 ?c5 ?k5 ?a6 ?l6 ?c6 ?k6 ?a7 ?l7 ?c7 ?k7 ?a8 ?l8 ?c8 ?k8 ?a9 ?l9 ?c9 ?k9 ?a10 ?l10 ?c10 ?k10 ?a11 ?l11 ?c11 ?k11 ?a12 ?l12 ?c12 ?k12 ?a13 ?l13 ?c13 ?k13 ?a14 ?l14 ?c14 ?k14 ?a15 ?l15 ?c15 ?k15 ?i15 ?a16 ?l16 ?c16 ?k16 ?i16 ?a17 ?l17 ?c17 ?k17 ?i17 ?a18 ?l18 ?c18 ?k18 ?i18 ?a19 ?l19 ?c19 ?k19 ?i19 ?a20 ?l20 ?c20 ?k20 ?i20 ?a21 ?l21 ?c21 ?k21 ?i21 ?a22 ?l22 ?c22 ?k22 ?i22 ?a23 ?l23 ?c23 ?k23 ?i23 ?gl0 ?gl1 ?ql1 ?gl2 ?z0 ?z1 ?z2 ?z3 ?z4 ?z5 ?z6 ?z7 ?z8 ?z9 ?z10 ?z11 ?z12 ?cb0 ?cd_0 ?ce0 ?cf0 ?cg0 ?ch0 ?n0_answers ?n0_asked
  (case ca0 => k_is)
  (case a0 => k_is)
  (case l0 => k_is)
  (case c0 => k_is)
  (case k0 => k_is)
  (case a1 => k_is)
  (case l1 => k_is)
  (case c1 => k_is)
  (case k1 => k_is)
  (case a2 => k_is)
  (case l2 => k_is)
  (case c2 => k_is)
  (case k2 => k_is)
  (case a3 => k_is)
  (case l3 => k_is)
  (case c3 => k_is)
  (case k3 => k_is)
  (case a4 => k_is)
  (case l4 => k_is)
  (case c4 => k_is)
  (case k4 => k_is)
  (case a5 => k_is)
  (case l5 => k_is)
  (case c5 => k_is)
  (case k5 => k_is)
  (case a6 => k_is)
  (case l6 => k_is)
  (case c6 => k_is)
  (case k6 => k_is)
  (case a7 => k_is)
  (case l7 => k_is)
  (case c7 => k_is)
  (case k7 => k_is)
  (case a8 => k_is)
  (case l8 => k_is)
  (case c8 => k_is)
  (case k8 => k_is)
  (case a9 => k_is)
  (case l9 => k_is)
  (case c9 => k_is)
  (case k9 => k_is)
  (case a10 => k_is)
  (case l10 => k_is)
  (case c10 => k_is)
  (case k10 => k_is)
  (case a11 => k_is)
  (case l11 => k_is)
  (case c11 => k_is)
  (case k11 => k_is)
  (case a12 => k_is)
  (case l12 => k_is)
  (case c12 => k_is)
  (case k12 => k_is)
  (case a13 => k_is)
  (case l13 => k_is)
  (case c13 => k_is)
  (case k13 => k_is)
  (case a14 => k_is)
  (case l14 => k_is)
  (case c14 => k_is)
  (case k14 => k_is)
  (case a15 => k_is)
  (case l15 => k_is)
  (case c15 => k_is)
  (case k15 => k_is)
  (case i15 => k_is)
  (case a16 => k_is)
  (case l16 => k_is)
  (case c16 => k_is)
  (case k16 => k_is)
  (case i16 => k_is)
  (case a17 => k_is)
  (case l17 => k_is)
  (case c17 => k_is)
  (case k17 => k_is)
  (case i17 => k_is)
  (case a18 => k_is)
  (case l18 => k_is)
  (case c18 => k_is)
  (case k18 => k_is)
  (case i18 => k_is)
  (case a19 => k_is)
  (case l19 => k_is)
  (case c19 => k_is)
  (case k19 => k_is)
  (case i19 => k_is)
  (case a20 => k_is)
  (case l20 => k_is)
  (case c20 => k_is)
  (case k20 => k_is)
  (case i20 => k_is)
  (case a21 => k_is)
  (case l21 => k_is)
  (case c21 => k_is)
  (case k21 => k_is)
  (case i21 => k_is)
  (case a22 => k_is)
  (case l22 => k_is)
  (case c22 => k_is)
  (case k22 => k_is)
  (case i22 => k_is)
  (case a23 => k_is)
  (case l23 => k_is)
  (case c23 => k_is)
  (case k23 => k_is)
  (case i23 => k_is)
  (case gl0 => k_is)
  (case gl1 => k_is)
  (case ql1 => k_is)
  (case gl2 => k_is)
  (case z0 => k_is)
  (case z1 => k_is)
  (case z2 => k_is)
  (case z3 => k_is)
  (case z4 => k_is)
  (case z5 => k_is)
  (case z6 => k_is)
  (case z7 => k_is)
  (case z8 => k_is)
  (case z9 => k_is)
  (case z10 => k_is)
  (case z11 => k_is)
  (case z12 => k_is)
  (case cb0 => k_is)
  (case cd_0 => k_is)
  (case ce0 => k_is)
  (case cf0 => k_is)
  (case cg0 => k_is)
  (case ch0 => k_is)
  (case n0_answers => k_is)
  (case n0_asked => k_is)
